/- Print (written by gen_schprint.py). -/
import Derived.Test.YtopnldebekhelaaDoorZSchPrM
namespace Go.Proofs.YtopnldebekhelaaDoor
open Go Go.RowKit

def PrintPost (w : World) (r : Option (List UInt8)) (e : Ending) (w' : World) : Prop :=
  (match r with
    | some s => e = .returned (.tuple #[.string (tk s), .int .i64 0])
    | none => e = .returned (.tuple #[.string cNone, .int .i64 9])) ∧ Below w.heap.size w w'

set_option maxRecDepth 100000 in
set_option maxHeartbeats 8000000 in
theorem print_any (w : World) (tv : Value) (S : List Ty) (h : SchAt (· < w.heap.size) w tv S) (hS : wS S ≤ 700000000) :
    Calls Tryd.prog 12 #[.agg #[tv]] w (PrintPost w (printT S)) := by
  obtain ⟨R, hR⟩ : ∃ R, printT S = R := ⟨_, rfl⟩
  rw [hR]
  obtain ⟨n, hn⟩ : ∃ n, S.length = n := ⟨_, rfl⟩
  obtain ⟨ta, tcap, rfl, htc1, htc2⟩ : ∃ ta tcap, tv = .slice ta n tcap ∧ n ≤ tcap ∧ tcap ≤ maxLen := by
    obtain ⟨es, _, ⟨a, cap, hv, h1, h2, _⟩, _⟩ := h
    rw [hn] at hv h1
    exact ⟨a, cap, hv, h1, h2⟩
  obtain ⟨B, hB⟩ : ∃ B, w.heap.size = B := ⟨_, rfl⟩
  obtain ⟨w1, hw1⟩ : ∃ W, W = w.alloc (.cells #[.slice ta n tcap] 25) := ⟨_, rfl⟩
  obtain ⟨w2, hw2⟩ : ∃ W, W = w1.alloc (.cells #[.pointer none, .slice none 0 0, .int .i64 0, .bool false] 63) := ⟨_, rfl⟩
  have hb1 : Below w.heap.size w w1 := by rw [hw1]; exact (Below.refl _ _).alloc (Nat.le_refl _) _
  have s1 : w1.heap.size = B + 1 := by rw [hw1, ← hB]; simp
  have hb2 : Below w1.heap.size w1 w2 := by rw [hw2]; exact (Below.refl _ _).alloc (Nat.le_refl _) _
  have s2 : w2.heap.size = B + 2 := by rw [hw2]; simp [s1]
  obtain ⟨b, hbE⟩ : ∃ b, B + 1 = b := ⟨_, rfl⟩
  have hb12 : Below B w w2 := (by rw [← hB]; exact hb1.trans (hb2.mono (by omega)))
  have hwat : WAt w2 B b [] 0 false := .inl ⟨by omega, .slice none 0 0, by rw [← hbE, hw2, ← s1]; exact heap_alloc_new w1 _, owns_nil _ _ _ _⟩
  rw [hB] at h
  have hsch := h.keep (Keeps.of_below hb12)
  have hsb := heap_alloc_new w (.cells #[.slice ta n tcap] 25)
  rw [← hw1, hB] at hsb
  have hB2 : B ≤ w2.heap.size := by omega
  have HW1 := Lib.hid hw1
  have HW2 := Lib.hid hw2
  have HS1 := Lib.hid s1
  have HB := Lib.hid hB
  have HB12 := Lib.hid hb12
  have HSch := Lib.hid hsch
  have HWat := Lib.hid hwat
  have HSb := Lib.hid ((hb2.block B (by omega)).trans hsb)
  have HN := Lib.hid hn
  have HR0 := Lib.hid hR
  have hst0 : TySt S R 0 [] false := ⟨by simp, .inr ⟨rfl, by rw [← hR]; simp⟩⟩
  have HSt0 := Lib.hid hst0
  have hbB : B ≤ b := by omega
  unfold maxLen at htc2
  clear hw1 hw2 hb1 hb2 hb12 hwat h hsch hsb hn hR hst0 s1
  go_enter Tryd.func12, Tryd.ntmps12
  go_upto_region 1 with fail
  rw [← HW1.out]
  try rw [HB.out]
  clear HW1
  go_upto_region 2 with fail
  rw [← HW2.out]
  try rw [HS1.out]
  try rw [hbE]
  clear HW2
  have x0 := Lib.cell_of_heap HSb.out 0
  simp at x0
  have hlB : B < w2.heap.size := by omega
  go_wp2
  clear x0
  go_loopw [14] (fun iv wr => PrRel w2 B b n S R iv wr) (fun iv _ => n - (intOf iv).toNat)
  case atStart => exact ⟨0, [], false, rfl, Nat.zero_le _, HWat.out, WF.refl _ _ _, HSt0.out⟩
  case round =>
    obtain ⟨i, li, bd, rfl, hin, hwr, hfr, hst⟩ := hrel
    have hBr : B ≤ wr.heap.size := Nat.le_trans hB2 hfr.size
    have hbr : b < wr.heap.size := hwr.lt
    by_cases hlt : i < n
    · have hltI : (i : Int) < n := by omega
      obtain ⟨t, hti⟩ : ∃ t, S[i]? = some t := ⟨S[i]'(by rw [HN.out]; exact hlt), List.getElem?_eq_getElem _⟩
      obtain ⟨tn, rels⟩ := t
      obtain ⟨tb, toff, ra, rcap, ⟨vc, hvc⟩, htbB, htb, k0, k1, hrels⟩ := ty_get (HSch.out.keep (Keeps.of_below hfr.below)) hti
      obtain ⟨tb', toff', ra', rcap', ⟨vc', hvc'⟩, htbB', htb', k0', k1', hrels'⟩ := ty_get HSch.out hti
      rw [hvc] at hvc'
      cases hvc'
      have hk1 := (World.cell?_of_block (a := ⟨tb, toff + i * 2 + 1, none⟩) (hfr.low tb htbB)).trans k1'
      dsimp only at k0 k1 hrels k0' k1' hrels' hk1
      rw [k1] at hk1
      cases hk1
      obtain ⟨m, hm⟩ : ∃ m, rels.length = m := ⟨_, rfl⟩
      rw [hm] at k1
      rw [HN.out] at hvc
      cases hvc
      have hwY := wS_snoc hti
      have hwY2 := wS_take S (i + 1)
      unfold wY at hwY
      dsimp only at hwY
      have hli := hst.1
      have hlb : li.length + tn.size + 6 ≤ 700000000 := by omega
      have htnb : tn.size ≤ 700000000 := by omega
      have HMx := Lib.hid (show wS (S.take i) + tn.size + 6 + wRs rels ≤ 700000000 by omega)
      obtain ⟨wk, hwk⟩ : ∃ W, W = wr.alloc (.cells #[.string tn, .slice ra m rcap] 39) := ⟨_, rfl⟩
      have hbk : Below wr.heap.size wr wk := by rw [hwk]; exact (Below.refl _ _).alloc (Nat.le_refl _) _
      have hsk : wk.heap.size = wr.heap.size + 1 := by rw [hwk]; simp
      have HYk := Lib.hid (show wk.heap[wr.heap.size]? = some (.cells #[.string tn, .slice ra m rcap] 39 (0, 0)) by rw [hwk]; exact heap_alloc_new wr _)
      have HFk := Lib.hid (hfr.trans (WF.of_below (b := b) hbk hBr))
      have HWk := Lib.hid (hwr.below hbk)
      have HRels := Lib.hid hrels'
      have HRelsB := Lib.hid (fun (gb goff : Nat) (e : ra = some ⟨gb, goff, none⟩) (j : Nat) (r : Rl) (hj : rels[j]? = some r) => rels_low (show RelsAt (· < B) w2 (some ⟨gb, goff, none⟩) rcap rels by rw [← e]; exact hrels') hj)
      have HRl := Lib.hid hm
      have HStO := Lib.hid hst
      have HTi := Lib.hid hti
      have HAk := Lib.hid hwk
      have HIr := Lib.hid (fun W : World => isref_any W tn (by omega))
      clear hwk hwr hfr hst hti hrels hrels' k0' k1' hm htb' htbB' hwY hwY2 hli
      go_upto_region 5 with fail
      rw [← HAk.out]
      clear k0 k1 HAk
      have v0 := Lib.cell_of_heap HYk.out 0
      simp at v0
      have hlk : wr.heap.size < wk.heap.size := by omega
      obtain ⟨_, _, c3k, fzk⟩ := HWk.out.cells
      cases bd with
      | true =>
        have HBtrue := Lib.hid (show true = (true || !isRefB tn) from rfl)
        obtain ⟨wx, hwx⟩ : ∃ wx, wx = wk := ⟨_, rfl⟩
        rw [← hwx] at c3k fzk HWk HFk HYk v0 hlk ⊢
        have HWx := HWk
        have HFx := HFk
        have HYx := HYk
        clear hwx HWk HFk HYk HIr hsk hbk
        obtain ⟨_, _, c3, fz⟩ := HWx.out.cells
        have HW5 := Lib.hid (HWx.out.bad true)
        have HF5 := Lib.hid (HFx.out.trans (WF.set hbB 3 (.bool true)))
        have HY5 := Lib.hid (show (wx.setCell ⟨b, 3, none⟩ (.bool true)).heap[wr.heap.size]? = _ from (Below.heap_setCell _ _ _ _ (fun e => by have e : wr.heap.size = b := e; omega)).trans HYx.out)
        go_upto_region 6 with fail
        generalize wx.setCell ⟨b, 3, none⟩ (.bool true) = w5 at *
        clear c3 fz HWx HFx HYx
        have y0 := Lib.cell_of_heap HY5.out 0
        simp at y0
        have hl5 : wr.heap.size < w5.heap.size := (Array.getElem?_eq_some_iff.1 HY5.out).1
        have hB5 : B ≤ w5.heap.size := by omega
        have HC1 := Lib.hid (wstr_any w5.drew B b li 0 true (⟨#[116, 121, 112, 101, 32]⟩ ++ tn ++ ⟨#[10]⟩) HW5.out (by rw [ByteArray.size_append, ByteArray.size_append]; show li.length + (5 + tn.size + 1) ≤ _; omega) hB5)
        have sa1 : ∀ W, (Op.stringOp .add ⟨#[116, 121, 112, 101, 32]⟩ tn).run Tryd.prog W = .ok (.string (⟨#[116, 121, 112, 101, 32]⟩ ++ tn)) W := fun W => run_string_add_sum W _ _ (by show 5 + tn.size ≤ _; omega)
        have sa2 : ∀ W, (Op.stringOp .add (⟨#[116, 121, 112, 101, 32]⟩ ++ tn) ⟨#[10]⟩).run Tryd.prog W = .ok (.string (⟨#[116, 121, 112, 101, 32]⟩ ++ tn ++ ⟨#[10]⟩)) W := fun W => run_string_add_sum W _ _ (by rw [ByteArray.size_append]; show 5 + tn.size + 1 ≤ _; omega)
        go_wp2_with fail
        go_still_tail 7, (by kernel_rfl)
        show wpList _ _ _ _ _ w5.drew
        go_wp2_with (go_at_call 26; go_must (refine HC1.out.mono ?_))
        rintro e w6 ⟨rfl, hw6, hf6d⟩
        have hf6 := hf6d.undrew
        have HF6 := Lib.hid (HF5.out.trans hf6)
        have hy6 := hf6.typ _ _ _ _ HY5.out (by decide) (by omega)
        have z1 := Lib.cell_of_heap hy6 1
        simp at z1
        have hl6 : wr.heap.size < w6.heap.size := Nat.lt_of_lt_of_le hl5 hf6.size
        rw [catT] at hw6
        have HW6 := Lib.hid hw6
        have HSt6 := Lib.hid (tySt_line HStO.out HTi.out HBtrue.out)
        clear hw6 hf6 hf6d hy6 HC1 sa1 sa2 y0 HW5 HF5 HY5 hB5
        go_wp2
        clear z1
        go_loopw [42] (fun jv wj => PjRel w2 B b m (S.drop (i + 1)) (wS (S.take i) + tn.size + 6) rels R jv wj) (fun jv _ => m - (intOf jv).toNat)
        case atStart => exact ⟨0, _, _, rfl, Nat.zero_le _, HW6.out, HF6.out, HSt6.out⟩
        case round =>
          rename World => wj
          obtain ⟨j, lj, bdj, rfl, hjn, hwj, hfj, hstj⟩ := hrel
          have hBj : B ≤ wj.heap.size := Nat.le_trans hB2 hfj.size
          have hbj : b < wj.heap.size := hwj.lt
          have hmx := HMx.out
          have hmB : m ≤ 800000000 := by have h1 := wRs_len rels; rw [HRl.out] at h1; omega
          by_cases hltj : j < m
          · have hltjI : (j : Int) < m := by omega
            obtain ⟨rl, hrj⟩ : ∃ rl, rels[j]? = some rl := ⟨rels[j]'(by rw [HRl.out]; exact hltj), List.getElem?_eq_getElem _⟩
            obtain ⟨nm, ⟨xh, xp⟩⟩ := rl
            have hrk := HRels.out.keep (Keeps.of_below hfj.below)
            obtain ⟨gb, goff, xa, xcap, hrav, hgl, k0, k1, k2, k3, k4, x1, x2, xt⟩ := rel_get hrk hrj
            subst hrav
            have hwr' := wRs_snoc hrj
            have hwr2 := wRs_take rels (j + 1)
            unfold wR at hwr'
            dsimp only at hwr'
            have hge := wt_ge (.mk xh xp)
            have hlj := hstj.1
            have hlb : lj.length + nm.size + (Tr.mk xh xp).wt + 4 ≤ 800000000 := by omega
            have hnb : nm.size ≤ 800000000 := by omega
            obtain ⟨wk, hwk⟩ : ∃ W, W = wj.alloc (.cells #[.string nm, .int .i64 xh.kind, .string xh.a, .string xh.b, .slice xa xp.length xcap] 44) := ⟨_, rfl⟩
            have hbk : Below wj.heap.size wj wk := by rw [hwk]; exact (Below.refl _ _).alloc (Nat.le_refl _) _
            have hsk : wk.heap.size = wj.heap.size + 1 := by rw [hwk]; simp
            have HYk := Lib.hid (show wk.heap[wj.heap.size]? = some (.cells #[.string nm, .int .i64 xh.kind, .string xh.a, .string xh.b, .slice xa xp.length xcap] 44 (0, 0)) by rw [hwk]; exact heap_alloc_new wj _)
            have HFk := Lib.hid (hfj.trans (WF.of_below (b := b) hbk hBj))
            have HWk := Lib.hid (hwj.below hbk)
            obtain ⟨_, _, _, xa2, xcap2, _, _, _, _, _, _, _, _, _, xt0⟩ : ∃ (_ _ _ : Nat) (xa2 : Option Addr) (xcap2 : Nat) (_ _ _ _ _ _ _ _ _ : True), TrsAt ruHd (· < B) 4 w2 xa 0 xp := ⟨0, 0, 0, xa, xcap, trivial, trivial, trivial, trivial, trivial, trivial, trivial, trivial, trivial, by
              obtain ⟨gb', goff', xa', xcap', e1, _, c0, c1, c2, c3, c4, _, _, t4⟩ := rel_get HRels.out hrj
              cases e1
              have hb' : gb < B := HRelsB.out gb goff rfl j _ hrj
              have h5 := (World.cell?_of_block (a := ⟨gb, goff + j * 5 + 4, none⟩) (hfj.low gb hb')).trans c4
              rw [k4] at h5
              cases h5
              exact t4⟩
            have HXt := Lib.hid xt0
            have HSt := Lib.hid hstj
            have HRj := Lib.hid hrj
            have HLt := Lib.hid hltj
            have HAk := Lib.hid hwk
            have HIr := Lib.hid (fun W : World => isrel_any W nm (by omega))
            clear hwk hwj hfj hstj hrj xt xt0 hrk
            go_upto_region 10 with fail
            rw [← HAk.out]
            clear k0 k1 k2 k3 k4 HAk hwr' hwr2 hge hlj
            have v0 := Lib.cell_of_heap HYk.out 0
            simp at v0
            have hlk : wj.heap.size < wk.heap.size := by omega
            obtain ⟨_, _, c3k, fzk⟩ := HWk.out.cells
            cases bdj with
            | true =>
              have HBtrue := Lib.hid (show true = (true || !isRelB nm) from rfl)
              obtain ⟨wx, hwx⟩ : ∃ wx, wx = wk := ⟨_, rfl⟩
              rw [← hwx] at c3k fzk HWk HFk HYk v0 hlk ⊢
              have HWx := HWk
              have HFx := HFk
              have HYx := HYk
              clear hwx HWk HFk HYk HIr hsk hbk
              obtain ⟨_, _, c3, fz⟩ := HWx.out.cells
              have HW6 := Lib.hid (HWx.out.bad true)
              have HF6 := Lib.hid (HFx.out.trans (WF.set hbB 3 (.bool true)))
              have HY6 := Lib.hid (show (wx.setCell ⟨b, 3, none⟩ (.bool true)).heap[wj.heap.size]? = _ from (Below.heap_setCell _ _ _ _ (fun e => by have e : wj.heap.size = b := e; omega)).trans HYx.out)
              go_upto_region 11 with fail
              generalize wx.setCell ⟨b, 3, none⟩ (.bool true) = w6 at *
              clear c3 fz HWx HFx HYx
              have y0 := Lib.cell_of_heap HY6.out 0
              simp at y0
              have hl6 : wj.heap.size < w6.heap.size := (Array.getElem?_eq_some_iff.1 HY6.out).1
              have hB6 : B ≤ w6.heap.size := by omega
              have HC1 := Lib.hid (wstr_any w6.drew B b lj 0 true (nm ++ ⟨#[32, 61, 32]⟩) HW6.out (by rw [ByteArray.size_append]; show lj.length + (nm.size + 3) ≤ _; omega) hB6)
              have sa1 : ∀ W, (Op.stringOp .add nm ⟨#[32, 61, 32]⟩).run Tryd.prog W = .ok (.string (nm ++ ⟨#[32, 61, 32]⟩)) W := fun W => run_string_add_sum W _ _ (by show nm.size + 3 ≤ _; omega)
              go_wp2_with fail
              go_still_tail 6, (by kernel_rfl)
              show wpList _ _ _ _ _ w6.drew
              go_wp2_with (go_at_call 26; go_must (refine HC1.out.mono ?_))
              rintro e w7 ⟨rfl, hw7, hf7d⟩
              have hf7 := hf7d.undrew
              have HF7 := Lib.hid (HF6.out.trans hf7)
              have hy7 := hf7.typ _ _ _ _ HY6.out (by decide) (by omega)
              have z1 := Lib.cell_of_heap hy7 1; have z2 := Lib.cell_of_heap hy7 2; have z3 := Lib.cell_of_heap hy7 3; have z4 := Lib.cell_of_heap hy7 4
              simp at z1 z2 z3 z4
              have hl7 : wj.heap.size < w7.heap.size := Nat.lt_of_lt_of_le hl6 hf7.size
              have hB7 : B ≤ w7.heap.size := by omega
              rw [catE] at hw7
              have hlen7 : (lj ++ (nm.data.toList ++ eqS)).length = lj.length + nm.size + 3 := by
                have : nm.data.toList.length = nm.size := Array.length_toList
                simp [eqS, this]; omega
              have HC2 := Lib.hid (wrule_all _ xh xp (Nat.le_refl _) w7 B b (lj ++ (nm.data.toList ++ eqS)) 0 true 0 xa xcap x1 x2 (TrsAt.keep (Keeps.of_below HF7.out.below) (ruHd_keep (Keeps.of_below HF7.out.below)) xp HXt.out) hw7 hB7 (by rw [hlen7]; omega) (fun _ => by omega))
              have HLen7 := Lib.hid hlen7
              clear hw7 hf7 hf7d hy7 HC1 sa1 y0 HW6 HF6 HY6 hlen7
              go_wp2_with (go_at_call 28; go_must (refine HC2.out.mono ?_))
              rintro e w8 ⟨rfl, hr8, hf8⟩
              have HF8 := Lib.hid (HF7.out.trans hf8)
              obtain ⟨l8, bd8, hw8, hl8, hc8⟩ := wr_open hr8 HLen7.out (textF_wt 0 0 (.mk xh xp))
              have hB8 : B ≤ w8.heap.size := Nat.le_trans hB7 hf8.size
              have HC3 := Lib.hid (wstr_any w8 B b l8 0 bd8 ⟨#[10]⟩ hw8 (by show l8.length + 1 ≤ _; omega) hB8)
              have HL8 := Lib.hid hl8
              have HC8 := Lib.hid hc8
              clear hr8 hf8 hw8 hl8 hc8 HC2 z1 z2 z3 z4
              go_wp2_with (go_at_call 26; go_must (refine HC3.out.mono ?_))
              rintro e w9 ⟨rfl, hw9, hf9⟩
              have HF9 := Lib.hid (HF8.out.trans hf9)
              have HW9 := Lib.hid hw9
              have HSt9 := Lib.hid (relSt_next HSt.out HRj.out HBtrue.out HL8.out HC8.out)
              clear hw9 hf9 HC3 HL8 HC8
              go_wp2
              exact ⟨⟨j + 1, l8 ++ [10], bd8, by have hlt3 := HLt.out; go_num, HLt.out, HW9.out, HF9.out, HSt9.out⟩, by have hlt3 := HLt.out; simp [intOf]; omega⟩
            | false =>
              go_wp2_with (go_at_call 27; go_must (refine (HIr.out wk).mono ?_))
              rintro e wx ⟨rfl, hbx⟩
              obtain ⟨bd6, hbd6⟩ : ∃ x : Bool, (!isRelB nm) = x := ⟨_, rfl⟩
              have HBd6 := Lib.hid (show bd6 = (false || !isRelB nm) by rw [← hbd6]; rfl)
              have HWx := Lib.hid (HWk.out.below hbx)
              have HFx := Lib.hid (HFk.out.trans (WF.of_below (b := b) hbx (by omega)))
              have HYx := Lib.hid ((hbx.block _ (by omega)).trans HYk.out)
              clear HWk HFk HYk HIr hsk hbk hbx c3k fzk v0 hlk
              obtain ⟨_, _, c3, fz⟩ := HWx.out.cells
              have HW6 := Lib.hid (HWx.out.bad bd6)
              have HF6 := Lib.hid (HFx.out.trans (WF.set hbB 3 (.bool bd6)))
              have HY6 := Lib.hid (show (wx.setCell ⟨b, 3, none⟩ (.bool bd6)).heap[wj.heap.size]? = _ from (Below.heap_setCell _ _ _ _ (fun e => by have e : wj.heap.size = b := e; omega)).trans HYx.out)
              go_upto_region 11 with fail
              generalize wx.setCell ⟨b, 3, none⟩ (.bool bd6) = w6 at *
              clear c3 fz HWx HFx HYx
              have y0 := Lib.cell_of_heap HY6.out 0
              simp at y0
              have hl6 : wj.heap.size < w6.heap.size := (Array.getElem?_eq_some_iff.1 HY6.out).1
              have hB6 : B ≤ w6.heap.size := by omega
              have HC1 := Lib.hid (wstr_any w6.drew B b lj 0 bd6 (nm ++ ⟨#[32, 61, 32]⟩) HW6.out (by rw [ByteArray.size_append]; show lj.length + (nm.size + 3) ≤ _; omega) hB6)
              have sa1 : ∀ W, (Op.stringOp .add nm ⟨#[32, 61, 32]⟩).run Tryd.prog W = .ok (.string (nm ++ ⟨#[32, 61, 32]⟩)) W := fun W => run_string_add_sum W _ _ (by show nm.size + 3 ≤ _; omega)
              go_wp2_with fail
              go_still_tail 6, (by kernel_rfl)
              show wpList _ _ _ _ _ w6.drew
              go_wp2_with (go_at_call 26; go_must (refine HC1.out.mono ?_))
              rintro e w7 ⟨rfl, hw7, hf7d⟩
              have hf7 := hf7d.undrew
              have HF7 := Lib.hid (HF6.out.trans hf7)
              have hy7 := hf7.typ _ _ _ _ HY6.out (by decide) (by omega)
              have z1 := Lib.cell_of_heap hy7 1; have z2 := Lib.cell_of_heap hy7 2; have z3 := Lib.cell_of_heap hy7 3; have z4 := Lib.cell_of_heap hy7 4
              simp at z1 z2 z3 z4
              have hl7 : wj.heap.size < w7.heap.size := Nat.lt_of_lt_of_le hl6 hf7.size
              have hB7 : B ≤ w7.heap.size := by omega
              rw [catE] at hw7
              have hlen7 : (lj ++ (nm.data.toList ++ eqS)).length = lj.length + nm.size + 3 := by
                have : nm.data.toList.length = nm.size := Array.length_toList
                simp [eqS, this]; omega
              have HC2 := Lib.hid (wrule_all _ xh xp (Nat.le_refl _) w7 B b (lj ++ (nm.data.toList ++ eqS)) 0 bd6 0 xa xcap x1 x2 (TrsAt.keep (Keeps.of_below HF7.out.below) (ruHd_keep (Keeps.of_below HF7.out.below)) xp HXt.out) hw7 hB7 (by rw [hlen7]; omega) (fun _ => by omega))
              have HLen7 := Lib.hid hlen7
              clear hw7 hf7 hf7d hy7 HC1 sa1 y0 HW6 HF6 HY6 hlen7
              go_wp2_with (go_at_call 28; go_must (refine HC2.out.mono ?_))
              rintro e w8 ⟨rfl, hr8, hf8⟩
              have HF8 := Lib.hid (HF7.out.trans hf8)
              obtain ⟨l8, bd8, hw8, hl8, hc8⟩ := wr_open hr8 HLen7.out (textF_wt 0 0 (.mk xh xp))
              have hB8 : B ≤ w8.heap.size := Nat.le_trans hB7 hf8.size
              have HC3 := Lib.hid (wstr_any w8 B b l8 0 bd8 ⟨#[10]⟩ hw8 (by show l8.length + 1 ≤ _; omega) hB8)
              have HL8 := Lib.hid hl8
              have HC8 := Lib.hid hc8
              clear hr8 hf8 hw8 hl8 hc8 HC2 z1 z2 z3 z4
              go_wp2_with (go_at_call 26; go_must (refine HC3.out.mono ?_))
              rintro e w9 ⟨rfl, hw9, hf9⟩
              have HF9 := Lib.hid (HF8.out.trans hf9)
              have HW9 := Lib.hid hw9
              have HSt9 := Lib.hid (relSt_next HSt.out HRj.out HBd6.out HL8.out HC8.out)
              clear hw9 hf9 HC3 HL8 HC8
              go_wp2
              exact ⟨⟨j + 1, l8 ++ [10], bd8, by have hlt3 := HLt.out; go_num, HLt.out, HW9.out, HF9.out, HSt9.out⟩, by have hlt3 := HLt.out; simp [intOf]; omega⟩
          · obtain rfl : j = m := by omega
            have hltjI : ¬ (j : Int) < j := by omega
            have HSt := Lib.hid (relSt_end hstj HRl.out HTi.out)
            have HWj := Lib.hid hwj
            have HFj := Lib.hid hfj
            clear hstj hwj hfj
            go_wp2
            exact ⟨⟨i + 1, lj, bdj, by go_num, by omega, HWj.out, HFj.out, HSt.out⟩, by simp [intOf]; omega⟩
      | false =>
        go_wp2_with (go_at_call 25; go_must (refine (HIr.out wk).mono ?_))
        rintro e wx ⟨rfl, hbx⟩
        obtain ⟨bd5, hbd5⟩ : ∃ x : Bool, (!isRefB tn) = x := ⟨_, rfl⟩
        have HBd5 := Lib.hid (show bd5 = (false || !isRefB tn) by rw [← hbd5]; rfl)
        have HWx := Lib.hid (HWk.out.below hbx)
        have HFx := Lib.hid (HFk.out.trans (WF.of_below (b := b) hbx (by omega)))
        have HYx := Lib.hid ((hbx.block _ (by omega)).trans HYk.out)
        clear HWk HFk HYk HIr hsk hbk hbx c3k fzk v0 hlk
        obtain ⟨_, _, c3, fz⟩ := HWx.out.cells
        have HW5 := Lib.hid (HWx.out.bad bd5)
        have HF5 := Lib.hid (HFx.out.trans (WF.set hbB 3 (.bool bd5)))
        have HY5 := Lib.hid (show (wx.setCell ⟨b, 3, none⟩ (.bool bd5)).heap[wr.heap.size]? = _ from (Below.heap_setCell _ _ _ _ (fun e => by have e : wr.heap.size = b := e; omega)).trans HYx.out)
        go_upto_region 6 with fail
        generalize wx.setCell ⟨b, 3, none⟩ (.bool bd5) = w5 at *
        clear c3 fz HWx HFx HYx
        have y0 := Lib.cell_of_heap HY5.out 0
        simp at y0
        have hl5 : wr.heap.size < w5.heap.size := (Array.getElem?_eq_some_iff.1 HY5.out).1
        have hB5 : B ≤ w5.heap.size := by omega
        have HC1 := Lib.hid (wstr_any w5.drew B b li 0 bd5 (⟨#[116, 121, 112, 101, 32]⟩ ++ tn ++ ⟨#[10]⟩) HW5.out (by rw [ByteArray.size_append, ByteArray.size_append]; show li.length + (5 + tn.size + 1) ≤ _; omega) hB5)
        have sa1 : ∀ W, (Op.stringOp .add ⟨#[116, 121, 112, 101, 32]⟩ tn).run Tryd.prog W = .ok (.string (⟨#[116, 121, 112, 101, 32]⟩ ++ tn)) W := fun W => run_string_add_sum W _ _ (by show 5 + tn.size ≤ _; omega)
        have sa2 : ∀ W, (Op.stringOp .add (⟨#[116, 121, 112, 101, 32]⟩ ++ tn) ⟨#[10]⟩).run Tryd.prog W = .ok (.string (⟨#[116, 121, 112, 101, 32]⟩ ++ tn ++ ⟨#[10]⟩)) W := fun W => run_string_add_sum W _ _ (by rw [ByteArray.size_append]; show 5 + tn.size + 1 ≤ _; omega)
        go_wp2_with fail
        go_still_tail 7, (by kernel_rfl)
        show wpList _ _ _ _ _ w5.drew
        go_wp2_with (go_at_call 26; go_must (refine HC1.out.mono ?_))
        rintro e w6 ⟨rfl, hw6, hf6d⟩
        have hf6 := hf6d.undrew
        have HF6 := Lib.hid (HF5.out.trans hf6)
        have hy6 := hf6.typ _ _ _ _ HY5.out (by decide) (by omega)
        have z1 := Lib.cell_of_heap hy6 1
        simp at z1
        have hl6 : wr.heap.size < w6.heap.size := Nat.lt_of_lt_of_le hl5 hf6.size
        rw [catT] at hw6
        have HW6 := Lib.hid hw6
        have HSt6 := Lib.hid (tySt_line HStO.out HTi.out HBd5.out)
        clear hw6 hf6 hf6d hy6 HC1 sa1 sa2 y0 HW5 HF5 HY5 hB5
        go_wp2
        clear z1
        go_loopw [42] (fun jv wj => PjRel w2 B b m (S.drop (i + 1)) (wS (S.take i) + tn.size + 6) rels R jv wj) (fun jv _ => m - (intOf jv).toNat)
        case atStart => exact ⟨0, _, _, rfl, Nat.zero_le _, HW6.out, HF6.out, HSt6.out⟩
        case round =>
          rename World => wj
          obtain ⟨j, lj, bdj, rfl, hjn, hwj, hfj, hstj⟩ := hrel
          have hBj : B ≤ wj.heap.size := Nat.le_trans hB2 hfj.size
          have hbj : b < wj.heap.size := hwj.lt
          have hmx := HMx.out
          have hmB : m ≤ 800000000 := by have h1 := wRs_len rels; rw [HRl.out] at h1; omega
          by_cases hltj : j < m
          · have hltjI : (j : Int) < m := by omega
            obtain ⟨rl, hrj⟩ : ∃ rl, rels[j]? = some rl := ⟨rels[j]'(by rw [HRl.out]; exact hltj), List.getElem?_eq_getElem _⟩
            obtain ⟨nm, ⟨xh, xp⟩⟩ := rl
            have hrk := HRels.out.keep (Keeps.of_below hfj.below)
            obtain ⟨gb, goff, xa, xcap, hrav, hgl, k0, k1, k2, k3, k4, x1, x2, xt⟩ := rel_get hrk hrj
            subst hrav
            have hwr' := wRs_snoc hrj
            have hwr2 := wRs_take rels (j + 1)
            unfold wR at hwr'
            dsimp only at hwr'
            have hge := wt_ge (.mk xh xp)
            have hlj := hstj.1
            have hlb : lj.length + nm.size + (Tr.mk xh xp).wt + 4 ≤ 800000000 := by omega
            have hnb : nm.size ≤ 800000000 := by omega
            obtain ⟨wk, hwk⟩ : ∃ W, W = wj.alloc (.cells #[.string nm, .int .i64 xh.kind, .string xh.a, .string xh.b, .slice xa xp.length xcap] 44) := ⟨_, rfl⟩
            have hbk : Below wj.heap.size wj wk := by rw [hwk]; exact (Below.refl _ _).alloc (Nat.le_refl _) _
            have hsk : wk.heap.size = wj.heap.size + 1 := by rw [hwk]; simp
            have HYk := Lib.hid (show wk.heap[wj.heap.size]? = some (.cells #[.string nm, .int .i64 xh.kind, .string xh.a, .string xh.b, .slice xa xp.length xcap] 44 (0, 0)) by rw [hwk]; exact heap_alloc_new wj _)
            have HFk := Lib.hid (hfj.trans (WF.of_below (b := b) hbk hBj))
            have HWk := Lib.hid (hwj.below hbk)
            obtain ⟨_, _, _, xa2, xcap2, _, _, _, _, _, _, _, _, _, xt0⟩ : ∃ (_ _ _ : Nat) (xa2 : Option Addr) (xcap2 : Nat) (_ _ _ _ _ _ _ _ _ : True), TrsAt ruHd (· < B) 4 w2 xa 0 xp := ⟨0, 0, 0, xa, xcap, trivial, trivial, trivial, trivial, trivial, trivial, trivial, trivial, trivial, by
              obtain ⟨gb', goff', xa', xcap', e1, _, c0, c1, c2, c3, c4, _, _, t4⟩ := rel_get HRels.out hrj
              cases e1
              have hb' : gb < B := HRelsB.out gb goff rfl j _ hrj
              have h5 := (World.cell?_of_block (a := ⟨gb, goff + j * 5 + 4, none⟩) (hfj.low gb hb')).trans c4
              rw [k4] at h5
              cases h5
              exact t4⟩
            have HXt := Lib.hid xt0
            have HSt := Lib.hid hstj
            have HRj := Lib.hid hrj
            have HLt := Lib.hid hltj
            have HAk := Lib.hid hwk
            have HIr := Lib.hid (fun W : World => isrel_any W nm (by omega))
            clear hwk hwj hfj hstj hrj xt xt0 hrk
            go_upto_region 10 with fail
            rw [← HAk.out]
            clear k0 k1 k2 k3 k4 HAk hwr' hwr2 hge hlj
            have v0 := Lib.cell_of_heap HYk.out 0
            simp at v0
            have hlk : wj.heap.size < wk.heap.size := by omega
            obtain ⟨_, _, c3k, fzk⟩ := HWk.out.cells
            cases bdj with
            | true =>
              have HBtrue := Lib.hid (show true = (true || !isRelB nm) from rfl)
              obtain ⟨wx, hwx⟩ : ∃ wx, wx = wk := ⟨_, rfl⟩
              rw [← hwx] at c3k fzk HWk HFk HYk v0 hlk ⊢
              have HWx := HWk
              have HFx := HFk
              have HYx := HYk
              clear hwx HWk HFk HYk HIr hsk hbk
              obtain ⟨_, _, c3, fz⟩ := HWx.out.cells
              have HW6 := Lib.hid (HWx.out.bad true)
              have HF6 := Lib.hid (HFx.out.trans (WF.set hbB 3 (.bool true)))
              have HY6 := Lib.hid (show (wx.setCell ⟨b, 3, none⟩ (.bool true)).heap[wj.heap.size]? = _ from (Below.heap_setCell _ _ _ _ (fun e => by have e : wj.heap.size = b := e; omega)).trans HYx.out)
              go_upto_region 11 with fail
              generalize wx.setCell ⟨b, 3, none⟩ (.bool true) = w6 at *
              clear c3 fz HWx HFx HYx
              have y0 := Lib.cell_of_heap HY6.out 0
              simp at y0
              have hl6 : wj.heap.size < w6.heap.size := (Array.getElem?_eq_some_iff.1 HY6.out).1
              have hB6 : B ≤ w6.heap.size := by omega
              have HC1 := Lib.hid (wstr_any w6.drew B b lj 0 true (nm ++ ⟨#[32, 61, 32]⟩) HW6.out (by rw [ByteArray.size_append]; show lj.length + (nm.size + 3) ≤ _; omega) hB6)
              have sa1 : ∀ W, (Op.stringOp .add nm ⟨#[32, 61, 32]⟩).run Tryd.prog W = .ok (.string (nm ++ ⟨#[32, 61, 32]⟩)) W := fun W => run_string_add_sum W _ _ (by show nm.size + 3 ≤ _; omega)
              go_wp2_with fail
              go_still_tail 6, (by kernel_rfl)
              show wpList _ _ _ _ _ w6.drew
              go_wp2_with (go_at_call 26; go_must (refine HC1.out.mono ?_))
              rintro e w7 ⟨rfl, hw7, hf7d⟩
              have hf7 := hf7d.undrew
              have HF7 := Lib.hid (HF6.out.trans hf7)
              have hy7 := hf7.typ _ _ _ _ HY6.out (by decide) (by omega)
              have z1 := Lib.cell_of_heap hy7 1; have z2 := Lib.cell_of_heap hy7 2; have z3 := Lib.cell_of_heap hy7 3; have z4 := Lib.cell_of_heap hy7 4
              simp at z1 z2 z3 z4
              have hl7 : wj.heap.size < w7.heap.size := Nat.lt_of_lt_of_le hl6 hf7.size
              have hB7 : B ≤ w7.heap.size := by omega
              rw [catE] at hw7
              have hlen7 : (lj ++ (nm.data.toList ++ eqS)).length = lj.length + nm.size + 3 := by
                have : nm.data.toList.length = nm.size := Array.length_toList
                simp [eqS, this]; omega
              have HC2 := Lib.hid (wrule_all _ xh xp (Nat.le_refl _) w7 B b (lj ++ (nm.data.toList ++ eqS)) 0 true 0 xa xcap x1 x2 (TrsAt.keep (Keeps.of_below HF7.out.below) (ruHd_keep (Keeps.of_below HF7.out.below)) xp HXt.out) hw7 hB7 (by rw [hlen7]; omega) (fun _ => by omega))
              have HLen7 := Lib.hid hlen7
              clear hw7 hf7 hf7d hy7 HC1 sa1 y0 HW6 HF6 HY6 hlen7
              go_wp2_with (go_at_call 28; go_must (refine HC2.out.mono ?_))
              rintro e w8 ⟨rfl, hr8, hf8⟩
              have HF8 := Lib.hid (HF7.out.trans hf8)
              obtain ⟨l8, bd8, hw8, hl8, hc8⟩ := wr_open hr8 HLen7.out (textF_wt 0 0 (.mk xh xp))
              have hB8 : B ≤ w8.heap.size := Nat.le_trans hB7 hf8.size
              have HC3 := Lib.hid (wstr_any w8 B b l8 0 bd8 ⟨#[10]⟩ hw8 (by show l8.length + 1 ≤ _; omega) hB8)
              have HL8 := Lib.hid hl8
              have HC8 := Lib.hid hc8
              clear hr8 hf8 hw8 hl8 hc8 HC2 z1 z2 z3 z4
              go_wp2_with (go_at_call 26; go_must (refine HC3.out.mono ?_))
              rintro e w9 ⟨rfl, hw9, hf9⟩
              have HF9 := Lib.hid (HF8.out.trans hf9)
              have HW9 := Lib.hid hw9
              have HSt9 := Lib.hid (relSt_next HSt.out HRj.out HBtrue.out HL8.out HC8.out)
              clear hw9 hf9 HC3 HL8 HC8
              go_wp2
              exact ⟨⟨j + 1, l8 ++ [10], bd8, by have hlt3 := HLt.out; go_num, HLt.out, HW9.out, HF9.out, HSt9.out⟩, by have hlt3 := HLt.out; simp [intOf]; omega⟩
            | false =>
              go_wp2_with (go_at_call 27; go_must (refine (HIr.out wk).mono ?_))
              rintro e wx ⟨rfl, hbx⟩
              obtain ⟨bd6, hbd6⟩ : ∃ x : Bool, (!isRelB nm) = x := ⟨_, rfl⟩
              have HBd6 := Lib.hid (show bd6 = (false || !isRelB nm) by rw [← hbd6]; rfl)
              have HWx := Lib.hid (HWk.out.below hbx)
              have HFx := Lib.hid (HFk.out.trans (WF.of_below (b := b) hbx (by omega)))
              have HYx := Lib.hid ((hbx.block _ (by omega)).trans HYk.out)
              clear HWk HFk HYk HIr hsk hbk hbx c3k fzk v0 hlk
              obtain ⟨_, _, c3, fz⟩ := HWx.out.cells
              have HW6 := Lib.hid (HWx.out.bad bd6)
              have HF6 := Lib.hid (HFx.out.trans (WF.set hbB 3 (.bool bd6)))
              have HY6 := Lib.hid (show (wx.setCell ⟨b, 3, none⟩ (.bool bd6)).heap[wj.heap.size]? = _ from (Below.heap_setCell _ _ _ _ (fun e => by have e : wj.heap.size = b := e; omega)).trans HYx.out)
              go_upto_region 11 with fail
              generalize wx.setCell ⟨b, 3, none⟩ (.bool bd6) = w6 at *
              clear c3 fz HWx HFx HYx
              have y0 := Lib.cell_of_heap HY6.out 0
              simp at y0
              have hl6 : wj.heap.size < w6.heap.size := (Array.getElem?_eq_some_iff.1 HY6.out).1
              have hB6 : B ≤ w6.heap.size := by omega
              have HC1 := Lib.hid (wstr_any w6.drew B b lj 0 bd6 (nm ++ ⟨#[32, 61, 32]⟩) HW6.out (by rw [ByteArray.size_append]; show lj.length + (nm.size + 3) ≤ _; omega) hB6)
              have sa1 : ∀ W, (Op.stringOp .add nm ⟨#[32, 61, 32]⟩).run Tryd.prog W = .ok (.string (nm ++ ⟨#[32, 61, 32]⟩)) W := fun W => run_string_add_sum W _ _ (by show nm.size + 3 ≤ _; omega)
              go_wp2_with fail
              go_still_tail 6, (by kernel_rfl)
              show wpList _ _ _ _ _ w6.drew
              go_wp2_with (go_at_call 26; go_must (refine HC1.out.mono ?_))
              rintro e w7 ⟨rfl, hw7, hf7d⟩
              have hf7 := hf7d.undrew
              have HF7 := Lib.hid (HF6.out.trans hf7)
              have hy7 := hf7.typ _ _ _ _ HY6.out (by decide) (by omega)
              have z1 := Lib.cell_of_heap hy7 1; have z2 := Lib.cell_of_heap hy7 2; have z3 := Lib.cell_of_heap hy7 3; have z4 := Lib.cell_of_heap hy7 4
              simp at z1 z2 z3 z4
              have hl7 : wj.heap.size < w7.heap.size := Nat.lt_of_lt_of_le hl6 hf7.size
              have hB7 : B ≤ w7.heap.size := by omega
              rw [catE] at hw7
              have hlen7 : (lj ++ (nm.data.toList ++ eqS)).length = lj.length + nm.size + 3 := by
                have : nm.data.toList.length = nm.size := Array.length_toList
                simp [eqS, this]; omega
              have HC2 := Lib.hid (wrule_all _ xh xp (Nat.le_refl _) w7 B b (lj ++ (nm.data.toList ++ eqS)) 0 bd6 0 xa xcap x1 x2 (TrsAt.keep (Keeps.of_below HF7.out.below) (ruHd_keep (Keeps.of_below HF7.out.below)) xp HXt.out) hw7 hB7 (by rw [hlen7]; omega) (fun _ => by omega))
              have HLen7 := Lib.hid hlen7
              clear hw7 hf7 hf7d hy7 HC1 sa1 y0 HW6 HF6 HY6 hlen7
              go_wp2_with (go_at_call 28; go_must (refine HC2.out.mono ?_))
              rintro e w8 ⟨rfl, hr8, hf8⟩
              have HF8 := Lib.hid (HF7.out.trans hf8)
              obtain ⟨l8, bd8, hw8, hl8, hc8⟩ := wr_open hr8 HLen7.out (textF_wt 0 0 (.mk xh xp))
              have hB8 : B ≤ w8.heap.size := Nat.le_trans hB7 hf8.size
              have HC3 := Lib.hid (wstr_any w8 B b l8 0 bd8 ⟨#[10]⟩ hw8 (by show l8.length + 1 ≤ _; omega) hB8)
              have HL8 := Lib.hid hl8
              have HC8 := Lib.hid hc8
              clear hr8 hf8 hw8 hl8 hc8 HC2 z1 z2 z3 z4
              go_wp2_with (go_at_call 26; go_must (refine HC3.out.mono ?_))
              rintro e w9 ⟨rfl, hw9, hf9⟩
              have HF9 := Lib.hid (HF8.out.trans hf9)
              have HW9 := Lib.hid hw9
              have HSt9 := Lib.hid (relSt_next HSt.out HRj.out HBd6.out HL8.out HC8.out)
              clear hw9 hf9 HC3 HL8 HC8
              go_wp2
              exact ⟨⟨j + 1, l8 ++ [10], bd8, by have hlt3 := HLt.out; go_num, HLt.out, HW9.out, HF9.out, HSt9.out⟩, by have hlt3 := HLt.out; simp [intOf]; omega⟩
          · obtain rfl : j = m := by omega
            have hltjI : ¬ (j : Int) < j := by omega
            have HSt := Lib.hid (relSt_end hstj HRl.out HTi.out)
            have HWj := Lib.hid hwj
            have HFj := Lib.hid hfj
            clear hstj hwj hfj
            go_wp2
            exact ⟨⟨i + 1, lj, bdj, by go_num, by omega, HWj.out, HFj.out, HSt.out⟩, by simp [intOf]; omega⟩
    · obtain rfl : i = n := by omega
      have hltI : ¬ (i : Int) < i := by omega
      have hbl := HB12.out.trans (hfr.below)
      obtain ⟨_, hc⟩ := hst
      obtain ⟨_, _, c3, fz⟩ := hwr.cells
      have HWr := Lib.hid hwr
      have HBl := Lib.hid hbl
      clear hwr hfr hbl
      rcases hc with ⟨rfl, rfl⟩ | ⟨rfl, h2⟩
      · go_wp2
        go_ret2
        exact ⟨rfl, by rw [HB.out]; exact HBl.out⟩
      · rw [List.drop_of_length_le (by rw [HN.out]; exact Nat.le_refl _), printT] at h2
        have h3 : R = some li := by rw [h2]; simp
        subst h3
        have HC := Lib.hid (wstring_any wr B b li 0 false HWr.out hBr)
        clear h2
        go_wp2_with (go_at_call 29; go_must (refine HC.out.mono ?_))
        rintro e w9 ⟨rfl, hb9⟩
        have HB9 := Lib.hid (HBl.out.trans hb9)
        clear hb9
        go_wp2
        go_ret2
        exact ⟨rfl, by rw [HB.out]; exact HB9.out⟩
end Go.Proofs.YtopnldebekhelaaDoor
