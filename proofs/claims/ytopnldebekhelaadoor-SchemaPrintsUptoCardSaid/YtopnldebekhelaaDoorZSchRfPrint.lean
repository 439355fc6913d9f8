/- sentryref05.Print: a schema's text, or that it may not be. -/
import Derived.Test.YtopnldebekhelaaDoorZSchRfText
import Derived.Test.YtopnldebekhelaaDoorZSchPrint
import Derived.Test.YtopnldebekhelaaDoorZSchFew
namespace Go.Proofs.YtopnldebekhelaaDoor
open Go Go.RowKit

theorem rp_no {rest : List Ty} {mx : Nat} {rels : List Rl} {R : Option (List UInt8)} {j : Nat} {lj : List UInt8} {nm : ByteArray} {t : Tr RuH} (h : RelSt rest mx rels R j lj false) (hj : rels[j]? = some ⟨nm, t⟩) (hb : isRelB nm = false ∨ textF 0 0 t = none) : R = none := by
  rcases h.2 with ⟨e, _⟩ | ⟨_, e⟩
  · cases e
  · rw [e, drop_at hj, relsT]
    dsimp only
    rcases hb with hb | hb
    · rw [hb, if_neg (by decide)]; rfl
    · rw [hb]
      split <;> rfl
theorem rp_yes {rest : List Ty} {mx : Nat} {rels : List Rl} {R : Option (List UInt8)} {j : Nat} {lj s : List UInt8} {nm : ByteArray} {t : Tr RuH} (h : RelSt rest mx rels R j lj false) (hj : rels[j]? = some ⟨nm, t⟩) (hb : isRelB nm = true) (ht : textF 0 0 t = some s) : RelSt rest mx rels R (j + 1) (lj ++ (nm.data.toList ++ eqS) ++ s ++ [10]) false := by
  have hn : nm.data.toList.length = nm.size := Array.length_toList
  have hw := textF_wt 0 0 t s ht
  refine relSt_next h hj (bd6 := false) (by rw [hb]; rfl) ?_ (.inl ⟨rfl, s, by rw [ht]; rfl, rfl⟩)
  simp only [List.length_append, eqS, List.length_cons, List.length_nil]
  omega
theorem rp_line {S : List Ty} {R : Option (List UInt8)} {i : Nat} {li : List UInt8} {tn : ByteArray} {rels : List Rl} (h : TySt S R i li false) (hi : S[i]? = some ⟨tn, rels⟩) (hb : isRefB tn = true) :
    RelSt (S.drop (i + 1)) (wS (S.take i) + tn.size + 6) rels R 0 (li ++ (typeS ++ tn.data.toList ++ [10])) false := tySt_line h hi (by rw [hb]; rfl)
theorem rp_type {S : List Ty} {R : Option (List UInt8)} {i : Nat} {li : List UInt8} {tn : ByteArray} {rels : List Rl} (h : TySt S R i li false) (hi : S[i]? = some ⟨tn, rels⟩) (hb : isRefB tn = false) : R = none := by
  rcases h.2 with ⟨e, _⟩ | ⟨_, e⟩
  · cases e
  · rw [e, drop_at hi, printT]
    dsimp only
    rw [hb, if_neg (by decide)]
    rfl
theorem rp_end {S : List Ty} {R : Option (List UInt8)} {i : Nat} {li : List UInt8} (h : TySt S R i li false) (hi : S.length = i) : R = some li := by
  rcases h.2 with ⟨e, _⟩ | ⟨_, e⟩
  · cases e
  · rw [e, List.drop_of_length_le (by omega), printT]
    simp

theorem rp_fail {w w' : World} {R : Option (List UInt8)} (h : R = none) (hb : Below w.heap.size w w') : PrintPost w R (.returned (.tuple #[.string cNone, .int .i64 9])) w' := by rw [h]; exact ⟨rfl, hb⟩
theorem rp_done {w w' : World} {R : Option (List UInt8)} {l : List UInt8} (h : R = some l) (hb : Below w.heap.size w w') : PrintPost w R (.returned (.tuple #[.string (tk l), .int .i64 0])) w' := by rw [h]; exact ⟨rfl, hb⟩

def RpRel (w : World) (n : Nat) (S : List Ty) (R : Option (List UInt8)) (ov iv : Value) (wr : World) : Prop := ∃ (i : Nat) (li : List UInt8), iv = .int .i64 (i : Int) ∧ ov = .string (tk li) ∧ i ≤ n ∧ TySt S R i li false ∧ Below w.heap.size w wr
def RjRel (w : World) (m : Nat) (rest : List Ty) (mx : Nat) (rels : List Rl) (R : Option (List UInt8)) (ov iv : Value) (wr : World) : Prop := ∃ (j : Nat) (lj : List UInt8), iv = .int .i64 (j : Int) ∧ ov = .string (tk lj) ∧ j ≤ m ∧ RelSt rest mx rels R j lj false ∧ Below w.heap.size w wr

theorem cat_lit {a b : List UInt8} (h : a.length + b.length ≤ 9000000000) (W : World) : (Op.stringOp .add (tk a) (tk b)).run Tryd.prog W = .ok (.string (tk (a ++ b))) W := by
  rw [run_string_add_sum W _ _ (by rw [tk_size, tk_size]; omega), tk_cat]

set_option maxRecDepth 100000 in
set_option maxHeartbeats 8000000 in
theorem refprint_any (w : World) (tv : Value) (S : List Ty) (h : SchAt (· < w.heap.size) w tv S) (hS : wS S ≤ 700000000) :
    Calls Tryd.prog 13 #[.agg #[tv]] w (PrintPost w (printT S)) := by
  obtain ⟨R, hR⟩ : ∃ R, printT S = R := ⟨_, rfl⟩
  rw [hR]
  obtain ⟨n, hn⟩ : ∃ n, S.length = n := ⟨_, rfl⟩
  obtain ⟨ta, tcap, rfl, htc1, htc2⟩ := h.shape hn
  obtain ⟨N, hN⟩ : ∃ N, w.heap.size = N := ⟨_, rfl⟩
  obtain ⟨W0, hW0⟩ : ∃ W, W = w.alloc (.cells #[.slice ta n tcap] 25) := ⟨_, rfl⟩
  have b0 : Below w.heap.size w W0 := by rw [hW0]; exact (Below.refl _ _).alloc (Nat.le_refl _) _
  have s0 : W0.heap.size = N + 1 := by rw [hW0, ← hN]; simp
  have e0 : W0.heap[N]? = some (.cells #[.slice ta n tcap] 25 (0, 0)) := by rw [hW0, ← hN]; exact heap_alloc_new w _
  have HSch := Lib.hid (h.keep (Keeps.of_below b0))
  have HX := Lib.hid e0
  have HB := Lib.hid b0
  have HW := Lib.hid hW0
  have HN := Lib.hid hN
  have HL := Lib.hid hn
  have HWt := Lib.hid hS
  have HSt0 := Lib.hid (show TySt S R 0 [] false from ⟨by simp, .inr ⟨rfl, by rw [List.drop_zero, hR]; cases R <;> rfl⟩⟩)
  unfold maxLen at htc2
  clear h b0 e0 hW0 hN hn hS hR
  go_enter Tryd.func13, Tryd.ntmps13
  go_upto_region 1 with fail
  rw [← HW.out]
  try rw [HN.out]
  clear HW
  have x0 := Lib.cell_of_heap HX.out 0
  simp at x0
  have hl1 : N < W0.heap.size := by omega
  go_wp2
  clear x0
  go_loopw [4, 14] (fun ov iv wr => RpRel W0 n S R ov iv wr) (fun _ iv _ => n - (intOf iv).toNat)
  case atStart => exact ⟨0, [], rfl, rfl, Nat.zero_le _, HSt0.out, Below.refl _ _⟩
  case round =>
    obtain ⟨i, li, rfl, rfl, hin, hst, hb⟩ := hrel
    have HSt := Lib.hid hst
    clear hst
    by_cases hlt : i < n
    · have hltI : (i : Int) < n := by omega
      have h0I : (0 : Int) ≤ i := by omega
      obtain ⟨t, hti⟩ : ∃ t, S[i]? = some t := ⟨S[i]'(by rw [HL.out]; exact hlt), List.getElem?_eq_getElem _⟩
      obtain ⟨tn, rels⟩ := t
      have hsz := hb.size
      obtain ⟨b, off, ra, rcap, ⟨vc, hvc⟩, _, hbl, k0, k1, hrels⟩ := ty_get (HSch.out.keep (Keeps.of_below (hb.mono (by rw [HN.out]; omega)))) hti
      dsimp only at k0 k1 hrels
      obtain ⟨m, hm⟩ : ∃ m, rels.length = m := ⟨_, rfl⟩
      rw [hm] at k1
      rw [HL.out] at hvc
      cases hvc
      have hwY := wS_snoc hti
      have hwY2 := wS_take S (i + 1)
      unfold wY at hwY
      dsimp only at hwY
      have hwt := HWt.out
      have hmB := wRs_len rels
      have hmm : m ≤ 700000000 := by omega
      have hli := HSt.out.1
      have htl : tn.data.toList.length = tn.size := Array.length_toList
      have htn : tn.size ≤ 700000000 := by omega
      obtain ⟨mx, hmx⟩ : ∃ mx, wS (S.take i) + tn.size + 6 = mx := ⟨_, rfl⟩
      have HTot := Lib.hid (show mx + wRs rels ≤ 700000000 by omega)
      have hsum : li.length + tn.size ≤ 700000000 := by omega
      obtain ⟨wk, hwk⟩ : ∃ W, W = wr.alloc (.cells #[.string tn, .slice ra m rcap] 39) := ⟨_, rfl⟩
      have hbk : Below wr.heap.size wr wk := by rw [hwk]; exact (Below.refl _ _).alloc (Nat.le_refl _) _
      have hsk : wk.heap.size = wr.heap.size + 1 := by rw [hwk]; simp
      have HYk := Lib.hid (show wk.heap[wr.heap.size]? = some (.cells #[.string tn, .slice ra m rcap] 39 (0, 0)) by rw [hwk]; exact heap_alloc_new wr _)
      have HBk := Lib.hid (hb.trans (hbk.mono hsz))
      have HRels := Lib.hid (hrels.keep (Keeps.of_below (hbk.mono (by rw [HN.out]; omega))))
      have HRl := Lib.hid hm
      have HAk := Lib.hid hwk
      have HTi := Lib.hid hti
      have HMx := Lib.hid hmx
      have HTl := Lib.hid htl
      clear hwk hb hti hrels hm hwY hwY2 hwt hmB hbk hli htl hmx
      go_upto_region 5 with fail
      rw [← HAk.out]
      clear k0 k1 HAk
      have v0 := Lib.cell_of_heap HYk.out 0
      have v1 := Lib.cell_of_heap HYk.out 1
      simp at v0 v1
      have hlk : wr.heap.size < wk.heap.size := by omega
      have HO := Lib.hid (refown_any wk tn (by omega))
      go_wp2_with (go_at_call 30; go_must (refine HO.out.mono ?_))
      rintro e w2 ⟨rfl, rfl⟩
      clear HO
      cases hown : isRefB tn with
      | false =>
        have HNo := Lib.hid (rp_type HSt.out HTi.out hown)
        clear hown
        go_wp2
        go_ret2
        exact rp_fail HNo.out (HB.out.trans (HBk.out.mono HB.out.size))
      | true =>
        have HJ0 := Lib.hid (rp_line HSt.out HTi.out hown)
        rw [HMx.out] at HJ0
        obtain ⟨l1, hl1⟩ : ∃ l1, li ++ typeS = l1 := ⟨_, rfl⟩
        obtain ⟨l2, hl2⟩ : ∃ l2, l1 ++ tn.data.toList = l2 := ⟨_, rfl⟩
        obtain ⟨l3, hl3⟩ : ∃ l3, l2 ++ [10] = l3 := ⟨_, rfl⟩
        have e3 : li ++ (typeS ++ tn.data.toList ++ [10]) = l3 := by rw [← hl3, ← hl2, ← hl1]; simp only [List.append_assoc]
        rw [e3] at HJ0
        have n1 : l1.length = li.length + 5 := by rw [← hl1, List.length_append]; rfl
        have n2 : l2.length = l1.length + tn.size := by rw [← hl2, List.length_append, HTl.out]
        have c1 : ∀ W, (Op.stringOp .add (tk li) ⟨#[116, 121, 112, 101, 32]⟩).run Tryd.prog W = .ok (.string (tk l1)) W := fun W => hl1 ▸ cat_lit (a := li) (b := typeS) (by show li.length + 5 ≤ _; omega) W
        have c2 : ∀ W, (Op.stringOp .add (tk l1) tn).run Tryd.prog W = .ok (.string (tk l2)) W := fun W => by
          have h := cat_lit (a := l1) (b := tn.data.toList) (by rw [HTl.out]; omega) W
          rw [tk_of, hl2] at h
          exact h
        have c3 : ∀ W, (Op.stringOp .add (tk l2) ⟨#[10]⟩).run Tryd.prog W = .ok (.string (tk l3)) W := fun W => hl3 ▸ cat_lit (a := l2) (b := [10]) (by show _ + 1 ≤ _; omega) W
        clear e3 hl1 hl2 hl3 n1 n2
        clear hown
        go_wp2
        clear v0 v1 c1 c2 c3
        go_loopw [4, 31] (fun ov iv wj => RjRel wk m (S.drop (i + 1)) mx rels R ov iv wj) (fun _ iv _ => m - (intOf iv).toNat)
        case atStart => exact ⟨0, _, rfl, rfl, Nat.zero_le _, HJ0.out, Below.refl _ _⟩
        case round =>
          rename World => wj
          obtain ⟨j, lj, rfl, rfl, hjn, hjt, hbj⟩ := hrel
          have HJt := Lib.hid hjt
          clear hjt
          by_cases hltj : j < m
          · have hltJ : (j : Int) < m := by omega
            obtain ⟨rl, hrj⟩ : ∃ rl, rels[j]? = some rl := ⟨rels[j]'(by rw [HRl.out]; exact hltj), List.getElem?_eq_getElem _⟩
            obtain ⟨nm, ⟨xh, xp⟩⟩ := rl
            obtain ⟨gb, goff, xa, xcap, hra, hgl, k0, k1, k2, k3, k4, x1, x2, xt⟩ := rel_get (HRels.out.keep (Keeps.of_below (hbj.mono (by rw [HN.out]; omega)))) hrj
            subst hra
            have hwr2 := wRs_take rels (j + 1)
            have hwr' := wRs_snoc hrj
            unfold wR at hwr'
            dsimp only at hwr'
            have hlj := HJt.out.1
            have htot := HTot.out
            have hnl : nm.data.toList.length = nm.size := Array.length_toList
            have hsum2 : lj.length + nm.size + (Tr.mk xh xp).wt ≤ 800000000 := by omega
            have hdep := depth_wt _ (.mk xh xp) (show (Tr.mk xh xp).wt ≤ 1000000000 by omega)
            obtain ⟨wl, hwl⟩ : ∃ W, W = wj.alloc (.cells #[.string nm, .int .i64 xh.kind, .string xh.a, .string xh.b, .slice xa xp.length xcap] 44) := ⟨_, rfl⟩
            have hbl2 : Below wj.heap.size wj wl := by rw [hwl]; exact (Below.refl _ _).alloc (Nat.le_refl _) _
            have hsl : wl.heap.size = wj.heap.size + 1 := by rw [hwl]; simp
            have HYl := Lib.hid (show wl.heap[wj.heap.size]? = some (.cells #[.string nm, .int .i64 xh.kind, .string xh.a, .string xh.b, .slice xa xp.length xcap] 44 (0, 0)) by rw [hwl]; exact heap_alloc_new wj _)
            have HBl := Lib.hid (hbj.trans (hbl2.mono hbj.size))
            have HTx := Lib.hid (refText_ok _ xh xp hdep (by omega) wl xa xcap 0 x1 x2 (trs_later xt hbl2) (by decide))
            have HAl := Lib.hid hwl
            have HRj := Lib.hid hrj
            have HNl := Lib.hid hnl
            have hjs := hbj.size
            clear hwl hbl2 hbj hrj xt hwr2 hwr' hlj htot hnl hdep
            go_upto_region 11 with fail
            rw [← HAl.out]
            clear k0 k1 k2 k3 k4 HAl
            have y0 := Lib.cell_of_heap HYl.out 0; have y1 := Lib.cell_of_heap HYl.out 1; have y2 := Lib.cell_of_heap HYl.out 2; have y3 := Lib.cell_of_heap HYl.out 3; have y4 := Lib.cell_of_heap HYl.out 4
            simp at y0 y1 y2 y3 y4
            have hll : wj.heap.size < wl.heap.size := by omega
            go_wp2_with (go_at_call 31; go_must (refine HTx.out.mono ?_))
            rintro e w3 ⟨s, bb, rfl, hyes, hno, hb3⟩
            have HYes := Lib.hid hyes
            have HNot := Lib.hid hno
            have HB3 := Lib.hid (HBl.out.trans (hb3.mono (by omega)))
            have q0 := Lib.cell_of_heap ((hb3.block _ hll).trans HYl.out) 0
            simp at q0
            have hl3 : wj.heap.size < w3.heap.size := Nat.lt_of_lt_of_le hll hb3.size
            clear hb3 hyes hno HTx y0 y1 y2 y3 y4
            have HO := Lib.hid (refown_any w3 nm (by omega))
            go_wp2_with (go_at_call 30; go_must (refine HO.out.mono ?_))
            rintro e w4 ⟨rfl, rfl⟩
            clear HO
            have HBf := Lib.hid (HB.out.trans ((HBk.out.trans (HB3.out.mono (by omega))).mono HB.out.size))
            cases hown : isRefB nm with
            | false =>
              have HNo := Lib.hid (rp_no HJt.out HRj.out (.inl (by unfold isRelB; rw [hown]; rfl)))
              clear hown
              go_wp2
              go_ret2
              exact rp_fail HNo.out HBf.out
            | true =>
              have HEq := Lib.hid (streq nm [116, 121, 112, 101])
              by_cases hty : nm = cType
              · have HNo := Lib.hid (rp_no HJt.out HRj.out (.inl (by unfold isRelB; rw [hown, decide_eq_true hty]; rfl)))
                have hq : (nm.toList == [116, 121, 112, 101]) = true := by rw [HEq.out]; exact decide_eq_true hty
                clear hown hty
                go_wp2
                go_ret2
                exact rp_fail HNo.out HBf.out
              · have hq : (nm.toList == [116, 121, 112, 101]) = false := by rw [HEq.out]; exact decide_eq_false hty
                have HRel := Lib.hid (show isRelB nm = true by unfold isRelB; rw [hown, decide_eq_false hty]; rfl)
                clear hown hty
                cases bb with
                | false =>
                  have HNo := Lib.hid (rp_no HJt.out HRj.out (.inr (HNot.out rfl)))
                  go_wp2
                  go_ret2
                  exact rp_fail HNo.out HBf.out
                | true =>
                  have hsl2 := textF_wt _ _ _ _ (HYes.out rfl)
                  have HNx := Lib.hid (rp_yes HJt.out HRj.out HRel.out (HYes.out rfl))
                  have hnl := HNl.out
                  obtain ⟨l1, hl1⟩ : ∃ l1, lj ++ nm.data.toList = l1 := ⟨_, rfl⟩
                  obtain ⟨l2, hl2⟩ : ∃ l2, l1 ++ eqS = l2 := ⟨_, rfl⟩
                  obtain ⟨l3, hl3⟩ : ∃ l3, l2 ++ s = l3 := ⟨_, rfl⟩
                  obtain ⟨l4, hl4⟩ : ∃ l4, l3 ++ [10] = l4 := ⟨_, rfl⟩
                  have e3 : lj ++ (nm.data.toList ++ eqS) ++ s ++ [10] = l4 := by rw [← hl4, ← hl3, ← hl2, ← hl1]; simp only [List.append_assoc]
                  rw [e3] at HNx
                  have n1 : l1.length = lj.length + nm.size := by rw [← hl1, List.length_append, hnl]
                  have n2 : l2.length = l1.length + 3 := by rw [← hl2, List.length_append]; rfl
                  have n3 : l3.length = l2.length + s.length := by rw [← hl3, List.length_append]
                  have c1 : ∀ W, (Op.stringOp .add (tk lj) nm).run Tryd.prog W = .ok (.string (tk l1)) W := fun W => by
                    have h := cat_lit (a := lj) (b := nm.data.toList) (by omega) W
                    rw [tk_of, hl1] at h
                    exact h
                  have c2 : ∀ W, (Op.stringOp .add (tk l1) ⟨#[32, 61, 32]⟩).run Tryd.prog W = .ok (.string (tk l2)) W := fun W => hl2 ▸ cat_lit (a := l1) (b := eqS) (by show _ + 3 ≤ _; omega) W
                  have c3 : ∀ W, (Op.stringOp .add (tk l2) (tk s)).run Tryd.prog W = .ok (.string (tk l3)) W := fun W => hl3 ▸ cat_lit (a := l2) (b := s) (by omega) W
                  have c4 : ∀ W, (Op.stringOp .add (tk l3) ⟨#[10]⟩).run Tryd.prog W = .ok (.string (tk l4)) W := fun W => hl4 ▸ cat_lit (a := l3) (b := [10]) (by show _ + 1 ≤ _; omega) W
                  clear e3 hl1 hl2 hl3 hl4 n1 n2 n3
                  clear hnl hsl2 hsum2
                  go_wp2
                  exact ⟨⟨j + 1, _, by go_num, rfl, by omega, HNx.out, HB3.out⟩, by simp [intOf]; omega⟩
          · obtain rfl : j = m := by omega
            have hltJ : ¬ (j : Int) < j := by omega
            have HBy := Lib.hid (HBk.out.trans (hbj.mono (by omega)))
            have hjt := HJt.out
            rw [← HMx.out] at hjt
            have HFin := Lib.hid (relSt_end hjt HRl.out HTi.out)
            clear hbj hjt
            go_wp2
            exact ⟨⟨i + 1, lj, by go_num, rfl, by omega, HFin.out, HBy.out⟩, by simp [intOf]; omega⟩
    · obtain rfl : i = n := by omega
      have hltI : ¬ (i : Int) < i := by omega
      have HBz := Lib.hid (HB.out.trans (hb.mono HB.out.size))
      have HF := Lib.hid (rp_end HSt.out HL.out)
      clear hb
      go_wp2
      go_ret2
      exact rp_done HF.out HBz.out
end Go.Proofs.YtopnldebekhelaaDoor
