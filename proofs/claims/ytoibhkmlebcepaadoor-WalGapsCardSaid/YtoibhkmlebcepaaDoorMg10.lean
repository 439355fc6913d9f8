/- What the proof stands on, part 10. -/
import Derived.Test.YtoibhkmlebcepaaDoorMg9
import Derived.Deep.Slices
import Derived.Deep.Fields
import Derived.OpenShut
import Derived.ProofKit
import Derived.ShutString
import Derived.ChangeOld
import Derived.Lib.SmallJoins
import Derived.Deep.Strs
import Derived.LaidMore
import Derived.Stop.Joined
namespace Go.Proofs.YtoibhkmlebcepaaDoor
open Go Go.RowKit

def GapsRel (w : World) (gs : List (Nat × List Ent)) (n : Nat) (bv iv : Value) (wr : World) : Prop :=
  ∃ j : Nat, iv = .int .i64 (j : Int) ∧ j ≤ n ∧ wr.ownsRow w.heap.size 5 1 bv (endAt (recs gs) j) (bcells (seals ((recs gs).take j))) ∧
    Below w.heap.size w wr ∧ endAt (recs gs) j ≤ 12688 * j ∧ ∀ (i : Nat) (c : Nat × List Ent), i < j → gs[i]? = some c → okC c

/-- Entries of which the first ones have the new revision. -/
def GapIn (wz : World) (B p R : Nat) (sv : Value) (es : List Ent) (jv : Value) (wi : World) : Prop :=
  ∃ j : Nat, jv = .int .i64 (j : Int) ∧ j ≤ es.length ∧ wi.ownsRow B 48 3 sv es.length (ecells (withRev R (es.take j) ++ es.drop j)) ∧ Below B wz wi ∧
    wi.heap[p]? = some (.cells #[.int .u64 (R : Int), sv] 25 (0, 0))

theorem gapin_step {R j : Nat} {es : List Ent} {y : Ent} (h : es[j]? = some y) : (ecells (withRev R (es.take j) ++ es.drop j)).set (j * 3 + 1) (.int .u64 (R : Int)) = ecells (withRev R (es.take (j + 1)) ++ es.drop (j + 1)) := by
  obtain ⟨hlt, hge⟩ := List.getElem?_eq_some_iff.1 h
  have hl : (ecells (withRev R (es.take j))).length = j * 3 := by
    unfold ecells
    rw [flat_length ecell 3 ecell_length, withRev_length, List.length_take]
    omega
  have e1 : ecells (withRev R (es.take j) ++ es.drop j) = ecells (withRev R (es.take j)) ++ (ecell y ++ ecells (es.drop (j + 1))) := by
    rw [List.drop_eq_getElem_cons hlt, hge]
    simp [ecells]
  have e2 : ecells (withRev R (es.take (j + 1)) ++ es.drop (j + 1)) = ecells (withRev R (es.take j)) ++ (ecell ⟨y.key, R, y.del⟩ ++ ecells (es.drop (j + 1))) := by
    rw [List.take_add_one, h]
    simp [ecells, withRev]
  rw [e1, e2, List.set_append_right _ _ (by omega), hl, show j * 3 + 1 - j * 3 = 1 by omega]
  rfl

theorem gapin_at {R j : Nat} {es : List Ent} {y : Ent} (h : es[j]? = some y) : (ecells (withRev R (es.take j) ++ es.drop j))[j * 3 + 1]? = some (.int .u64 (y.rev : Int)) := by
  obtain ⟨hlt, hge⟩ := List.getElem?_eq_some_iff.1 h
  have hy : (withRev R (es.take j) ++ es.drop j)[j]? = some y := by
    rw [List.getElem?_append_right (by rw [withRev_length, List.length_take]; omega), withRev_length, List.length_take, Nat.min_eq_left (Nat.le_of_lt hlt), Nat.sub_self]
    simp [h]
  unfold ecells
  rw [flat_cell ecell 3 ecell_length _ j y hy 1 (by decide)]
  rfl

set_option maxRecDepth 100000 in
set_option maxHeartbeats 20000000 in
theorem walGaps_walk (w : World) (v : Value) (n : Nat) (ls : List (List Ent)) (first at' by' : Nat) (h : ERows w v n ls) (hat : at' < 256) (hst : Steps w) :
    Calls Tryd.prog 6 #[.int .u64 (first : Int), v, .int .u8 (at' : Int), .int .u64 (by' : Int)] w (SaysTrue w) := by
  obtain ⟨i0, hi, hz0, hz1, hz2⟩ := info_parts info5
  obtain ⟨j0, hj, hy0, hy1, hy2⟩ := info_parts info48
  have HE := Lib.hid h
  have ST := Lib.hid hst
  obtain ⟨a, cap, rfl, hc1, hc2, hll, hel⟩ := h
  have hks : ∀ l ∈ ls, ∀ x ∈ l, x.key.size ≤ maxLen := fun l hl => by
    obtain ⟨i, hi⟩ := List.getElem?_of_mem hl
    exact (hel i l hi).2.1
  have HK := Lib.hid hks
  have HLL := Lib.hid hll
  unfold maxLen at hc2
  clear hst hll hel hks
  by_cases hok : n ≤ 20 ∧ 1 ≤ first ∧ first ≤ 1152921504606846976 ∧ 1 ≤ by' ∧ by' ≤ 1152921504606846976
  · obtain ⟨h20, h1, hbig, hb1, hbb⟩ := hok
    have h20I : ¬ (20 : Int) < n := by omega
    have h1I : ¬ (first : Int) < 1 := by omega
    have hbigI : ¬ (1152921504606846976 : Int) < first := by omega
    have hb0I : ((by' : Int) == 0) = false := by simp; omega
    have hbbI : ¬ (1152921504606846976 : Int) < by' := by omega
    have hco := comm_ok h1 hbig (by rw [HLL.out]; exact h20) HK.out
    have HOk := Lib.hid hco
    have hcm := fun w' (h : ERows w' (.slice a n cap) n ls) => commits_any w' _ n ls first h h20 hbig
    have HCm := Lib.hid hcm
    clear hco hcm HK
    go_enter Tryd.func6, Tryd.ntmps6
    go_wp2_with (go_at_call 7; go_must (refine (wal_fixed w ST.out).mono ?_))
    rintro e w1 ⟨rfl, b1⟩
    have HB := Lib.hid b1
    replace HE := Lib.hid (HE.out.below b1)
    replace ST := Lib.hid (ST.out.below b1)
    clear b1
    go_wp2_with (go_at_call 19; go_must (refine (HCm.out _ HE.out).mono ?_))
    rintro e w2 ⟨v2, rfl, hcr, b2⟩
    have HS := Lib.hid hcr.see
    replace ST := Lib.hid (ST.out.below b2)
    replace HB := Lib.hid (HB.out.trans (b2.mono HB.out.size))
    clear hcr b2 HCm HE
    generalize commL first ls = cs at *
    have hcl : cs.length ≤ 20 := HOk.out.len
    obtain ⟨a2, cap2, rfl, hd1, hd2, hd3⟩ := HS.out
    clear hd3
    unfold maxLen at hd2
    generalize hN : cs.length = N at *
    have HN := Lib.hid hN
    clear hN
    by_cases hN2 : N < 2
    · have hN2I : (N : Int) < 2 := by omega
      go_wp2
      go_ret
      exact ⟨rfl, HB.out⟩
    · have hN2I : ¬ (N : Int) < 2 := by omega
      obtain ⟨k, hkI, hk0, hkN⟩ : ∃ k : Nat, 1 + (at' : Int) % ((N : Int) - 1) = (k : Int) ∧ 0 < k ∧ k < N := ⟨1 + at' % (N - 1), by
        have : ((N : Int) - 1) = ((N - 1 : Nat) : Int) := by omega
        rw [this]
        simp, by omega, by have := Nat.mod_lt at' (show 0 < N - 1 by omega); omega⟩
      obtain ⟨gs, hgs⟩ : ∃ gs, gs = gapL k by' cs := ⟨_, rfl⟩
      have hgl : gs.length = N := by rw [hgs, gapL_length, HN.out]
      have HGl := Lib.hid hgl
      have HGs := Lib.hid hgs
      clear hgl hgs
      go_wp2
      clear hkI
      go_loopw [11, 55] (fun bv iv wr => GapsRel w2 gs N bv iv wr) (fun _ iv _ => N - (intOf iv).toNat)
      case atStart => exact ⟨0, rfl, Nat.zero_le _, owns_nil _ _ _ _, Below.refl _ _, by simp [endAt, seals], fun i c hi => by omega⟩
      case round =>
        obtain ⟨j, rfl, hj', hall, hb, hea, hri⟩ := hrel
        have hbs := hb.size
        obtain ⟨oa, ocap, rfl, ho1, ho2⟩ := (ownsRow.reads hall).le
        unfold maxLen at ho2
        have HA := Lib.hid hall
        have HBr := Lib.hid hb
        have HRi := Lib.hid hri
        clear hall hb hri
        by_cases hlt : j < N
        · have hltI : (j : Int) < N := by omega
          obtain ⟨c, hx⟩ : ∃ c, cs[j]? = some c := ⟨cs[j]'(by rw [HN.out]; exact hlt), List.getElem?_eq_getElem _⟩
          obtain ⟨_, _, hv, _, _, hsee⟩ := HS.out.below HBr.out
          cases hv
          obtain ⟨g, sa, scap, rfl, hg, c0, c1, hr⟩ := hsee j c hx
          obtain ⟨hrv, h0, hkk, _⟩ := HOk.out.one j c hx
          have hgx : gs[j]? = some (gapC k by' j c) := by rw [HGs.out]; exact gapL_at hx
          have hrgx := recs_at hgx
          have hes := endAt_succ hrgx
          have hse : seals ((recs gs).take (j + 1)) = seals ((recs gs).take j) ++ sealL (recL (gapC k by' j c).1 (gapC k by' j c).2) := by
            rw [List.take_add_one, hrgx]
            simp only [Option.toList_some]
            exact seals_snoc _ _
          have hri2 : okC (gapC k by' j c) → ∀ (i : Nat) (c : Nat × List Ent), i < j + 1 → gs[i]? = some c → okC c := fun hc i q hi hq => by
            by_cases hij : i < j
            · exact HRi.out i q hij hq
            · obtain rfl : i = j := by omega
              rw [hgx] at hq
              cases hq
              exact hc
          have hsl := sealL_length (recL (gapC k by' j c).1 (gapC k by' j c).2)
          have hgr := fun h60 hf => gap_right (k := k) HOk.out h1 hbb hbig hx h60 hf
          have hlo := fun (h : okC (gapC k by' j c)) h2 h3 => rec_low60 (rev := (gapC k by' j c).1) (l := (gapC k by' j c).2) h.2 h2 h3
          have hrevj := HOk.out.rev j c hx
          obtain ⟨rev, es⟩ := c
          dsimp only at c0 c1 hr hrv h0 hkk hgr hrevj
          obtain ⟨_, _, hv, hsc1, hsc2⟩ := hr.le
          cases hv
          have hfw := fun w' h => cfew_any w' rev sa es.length scap es h rfl ⟨hsc1, hsc2⟩ hkk
          have HK2 := Lib.hid hkk
          have HRv := Lib.hid hrevj
          clear hrevj
          have HL0 := Lib.hid h0
          have hpB : w2.heap.size ≤ wr.heap.size := hbs
          have HSz := Lib.hid hbs
          have HSC := Lib.hid (And.intro hsc1 hsc2)
          unfold maxLen at hsc2
          have HFw := Lib.hid hfw
          have HR := Lib.hid hr
          have HEs0 := Lib.hid hes
          have HSe0 := Lib.hid hse
          have HR20 := Lib.hid hri2
          have HSl0 := Lib.hid hsl
          have HLo := Lib.hid hlo
          have HGr := Lib.hid hgr
          clear hfw hr hes hse hri2 hsl hlo hgr hx hgx hrgx hsee h0 hkk
          have bx := (Below.refl wr.heap.size wr).alloc (Nat.le_refl _) (.cells #[.int .u64 (rev : Int), .slice sa es.length scap] 25)
          have HG := Lib.hid (heap_alloc_new wr (.cells #[.int .u64 (rev : Int), .slice sa es.length scap] 25))
          replace HA := Lib.hid (owns_below HA.out bx)
          replace HR := Lib.hid (HR.out.below' bx)
          have HSt := Lib.hid (ST.out.below (HBr.out.trans (bx.mono hbs)))
          replace HBr := Lib.hid (HBr.out.trans (bx.mono hbs))
          clear bx
          go_wp2_with fail
          generalize wr.alloc (.cells #[.int .u64 (rev : Int), .slice sa es.length scap] 25) = w3 at *
          generalize wr.heap.size = p at *
          have hbs3 := HBr.out.size
          have hpl := (Array.getElem?_eq_some_iff.1 HG.out).1
          have q0 := Lib.cell_of_heap HG.out 0
          have q1 := Lib.cell_of_heap HG.out 1
          simp at q0 q1
          go_wp2_with (go_at_call 8; go_must (refine (HFw.out _ HR.out).mono ?_))
          rintro e w4 ⟨rfl, b4⟩
          clear q0 q1 hpl HFw
          replace HA := Lib.hid (owns_below HA.out b4)
          replace HSt := Lib.hid (HSt.out.below b4)
          replace HBr := Lib.hid (HBr.out.trans (b4.mono HBr.out.size))
          replace HR := Lib.hid (HR.out.below' b4)
          replace HG := Lib.hid (below_block b4 HG.out (Array.getElem?_eq_some_iff.1 HG.out).1)
          clear b4
          have hpl := (Array.getElem?_eq_some_iff.1 HG.out).1
          have q0 := Lib.cell_of_heap HG.out 0
          have q1 := Lib.cell_of_heap HG.out 1
          have qf := Lib.frozen_of_heap HG.out
          simp at q0 q1
          cases hfew : fewB es with
          | false =>
            clear hfew
            go_wp2
            go_ret
            exact ⟨rfl, HB.out.trans (HBr.out.mono HB.out.size)⟩
          | true =>
            have HFe := Lib.hid hfew
            clear hfew
            by_cases h60 : es.length ≤ 60
            · have h60I : ¬ (60 : Int) < es.length := by omega
              obtain ⟨hok2, hl2, hf2⟩ := HGr.out h60 HFe.out
              have hlow := HLo.out hok2 (by rw [hl2]; exact h60) hf2
              have HR2 := Lib.hid (HR20.out hok2)
              have hHRb := hok2.1
              clear HGr HLo HR20 hf2 hl2
              by_cases hjk : j < k
              · have hjkI : ¬ ((k : Int) ≤ j) := by omega
                rw [gapC_lt hjk] at hHRb hlow
                have e1 := HEs0.out
                have e2 := HSe0.out
                have e3 := HSl0.out
                rw [gapC_lt hjk] at e1 e2 e3
                dsimp only at e1 e2 e3 hHRb hlow
                have HEs := Lib.hid e1
                have HSe := Lib.hid e2
                have HSl := Lib.hid e3
                have HRb := Lib.hid hHRb
                have HEn := Lib.hid fun w' h hst => encode_any w' rev sa es.length scap es h rfl HSC.out HK2.out hrv hst
                have HRX := Lib.hid HR.out
                clear e1 e2 e3 hHRb HEs0 HSe0 HSl0 hok2
                go_wp2_with (go_at_call 9; go_must (refine (HEn.out _ HRX.out HSt.out).mono ?_))
                intro e w5 hp
                obtain ⟨a1, cap1, rfl, r1, b5⟩ := encp_yes hp HRb.out
                rw [HSl.out] at r1 ⊢
                obtain ⟨_, _, hv, hr1, hr2⟩ := r1.le
                cases hv
                unfold maxLen at hr2
                have hsrc := r1.src (P := Tryd.prog) (tx := 28) Tryd.underlying28 (bcells_one _)
                have HSr := Lib.hid hsrc
                replace HA := Lib.hid (owns_below HA.out b5)
                clear hp HEn r1 hsrc HRX
                replace HBr := Lib.hid (HBr.out.trans (b5.mono HBr.out.size))
                clear b5
                have hbs5 := HBr.out.size
                have hE6 : endAt (recs gs) j ≤ 253760 := by omega
                generalize hE : endAt (recs gs) j = E at *
                have HEj := Lib.hid hE
                clear hE
                go_wp2_with (at_builtin; go_must (refine wpList_append_owns rfl _ _ 28 28 rfl w2.heap.size 5 i0 (.int .u8 0) 1 1 Tryd.underlying28 hi hz0 hz1 hz2 rfl _ _ _ rfl HA.out _ _ _ rfl HSr.out ?_ ?_ ?_ ?_))
                · unfold maxLen; omega
                · omega
                · exact hbs5
                intro v6 w6 o6 g6 b6 _
                rw [← bcells_append, ← HSe.out] at o6
                have HA6 := Lib.hid o6
                have hE1 : endAt (recs gs) (j + 1) = E + (8 + (recL rev es).length) := by rw [HEs.out]
                have HE1 := Lib.hid hE1
                replace HBr := Lib.hid (HBr.out.trans b6)
                clear o6 g6 b6 HA HSr hE1
                go_wp2
                refine ⟨⟨j + 1, by go_num, by omega, ?_, HBr.out, ?_, HR2.out⟩, by simp [intOf]; omega⟩
                · rw [HE1.out]; exact HA6.out
                · rw [HE1.out]; omega
              · have hjkI : (k : Int) ≤ j := by omega
                rw [gapC_ge hjk] at hHRb hlow
                have e1 := HEs0.out
                have e2 := HSe0.out
                have e3 := HSl0.out
                rw [gapC_ge hjk] at e1 e2 e3 hok2
                dsimp only at e1 e2 e3 hHRb hlow hok2
                have hR64 := hok2.2
                dsimp only at hR64
                generalize hR : rev + by' = R at *
                have hrv2 := HRv.out
                have hRI : IntKind.u64.wrap ((rev : Int) + (by' : Int)) = (R : Int) := by rw [IntKind.wrap_u64]; omega
                have HEs := Lib.hid e1
                have HSe := Lib.hid e2
                have HSl := Lib.hid e3
                have HRb := Lib.hid hHRb
                have HRe := Lib.hid hR
                clear e1 e2 e3 hHRb HEs0 HSe0 HSl0 hok2 hR hrv2
                have h0 := HL0.out
                have hsrc := (HR.out.alloc (.cells #[] 48)).src (P := Tryd.prog) (tx := 23) Tryd.underlying23 (ecells_one _)
                have hown0 := owns_empty w4 48 3
                have HB0 := Lib.hid ((Below.refl _ w4).alloc (Nat.le_refl _) (.cells #[] 48))
                have HSrc := Lib.hid hsrc
                have HO0 := Lib.hid hown0
                clear hsrc hown0
                go_wp2_with (at_builtin; go_must (refine wpList_append_owns rfl _ _ 23 23 rfl w4.heap.size 48 j0 _ 3 32 Tryd.underlying23 hj hy0 hy1 hy2 rfl _ _ _ rfl HO0.out _ _ _ rfl HSrc.out ?_ ?_ ?_ ?_))
                · unfold maxLen; omega
                · omega
                · simp
                intro v6 w6 o6 g6 b6 _
                have hb6 := HB0.out.trans b6
                obtain ⟨na, ncap, rfl, hn1, hn2⟩ := (ownsRow.reads o6).le
                obtain ⟨ng, hna, hng⟩ : ∃ ng, na = some ⟨ng, 0, none⟩ ∧ w4.heap.size ≤ ng := by
                  rcases o6.2 with ⟨hv, hz⟩ | ⟨ng, _, _, hv, hB, _⟩
                  · exact absurd hz h0
                  · cases hv
                    exact ⟨ng, rfl, hB⟩
                subst hna
                have hg6 := (hb6.block p hpl).trans HG.out
                have hp6 : p < w6.heap.size := (Array.getElem?_eq_some_iff.1 hg6).1
                have hown6 := owns_below HA.out hb6
                have hpg : ng ≠ p := by omega
                have hhp : (Value.slice oa (endAt (recs gs) j) ocap).ownBlock ≠ some p := owns_other HA.out HG.out (by decide)
                have hlta : ∀ b, (Value.slice oa (endAt (recs gs) j) ocap).ownBlock = some b → b < w4.heap.size := fun b hb => by
                  rcases HA.out.2 with ⟨hv, _⟩ | ⟨g', _, _, hv, _, hg', _⟩
                  · rw [hv] at hb; cases hb
                  · rw [hv] at hb
                    cases hb
                    exact (Array.getElem?_eq_some_iff.1 hg').1
                have hg7 := heap_setCell_same w6 p 1 _ _ (.slice (some ⟨ng, 0, none⟩) es.length ncap) hg6
                have hg8 := heap_setCell_same _ p 0 _ _ (.int .u64 (R : Int)) hg7
                simp at hg8
                have ho7 := ownsRow_setCell_other hown6 (a := ⟨p, 1, none⟩) hhp (.slice (some ⟨ng, 0, none⟩) es.length ncap)
                have ho8 := ownsRow_setCell_other ho7 (a := ⟨p, 0, none⟩) hhp (.int .u64 (R : Int))
                have hn7 := ownsRow_setCell_other o6 (a := ⟨p, 1, none⟩) (by simp [Value.ownBlock]; exact hpg) (.slice (some ⟨ng, 0, none⟩) es.length ncap)
                have hn8 := ownsRow_setCell_other hn7 (a := ⟨p, 0, none⟩) (by simp [Value.ownBlock]; exact hpg) (.int .u64 (R : Int))
                have hbr8 := ((HBr.out.trans (hb6.mono HBr.out.size)).setCell (p := ⟨p, 1, none⟩) hpB (.slice (some ⟨ng, 0, none⟩) es.length ncap)).setCell (p := ⟨p, 0, none⟩) hpB (.int .u64 (R : Int))
                have x0 := Lib.cell_of_heap hg6 0
                have x1 := Lib.cell_of_heap hg6 1
                have xf := Lib.frozen_of_heap hg6
                simp at x0 x1
                unfold maxLen at hn2
                have HG8 := Lib.hid hg8
                have HA8 := Lib.hid ho8
                have HN8 := Lib.hid hn8
                have HBr8 := Lib.hid hbr8
                have HLa := Lib.hid hlta
                have hsz8 : w4.heap.size ≤ ((w6.setCell ⟨p, 1, none⟩ (.slice (some ⟨ng, 0, none⟩) es.length ncap)).setCell ⟨p, 0, none⟩ (.int .u64 (R : Int))).heap.size := by simp; have := hb6.size; omega
                have HZ8 := Lib.hid hsz8
                clear o6 g6 b6 hb6 hg6 hown6 hhp hlta hg7 hg8 ho7 ho8 hn7 hn8 hbr8 HB0 HSrc HO0 HG HA HR q0 q1 qf hsz8
                go_wp2_with fail
                generalize (w6.setCell ⟨p, 1, none⟩ (.slice (some ⟨ng, 0, none⟩) es.length ncap)).setCell ⟨p, 0, none⟩ (.int .u64 (R : Int)) = w8 at *
                clear x0 x1 xf
                have q0 := Lib.cell_of_heap HG8.out 0
                have q1 := Lib.cell_of_heap HG8.out 1
                simp at q0 q1
                go_wp2
                clear q0 q1
                go_loopw [85] (fun jv wi => GapIn w8 w4.heap.size p R (.slice (some ⟨ng, 0, none⟩) es.length ncap) es jv wi) (fun jv _ => es.length - (intOf jv).toNat)
                case atStart => exact ⟨0, rfl, Nat.zero_le _, HN8.out, Below.refl _ _, HG8.out⟩
                case round =>
                  obtain ⟨i, rfl, hi', hrow, hbi, hgp⟩ := hrel
                  have q0 := Lib.cell_of_heap hgp 0
                  have q1 := Lib.cell_of_heap hgp 1
                  simp at q0 q1
                  have HGp := Lib.hid hgp
                  have HRow := Lib.hid hrow
                  have HBi := Lib.hid hbi
                  clear hgp hrow hbi
                  by_cases hil : i < es.length
                  · have hilI : (i : Int) < es.length := by omega
                    obtain ⟨y, hy⟩ : ∃ y, es[i]? = some y := ⟨es[i]'hil, List.getElem?_eq_getElem _⟩
                    have hst := HRow.out.stored (i * 3 + 1) (.int .u64 (R : Int))
                    rw [gapin_step hy] at hst
                    have yc := HRow.out.cells (g := ng) rfl _ _ (gapin_at (R := R) hy)
                    have yf := HRow.out.frozenAt (i * 3 + 1)
                    rw [Addr.add_lit, Nat.zero_add] at yc
                    have hbs8 := HBi.out.setCell (p := ⟨ng, i * 3 + 1, none⟩) hng (.int .u64 (R : Int))
                    have hgs8 := (heap_setCell_other wr ⟨ng, i * 3 + 1, none⟩ p (.int .u64 (R : Int)) (fun h => hpg h.symm)).trans HGp.out
                    have HS1 := Lib.hid hst.1
                    have HB1 := Lib.hid hbs8
                    have HG1 := Lib.hid hgs8
                    clear hst hbs8 hgs8 hy
                    go_wp2
                    exact ⟨⟨i + 1, by go_num, by omega, HS1.out, HB1.out, HG1.out⟩, by simp [intOf]; omega⟩
                  · obtain rfl : i = es.length := by omega
                    have hilI : ¬ ((es.length : Int) < es.length) := by omega
                    have hrd := ownsRow.reads HRow.out
                    rw [List.take_length, List.drop_length, List.append_nil] at hrd
                    have hA2 := owns_below_lt HA8.out HLa.out HBi.out
                    have hbr2 := HBr8.out.trans (HBi.out.mono (Nat.le_trans HSz.out (Nat.le_of_lt hpl)))
                    have HSt2 := Lib.hid (ST.out.below hbr2)
                    have hkk2 : ∀ x ∈ withRev R es, x.key.size ≤ maxLen := fun x hx => by
                      obtain ⟨y, hy, rfl⟩ := List.mem_map.1 hx
                      exact HK2.out y hy
                    have hen := fun w' h hst => encode_any w' R (some ⟨ng, 0, none⟩) es.length ncap (withRev R es) h (withRev_length R es) ⟨hn1, by unfold maxLen; exact hn2⟩ hkk2 hR64 hst
                    have HEn := Lib.hid hen
                    have HRX := Lib.hid hrd
                    clear HSt HA8 HBr8 HRow HBi hkk2 hen hrd
                    have HSt := HSt2
                    have HA := Lib.hid hA2
                    have HBr := Lib.hid hbr2
                    clear hA2 hbr2 HSt2
                    generalize withRev R es = es2 at *
                    go_wp2_with (go_at_call 9; go_must (refine (HEn.out _ HRX.out HSt.out).mono ?_))
                    intro e w5 hp
                    obtain ⟨a1, cap1, rfl, r1, b5⟩ := encp_yes hp HRb.out
                    rw [HSl.out] at r1 ⊢
                    obtain ⟨_, _, hv, hr1, hr2⟩ := r1.le
                    cases hv
                    unfold maxLen at hr2
                    have hsrc := r1.src (P := Tryd.prog) (tx := 28) Tryd.underlying28 (bcells_one _)
                    have HSr := Lib.hid hsrc
                    replace HA := Lib.hid (owns_below HA.out b5)
                    clear hp HEn r1 hsrc HRX
                    replace HBr := Lib.hid (HBr.out.trans (b5.mono HBr.out.size))
                    clear b5
                    have hbs5 := HBr.out.size
                    have hE6 : endAt (recs gs) j ≤ 253760 := by omega
                    generalize hE : endAt (recs gs) j = E at *
                    have HEj := Lib.hid hE
                    clear hE
                    go_wp2_with (at_builtin; go_must (refine wpList_append_owns rfl _ _ 28 28 rfl w2.heap.size 5 i0 (.int .u8 0) 1 1 Tryd.underlying28 hi hz0 hz1 hz2 rfl _ _ _ rfl HA.out _ _ _ rfl HSr.out ?_ ?_ ?_ ?_))
                    · unfold maxLen; omega
                    · omega
                    · exact hbs5
                    intro v6 w6 o6 g6 b6 _
                    rw [← bcells_append, ← HSe.out] at o6
                    have HA6 := Lib.hid o6
                    have hE1 : endAt (recs gs) (j + 1) = E + (8 + (recL R es2).length) := by rw [HEs.out]
                    have HE1 := Lib.hid hE1
                    replace HBr := Lib.hid (HBr.out.trans b6)
                    clear o6 g6 b6 HA HSr hE1
                    go_wp2
                    refine ⟨⟨j + 1, by go_num, by omega, ?_, HBr.out, ?_, HR2.out⟩, by simp [intOf]; omega⟩
                    · rw [HE1.out]; exact HA6.out
                    · rw [HE1.out]; omega
            · have h60I : (60 : Int) < es.length := by omega
              clear qf
              go_wp2
              go_ret
              exact ⟨rfl, HB.out.trans (HBr.out.mono HB.out.size)⟩
        · obtain rfl : j = N := by omega
          have hltI : ¬ ((j : Int) < j) := by omega
          have hgall : ∀ c ∈ gs, okC c := fun c hc => by
            obtain ⟨i, hi⟩ := List.getElem?_of_mem hc
            exact HRi.out i c (by rw [← HGl.out]; exact (List.getElem?_eq_some_iff.1 hi).1) hi
          have hrg := repl_gap_all HOk.out hk0 (by rw [HN.out]; exact hkN) hb1 (by rw [← HGs.out]; exact hgall)
          rw [← HGs.out] at hrg
          obtain ⟨hrp, hlen⟩ := hrg
          have htk : (recs gs).take j = recs gs := List.take_of_length_le (by rw [recs_length, HGl.out]; exact Nat.le_refl _)
          have hlm : (seals (recs gs)).length = endAt (recs gs) j := by unfold endAt; rw [htk]
          have hall := HA.out
          rw [htk] at hall
          rw [hlm] at hlen
          have HSr := Lib.hid (HS.out.below HBr.out)
          have HSt := Lib.hid (ST.out.below HBr.out)
          have HBf := Lib.hid (HB.out.trans (HBr.out.mono HB.out.size))
          have hsw := HSr.out.take k (Nat.le_of_lt hkN)
          have HSw := Lib.hid hsw
          obtain ⟨ax, cx, hv, _, _, hsee⟩ := HSr.out
          injection hv with hax hx1 hx2
          clear hx1 hx2
          subst hax
          obtain ⟨c0, hc0⟩ : ∃ c, cs[0]? = some c := ⟨cs[0]'(by rw [HN.out]; omega), List.getElem?_eq_getElem _⟩
          obtain ⟨g2, _, _, rfl, _, _⟩ := hsee 0 c0 hc0
          have hm9 : endAt (recs gs) j ≤ 253760 := by omega
          have hsl : Sl wr.heap.size wr (.slice oa (endAt (recs gs) j) ocap) (seals (recs gs)) := Sl.of_owns (l := seals (recs gs)) (by rw [hlm]; exact hall)
          have HRp := Lib.hid (replay_any wr _ _ hsl (by rw [hlm]; omega) HSt.out)
          have HRl := Lib.hid hrp
          clear hsee hc0 hea hgall htk hlm hall hsw hsl hrp HRi HA HS ST HB HBr HOk HSr
          generalize endAt (recs gs) j = m at *
          generalize endAt (recs (cs.take k)) (cs.take k).length = E at *
          have hlenI : (E : Int) < m := by omega
          go_wp2_with (go_at_call 16; go_must (refine (HRp.out).mono ?_))
          intro e w6 hp
          obtain ⟨v6, rfl, s6, b6⟩ := rep_out hp
          rw [HRl.out] at s6 ⊢
          have hs7 := HSw.out.below b6
          have HSa := Lib.hid (sameall_any w6 v6 _ _ s6 hs7)
          have HB6 := Lib.hid (HBf.out.trans (b6.mono HBf.out.size))
          clear hp s6 b6 hs7 HRp
          go_wp2_with (go_at_call 18; go_must (refine HSa.out.mono ?_))
          rintro e w7 ⟨rfl, b7⟩
          have HB7 := Lib.hid (HB6.out.trans (b7.mono HB6.out.size))
          clear b7
          go_wp2
          go_ret
          exact ⟨rfl, HB7.out⟩
  · clear HK
    by_cases h20 : 20 < n
    · have h20I : (20 : Int) < n := by omega
      go_enter Tryd.func6, Tryd.ntmps6
      go_wp2_with (go_at_call 7; go_must (refine (wal_fixed w ST.out).mono ?_))
      rintro e w1 ⟨rfl, b1⟩
      go_wp2
      go_ret
      exact ⟨rfl, b1⟩
    · have h20I : ¬ (20 : Int) < n := by omega
      by_cases h1 : first < 1
      · have h1I : (first : Int) < 1 := by omega
        go_enter Tryd.func6, Tryd.ntmps6
        go_wp2_with (go_at_call 7; go_must (refine (wal_fixed w ST.out).mono ?_))
        rintro e w1 ⟨rfl, b1⟩
        go_wp2
        go_ret
        exact ⟨rfl, b1⟩
      · have h1I : ¬ (first : Int) < 1 := by omega
        by_cases hbig : 1152921504606846976 < first
        · have hbigI : (1152921504606846976 : Int) < first := by omega
          go_enter Tryd.func6, Tryd.ntmps6
          go_wp2_with (go_at_call 7; go_must (refine (wal_fixed w ST.out).mono ?_))
          rintro e w1 ⟨rfl, b1⟩
          go_wp2
          go_ret
          exact ⟨rfl, b1⟩
        · have hbigI : ¬ (1152921504606846976 : Int) < first := by omega
          by_cases hb0 : by' = 0
          · have hb0I : ((by' : Int) == 0) = true := by simp [hb0]
            go_enter Tryd.func6, Tryd.ntmps6
            go_wp2_with (go_at_call 7; go_must (refine (wal_fixed w ST.out).mono ?_))
            rintro e w1 ⟨rfl, b1⟩
            go_wp2
            go_ret
            exact ⟨rfl, b1⟩
          · have hb0I : ((by' : Int) == 0) = false := by simp; omega
            have hbbI : (1152921504606846976 : Int) < by' := by omega
            go_enter Tryd.func6, Tryd.ntmps6
            go_wp2_with (go_at_call 7; go_must (refine (wal_fixed w ST.out).mono ?_))
            rintro e w1 ⟨rfl, b1⟩
            go_wp2
            go_ret
            exact ⟨rfl, b1⟩
end Go.Proofs.YtoibhkmlebcepaaDoor

/- A slice that came in, whatever its elements: each is opened by its own theorem. -/
namespace Go.Proofs.YtoibhkmlebcepaaDoor
open Go Go.RowKit Go.ChangeShapes Go.WideShapes Go.Deep

section
variable {H : Type} {enc : TypeId × Value → H} {w : World} {base : Nat} {spare : Nat → Bool} {held : Bool}

theorem slice_rows_of {α : Type} [Inhabited α] {t e : TypeId} {s fuel : Nat} {v : Value} {y : DataW H × List MemPlace} (f : α → List Value) (Q : α → Prop) (ht : Tryd.prog.underlying t = some (.slice e)) (hC : Tryd.prog.cellsOf e = s) (hs : 0 < s) (hf : ∀ x, (f x).length = s)
    (hopen : ∀ n cs y, cs.length = s → DataW.trod enc Tryd.prog w base spare held n e cs = some y → ∃ x, cs = f x ∧ Q x)
    (hfu : DataW.trod enc Tryd.prog w base spare held fuel t [v] = some y) :
    ∃ a len cap, ∃ l : List α, v = .slice a len cap ∧ len ≤ cap ∧ cap ≤ maxLen ∧ l.length = len ∧ (∀ x ∈ l, Q x) ∧ Reads w s (.slice a len cap) len (l.flatMap f) := by
  rcases open_slice ht hfu with ⟨hcs, _⟩ | ⟨x, len, cap, m, n, D, Pl, hcs, _, hl, hm, hmm, _, hx⟩
  · simp at hcs
    subst hcs
    exact ⟨none, 0, 0, [], rfl, Nat.le_refl _, Nat.zero_le _, rfl, fun x hx => (by simp at hx), ⟨by simp, none, 0, rfl, Nat.le_refl _, Nat.zero_le _, fun j u hj => by simp at hj⟩⟩
  · simp at hcs
    subst hcs
    have hlm : len ≤ m := by
      rw [hmm]
      split <;> omega
    have hgs : 0 < len → x.spot = none := by
      intro h0
      obtain ⟨cs0, hc0, _⟩ := hx 0 (by omega)
      rw [hC] at hc0
      obtain ⟨_, hl0, ha0⟩ := World.cells?_some hc0
      have h1 := ha0 0 hs
      rw [List.getElem?_eq_getElem (by omega)] at h1
      have h2 : w.cell? x = some (cs0[0]'(by omega)) := by simpa [Addr.add] using h1
      exact World.cell?_spot h2
    have hall : ∀ i, i < len → ∃ y : α, Q y ∧ ∀ j u, (f y)[j]? = some u → w.cell? (x.add (i * s + j)) = some u := by
      intro i hi
      obtain ⟨cs, hc, htr⟩ := hx i (by omega)
      rw [hC] at hc
      obtain ⟨_, hlen, hat⟩ := World.cells?_some hc
      obtain ⟨y, rfl, hq⟩ := hopen _ _ _ hlen htr
      refine ⟨y, hq, fun j u hj => ?_⟩
      have hjs : j < s := by
        have := (List.getElem?_eq_some_iff.1 hj).1
        rw [hf] at this
        exact this
      have h1 := hat j hjs
      rw [hj] at h1
      rw [← h1]
      have hsp := hgs (by omega)
      obtain ⟨b, off, sp⟩ := x
      simp at hsp
      subst hsp
      rw [Addr.add_lit, Addr.add_lit, Addr.add_lit, Nat.add_assoc]
    obtain ⟨X, hX⟩ := choose_lt (α := α) (p := fun i y => Q y ∧ ∀ j u, (f y)[j]? = some u → w.cell? (x.add (i * s + j)) = some u) hall
    refine ⟨some x, len, cap, (List.range len).map X, rfl, hl, hm, by simp, fun y hy => ?_, ?_⟩
    · obtain ⟨i, hi, rfl⟩ := List.mem_map.1 hy
      exact (hX i (List.mem_range.1 hi)).1
    · refine ⟨by rw [flat_length f s hf]; simp, some x, cap, rfl, hl, hm, fun j u hj => ?_⟩
      have hjl := (List.getElem?_eq_some_iff.1 hj).1
      rw [flat_length f s hf, List.length_map, List.length_range] at hjl
      have hi : j / s < len := Nat.div_lt_of_lt_mul (by rw [Nat.mul_comm]; exact hjl)
      have hr : j % s < s := Nat.mod_lt _ hs
      have hjj : j / s * s + j % s = j := by rw [Nat.mul_comm]; exact Nat.div_add_mod j s
      have hg : ((List.range len).map X)[j / s]? = some (X (j / s)) := by simp [hi]
      have h1 := flat_cell f s hf _ _ _ hg (j % s) hr
      rw [hjj, hj] at h1
      have h2 := (hX _ hi).2 (j % s) u h1.symm
      rw [hjj] at h2
      have hspot := hgs (Nat.lt_of_le_of_lt (Nat.zero_le _) hi)
      obtain ⟨b, off, sp⟩ := x
      simp at hspot
      subst hspot
      rw [Addr.add_lit] at h2
      exact ⟨b, off, rfl, World.block_lt_of_cell? _ _ h2, h2⟩

theorem slice_rows {α : Type} [Inhabited α] {t e : TypeId} {r : Reach} {b0 s : Nat} {v : Value} {d : DataW H} {p : List MemPlace} (f : α → List Value) (Q : α → Prop) (ht : Tryd.prog.underlying t = some (.slice e)) (hC : Tryd.prog.cellsOf e = s) (hs : 0 < s) (hf : ∀ x, (f x).length = s)
    (hopen : ∀ n cs y, cs.length = s → DataW.trod enc Tryd.prog w base spare held n e cs = some y → ∃ x, cs = f x ∧ Q x)
    (hv : Value.okWide Tryd.prog w r b0 t v) (h : DataW.Trod enc Tryd.prog w base spare held t v d p) :
    ∃ a len cap, ∃ l : List α, v = .slice a len cap ∧ len ≤ cap ∧ cap ≤ maxLen ∧ l.length = len ∧ (∀ x ∈ l, Q x) ∧ Reads w s (.slice a len cap) len (l.flatMap f) := by
  obtain ⟨a, len, cap, rfl⟩ := okWide_slice ht hv
  obtain ⟨fuel, hfu⟩ := h
  exact slice_rows_of f Q ht hC hs hf hopen hfu
end
end Go.Proofs.YtoibhkmlebcepaaDoor

/- A slice that came in, with what the form's reach says of its elements' sizes. -/
namespace Go.Proofs.YtoibhkmlebcepaaDoor
open Go Go.RowKit Go.ChangeShapes Go.WideShapes Go.Deep

section
variable {H : Type} {enc : TypeId × Value → H} {w : World} {base : Nat} {spare : Nat → Bool} {held : Bool}

/-- No weight of a datum is beyond the reach. -/
def WOk (t : TypeId) (d : DataW H) : Prop := (d.weights Tryd.prog t).all (· ≤ reachBytes) = true

theorem wok_all {e : TypeId} : ∀ (l : List (DataW H)), (DataW.weightsAll Tryd.prog e l).all (· ≤ reachBytes) = true → ∀ d ∈ l, WOk e d
  | [], _, d, hd => by cases hd
  | x :: r, h, d, hd => by
    rw [DataW.weightsAll, List.all_append, Bool.and_eq_true] at h
    rcases List.mem_cons.1 hd with rfl | hd
    · exact h.1
    · exact wok_all r h.2 d hd

theorem wok_slice {t e : TypeId} {elems rest : List (DataW H)} (ht : Tryd.prog.underlying t = some (.slice e)) (h : WOk t (DataW.slice elems rest)) :
    (elems.length + rest.length) * Tryd.prog.bytesOf e ≤ reachBytes ∧ ∀ d ∈ elems, WOk e d := by
  unfold WOk at h
  rw [DataW.weights, ht] at h
  simp only [List.all_cons, List.all_append, Bool.and_eq_true, decide_eq_true_eq] at h
  exact ⟨h.1, wok_all _ h.2.1⟩

theorem wok_arg : ∀ (ts : List TypeId) (ds : List (DataW H)) (j : Nat) (t : TypeId) (d : DataW H), (DataW.weightsEach Tryd.prog ts ds).all (· ≤ reachBytes) = true → ts[j]? = some t → ds[j]? = some d → WOk t d
  | [], _, j, _, _, _, h, _ => by simp at h
  | _ :: _, [], j, _, _, _, _, h => by simp at h
  | t0 :: ts, d0 :: ds, 0, t, d, h, ht, hd => by
    rw [DataW.weightsEach, List.all_append, Bool.and_eq_true] at h
    simp at ht hd
    subst ht
    subst hd
    exact h.1
  | t0 :: ts, d0 :: ds, j + 1, t, d, h, ht, hd => by
    rw [DataW.weightsEach, List.all_append, Bool.and_eq_true] at h
    exact wok_arg ts ds j t d h.2 (by simpa using ht) (by simpa using hd)

theorem slice_rows_sized {α : Type} [Inhabited α] {t e : TypeId} {s fuel : Nat} {v : Value} {y : DataW H × List MemPlace} (f : α → List Value) (Q : α → Prop) (ht : Tryd.prog.underlying t = some (.slice e)) (hC : Tryd.prog.cellsOf e = s) (hs : 0 < s) (hf : ∀ x, (f x).length = s)
    (hopen : ∀ n cs y, cs.length = s → DataW.trod enc Tryd.prog w base spare held n e cs = some y → WOk e y.1 → ∃ x, cs = f x ∧ Q x)
    (hfu : DataW.trod enc Tryd.prog w base spare held fuel t [v] = some y) (hz : WOk t y.1) :
    ∃ a len cap, ∃ l : List α, v = .slice a len cap ∧ len ≤ cap ∧ cap ≤ maxLen ∧ l.length = len ∧ (∀ x ∈ l, Q x) ∧ Reads w s (.slice a len cap) len (l.flatMap f) ∧ len * Tryd.prog.bytesOf e ≤ reachBytes := by
  rcases open_slice ht hfu with ⟨hcs, _⟩ | ⟨x, len, cap, m, n, D, Pl, hcs, _, hl, hm, hmm, hy, hx⟩
  · simp at hcs
    subst hcs
    exact ⟨none, 0, 0, [], rfl, Nat.le_refl _, Nat.zero_le _, rfl, fun x hx => (by simp at hx), ⟨by simp, none, 0, rfl, Nat.le_refl _, Nat.zero_le _, fun j u hj => by simp at hj⟩, by simp⟩
  · simp at hcs
    subst hcs
    rw [hy] at hz
    obtain ⟨hz1, hz2⟩ := wok_slice ht hz
    have hlm : len ≤ m := by
      rw [hmm]
      split <;> omega
    have hgs : 0 < len → x.spot = none := by
      intro h0
      obtain ⟨cs0, hc0, _⟩ := hx 0 (by omega)
      rw [hC] at hc0
      obtain ⟨_, hl0, ha0⟩ := World.cells?_some hc0
      have h1 := ha0 0 hs
      rw [List.getElem?_eq_getElem (by omega)] at h1
      have h2 : w.cell? x = some (cs0[0]'(by omega)) := by simpa [Addr.add] using h1
      exact World.cell?_spot h2
    have hall : ∀ i, i < len → ∃ y : α, Q y ∧ ∀ j u, (f y)[j]? = some u → w.cell? (x.add (i * s + j)) = some u := by
      intro i hi
      obtain ⟨cs, hc, htr⟩ := hx i (by omega)
      rw [hC] at hc
      obtain ⟨_, hlen, hat⟩ := World.cells?_some hc
      obtain ⟨y, rfl, hq⟩ := hopen _ _ _ hlen htr (hz2 _ (List.mem_map.2 ⟨i, List.mem_range.2 hi, rfl⟩))
      refine ⟨y, hq, fun j u hj => ?_⟩
      have hjs : j < s := by
        have := (List.getElem?_eq_some_iff.1 hj).1
        rw [hf] at this
        exact this
      have h1 := hat j hjs
      rw [hj] at h1
      rw [← h1]
      have hsp := hgs (by omega)
      obtain ⟨b, off, sp⟩ := x
      simp at hsp
      subst hsp
      rw [Addr.add_lit, Addr.add_lit, Addr.add_lit, Nat.add_assoc]
    obtain ⟨X, hX⟩ := choose_lt (α := α) (p := fun i y => Q y ∧ ∀ j u, (f y)[j]? = some u → w.cell? (x.add (i * s + j)) = some u) hall
    refine ⟨some x, len, cap, (List.range len).map X, rfl, hl, hm, by simp, fun y hy => ?_, ?_, ?_⟩
    · obtain ⟨i, hi, rfl⟩ := List.mem_map.1 hy
      exact (hX i (List.mem_range.1 hi)).1
    · refine ⟨by rw [flat_length f s hf]; simp, some x, cap, rfl, hl, hm, fun j u hj => ?_⟩
      have hjl := (List.getElem?_eq_some_iff.1 hj).1
      rw [flat_length f s hf, List.length_map, List.length_range] at hjl
      have hi : j / s < len := Nat.div_lt_of_lt_mul (by rw [Nat.mul_comm]; exact hjl)
      have hr : j % s < s := Nat.mod_lt _ hs
      have hjj : j / s * s + j % s = j := by rw [Nat.mul_comm]; exact Nat.div_add_mod j s
      have hg : ((List.range len).map X)[j / s]? = some (X (j / s)) := by simp [hi]
      have h1 := flat_cell f s hf _ _ _ hg (j % s) hr
      rw [hjj, hj] at h1
      have h2 := (hX _ hi).2 (j % s) u h1.symm
      rw [hjj] at h2
      have hspot := hgs (Nat.lt_of_le_of_lt (Nat.zero_le _) hi)
      obtain ⟨b, off, sp⟩ := x
      simp at hspot
      subst hspot
      rw [Addr.add_lit] at h2
      exact ⟨b, off, rfl, World.block_lt_of_cell? _ _ h2, h2⟩
    · simp only [List.length_map, List.length_range] at hz1
      exact Nat.le_trans (Nat.mul_le_mul_right _ (Nat.le_add_right _ _)) hz1
end
end Go.Proofs.YtoibhkmlebcepaaDoor

/- A commit that came in. -/
namespace Go.Proofs.YtoibhkmlebcepaaDoor
open Go Go.RowKit Go.Joins Go.WideShapes Go.ChangeShapes Go.ChangeAt Go.Deep

section
variable {H : Type} {enc : TypeId × Value → H} {w : World} {base : Nat} {spare : Nat → Bool} {held : Bool}

theorem one_string {n : Nat} {c : Value} {y : DataW H × List MemPlace} (h : DataW.trod enc Tryd.prog w base spare held n 9 [c] = some y) : ∃ s : ByteArray, c = .string s ∧ s.size ≤ maxLen := by
  obtain ⟨s, e, _, hs⟩ := DataW.trod_string Tryd.underlying9 h
  simp only [List.cons.injEq, and_true] at e
  exact ⟨s, e, hs⟩

theorem one_bool {n : Nat} {c : Value} {y : DataW H × List MemPlace} (h : DataW.trod enc Tryd.prog w base spare held n 4 [c] = some y) : ∃ b : Bool, c = .bool b := by
  obtain ⟨b, e, _⟩ := DataW.trod_bool Tryd.underlying4 h
  simp only [List.cons.injEq, and_true] at e
  exact ⟨b, e⟩

theorem one_u64 {n : Nat} {c : Value} {y : DataW H × List MemPlace} (h : DataW.trod enc Tryd.prog w base spare held n 22 [c] = some y) : ∃ m : Nat, c = .int .u64 (m : Int) ∧ m < 18446744073709551616 := by
  obtain ⟨k, e, _, hw⟩ := DataW.trod_int Tryd.underlying22 h
  simp only [List.cons.injEq, and_true] at e
  have bd : 0 ≤ k ∧ k ≤ 18446744073709551615 := by simpa [Lit.wf, IntKind.min, IntKind.max, IntKind.signed, IntKind.bits] using hw
  obtain ⟨m, rfl⟩ := Int.eq_ofNat_of_zero_le bd.1
  exact ⟨m, e, by omega⟩

theorem commit_open {r : Reach} {b0 : Nat} {v : Value} {d : DataW H} {p : List MemPlace} (hv : Value.okWide Tryd.prog w r b0 25 v) (h : DataW.Trod enc Tryd.prog w base spare held 25 v d p) :
    ∃ (rev : Nat) (a : Option Addr) (len cap : Nat) (l : List Ent), v = .agg #[.int .u64 (rev : Int), .slice a len cap] ∧ rev < 18446744073709551616 ∧ len ≤ cap ∧ cap ≤ maxLen ∧ l.length = len ∧ (∀ x ∈ l, x.key.size ≤ maxLen) ∧ Reads w 3 (.slice a len cap) len (ecells l) := by
  have : Inhabited Ent := ⟨⟨⟨#[]⟩, 0, false⟩⟩
  obtain ⟨cs, rfl, hsz⟩ := okWide_struct Tryd.underlying25 hv
  have k2 : Tryd.prog.cellsOf 25 = 2 := by kernel_rfl
  have k1 : Tryd.prog.cellsOf 22 = 1 := by kernel_rfl
  have ks : Tryd.prog.cellsOf 23 = 1 := by kernel_rfl
  have kt : Tryd.prog.cellsOf 9 = 1 := by kernel_rfl
  have kb : Tryd.prog.cellsOf 4 = 1 := by kernel_rfl
  obtain ⟨c0, c1, rfl⟩ : ∃ c0 c1, cs = #[c0, c1] := by
    have h2 := hsz.trans k2
    obtain ⟨l⟩ := cs
    match l, h2 with
    | [c0, c1], _ => exact ⟨c0, c1, rfl⟩
  obtain ⟨fuel, hf⟩ := h
  obtain ⟨y0, y1, n, _, _, h0, h1⟩ := trod_struct2 Tryd.underlying25 hf
  rw [k1] at h0
  rw [ks] at h1
  simp [Value.cells] at h0 h1
  obtain ⟨rev, rfl, hrev⟩ := one_u64 h0
  obtain ⟨a, len, cap, l, rfl, hl, hm, hn, hq, hr⟩ := slice_rows_of ecell (fun x => x.key.size ≤ maxLen) Tryd.underlying23 (by kernel_rfl) (by decide) ecell_length (fun n cs y hl ht => by
    obtain ⟨y0, y1, y2, m, _, _, h0, h1, h2⟩ := trod_struct3 Tryd.underlying48 ht
    match cs, hl with
    | [d0, d1, d2], _ =>
      rw [kt] at h0
      rw [k1] at h1
      rw [kb] at h2
      simp at h0 h1 h2
      obtain ⟨s, rfl, hs⟩ := one_string h0
      obtain ⟨m, rfl, _⟩ := one_u64 h1
      obtain ⟨b, rfl⟩ := one_bool h2
      exact ⟨⟨s, m, b⟩, rfl, hs⟩) h1
  exact ⟨rev, a, len, cap, l, rfl, hrev, hl, hm, hn, hq, hr⟩
end
end Go.Proofs.YtoibhkmlebcepaaDoor

/- A slice of slices of entries that came in. -/
namespace Go.Proofs.YtoibhkmlebcepaaDoor
open Go Go.RowKit Go.Joins Go.WideShapes Go.ChangeShapes Go.ChangeAt Go.Deep

section
variable {H : Type} {enc : TypeId × Value → H} {w : World} {base : Nat} {spare : Nat → Bool} {held : Bool}

theorem ent_open {n : Nat} {cs : List Value} {y : DataW H × List MemPlace} (hl : cs.length = 3) (ht : DataW.trod enc Tryd.prog w base spare held n 48 cs = some y) : ∃ x : Ent, cs = ecell x ∧ x.key.size ≤ maxLen := by
  have k1 : Tryd.prog.cellsOf 22 = 1 := by kernel_rfl
  have kt : Tryd.prog.cellsOf 9 = 1 := by kernel_rfl
  have kb : Tryd.prog.cellsOf 4 = 1 := by kernel_rfl
  obtain ⟨y0, y1, y2, m, _, _, h0, h1, h2⟩ := trod_struct3 Tryd.underlying48 ht
  match cs, hl with
  | [d0, d1, d2], _ =>
    rw [kt] at h0
    rw [k1] at h1
    rw [kb] at h2
    simp at h0 h1 h2
    obtain ⟨s, rfl, hs⟩ := one_string h0
    obtain ⟨m, rfl, _⟩ := one_u64 h1
    obtain ⟨b, rfl⟩ := one_bool h2
    exact ⟨⟨s, m, b⟩, rfl, hs⟩

theorem erows_open {v : Value} {r : Reach} {b0 : Nat} {d : DataW H} {p : List MemPlace} (hv : Value.okWide Tryd.prog w r b0 42 v) (h : DataW.Trod enc Tryd.prog w base spare held 42 v d p) (hz : WOk 42 d) :
    ∃ a n cap ls, v = .slice a n cap ∧ ERows w (.slice a n cap) n ls := by
  have : Inhabited Ent := ⟨⟨⟨#[]⟩, 0, false⟩⟩
  have : Inhabited (Option Addr × Nat × List Ent) := ⟨(none, 0, [])⟩
  obtain ⟨a, n, cap, rfl⟩ := okWide_slice Tryd.underlying42 hv
  obtain ⟨fuel, hf⟩ := h
  have kb : Tryd.prog.bytesOf 48 = 32 := by kernel_rfl
  obtain ⟨a', n', cap', l, hv', h1, h2, h3, h4, h5, _⟩ := slice_rows_sized (α := Option Addr × Nat × List Ent) (fun x => [.slice x.1 x.2.2.length x.2.1])
    (fun x => x.2.2.length * 32 ≤ 140737488351232 ∧ (∀ y ∈ x.2.2, y.key.size ≤ maxLen) ∧ Reads w 3 (.slice x.1 x.2.2.length x.2.1) x.2.2.length (ecells x.2.2))
    Tryd.underlying42 (by kernel_rfl) (by decide) (fun _ => rfl) (fun m cs y hl ht hz => by
      obtain ⟨c, rfl⟩ : ∃ c, cs = [c] := by
        match cs, hl with
        | [c], _ => exact ⟨c, rfl⟩
      obtain ⟨a, len, cap, l, rfl, _, _, hn, hq, hr, hb⟩ := slice_rows_sized ecell (fun x => x.key.size ≤ maxLen) Tryd.underlying23 (by kernel_rfl) (by decide) ecell_length (fun n cs y hl ht _ => ent_open hl ht) ht hz
      subst hn
      rw [kb] at hb
      exact ⟨(a, cap, l), rfl, hb, hq, hr⟩) hf hz
  cases hv'
  refine ⟨a, n, cap, l.map (·.2.2), rfl, a, cap, rfl, h1, h2, by rw [List.length_map]; exact h3, fun i x hx => ?_⟩
  rw [List.getElem?_map] at hx
  obtain ⟨y, hy, rfl⟩ := Option.map_eq_some_iff.1 hx
  obtain ⟨k1, k2, k3⟩ := h4 y (List.mem_of_getElem? hy)
  obtain ⟨g, off, ha, hg, hc⟩ := h5.at (j := i) (u := .slice y.1 y.2.2.length y.2.1) (by
    have := flat_cell (fun x : Option Addr × Nat × List Ent => [Value.slice x.1 x.2.2.length x.2.1]) 1 (fun _ => rfl) l i y hy 0 (by decide)
    simpa using this)
  exact ⟨k1, k2, g, off, y.1, y.2.1, ha, hg, hc, k3⟩
end
end Go.Proofs.YtoibhkmlebcepaaDoor

/- What the listed table of steps gives the walks. -/
namespace Go.Proofs.YtoibhkmlebcepaaDoor
open Go Go.ChangeShapes Go.WideShapes Go.ChangeAt Go.WideMaps Go.WideElems Go.RowKit

noncomputable def laidL : List (String × DataW Unit) := [("sentry/frame.steps", Rows.laid_sentry_frame_steps)]

theorem gSteps : Tryd.prog.globalNamed "sentry/frame.steps" = some 0 := by kernel_rfl
theorem tSteps : (Tryd.prog.globals[0]?).map (·.type) = some 70 := by kernel_rfl

theorem steps_door_met (os : Os) (args : Array Value) : laidMetH Tryd.prog laidL ((World.doorLaid Tryd.prog 100 os).forCall (fun _ _ => 0) ⟨#[], args, []⟩).memory :=
  laidMetH_of_parts3 (fuel := 8) (laidMet_of_run' 8 (by kernel_rfl) (by kernel_rfl)) (by kernel_rfl) (by kernel_rfl)

theorem laid_at {H : Type} (l : List (DataW H)) (h : (Rows.laid_sentry_frame_steps : DataW H) = .agg l) (i : Nat) (hi : i < 16) : l[i]? = some (.lit (.int .u32 (stepsT.getD i 0 : Int))) := by
  unfold Rows.laid_sentry_frame_steps at h
  cases h
  have hc : i = 0 ∨ i = 1 ∨ i = 2 ∨ i = 3 ∨ i = 4 ∨ i = 5 ∨ i = 6 ∨ i = 7 ∨ i = 8 ∨ i = 9 ∨ i = 10 ∨ i = 11 ∨ i = 12 ∨ i = 13 ∨ i = 14 ∨ i = 15 := by omega
  rcases hc with rfl | rfl | rfl | rfl | rfl | rfl | rfl | rfl | rfl | rfl | rfl | rfl | rfl | rfl | rfl | rfl <;> rfl

theorem steps_of_laid {W : World} (h : laidMetH Tryd.prog laidL W) : Steps W := by
  rw [MakeChecks.laidMetH_plain _ _ _ (by kernel_rfl)] at h
  obtain ⟨ps, ⟨g0, t0, cs0, f0, p0, q0, hg0, ht0, hv0, hd0, _, _⟩, _⟩ := h
  obtain rfl := Option.some.inj (gSteps.symm.trans hg0)
  obtain rfl := Option.some.inj (tSteps.symm.trans ht0)
  obtain ⟨xs, m1, rfl, hx1, hlen, hn, hel⟩ := DataW.trod_array Tryd.underlying70 hd0
  have c1 : Tryd.prog.cellsOf 53 = 1 := by kernel_rfl
  have c16 : Tryd.prog.cellsOf 70 = 16 := by kernel_rfl
  rw [c16] at hlen
  simp only [Prod.mk.injEq] at hx1
  have hcell : ∀ i, i < 16 → W.cell? ⟨0, i, none⟩ = some (.int .u32 (stepsT.getD i 0 : Int)) := by
    intro i hi
    have h1 := hel i hi
    rw [c1, Nat.mul_one] at h1
    have hxi : xs[i]? = some (xs[i]'(by omega)) := List.getElem?_eq_getElem (by omega)
    rw [hxi] at h1
    have hci : (cs0.toList.drop i).take 1 = [cs0.toList[i]'(by omega)] := by
      rw [List.drop_eq_getElem_cons (by omega)]
      rfl
    rw [hci] at h1
    obtain ⟨k, e1, e2, _⟩ := DataW.trod_int Tryd.underlying53 h1
    have h2 := laid_at (xs.map (·.1)) hx1.1 i hi
    rw [List.getElem?_map, hxi, Option.map_some, e2] at h2
    have hk : k = (stepsT.getD i 0 : Int) := by simpa using h2
    have h3 := World.var?_cell hg0 hv0 i
    rw [h3]
    have h4 : cs0[i]? = some (cs0.toList[i]'(by omega)) := by
      rw [← Array.getElem?_toList, List.getElem?_eq_getElem (by omega)]
    rw [h4]
    simp only [List.cons.injEq, and_true] at e1
    rw [e1, hk]
  exact ⟨World.block_lt_of_cell? _ _ (hcell 0 (by decide)), hcell⟩
end Go.Proofs.YtoibhkmlebcepaaDoor
