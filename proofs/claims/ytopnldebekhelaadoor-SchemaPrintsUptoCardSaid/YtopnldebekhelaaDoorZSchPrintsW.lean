/- Any schema's text is the document's, or it is refused; it is parsed as it was: the law's walk. -/
import Derived.Test.YtopnldebekhelaaDoorZSchRfPrint
import Derived.Test.YtopnldebekhelaaDoorZSchBlankL
import Derived.Test.YtopnldebekhelaaDoorZSchAgain
namespace Go.Proofs.YtopnldebekhelaaDoor
open Go Go.RowKit

set_option maxRecDepth 100000 in
set_option maxHeartbeats 8000000 in
theorem prints_any (w : World) (tv : Value) (S : List Ty) (h : SchAt (· < w.heap.size) w tv S) (hS : wS S ≤ 700000000) (hm : MaxInt w) (h0 : 0 < w.heap.size) :
    Calls Tryd.prog 4 #[.agg #[tv]] w (GivesBool w true) := by
  obtain ⟨q, hq⟩ : ∃ q, S.length = q := ⟨_, rfl⟩
  obtain ⟨ta, tcap, rfl, _, _⟩ := h.shape hq
  obtain ⟨W0, hW0⟩ : ∃ W, W = w.alloc (.cells #[.slice ta q tcap] 25) := ⟨_, rfl⟩
  have b0 : Below w.heap.size w W0 := by rw [hW0]; exact (Below.refl _ _).alloc (Nat.le_refl _) _
  have e0 : W0.heap[w.heap.size]? = some (.cells #[.slice ta q tcap] 25 (0, 0)) := by rw [hW0]; exact heap_alloc_new w _
  have hx0 := (Array.getElem?_eq_some_iff.1 e0).1
  have HS0 := Lib.hid ((h.keep (Keeps.of_below b0)).mono (ok' := (· < W0.heap.size)) (fun _ hx _ => hx))
  have hm0 := hm.keep b0 h0
  have h00 : 0 < W0.heap.size := Nat.lt_of_lt_of_le h0 b0.size
  have HF := Lib.hid (fixed_any W0 hm0 h00)
  have HX := Lib.hid e0
  have HB := Lib.hid b0
  have HW := Lib.hid hW0
  have HM := Lib.hid hm0
  have HWt := Lib.hid hS
  clear h b0 e0 hW0 hm hm0 hS
  go_enter Tryd.func4, Tryd.ntmps4
  go_upto_region 1 with fail
  rw [← HW.out]
  clear HW
  go_wp2_with (go_at_call 7; go_must (refine HF.out.mono ?_))
  rintro e w1 ⟨rfl, hb1⟩
  have hX1 := (hb1.block _ hx0).trans HX.out
  have HS1 := Lib.hid ((HS0.out.keep (Keeps.of_below hb1)).mono (ok' := (· < w1.heap.size)) (fun _ hx _ => hx))
  have HM1 := Lib.hid (HM.out.keep hb1 h00)
  have h1 : 0 < w1.heap.size := Nat.lt_of_lt_of_le h00 hb1.size
  have hx1 := (Array.getElem?_eq_some_iff.1 hX1).1
  have HFw := Lib.hid (few_any w1 _ S HS1.out HWt.out)
  have HB1 := Lib.hid (HB.out.trans (hb1.mono HB.out.size))
  have x0 := Lib.cell_of_heap hX1 0
  simp at x0
  have HX1 := Lib.hid hX1
  clear hb1 hX1 HF HX HB HM HS0
  go_wp2_with (go_at_call 11; go_must (refine HFw.out.mono ?_))
  rintro e w2 ⟨fb, rfl, hfew, hb2⟩
  have HFe := Lib.hid hfew
  have hX2 := (hb2.block _ hx1).trans HX1.out
  have HS2 := Lib.hid ((HS1.out.keep (Keeps.of_below hb2)).mono (ok' := (· < w2.heap.size)) (fun _ hx _ => hx))
  have HM2 := Lib.hid (HM1.out.keep hb2 h1)
  have h2 : 0 < w2.heap.size := Nat.lt_of_lt_of_le h1 hb2.size
  have hx2 := (Array.getElem?_eq_some_iff.1 hX2).1
  have HB2 := Lib.hid (HB1.out.trans (hb2.mono HB1.out.size))
  have HX2 := Lib.hid hX2
  clear hfew hb2 hX2 x0 HFw HX1 HM1 HS1 HB1
  cases fb with
  | false =>
    go_wp2
    go_ret
    exact ⟨rfl, HB2.out⟩
  | true =>
    have hf200 := HFe.out rfl
    have x0 := Lib.cell_of_heap HX2.out 0
    simp at x0
    have HP := Lib.hid (print_any w2 _ S HS2.out HWt.out)
    go_wp2_with (go_at_call 12; go_must (refine HP.out.mono ?_))
    rintro e w3 ⟨he3, hb3⟩
    have hX3 := (hb3.block _ hx2).trans HX2.out
    have HS3 := Lib.hid ((HS2.out.keep (Keeps.of_below hb3)).mono (ok' := (· < w3.heap.size)) (fun _ hx _ => hx))
    have HM3 := Lib.hid (HM2.out.keep hb3 h2)
    have h3 : 0 < w3.heap.size := Nat.lt_of_lt_of_le h2 hb3.size
    have hx3 := (Array.getElem?_eq_some_iff.1 hX3).1
    have HB3 := Lib.hid (HB2.out.trans (hb3.mono HB2.out.size))
    have HX3 := Lib.hid hX3
    have HP3 := Lib.hid (refprint_any w3 _ S HS3.out HWt.out)
    clear hb3 hX3 x0 HP HX2 HM2 HS2 HB2
    have x0 := Lib.cell_of_heap HX3.out 0
    simp at x0
    cases hpr : printT S with
    | none =>
      rw [hpr] at he3 HP3
      dsimp only at he3
      subst he3
      go_wp2_with (go_at_call 13; go_must (refine HP3.out.mono ?_))
      rintro e w4 ⟨he4, hb4⟩
      dsimp only at he4
      subst he4
      have HB4 := Lib.hid (HB3.out.trans (hb4.mono HB3.out.size))
      clear hb4 x0 HP3
      have heq : (cNone.toList == cNone.toList) = true := by rw [beq_iff_eq]
      go_wp2
      go_ret
      exact ⟨rfl, HB4.out⟩
    | some x =>
      rw [hpr] at he3 HP3
      dsimp only at he3
      subst he3
      obtain ⟨hx22, _⟩ := printT_few S x hpr
      have hx65 : x.length ≤ 65536 := by omega
      have HPP := Lib.hid (parse_print hpr hx65)
      have htk : (tk x).size = x.length := tk_size x
      clear hpr
      go_wp2_with (go_at_call 13; go_must (refine HP3.out.mono ?_))
      rintro e w4 ⟨he4, hb4⟩
      dsimp only at he4
      subst he4
      have hX4 := (hb4.block _ hx3).trans HX3.out
      have HS4 := Lib.hid ((HS3.out.keep (Keeps.of_below hb4)).mono (ok' := (· < w4.heap.size)) (fun _ hx _ => hx))
      have hm4 := HM3.out.keep hb4 h3
      have h4 : 0 < w4.heap.size := Nat.lt_of_lt_of_le h3 hb4.size
      have hx4 := (Array.getElem?_eq_some_iff.1 hX4).1
      have HB4 := Lib.hid (HB3.out.trans (hb4.mono HB3.out.size))
      have HX4 := Lib.hid hX4
      have hc2 := parse_any w4 (tk x) hm4 h4 (by rw [tk_size]; omega)
      rw [HPP.out] at hc2
      have HC2 := Lib.hid hc2
      obtain ⟨G, hG⟩ : ∃ G, tk x = G := ⟨_, rfl⟩
      rw [hG] at HC2 ⊢
      have heq : (G.toList == G.toList) = true := by rw [beq_iff_eq]
      clear hb4 hX4 x0 hc2 hm4 HP3 HX3 HM3 HS3 HB3 hG htk hx22 hx65
      go_wp2_with (go_at_call 8; go_must (refine HC2.out.mono ?_))
      rintro e w5 ⟨tv5, rfl, hs5, hb5⟩
      obtain ⟨ta5, tcap5, rfl, _, _⟩ := hs5.shape hq
      obtain ⟨w6, hw6⟩ : ∃ W, W = w5.alloc (.cells #[.slice ta5 q tcap5] 25) := ⟨_, rfl⟩
      have hb6 : Below w5.heap.size w5 w6 := by rw [hw6]; exact (Below.refl _ _).alloc (Nat.le_refl _) _
      have hX6 : w6.heap[w5.heap.size]? = some (.cells #[.slice ta5 q tcap5] 25 (0, 0)) := by rw [hw6]; exact heap_alloc_new w5 _
      have hb46 : Below w4.heap.size w4 w6 := hb5.trans (hb6.mono hb5.size)
      have hX46 := (hb46.block _ hx4).trans HX4.out
      have hsA : SchAt (· < w6.heap.size) w6 (.slice ta q tcap) S := (HS4.out.keep (Keeps.of_below hb46)).mono (fun _ hb _ => hb)
      have hsB : SchAt (· < w6.heap.size) w6 (.slice ta5 q tcap5) S := ((hs5.mono (ok' := (· < w5.heap.size)) (fun _ hb _ => hb)).keep (Keeps.of_below hb6)).mono (fun _ hb _ => hb)
      have HSame := Lib.hid (same_any w6 _ _ S hsA hsB)
      have HW6 := Lib.hid hw6
      have HB6 := Lib.hid (HB4.out.trans (hb46.mono HB4.out.size))
      have HX6 := Lib.hid hX6
      have HX46 := Lib.hid hX46
      have h46 := (Array.getElem?_eq_some_iff.1 hX46).1
      have h66 := (Array.getElem?_eq_some_iff.1 hX6).1
      clear hs5 hb5 hw6 hb6 hX6 hb46 hX46 hsA hsB HC2
      go_upto_region 12 with fail
      rw [← HW6.out]
      clear HW6
      have x0 := Lib.cell_of_heap HX46.out 0
      have y0 := Lib.cell_of_heap HX6.out 0
      simp at x0 y0
      go_wp2_with (go_at_call 10; go_must (refine HSame.out.mono ?_))
      rintro e w7 ⟨rfl, hb7⟩
      go_wp2
      go_ret
      exact ⟨rfl, HB6.out.trans (hb7.mono HB6.out.size)⟩
theorem maxInt_posP {w : World} (hm : MaxInt w) : 0 < w.heap.size := by
  obtain ⟨m, hm⟩ := hm
  have hg : 0 < w.heap.size ∨ ¬ 0 < w.heap.size := Nat.lt_or_ge _ _ |>.imp id (fun h => by omega)
  rcases hg with h | h
  · exact h
  · have hn : w.heap[0]? = none := by rw [Array.getElem?_eq_none_iff]; omega
    unfold World.cell? at hm
    rw [hn] at hm
    cases hm
end Go.Proofs.YtopnldebekhelaaDoor
