/- The fixed answers of the schema's law. -/
import Derived.Test.YtopnldebekhelaaDoorZSchSame
import Derived.Test.YtopnldebekhelaaDoorZSchTrip
import Derived.Test.YtopnldebekhelaaDoorZSchParse
import Derived.Test.YtopnldebekhelaaDoorZSchPrint
namespace Go.Proofs.YtopnldebekhelaaDoor
open Go Go.RowKit

def lit1 : ByteArray := ⟨#[116, 121, 112, 101, 32, 100, 111, 99, 10, 32, 118, 105, 101, 119, 101, 114, 32, 61, 32, 116, 104, 105, 115, 32, 124, 32, 111, 119, 110, 101, 114, 32, 38, 32, 112, 97, 114, 101, 110, 116, 45, 62, 118, 105, 101, 119, 101, 114, 10]⟩
def lit2 : ByteArray := ⟨#[10, 97, 32, 61, 32, 116, 104, 105, 115]⟩
def out1 : List UInt8 := [116, 121, 112, 101, 32, 100, 111, 99, 10, 118, 105, 101, 119, 101, 114, 32, 61, 32, 116, 104, 105, 115, 32, 124, 32, 111, 119, 110, 101, 114, 32, 38, 32, 112, 97, 114, 101, 110, 116, 45, 62, 118, 105, 101, 119, 101, 114, 10]
def nViewer : ByteArray := ⟨#[118, 105, 101, 119, 101, 114]⟩
def partA : Tr RuH := .mk ⟨1, ⟨#[]⟩, ⟨#[]⟩⟩ []
def partB : Tr RuH := .mk ⟨5, ⟨#[]⟩, ⟨#[]⟩⟩ [.mk ⟨2, ⟨#[111, 119, 110, 101, 114]⟩, ⟨#[]⟩⟩ [], .mk ⟨3, ⟨#[112, 97, 114, 101, 110, 116]⟩, nViewer⟩ []]
def relFix : Rl := ⟨nViewer, .mk ⟨4, ⟨#[]⟩, ⟨#[]⟩⟩ [partA, partB]⟩
def tyFix : Ty := ⟨⟨#[100, 111, 99]⟩, [relFix]⟩

theorem fix1 : parseS lit1 = ([tyFix], 0, 0) := by kernel_rfl
theorem fix2 : parseS lit2 = ([], 2, 9) := by kernel_rfl
theorem fix3 : printT [tyFix] = some out1 := by kernel_rfl
theorem fix4 : wS [tyFix] ≤ 700000000 := by decide +kernel

theorem MaxInt.keep {w w' : World} (h : MaxInt w) (hb : Below w.heap.size w w') (h0 : 0 < w.heap.size) : MaxInt w' := by
  obtain ⟨m, hm⟩ := h
  exact ⟨m, (World.cell?_of_block (a := ⟨0, 0, none⟩) (hb.block 0 h0)).trans hm⟩

/-- What the fixed schema's cells hold. -/
theorem fix_cells {ok : Nat → Prop} {w : World} {tv : Value} (h : SchAt ok w tv [tyFix]) : ∃ b off vc rb roff rcap pb poff xcap, tv = .slice (some ⟨b, off, none⟩) 1 vc ∧ b < w.heap.size ∧ rb < w.heap.size ∧ pb < w.heap.size ∧
    w.cell? ⟨b, off + 1, none⟩ = some (.slice (some ⟨rb, roff, none⟩) 1 rcap) ∧ w.cell? ⟨rb, roff + 1, none⟩ = some (.int .i64 4) ∧ w.cell? ⟨rb, roff + 2, none⟩ = some (.string ⟨#[]⟩) ∧ w.cell? ⟨rb, roff + 3, none⟩ = some (.string ⟨#[]⟩) ∧ w.cell? ⟨rb, roff + 4, none⟩ = some (.slice (some ⟨pb, poff, none⟩) 2 xcap) ∧ w.cell? ⟨pb, poff + 4, none⟩ = some (.int .i64 5) := by
  obtain ⟨b, off, ra, rcap, ⟨vc, rfl⟩, _, hbl, _, k1, hrels⟩ := ty_get h (i := 0) (t := tyFix) rfl
  obtain ⟨rb, roff, xa, xcap, rfl, hrl, _, r1, r2, r3, r4, _, _, xt⟩ := rel_get hrels (j := 0) (nm := nViewer) (xh := ⟨4, ⟨#[]⟩, ⟨#[]⟩⟩) (xp := [partA, partB]) rfl
  obtain ⟨pb, poff, cs, rfl, _, hpl, _, hcs, htr⟩ := xt.get (i := 1) (p := partB) rfl
  obtain ⟨_, _, rfl, _⟩ := trRu_open htr
  have c0 := hcs 0 _ rfl
  exact ⟨b, off, vc, rb, roff, rcap, pb, poff, xcap, rfl, hbl, hrl, hpl, by simpa [tyFix] using k1, by simpa using r1, by simpa using r2, by simpa using r3, by simpa using r4, by simpa using c0⟩

set_option maxRecDepth 100000 in
set_option maxHeartbeats 4000000 in
theorem fixed_any (w : World) (hm : MaxInt w) (h0 : 0 < w.heap.size) : Calls Tryd.prog 7 #[] w (GivesBool w true) := by
  have hc1 := parse_any w lit1 hm h0 (by decide)
  rw [fix1] at hc1
  have HC1 := Lib.hid hc1
  have HM := Lib.hid hm
  clear hc1 hm
  go_enter Tryd.func7, Tryd.ntmps7
  go_wp2_with (go_at_call 8; go_must (refine HC1.out.mono ?_))
  rintro e w1 ⟨tv, rfl, hs1, hb1⟩
  obtain ⟨b, off, vc, rb, roff, rcap, pb, poff, xcap, rfl, hbl, hrl, hpl, k1, r1, r2, r3, r4, c5⟩ := fix_cells hs1
  have hm1 := HM.out.keep hb1 h0
  have h1 : 0 < w1.heap.size := Nat.lt_of_lt_of_le h0 hb1.size
  obtain ⟨w2, hw2⟩ : ∃ W, W = w1.alloc (.cells #[.slice (some ⟨b, off, none⟩) 1 vc] 25) := ⟨_, rfl⟩
  have hb2 : Below w1.heap.size w1 w2 := by rw [hw2]; exact (Below.refl _ _).alloc (Nat.le_refl _) _
  have hX2 : w2.heap[w1.heap.size]? = some (.cells #[.slice (some ⟨b, off, none⟩) 1 vc] 25 (0, 0)) := by rw [hw2]; exact heap_alloc_new w1 _
  have hm2 := hm1.keep hb2 h1
  have h2 : 0 < w2.heap.size := Nat.lt_of_lt_of_le h1 hb2.size
  have hc2 := parse_any w2 lit2 hm2 h2 (by decide)
  rw [fix2] at hc2
  have HC2 := Lib.hid hc2
  have HS1 := Lib.hid hs1
  have HB1 := Lib.hid hb1
  have HB2 := Lib.hid hb2
  have HW2 := Lib.hid hw2
  have HX2 := Lib.hid hX2
  have HK := Lib.hid (show _ ∧ _ ∧ _ ∧ _ ∧ _ ∧ _ from ⟨k1, r1, r2, r3, r4, c5⟩)
  have hx2s := (Array.getElem?_eq_some_iff.1 hX2).1
  clear hc2 hs1 hb1 hb2 hw2 hX2 hm1 hm2 k1 r1 r2 r3 r4 c5 HC1
  go_upto_region 2 with fail
  rw [← HW2.out]
  clear HW2
  go_wp2_with (go_at_call 8; go_must (refine HC2.out.mono ?_))
  rintro e w3 ⟨tv2, rfl, hs2, hb3⟩
  obtain ⟨ta2, tcap2, rfl, _, _⟩ := hs2.shape (n := 0) rfl
  obtain ⟨w4, hw4⟩ : ∃ W, W = w3.alloc (.cells #[.slice ta2 0 tcap2] 25) := ⟨_, rfl⟩
  have hb4 : Below w3.heap.size w3 w4 := by rw [hw4]; exact (Below.refl _ _).alloc (Nat.le_refl _) _
  have hb34 : Below w2.heap.size w2 w4 := hb3.trans (hb4.mono hb3.size)
  have hb14 : Below w1.heap.size w1 w4 := HB2.out.trans (hb34.mono HB2.out.size)
  have hX4 := (hb34.block _ hx2s).trans HX2.out
  have HW4 := Lib.hid hw4
  have HB14 := Lib.hid hb14
  have HX4 := Lib.hid hX4
  have hx4s := (Array.getElem?_eq_some_iff.1 hX4).1
  have h14 := hb14.size
  clear hs2 hb3 hw4 hb4 hb34 hb14 hX4 HC2 HB2 HX2
  go_upto_region 3 with fail
  rw [← HW4.out]
  clear HW4
  have x0 := Lib.cell_of_heap HX4.out 0
  simp at x0
  have k1 := (World.cell?_of_block (a := ⟨b, off + 1, none⟩) (HB14.out.block b hbl)).trans HK.out.1
  have r1 := (World.cell?_of_block (a := ⟨rb, roff + 1, none⟩) (HB14.out.block rb hrl)).trans HK.out.2.1
  have r2 := (World.cell?_of_block (a := ⟨rb, roff + 2, none⟩) (HB14.out.block rb hrl)).trans HK.out.2.2.1
  have r3 := (World.cell?_of_block (a := ⟨rb, roff + 3, none⟩) (HB14.out.block rb hrl)).trans HK.out.2.2.2.1
  have r4 := (World.cell?_of_block (a := ⟨rb, roff + 4, none⟩) (HB14.out.block rb hrl)).trans HK.out.2.2.2.2.1
  have hbl4 : b < w4.heap.size := by omega
  have hrl4 : rb < w4.heap.size := by omega
  obtain ⟨w5, hw5⟩ : ∃ W, W = w4.alloc (.cells #[.int .i64 4, .string ⟨#[]⟩, .string ⟨#[]⟩, .slice (some ⟨pb, poff, none⟩) 2 xcap] 42) := ⟨_, rfl⟩
  have hb5 : Below w4.heap.size w4 w5 := by rw [hw5]; exact (Below.refl _ _).alloc (Nat.le_refl _) _
  have hX5 : w5.heap[w4.heap.size]? = some (.cells #[.int .i64 4, .string ⟨#[]⟩, .string ⟨#[]⟩, .slice (some ⟨pb, poff, none⟩) 2 xcap] 42 (0, 0)) := by rw [hw5]; exact heap_alloc_new w4 _
  have hb15 : Below w1.heap.size w1 w5 := HB14.out.trans (hb5.mono h14)
  have hsch5 : SchAt (· < w5.heap.size) w5 (.slice (some ⟨b, off, none⟩) 1 vc) [tyFix] := ((HS1.out.mono (ok' := (· < w1.heap.size)) (fun _ hx _ => hx)).keep (Keeps.of_below hb15)).mono (fun _ hx _ => hx)
  have hcp := print_any w5 _ _ hsch5 fix4
  rw [fix3] at hcp
  have HCP := Lib.hid hcp
  have HW5 := Lib.hid hw5
  have HB15 := Lib.hid hb15
  have HX5 := Lib.hid hX5
  have HX1 := Lib.hid ((hb5.block _ hx4s).trans HX4.out)
  have hx5s := (Array.getElem?_eq_some_iff.1 hX5).1
  have h45 := hb5.size
  clear hw5 hb5 hX5 hb15 hsch5 hcp
  go_upto_region 6 with fail
  rw [← HW5.out]
  clear HW5 x0 k1 r1 r2 r3 r4
  have x0 := Lib.cell_of_heap HX1.out 0
  simp at x0
  go_wp2_with (go_at_call 12; go_must (refine HCP.out.mono ?_))
  rintro e w6 ⟨he, hb6⟩
  dsimp only at he
  subst he
  have hX6 := (hb6.block _ hx5s).trans HX5.out
  have y0 := Lib.cell_of_heap hX6 0
  have y3 := Lib.cell_of_heap hX6 3
  simp at y0 y3
  have c5 := (World.cell?_of_block (a := ⟨pb, poff + 4, none⟩) (((HB15.out.trans (hb6.mono HB15.out.size))).block pb hpl)).trans HK.out.2.2.2.2.2
  have hEnd := Lib.hid (HB1.out.trans ((HB15.out.trans (hb6.mono HB15.out.size)).mono HB1.out.size))
  clear hb6 hX6 x0
  have hE : ((tk out1).toList == out1) = true := by rw [streq]; simp
  have HE := Lib.hid hE
  unfold out1 at HE
  go_wp2
  go_ret
  exact ⟨congrArg (fun x => Ending.returned (.bool x)) HE.out, hEnd.out⟩
end Go.Proofs.YtopnldebekhelaaDoor
