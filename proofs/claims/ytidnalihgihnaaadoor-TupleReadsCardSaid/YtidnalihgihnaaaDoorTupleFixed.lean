import Derived.Test.YtidnalihgihnaaaDoorTupleParse
namespace Go.Proofs.YtidnalihgihnaaaDoor
open Go Go.RowKit

def six0 : Six := ⟨⟨#[100, 111, 99]⟩, ⟨#[49]⟩, ⟨#[118, 105, 101, 119, 101, 114]⟩, ⟨#[103, 114, 111, 117, 112]⟩, ⟨#[51]⟩, ⟨#[109, 101, 109, 98, 101, 114]⟩⟩
def text0 : ByteArray := ⟨#[100, 111, 99, 58, 49, 35, 118, 105, 101, 119, 101, 114, 64, 103, 114, 111, 117, 112, 58, 51, 35, 109, 101, 109, 98, 101, 114]⟩

theorem six0_ok : six0.ok = true := by decide +kernel
theorem six0_text : six0.printed = text0 := by decide +kernel
theorem six0_of : Six.of text0 = six0 := by
  have h : (Six.of text0).a = six0.a ∧ (Six.of text0).b = six0.b ∧ (Six.of text0).c = six0.c ∧ (Six.of text0).d = six0.d ∧ (Six.of text0).e = six0.e ∧ (Six.of text0).f = six0.f := by decide +kernel
  obtain ⟨h1, h2, h3, h4, h5, h6⟩ := h
  generalize Six.of text0 = x at *
  cases x
  simp only at h1 h2 h3 h4 h5 h6
  subst h1 h2 h3 h4 h5 h6
  rfl
theorem parse0 : parseV text0 = .tuple #[six0.val, .int .i64 0] := by
  unfold parseV
  rw [if_pos, six0_of]
  unfold isText
  rw [six0_of, six0_ok]
  decide +kernel
theorem parse_none : parseV ⟨#[]⟩ = .tuple #[Six.none.val, .int .i64 9] := by
  unfold parseV
  rw [if_neg]
  decide +kernel

set_option maxRecDepth 100000 in
set_option maxHeartbeats 1000000 in
theorem fixed_any (w : World) : Calls Tryd.prog 5 #[] w (SaysTrue w) := by
  have hprint := fun w => print_any w six0 (by unfold Six.short; decide)
  rw [six0_text, six0_ok] at hprint
  have hparse := fun w => parse_any w text0 (by decide)
  rw [parse0] at hparse
  have hparse' := fun w => parse_any w ⟨#[]⟩ (by decide)
  rw [parse_none] at hparse'
  unfold six0 text0 Six.val checkV Six.none at *
  simp only [if_pos] at hprint hparse hparse'
  have HP := Lib.hid hprint
  have HQ := Lib.hid hparse
  have HR := Lib.hid hparse'
  clear hprint hparse hparse'
  go_enter Tryd.func5, Tryd.ntmps5
  go_wp2_with (go_at_call 14; go_must (refine (HP.out _).mono ?_))
  rintro e w1 ⟨rfl, b1⟩
  have hb1 : Below w.heap.size w w1 := ((Below.refl _ w).alloc (Nat.le_refl _) _).trans (b1.mono (by simp))
  have h1 := below_block b1 (heap_alloc_new w _) (by simp)
  have H1 := Lib.hid h1
  have B1 := Lib.hid hb1
  clear b1 h1 hb1
  go_wp2_with (go_at_call 6; go_must (refine (HQ.out _).mono ?_))
  rintro e w2 ⟨rfl, b2⟩
  have h2 := below_block b2 H1.out (Array.getElem?_eq_some_iff.1 H1.out).1
  have hb2 := B1.out.trans (b2.mono B1.out.size)
  have H2 := Lib.hid h2
  have B2 := Lib.hid hb2
  clear b2 h2 hb2 H1 B1
  go_wp2_with (go_at_call 6; go_must (refine (HR.out _).mono ?_))
  rintro e w3 ⟨rfl, b3⟩
  have hs2 : w.heap.size < w2.heap.size := (Array.getElem?_eq_some_iff.1 H2.out).1
  have h3 := below_block b3 ((Below.heap_alloc w2 _ _ hs2).trans H2.out) (by simp; omega)
  have k3 := below_block b3 (heap_alloc_new w2 _) (by simp)
  have hb3 : Below w.heap.size w w3 := (B2.out.alloc B2.out.size _).trans (b3.mono (by simp; omega))
  have hs3 : w2.heap.size < w3.heap.size := (Array.getElem?_eq_some_iff.1 k3).1
  have hs1 : w.heap.size < w3.heap.size := by omega
  have c0 := Lib.cell_of_heap h3 0
  have c1 := Lib.cell_of_heap h3 1
  have c2 := Lib.cell_of_heap h3 2
  have c3 := Lib.cell_of_heap h3 3
  have c4 := Lib.cell_of_heap h3 4
  have c5 := Lib.cell_of_heap h3 5
  have d0 := Lib.cell_of_heap k3 0
  have d1 := Lib.cell_of_heap k3 1
  have d2 := Lib.cell_of_heap k3 2
  have d3 := Lib.cell_of_heap k3 3
  have d4 := Lib.cell_of_heap k3 4
  have d5 := Lib.cell_of_heap k3 5
  simp at c0 c1 c2 c3 c4 c5 d0 d1 d2 d3 d4 d5
  have hb4 : ∀ o, Below w.heap.size w (w3.alloc o) := fun o => hb3.alloc hb3.size o
  have B4 := Lib.hid hb4
  clear h3 k3 b3 hb3 hb4 hs2
  go_wp2
  go_ret
  exact ⟨rfl, B4.out _⟩
end Go.Proofs.YtidnalihgihnaaaDoor
