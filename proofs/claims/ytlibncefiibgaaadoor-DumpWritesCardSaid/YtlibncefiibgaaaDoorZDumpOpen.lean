/- A slice of tuples that came in. -/
import Derived.Test.YtlibncefiibgaaaDoorZTupleOpen
import Derived.Test.YtlibncefiibgaaaDoorMga
import Derived.Test.YtlibncefiibgaaaDoorZDumpM
namespace Go.Proofs.YtlibncefiibgaaaDoor
open Go Go.RowKit Go.Joins Go.WideShapes Go.ChangeShapes Go.ChangeAt Go.Deep

section
variable {H : Type} {enc : TypeId × Value → H} {w : World} {base : Nat} {spare : Nat → Bool} {held : Bool}

instance inhSix36 : Inhabited Six := ⟨Six.none⟩

theorem list6 {α : Type} {cs : List α} (h : cs.length = 6) : ∃ c0 c1 c2 c3 c4 c5, cs = [c0, c1, c2, c3, c4, c5] := by
  match cs, h with
  | [c0, c1, c2, c3, c4, c5], _ => exact ⟨c0, c1, c2, c3, c4, c5, rfl⟩

set_option maxRecDepth 100000 in
theorem six_cs (n : Nat) (cs : List Value) (y : DataW H × List MemPlace) (hl : cs.length = 6) (hf : DataW.trod enc Tryd.prog w base spare held n 37 cs = some y) : ∃ x : Six, cs = Six.cells x ∧ True := by
  obtain ⟨c0, c1, c2, c3, c4, c5, rfl⟩ := list6 hl
  obtain ⟨y0, y1, y2, n, _, _, h0, h1, h2⟩ := trod_struct3 Tryd.underlying37 hf
  have k9 : Tryd.prog.cellsOf 9 = 1 := by kernel_rfl
  have k25 : Tryd.prog.cellsOf 33 = 2 := by kernel_rfl
  have k27 : Tryd.prog.cellsOf 35 = 3 := by kernel_rfl
  rw [k25] at h0
  rw [k9] at h1
  rw [k27] at h2
  simp at h0 h1 h2
  obtain ⟨y3, y4, m, _, _, h3, h4⟩ := trod_struct2 Tryd.underlying35 h2
  rw [k25] at h3
  rw [k9] at h4
  simp at h3 h4
  obtain ⟨s0, s1, rfl, rfl, b0, b1⟩ := obj_open h0
  obtain ⟨s2, rfl, b2⟩ := one_string h1
  obtain ⟨s3, s4, rfl, rfl, b3, b4⟩ := obj_open h3
  obtain ⟨s5, rfl, b5⟩ := one_string h4
  exact ⟨⟨s0, s1, s2, s3, s4, s5⟩, rfl, trivial⟩

set_option maxRecDepth 100000 in
theorem tups_open {r : Reach} {b0 : Nat} {v : Value} {d : DataW H} {p : List MemPlace} (hv : Value.okWide Tryd.prog w r b0 22 v) (h : DataW.Trod enc Tryd.prog w base spare held 22 v d p) :
    ∃ a len cap, ∃ l : List Six, v = .slice a len cap ∧ l.length = len ∧ Reads w 6 (.slice a len cap) len (tcells l) := by
  have k6 : Tryd.prog.cellsOf 37 = 6 := by kernel_rfl
  obtain ⟨a, len, cap, l, h1, _, _, h2, _, h3⟩ := slice_rows (s := 6) Six.cells (fun _ => True) Tryd.underlying22 k6 (by decide) (fun _ => rfl) six_cs hv h
  exact ⟨a, len, cap, l, h1, h2, h3⟩
end
end Go.Proofs.YtlibncefiibgaaaDoor
