/- A tuple that came in: six strings. -/
import Derived.Test.YtlibncefiibgaaaDoorMga
import Derived.ProofKit
import Derived.OpenShut
import Derived.ShutString
import Derived.ChangeOld
import Derived.Lib.SmallJoins
import Derived.Deep.Strs
namespace Go.Proofs.YtlibncefiibgaaaDoor
open Go Go.RowKit Go.Joins Go.WideShapes Go.ChangeShapes Go.ChangeAt Go.Deep

section
variable {H : Type} {enc : TypeId × Value → H} {w : World} {base : Nat} {spare : Nat → Bool} {held : Bool}

theorem array6 {α : Type} {cs : Array α} (h : cs.size = 6) : ∃ c0 c1 c2 c3 c4 c5, cs = #[c0, c1, c2, c3, c4, c5] := by
  obtain ⟨l⟩ := cs
  match l, h with
  | [c0, c1, c2, c3, c4, c5], _ => exact ⟨c0, c1, c2, c3, c4, c5, rfl⟩

theorem one_string {n : Nat} {c : Value} {y : DataW H × List MemPlace} (h : DataW.trod enc Tryd.prog w base spare held n 9 [c] = some y) : ∃ s : ByteArray, c = .string s ∧ s.size ≤ maxLen := by
  obtain ⟨s, e, _, hs⟩ := DataW.trod_string Tryd.underlying9 h
  simp only [List.cons.injEq, and_true] at e
  exact ⟨s, e, hs⟩

set_option maxRecDepth 100000 in
theorem obj_open {n : Nat} {c0 c1 : Value} {y : DataW H × List MemPlace} (h : DataW.trod enc Tryd.prog w base spare held n 33 [c0, c1] = some y) :
    ∃ s0 s1 : ByteArray, c0 = .string s0 ∧ c1 = .string s1 ∧ s0.size ≤ maxLen ∧ s1.size ≤ maxLen := by
  obtain ⟨y0, y1, m, _, _, h0, h1⟩ := trod_struct2 Tryd.underlying33 h
  have k9 : Tryd.prog.cellsOf 9 = 1 := by kernel_rfl
  rw [k9] at h0 h1
  simp at h0 h1
  obtain ⟨s0, rfl, b0⟩ := one_string h0
  obtain ⟨s1, rfl, b1⟩ := one_string h1
  exact ⟨s0, s1, rfl, rfl, b0, b1⟩

set_option maxRecDepth 100000 in
theorem six_open {r : Reach} {b0 : Nat} {v : Value} {d : DataW H} {p : List MemPlace} (hv : Value.okWide Tryd.prog w r b0 37 v) (h : DataW.Trod enc Tryd.prog w base spare held 37 v d p) :
    ∃ t : Six, v = t.val ∧ t.short maxLen := by
  obtain ⟨cs, rfl, hsz⟩ := okWide_struct Tryd.underlying37 hv
  have k29 : Tryd.prog.cellsOf 37 = 6 := by kernel_rfl
  obtain ⟨c0, c1, c2, c3, c4, c5, rfl⟩ := array6 (hsz.trans k29)
  obtain ⟨fuel, hf⟩ := h
  obtain ⟨y0, y1, y2, n, _, _, h0, h1, h2⟩ := trod_struct3 Tryd.underlying37 hf
  have k9 : Tryd.prog.cellsOf 9 = 1 := by kernel_rfl
  have k25 : Tryd.prog.cellsOf 33 = 2 := by kernel_rfl
  have k27 : Tryd.prog.cellsOf 35 = 3 := by kernel_rfl
  rw [k25] at h0
  rw [k9] at h1
  rw [k27] at h2
  simp [Value.cells] at h0 h1 h2
  obtain ⟨y3, y4, m, _, _, h3, h4⟩ := trod_struct2 Tryd.underlying35 h2
  rw [k25] at h3
  rw [k9] at h4
  simp at h3 h4
  obtain ⟨s0, s1, rfl, rfl, b0, b1⟩ := obj_open h0
  obtain ⟨s2, rfl, b2⟩ := one_string h1
  obtain ⟨s3, s4, rfl, rfl, b3, b4⟩ := obj_open h3
  obtain ⟨s5, rfl, b5⟩ := one_string h4
  exact ⟨⟨s0, s1, s2, s3, s4, s5⟩, rfl, b0, b1, b2, b3, b4, b5⟩

end
end Go.Proofs.YtlibncefiibgaaaDoor
