/- Writes that came in. -/
import Derived.Test.YtkcaadkamaogbaaDoorSliceOpen
import Derived.Test.YtkcaadkamaogbaaDoorIndexEntries
import Derived.Test.YtkcaadkamaogbaaDoorTupleOpen
namespace Go.Proofs.YtkcaadkamaogbaaDoor
open Go Go.RowKit Go.Joins Go.WideShapes Go.ChangeShapes Go.ChangeAt Go.Deep

section
variable {H : Type} {enc : TypeId × Value → H} {w : World} {base : Nat} {spare : Nat → Bool} {held : Bool}

theorem six_trod {n : Nat} {cs : List Value} {y : DataW H × List MemPlace} (hl : cs.length = 6) (h : DataW.trod enc Tryd.prog w base spare held n 27 cs = some y) :
    ∃ t : Six, cs = scells t.list ∧ t.short maxLen := by
  match cs, hl with
  | [c0, c1, c2, c3, c4, c5], _ =>
    obtain ⟨y0, y1, y2, n, _, _, h0, h1, h2⟩ := trod_struct3 Tryd.underlying27 h
    have k9 : Tryd.prog.cellsOf 9 = 1 := by kernel_rfl
    have k25 : Tryd.prog.cellsOf 23 = 2 := by kernel_rfl
    have k27 : Tryd.prog.cellsOf 25 = 3 := by kernel_rfl
    rw [k25] at h0
    rw [k9] at h1
    rw [k27] at h2
    simp at h0 h1 h2
    obtain ⟨y3, y4, m, _, _, h3, h4⟩ := trod_struct2 Tryd.underlying25 h2
    rw [k25] at h3
    rw [k9] at h4
    simp at h3 h4
    obtain ⟨s0, s1, rfl, rfl, b0, b1⟩ := obj_open h0
    obtain ⟨s2, rfl, b2⟩ := one_string h1
    obtain ⟨s3, s4, rfl, rfl, b3, b4⟩ := obj_open h3
    obtain ⟨s5, rfl, b5⟩ := one_string h4
    exact ⟨⟨s0, s1, s2, s3, s4, s5⟩, rfl, b0, b1, b2, b3, b4, b5⟩

theorem one_bool {n : Nat} {c : Value} {y : DataW H × List MemPlace} (h : DataW.trod enc Tryd.prog w base spare held n 4 [c] = some y) : ∃ b : Bool, c = .bool b := by
  obtain ⟨b, e, _⟩ := DataW.trod_bool Tryd.underlying4 h
  simp only [List.cons.injEq, and_true] at e
  exact ⟨b, e⟩

theorem writes_open {r : Reach} {b0 : Nat} {v : Value} {d : DataW H} {p : List MemPlace} (hv : Value.okWide Tryd.prog w r b0 45 v) (h : DataW.Trod enc Tryd.prog w base spare held 45 v d p) :
    ∃ a len cap l, v = .slice a len cap ∧ len ≤ cap ∧ cap ≤ maxLen ∧ l.length = len ∧ (∀ x ∈ l, Six.short x.2 maxLen) ∧ Reads w 7 (.slice a len cap) len (wcells l) := by
  have : Inhabited (Bool × Six) := ⟨(false, Six.none)⟩
  refine slice_rows wcell (fun x => x.2.short maxLen) Tryd.underlying45 (by kernel_rfl) (by decide) wcell_length (fun n cs y hl ht => ?_) hv h
  obtain ⟨y0, y1, m, _, _, h0, h1⟩ := trod_struct2 Tryd.underlying47 ht
  have k4 : Tryd.prog.cellsOf 4 = 1 := by kernel_rfl
  have k27 : Tryd.prog.cellsOf 27 = 6 := by kernel_rfl
  rw [k4] at h0
  rw [k27] at h1
  match cs, hl with
  | c :: cs, hl =>
    simp at h0 h1
    obtain ⟨b, rfl⟩ := one_bool h0
    have hl6 : cs.length = 6 := by simpa using hl
    rw [List.take_of_length_le (by omega)] at h1
    obtain ⟨t, rfl, hts⟩ := six_trod hl6 h1
    exact ⟨(b, t), rfl, hts⟩
end
end Go.Proofs.YtkcaadkamaogbaaDoor
