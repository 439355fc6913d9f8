import Derived.Test.YtlibncefiibgaaaDoorTupleListM
namespace Go.Proofs.YtlibncefiibgaaaDoor
open Go Go.RowKit

/-- A tuple that lies in a row of its own. -/
theorem tups_one {w : World} {b : Nat} {t : Six} {e : TypeId} (h : w.heap[b]? = some (.cells (scells t.list).toArray e (0, 0))) : TupsAt w b [t] := by
  intro j t' hj i s hi
  have : j = 0 := by
    have := (List.getElem?_eq_some_iff.1 hj).1
    simp at this
    exact this
  subst this
  simp at hj
  subst hj
  rw [Nat.zero_mul, Nat.zero_add, Lib.cell_of_heap h i]
  simp [scells, hi]

theorem six_cells {w : World} {b : Nat} {t : Six} {e : TypeId} (h : w.heap[b]? = some (.cells (scells t.list).toArray e (0, 0))) :
    w.cell? ⟨b, 0, none⟩ = some (.string t.a) ∧ w.cell? ⟨b, 1, none⟩ = some (.string t.b) ∧ w.cell? ⟨b, 2, none⟩ = some (.string t.c) ∧ w.cell? ⟨b, 3, none⟩ = some (.string t.d) ∧ w.cell? ⟨b, 4, none⟩ = some (.string t.e) ∧ w.cell? ⟨b, 5, none⟩ = some (.string t.f) :=
  ⟨Lib.cell_of_heap h 0, Lib.cell_of_heap h 1, Lib.cell_of_heap h 2, Lib.cell_of_heap h 3, Lib.cell_of_heap h 4, Lib.cell_of_heap h 5⟩

end Go.Proofs.YtlibncefiibgaaaDoor
