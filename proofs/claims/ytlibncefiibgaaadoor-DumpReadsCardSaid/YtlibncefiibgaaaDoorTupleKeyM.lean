import Derived.Test.YtlibncefiibgaaaDoorTupleOrderMath
namespace Go.Proofs.YtlibncefiibgaaaDoor
open Go Go.RowKit

theorem keyL_append (p q : List (List UInt8)) : keyL (p ++ q) = keyL p ++ keyL q := by
  induction p with
  | nil => rfl
  | cons x p ih => simp [keyL, ih]

def lists (l : List ByteArray) : List (List UInt8) := l.map (·.data.toList)

theorem six_lists (t : Six) : lists t.list = t.bytes := rfl

/-- The first k parts, as a key has them. -/
def keyTo (t : Six) (k : Nat) : List UInt8 := keyL (lists (t.list.take k))

theorem keyTo_succ {t : Six} {k : Nat} {s : ByteArray} (h : t.list[k]? = some s) : keyTo t (k + 1) = keyTo t k ++ s.data.toList ++ [0] := by
  unfold keyTo
  rw [List.take_add_one, h]
  simp [lists, keyL_append, keyL]

theorem keyTo_length {t : Six} (h : t.short 1000000) (k : Nat) : (keyTo t k).length ≤ 6000006 := by
  obtain ⟨h1, h2, h3, h4, h5, h6⟩ := h
  have e : ∀ (p q : List (List UInt8)), (keyL p).length ≤ (keyL (p ++ q)).length := fun p q => by rw [keyL_append, List.length_append]; omega
  have := e (lists (t.list.take k)) (lists (t.list.drop k))
  rw [show lists (t.list.take k) ++ lists (t.list.drop k) = t.bytes from by unfold lists; rw [← List.map_append, List.take_append_drop]; rfl] at this
  refine Nat.le_trans this ?_
  simp [Six.bytes, keyL]
  omega

end Go.Proofs.YtlibncefiibgaaaDoor
