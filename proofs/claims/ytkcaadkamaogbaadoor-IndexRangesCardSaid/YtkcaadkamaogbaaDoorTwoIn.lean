import Derived.Test.YtkcaadkamaogbaaDoorLies
namespace Go.Proofs.YtkcaadkamaogbaaDoor
open Go Go.RowKit

theorem tups_two {w : World} {b : Nat} {p q : Six} {e : TypeId} (h : w.heap[b]? = some (.cells (scells (p.list ++ q.list)).toArray e (0, 0))) : TupsAt w b [p, q] := by
  intro j t' hj i s hi
  have hj2 : j < 2 := by
    have := (List.getElem?_eq_some_iff.1 hj).1
    simpa using this
  have hi6 : i < 6 := by
    have := (List.getElem?_eq_some_iff.1 hi).1
    have h6 : t'.list.length = 6 := rfl
    omega
  rw [Lib.cell_of_heap h]
  have : j = 0 ∨ j = 1 := by omega
  rcases this with rfl | rfl
  · simp at hj
    subst hj
    have hlen : i < p.list.length := hi6
    simp only [scells, List.getElem?_toArray, List.getElem?_map]
    rw [List.getElem?_append_left (by omega), Nat.zero_mul, Nat.zero_add, hi]
    rfl
  · simp at hj
    subst hj
    have hlen : p.list.length ≤ 1 * 6 + i := by show 6 ≤ 1 * 6 + i; omega
    simp only [scells, List.getElem?_toArray, List.getElem?_map]
    rw [List.getElem?_append_right hlen, show 1 * 6 + i - p.list.length = i from by show 1 * 6 + i - 6 = i; omega, hi]
    rfl

/-- The two tuples of the law lie where they lay. -/
def TwoIn (w : World) (p q : Six) (wk : World) : Prop :=
  Below w.heap.size w wk ∧ wk.heap[w.heap.size]? = some (.cells (scells p.list).toArray 27 (0, 0)) ∧ wk.heap[w.heap.size + 1]? = some (.cells (scells q.list).toArray 27 (0, 0))

theorem TwoIn.step {w wk wk' : World} {p q : Six} (h : TwoIn w p q wk) (hb : Below wk.heap.size wk wk') : TwoIn w p q wk' :=
  ⟨h.1.trans (hb.mono h.1.size), below_block hb h.2.1 (Array.getElem?_eq_some_iff.1 h.2.1).1, below_block hb h.2.2 (Array.getElem?_eq_some_iff.1 h.2.2).1⟩


theorem TwoIn.start (w : World) (p q : Six) : TwoIn w p q ((w.alloc (.cells (scells p.list).toArray 27)).alloc (.cells (scells q.list).toArray 27)) := by
  refine ⟨((Below.refl _ _).alloc (Nat.le_refl _) _).alloc (by simp) _, (Below.heap_alloc (w.alloc (.cells (scells p.list).toArray 27)) _ _ (by simp)).trans (heap_alloc_new w _), ?_⟩
  have := heap_alloc_new (w.alloc (.cells (scells p.list).toArray 27)) (.cells (scells q.list).toArray 27)
  simpa using this

theorem TwoIn.keep {w wk wk' : World} {p q : Six} (h : TwoIn w p q wk) (hb : Below wk.heap.size wk wk') : TwoIn w p q wk' := h.step hb
end Go.Proofs.YtkcaadkamaogbaaDoor
