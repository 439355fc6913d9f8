import Derived.Test.YtkcaadkamaogbaaDoorTupleCells
namespace Go.Proofs.YtkcaadkamaogbaaDoor
open Go Go.RowKit

/-- A tuple lies in block b. -/
def LiesAt (w : World) (b : Nat) (t : Six) : Prop := w.heap[b]? = some (.cells (scells t.list).toArray 27 (0, 0))

theorem LiesAt.below {w w' : World} {b : Nat} {t : Six} (h : LiesAt w b t) (hb : Below w.heap.size w w') : LiesAt w' b t := below_block hb h (Array.getElem?_eq_some_iff.1 h).1
theorem LiesAt.lt {w : World} {b : Nat} {t : Six} (h : LiesAt w b t) : b < w.heap.size := (Array.getElem?_eq_some_iff.1 h).1
theorem LiesAt.alloc {w : World} {b : Nat} {t : Six} (h : LiesAt w b t) (o : Obj) : LiesAt (w.alloc o) b t := (Below.heap_alloc w o b h.lt).trans h
theorem LiesAt.new (w : World) (t : Six) : LiesAt (w.alloc (.cells (scells t.list).toArray 27)) w.heap.size t := heap_alloc_new w _

end Go.Proofs.YtkcaadkamaogbaaDoor
