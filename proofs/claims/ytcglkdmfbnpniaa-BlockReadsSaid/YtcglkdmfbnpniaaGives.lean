import Derived.Test.YtcglkdmfbnpniaaBase
namespace Go.Proofs.Ytcglkdmfbnpniaa
open Go Go.RowKit

/-- A value is told; nothing old is changed. -/
def GivesVal (w : World) (v : Value) (e : Ending) (w' : World) : Prop := e = .returned v ∧ Below w.heap.size w w'

theorem below_block {B : Nat} {w w' : World} (h : Below B w w') {g : Nat} {o : Obj} (hg : w.heap[g]? = some o) (hB : g < B) : w'.heap[g]? = some o := (h.block g hB).trans hg
end Go.Proofs.Ytcglkdmfbnpniaa
