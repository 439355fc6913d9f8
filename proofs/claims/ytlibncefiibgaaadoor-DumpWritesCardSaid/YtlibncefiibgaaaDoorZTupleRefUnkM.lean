import Derived.Test.YtlibncefiibgaaaDoorZTupleRefCheck
namespace Go.Proofs.YtlibncefiibgaaaDoor
open Go Go.RowKit

/-- A row that lies in a block of its own is read whole. -/
theorem reads_block {w : World} {b n : Nat} {xs : List Value} {e : TypeId} {fz : Nat × Nat} (h : w.heap[b]? = some (.cells xs.toArray e fz)) (hl : xs.length = n) (hn : n ≤ maxLen) :
    Reads w 1 (.slice (some ⟨b, 0, none⟩) n n) n xs := by
  refine ⟨by omega, _, n, rfl, Nat.le_refl _, hn, fun j u hj => ⟨b, 0, rfl, (Array.getElem?_eq_some_iff.1 h).1, ?_⟩⟩
  rw [Nat.zero_add, Lib.cell_of_heap h j]
  simpa using hj

theorem make_six (w : World) : (Instr.makeSlice 38 (.int .i64 6) (.int .i64 6)).run Tryd.prog w =
    .ok (.slice (some ⟨w.heap.size, 0, none⟩) 6 6) (w.alloc (.cells #[.string ⟨#[]⟩, .string ⟨#[]⟩, .string ⟨#[]⟩, .string ⟨#[]⟩, .string ⟨#[]⟩, .string ⟨#[]⟩] 9)) := by kernel_rfl

end Go.Proofs.YtlibncefiibgaaaDoor
