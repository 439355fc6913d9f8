import Derived.Test.YtoibhkmlebcepaaDoorWalSame
import Derived.Test.YtoibhkmlebcepaaDoorFrameTrip
namespace Go.Proofs.YtoibhkmlebcepaaDoor
open Go Go.RowKit

def oneE : List Ent := [⟨⟨#[97]⟩, 1, false⟩]
theorem right_one : rightB 1 oneE = true := by decide +kernel
theorem right_none : rightB 0 [] = false := by decide +kernel
theorem rec_one : recL 1 oneE = [1, 1, 0, 1, 97] := by
  unfold recL recTo oneE
  simp [entB, enc_lt, ByteArray.size]
theorem dec_one : decL [1, 1, 0, 1, 97] = some (1, oneE) := by rfl

theorem repl_one {l : List UInt8} {rev : Nat} {es : List Ent} (hl : l.length < 4294967296) (h : decL l = some (rev, es)) : replGo none (sealL l) = ([(rev, es)], (sealL l).length) := by
  have h1 := next_seal hl []
  have h2 := nextN_seal hl []
  rw [List.append_nil] at h1 h2
  have h3 : (sealL l).drop (nextN (sealL l)) = [] := by
    rw [h2]
    exact List.drop_eq_nil_of_le (by rw [sealL_length]; omega)
  rw [repl_more (by rw [h1]) (by rw [h1]; exact h) rfl, h3, repl_stop (by rw [next_nil]; decide), h2, sealL_length]
  rfl

theorem repl_none : replGo none [] = ([], 0) := repl_stop (by rw [next_nil]; decide)

theorem Sl.of_reads {w : World} {v : Value} {l : List UInt8} (h : Reads w 1 v l.length (bcells l)) (hn : 0 < l.length) : Sl w.heap.size w v l := by
  have h' := h
  obtain ⟨bb, off, cap, rfl, _, _, _, hc⟩ := h.head hn
  exact .inr ⟨bb, off, cap, rfl, fun _ => World.block_lt_of_cell? _ _ (hc 0 hn), fun _ => World.block_lt_of_cell? _ _ (hc 0 hn), h'⟩

theorem one_reads (w : World) : Reads (w.alloc (.cells #[.string ⟨#[97]⟩, .int .u64 1, .bool false] 48)) 3 (.slice (some ⟨w.heap.size, 0, none⟩) 1 1) 1 (ecells oneE) := by
  refine ⟨rfl, _, 1, rfl, Nat.le_refl _, by decide, fun j u hj => ⟨_, _, rfl, by simp, ?_⟩⟩
  rw [show (0 + j) = j by omega, World.cell?_alloc_mark w _ _ (0, 0) j]
  simpa [ecells, oneE, ecell] using hj
end Go.Proofs.YtoibhkmlebcepaaDoor
