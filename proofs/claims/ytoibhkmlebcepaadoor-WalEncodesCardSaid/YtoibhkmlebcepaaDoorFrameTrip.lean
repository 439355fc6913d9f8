import Derived.Test.YtoibhkmlebcepaaDoorFrameNext2
import Derived.Lib.SlBytesConst
import Derived.Lib.SmallJoins
namespace Go.Proofs.YtoibhkmlebcepaaDoor
open Go Go.RowKit

theorem next_seal {l : List UInt8} (h : l.length < 4294967296) (r : List UInt8) : nextL (sealL l ++ r) = (0, l) := by
  have e0 : sealL l ++ r = be4 l.length ++ (be4 (sumL l) ++ l ++ r) := by simp [sealL]
  have e1 : num4 (sealL l ++ r) = l.length := by rw [e0, num4_be4 h]
  have e2 : (sealL l ++ r).length = 8 + l.length + r.length := by rw [List.length_append, sealL_length]
  have e3 : (sealL l ++ r).drop 8 = l ++ r := by simp [sealL, be4]
  have e4 : (sealL l ++ r).drop 4 = be4 (sumL l) ++ (l ++ r) := by simp [sealL, be4]
  unfold nextL
  rw [e1, e2, if_neg (by omega), e3, e4, num4_be4 (sumL_lt l), List.take_left, if_pos rfl]

theorem nextN_seal {l : List UInt8} (h : l.length < 4294967296) (r : List UInt8) : nextN (sealL l ++ r) = 8 + l.length := by
  rw [nextN, next_seal h]; rfl

theorem sum_fixed : sumL [49, 50, 51, 52, 53, 54, 55, 56, 57] = 3421780262 := by decide +kernel

theorem lits_read (w : World) (l : List UInt8) (n : Nat) (fr : Nat × Nat) (hl : l.length = n) (hn : n ≤ maxLen) : Reads (w.alloc (.cells (bcells l).toArray 5 fr)) 1 (.slice (some ⟨w.heap.size, 0, none⟩) n n) n (bcells l) := by
  refine ⟨by rw [bcells_length]; omega, _, n, rfl, Nat.le_refl _, hn, fun j u hj => ⟨_, _, rfl, by simp, ?_⟩⟩
  rw [show (0 + j) = j by omega, World.cell?_alloc_mark w _ _ fr j]
  simpa using hj
end Go.Proofs.YtoibhkmlebcepaaDoor
