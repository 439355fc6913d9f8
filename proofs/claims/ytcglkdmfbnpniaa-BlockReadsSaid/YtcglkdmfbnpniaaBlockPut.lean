/- put and get. -/
import Derived.Test.YtcglkdmfbnpniaaBlockM
import Derived.Test.YtcglkdmfbnpniaaOwns
import Derived.BigQuiet
import Derived.Deep.QuietTactic
namespace Go.Proofs.Ytcglkdmfbnpniaa
open Go Go.RowKit

def Grows (B : Nat) (w : World) (v : Value) (xs : List UInt8) (e : Ending) (w' : World) : Prop :=
  ∃ v', e = .returned v' ∧ w'.ownsRow B 5 1 v' xs.length (bcells xs) ∧ Below B w w' ∧ w.grownBy w' v.ownBlock ∧ Moves w v v'

set_option maxRecDepth 100000 in
set_option maxHeartbeats 1000000 in
theorem put4_any (B : Nat) (w : World) (v : Value) (xs : List UInt8) (N : Nat) (h : w.ownsRow B 5 1 v xs.length (bcells xs)) (hB : B ≤ w.heap.size) (hn : xs.length ≤ 1000000000) (hN : N < 4294967296) :
    Calls Try.prog 21 #[v, .int .i64 N] w (Grows B w v (xs ++ be4 N)) := by
  obtain ⟨i0, hi, hz0, hz1, hz2⟩ := info_parts info5
  have hbe : (xs ++ be4 N).length = xs.length + 4 := by simp [be4]
  have Hbe := Lib.hid hbe
  clear hbe
  go_enter Try.func21, Try.ntmps21
  go_wp2_with (at_builtin; go_must (refine wpList_append_owns_lits (w0 := w) rfl _ _ 26 rfl B 5 i0 (.int .u8 0) 1 Try.underlying26 hi hz0 hz1 hz2 rfl [.int .u8 ((N : Int) / 16777216), .int .u8 ((N : Int) / 65536 % 256), .int .u8 ((N : Int) / 256 % 256), .int .u8 ((N : Int) % 256)] 4 rfl h rfl rfl (fun u hu => by simp at hu; rcases hu with rfl | rfl | rfl | rfl <;> rfl) ?_ ?_ hB ?_))
  · unfold maxLen; omega
  · omega
  intro v' w1 f1 g1 b1 m1
  have e4 : bcells xs ++ [Value.int .u8 ((N : Int) / 16777216), .int .u8 ((N : Int) / 65536 % 256), .int .u8 ((N : Int) / 256 % 256), .int .u8 ((N : Int) % 256)] = bcells (xs ++ be4 N) := by
    simp [bcells, be4]
    omega
  rw [e4] at f1
  have F1 := Lib.hid f1
  clear f1 e4
  go_wp2
  go_ret
  refine ⟨_, rfl, ?_, b1, g1, m1⟩
  rw [Hbe.out]
  exact F1.out
end Go.Proofs.Ytcglkdmfbnpniaa
