import Derived.Test.YtodjgdaaggajcaaBase
import Derived.Test.YtodjgdaaggajcaaBloomMath
import Derived.Laws.Bits64
import Derived.Laws.Bits64b
namespace Go.Proofs.Ytodjgdaaggajcaa
open Go Go.RowKit

theorem hash_step (h : Nat) (c : UInt8) (hh : h < 18446744073709551616) :
    IntKind.u64.wrap (bits BinOp.xor .u64 (h : Int) (IntKind.u64.wrap (c.toNat : Int)) * 1099511628211) = (hashStep h c : Int) := by
  have hc := c.toNat_lt
  rw [show IntKind.u64.wrap (c.toNat : Int) = (c.toNat : Int) from by rw [IntKind.wrap_u64]; omega]
  rw [bits_xor_u64_nat h c.toNat hh (by omega), IntKind.wrap_u64, hashStep]
  simp

theorem take_succ_getD (l : List UInt8) (k : Nat) (h : k < l.length) : l.take (k + 1) = l.take k ++ [l.getD k 0] := by
  rw [List.take_add_one, List.getElem?_eq_getElem h]; simp [List.getD, h]

theorem hashL_succ (l : List UInt8) (k : Nat) (h : k < l.length) : hashL (l.take (k + 1)) = hashStep (hashL (l.take k)) (l.getD k 0) := by
  unfold hashL
  rw [take_succ_getD l k h, List.foldl_append, List.foldl_cons, List.foldl_nil]

def HashRel (l : List UInt8) (h i : Value) : Prop := ∃ k : Nat, i = .int .i64 (k : Int) ∧ k ≤ l.length ∧ h = .int .u64 (hashL (l.take k) : Int)

set_option maxRecDepth 100000 in
set_option maxHeartbeats 400000 in
theorem hash_any (w : World) (s : ByteArray) (hs : s.size ≤ 1000000000) :
    Calls Try.prog 12 #[.string s] w (GivesU64 w (hashL s.data.toList)) := by
  have hsl : s.data.toList.length = s.size := Array.length_toList
  have Hsl := Lib.hid hsl
  clear hsl
  go_enter Try.func12, Try.ntmps12
  go_wp2_with (refine wpList_bytes rfl _ 9 25 5 rfl Try.underlying9 Try.underlying25 Try.underlying5 s rfl ?_ ?_)
  · unfold maxLen; omega
  intro cap w1 r1 g1 b1 lt1
  go_wp2
  go_loop [3, 9] (fun h i => HashRel s.data.toList h i) (fun _ i => s.size - (intOf i).toNat)
  case atStart => exact ⟨0, rfl, Nat.zero_le _, rfl⟩
  case round =>
    obtain ⟨k, rfl, hk, rfl⟩ := hrel
    rw [Hsl.out] at hk
    by_cases hlt : k < s.size
    · have hst := hash_step (hashL (s.data.toList.take k)) (s.data.toList.getD k 0) (hashL_lt _)
      rw [← hashL_succ _ k (by rw [Hsl.out]; exact hlt)] at hst
      have c1 := r1.bcell k hlt
      simp only [Nat.zero_add] at c1
      generalize s.data.toList.getD k 0 = c at c1 hst
      have Hst := Lib.hid hst
      clear hst
      go_wp2_with fail
      rw [Hst.out]
      exact ⟨⟨k + 1, by go_num, by rw [Hsl.out]; omega, rfl⟩, by simp [intOf]; omega⟩
    · have e : List.take k s.data.toList = s.data.toList := List.take_of_length_le (by rw [Hsl.out]; omega)
      have E := Lib.hid e
      clear e
      go_wp2
      go_ret
      rw [E.out]
      exact ⟨rfl, b1⟩
end Go.Proofs.Ytodjgdaaggajcaa
