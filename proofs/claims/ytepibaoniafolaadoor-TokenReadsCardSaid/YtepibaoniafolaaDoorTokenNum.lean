import Derived.Test.YtepibaoniafolaaDoorTokenMake
namespace Go.Proofs.YtepibaoniafolaaDoor
open Go Go.RowKit

/-- The number of bytes, the highest first. -/
def numB (l : List UInt8) : Nat := l.foldl (fun a c => a * 256 + c.toNat) 0

theorem numB_snoc (l : List UInt8) (c : UInt8) : numB (l ++ [c]) = numB l * 256 + c.toNat := by simp [numB]

theorem foldB_lt (l : List UInt8) : ∀ a, l.foldl (fun a c => a * 256 + c.toNat) a < (a + 1) * 256 ^ l.length := by
  induction l with
  | nil => intro a; simp
  | cons c l ih =>
    intro a
    have := c.toNat_lt
    have hle : a * 256 + c.toNat + 1 ≤ (a + 1) * 256 := by omega
    refine Nat.lt_of_lt_of_le (ih _) ?_
    rw [List.length_cons, Nat.pow_succ, Nat.mul_comm (256 ^ l.length) 256, ← Nat.mul_assoc]
    exact Nat.mul_le_mul_right _ hle

theorem numB_lt (l : List UInt8) : numB l < 256 ^ l.length := by
  have := foldB_lt l 0
  simpa [numB] using this

def NumRel (l : List UInt8) (j n : Nat) (kd : IntKind) (r i : Value) : Prop :=
  ∃ k : Nat, i = .int .i64 (k : Int) ∧ k ≤ n ∧ r = .int kd (numB ((l.drop j).take k) : Int)

theorem or_add (a b i : Nat) (h : b < 2 ^ i) : (a * 2 ^ i) ||| b = a * 2 ^ i + b := by
  rw [Nat.mul_comm, Nat.two_pow_add_eq_or_of_lt h]

theorem num_step (l : List UInt8) (j k : Nat) (h : j + k < l.length) : numB ((l.drop j).take (k + 1)) = numB ((l.drop j).take k) * 256 + (l.getD (j + k) 0).toNat := by
  have e : (l.drop j).take (k + 1) = (l.drop j).take k ++ [l.getD (j + k) 0] := by
    rw [List.take_add_one, List.getElem?_drop, List.getElem?_eq_getElem h]
    simp [List.getD, h]
  rw [e, numB_snoc]

set_option maxRecDepth 100000 in
set_option maxHeartbeats 1000000 in
theorem number_any (w : World) (l : List UInt8) (hl : l.length = 16) :
    Calls Tryd.prog 19 #[.agg (bcells l).toArray] w (GivesVal w (.int .u32 (numB (l.take 4) : Int))) := by
  go_enter Tryd.func19, Tryd.ntmps19
  go_wp2
  go_loop [2, 7] (fun r i => NumRel l 0 4 .u32 r i) (fun _ i => 4 - (intOf i).toNat)
  case atStart => exact ⟨0, rfl, by decide, rfl⟩
  case round =>
    obtain ⟨k, rfl, hk, rfl⟩ := hrel
    by_cases hlt : k < 4
    · have hst := num_step l 0 k (by omega)
      have hz := numB_lt ((l.drop 0).take k)
      have hz2 : numB ((l.drop 0).take k) < 256 ^ 3 := Nat.lt_of_lt_of_le hz (Nat.pow_le_pow_right (by decide) (by rw [List.length_take]; omega))
      have hc : (w.alloc (.cells (bcells l).toArray 40)).cell? ⟨w.heap.size, k, none⟩ = some (.int .u8 ((l.getD (0 + k) 0).toNat : Int)) := by
        have h := Lib.cell_of_heap (heap_alloc_new w (.cells (bcells l).toArray 40)) k
        rw [h, Nat.zero_add]
        simp [bcells, List.getD, show k < l.length by omega]
      have hcl := (l.getD (0 + k) 0).toNat_lt
      generalize (l.getD (0 + k) 0).toNat = c at *
      generalize numB ((l.drop 0).take k) = x at *
      have HS := Lib.hid hst
      have hor : bits BinOp.or .u32 ((x : Int) * 256) (c : Int) = ((x * 256 + c : Nat) : Int) := by
        have h1 := u32_or_nat (x * 256) c (by omega) (by omega)
        rw [or_add x c 8 hcl] at h1
        rw [← h1]
        simp
      clear hst hz
      go_wp2
      exact ⟨⟨k + 1, by go_num, by omega, by rw [HS.out]; push_cast; rfl⟩, by simp [intOf]; omega⟩
    · obtain rfl : k = 4 := by omega
      clear hlt hk
      go_wp2
      go_ret
      exact ⟨rfl, (Below.refl _ _).alloc (Nat.le_refl _) _⟩

set_option maxRecDepth 100000 in
set_option maxHeartbeats 1000000 in
theorem rev_any (w : World) (l : List UInt8) (hl : l.length = 16) :
    Calls Tryd.prog 20 #[.agg (bcells l).toArray] w (GivesVal w (.int .u64 (numB ((l.drop 4).take 8) : Int))) := by
  go_enter Tryd.func20, Tryd.ntmps20
  go_wp2
  go_loop [2, 7] (fun r i => NumRel l 4 8 .u64 r i) (fun _ i => 8 - (intOf i).toNat)
  case atStart => exact ⟨0, rfl, by decide, rfl⟩
  case round =>
    obtain ⟨k, rfl, hk, rfl⟩ := hrel
    by_cases hlt : k < 8
    · have hst := num_step l 4 k (by omega)
      have hz := numB_lt ((l.drop 4).take k)
      have hz2 : numB ((l.drop 4).take k) < 256 ^ 7 := Nat.lt_of_lt_of_le hz (Nat.pow_le_pow_right (by decide) (by rw [List.length_take]; omega))
      have hc : (w.alloc (.cells (bcells l).toArray 40)).cell? ⟨w.heap.size, 4 + k, none⟩ = some (.int .u8 ((l.getD (4 + k) 0).toNat : Int)) := by
        have h := Lib.cell_of_heap (heap_alloc_new w (.cells (bcells l).toArray 40)) (4 + k)
        rw [h]
        simp [bcells, List.getD, show 4 + k < l.length by omega]
      have hcl := (l.getD (4 + k) 0).toNat_lt
      generalize (l.getD (4 + k) 0).toNat = c at *
      generalize numB ((l.drop 4).take k) = x at *
      have HS := Lib.hid hst
      have hor : bits BinOp.or .u64 ((x : Int) * 256) (c : Int) = ((x * 256 + c : Nat) : Int) := by
        have h1 := u64_or_nat (x * 256) c (by omega) (by omega)
        rw [or_add x c 8 hcl] at h1
        rw [← h1]
        simp
      clear hst hz
      go_wp2
      exact ⟨⟨k + 1, by go_num, by omega, by rw [HS.out]; push_cast; rfl⟩, by simp [intOf]; omega⟩
    · obtain rfl : k = 8 := by omega
      clear hlt hk
      go_wp2
      go_ret
      exact ⟨rfl, (Below.refl _ _).alloc (Nat.le_refl _) _⟩
end Go.Proofs.YtepibaoniafolaaDoor
