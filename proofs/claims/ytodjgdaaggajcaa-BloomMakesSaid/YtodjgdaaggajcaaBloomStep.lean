import Derived.Test.YtodjgdaaggajcaaBloomHash
import Derived.Deep.QuietTactic
import Derived.BigQuiet
namespace Go.Proofs.Ytodjgdaaggajcaa
open Go Go.RowKit

theorem and_low (h : Nat) (hh : h < 18446744073709551616) : bits BinOp.and .u64 (h : Int) 4294967295 = (atOf h : Int) := by
  have := bits_and_u64_nat h 4294967295 hh (by decide)
  simp only [Int.cast_ofNat_Int] at this
  rw [this, show (4294967295 : Nat) = 2 ^ 32 - 1 from by decide, Nat.and_two_pow_sub_one_eq_mod]
  rfl

theorem or_one (h : Nat) (hh : h < 18446744073709551616) : bits BinOp.or .u64 ((h : Int) / 4294967296) 1 = (stepOf h : Int) := by
  have := bits_or_u64_nat (h / 4294967296) 1 (by omega) (by decide)
  simpa [stepOf] using this

def GivesWalk (w : World) (x y n : Nat) (e : Ending) (w' : World) : Prop :=
  e = .returned (.agg #[.int .u64 (x : Int), .int .u64 (y : Int), .int .u64 (n : Int)]) ∧ Below w.heap.size w w'

set_option maxRecDepth 100000 in
set_option maxHeartbeats 400000 in
theorem start_any (w : World) (s : ByteArray) (N : Int) (n : Nat) (hN : N = (n : Int)) (hs : s.size ≤ 1000000000) (hn : n ≤ 1000000000000) :
    Calls Try.prog 15 #[.string s, .int .i64 N] w (GivesWalk w (atOf (hashL s.data.toList)) (stepOf (hashL s.data.toList)) n) := by
  subst hN
  have hh := hashL_lt s.data.toList
  go_enter Try.func15, Try.ntmps15
  go_wp2_with (go_at_call 12; go_must (refine (hash_any _ s hs).mono ?_))
  rintro e w1 ⟨rfl, b1⟩
  have c0 := (entryBox (by simpa using b1)).1 0
  have c1 := (entryBox (by simpa using b1)).1 1
  have c2 := (entryBox (by simpa using b1)).1 2
  have f0 := (entryBox (by simpa using b1)).2 0
  have f1 := (entryBox (by simpa using b1)).2 1
  have f2 := (entryBox (by simpa using b1)).2 2
  simp at c0 c1 c2
  have e1 := and_low _ hh
  have e2 := or_one _ hh
  have hb : Below w.heap.size w w1 := ((Below.refl _ _).alloc (Nat.le_refl _) _).trans (b1.mono (by simp))
  have E1 := Lib.hid e1
  have E2 := Lib.hid e2
  have Hb := Lib.hid hb
  clear e1 e2 b1 hb
  generalize hashL s.data.toList = h at *
  go_wp2
  rw [E1.out, E2.out]
  refine bodyPost_ret (v := .agg #[.int .u64 (atOf h : Int), .int .u64 (stepOf h : Int), .int .u64 (n : Int)]) ?_ rfl ⟨rfl, ?_⟩
  · simp [results, Try.results15, go_sem, c0, c1, c2]
  · exact ((Hb.out.setCell (p := ⟨w.heap.size, 0, none⟩) (Nat.le_refl _) _).setCell (p := ⟨w.heap.size, 1, none⟩) (Nat.le_refl _) _).setCell (p := ⟨w.heap.size, 2, none⟩) (Nat.le_refl _) _

def NextPost (w : World) (g x y n : Nat) (e : Ending) (w' : World) : Prop :=
  e = .returned (.tuple #[.int .i64 ((x % n / 8 : Nat) : Int), .int .u8 ((2 ^ (x % n % 8) : Nat) : Int)]) ∧
    w'.heap[g]? = some (.cells #[.int .u64 ((x + y : Nat) : Int), .int .u64 (y : Int), .int .u64 (n : Int)] 33 (0, 0)) ∧ w.grownBy w' (some g)

set_option maxRecDepth 100000 in
set_option maxHeartbeats 400000 in
theorem next_any (w : World) (g x y n : Nat) (hb : w.heap[g]? = some (.cells #[.int .u64 (x : Int), .int .u64 (y : Int), .int .u64 (n : Int)] 33 (0, 0))) (hn : 0 < n) (hn' : n ≤ 1000000000000) (hxy : x + y < 18446744073709551616) :
    Calls Try.prog 16 #[.pointer (some ⟨g, 0, none⟩)] w (NextPost w g x y n) := by
  have c0 := Lib.cell_of_heap hb 0
  have c1 := Lib.cell_of_heap hb 1
  have c2 := Lib.cell_of_heap hb 2
  have hf := Lib.frozen_of_heap hb 0
  simp at c0 c1 c2
  have Hb := Lib.hid hb
  clear hb
  go_enter Try.func16, Try.ntmps16
  go_wp2_with fail
  go_quiet (fail)
  go_wp2
  go_region
  go_wp2
  refine bodyPost_ret (v := .tuple #[.int .i64 ((x % n / 8 : Nat) : Int), .int .u8 ((2 ^ (x % n % 8) : Nat) : Int)]) ?_ rfl ⟨rfl, ?_, ?_⟩
  · simp [results, Try.results16, go_sem]
    have hm : (0 : Int) ≤ (x : Int) % n := Int.emod_nonneg _ (by omega)
    have hl : (x : Int) % n < n := Int.emod_lt_of_pos _ (by omega)
    refine ⟨?_, ?_⟩
    · rw [Int.tdiv_eq_ediv_of_nonneg hm, IntKind.wrap_u64]
      generalize (x : Int) % n = q at *
      unfold wrap64; omega
    · have h2 : 2 ^ (x % n % 8) < 2 ^ 8 := Nat.pow_lt_pow_right (by decide) (Nat.mod_lt _ (by decide))
      have h3 : 2 ^ (x % n % 8) % 256 = 2 ^ (x % n % 8) := Nat.mod_eq_of_lt (by simpa using h2)
      exact_mod_cast h3
  · rw [heap_setCell_same _ g 0 _ _ _ (show (w.drewN (nq + 1)).heap[g]? = _ from Hb.out)]
    simp
  · exact ⟨rfl, rfl, rfl, by simp, fun k _ hk => heap_setCell_other _ ⟨g, 0, none⟩ k _ (fun e => hk (by simp [e]))⟩
end Go.Proofs.Ytodjgdaaggajcaa
