/- sort.Search with Seek's closure. -/
import Derived.Test.YtcglkdmfbnpniaaBlockParts
namespace Go.Proofs.Ytcglkdmfbnpniaa
open Go Go.RowKit

def SearchRel (w : World) (n : Nat) (p : Nat → Bool) (iv jv : Value) (wr : World) : Prop :=
  ∃ i j : Nat, iv = .int .i64 (i : Int) ∧ jv = .int .i64 (j : Int) ∧ i ≤ j ∧ j ≤ n ∧ (i = 0 ∨ p (i - 1) = false) ∧ (j = n ∨ p j = true) ∧ Below w.heap.size w wr

def SearchPost (w : World) (n : Nat) (p : Nat → Bool) (e : Ending) (w' : World) : Prop :=
  ∃ i : Nat, e = .returned (.int .i64 (i : Int)) ∧ i ≤ n ∧ (i = 0 ∨ p (i - 1) = false) ∧ (i = n ∨ p i = true) ∧ Below w.heap.size w w'

set_option maxRecDepth 100000 in
set_option maxHeartbeats 2000000 in
theorem search_any (w : World) (n : Nat) (p : Nat → Bool) (cb : Array Value) (hn : n ≤ 100000000)
    (hf : ∀ (w' : World) (i : Nat), Below w.heap.size w w' → i < n → Calls Try.prog 33 (#[.int .i64 (i : Int)] ++ cb) w' (GivesBool w' (p i))) :
    Calls Try.prog 32 #[.int .i64 (n : Int), .func (.func 33) #[] cb] w (SearchPost w n p) := by
  have HF := Lib.hid hf
  clear hf
  go_enter Try.func32, Try.ntmps32
  go_wp2
  go_loopw [5, 6] (fun i j wr => SearchRel w n p i j wr) (fun i j _ => (intOf j - intOf i).toNat)
  case atStart => exact ⟨0, n, rfl, rfl, Nat.zero_le _, Nat.le_refl _, .inl rfl, .inl rfl, Below.refl _ _⟩
  case round =>
    obtain ⟨i, j, rfl, rfl, hij, hjn, h1, h2, hb⟩ := hrel
    have HB := Lib.hid hb
    by_cases hlt : i < j
    · have hltI : (i : Int) < (j : Int) := by omega
      obtain ⟨m, hm⟩ : ∃ m, m = (i + j) / 2 := ⟨_, rfl⟩
      have hmI : ((i : Int) + (j : Int)) / 2 = (m : Int) := by omega
      have hmi : i ≤ m := by omega
      have hmj : m < j := by omega
      have HC := Lib.hid (HF.out wr m hb (by omega))
      have H1 := Lib.hid h1
      have H2 := Lib.hid h2
      clear hm h1 h2 hb
      cases hp : p m with
      | true =>
        rw [hp] at HC
        have HP := Lib.hid hp
        clear hp
        go_wp2_with (go_at_call 33; go_must (refine HC.out.mono ?_))
        rintro e w1 ⟨rfl, b1⟩
        have HB1 := Lib.hid (HB.out.trans (b1.mono HB.out.size))
        clear b1
        go_wp2
        exact ⟨⟨i, m, rfl, rfl, hmi, by omega, H1.out, .inr HP.out, HB1.out⟩, by simp [intOf]; omega⟩
      | false =>
        rw [hp] at HC
        have HP := Lib.hid hp
        clear hp
        go_wp2_with (go_at_call 33; go_must (refine HC.out.mono ?_))
        rintro e w1 ⟨rfl, b1⟩
        have HB1 := Lib.hid (HB.out.trans (b1.mono HB.out.size))
        clear b1
        go_wp2
        exact ⟨⟨m + 1, j, by go_num, rfl, by omega, by omega, .inr (by simpa using HP.out), H2.out, HB1.out⟩, by simp [intOf]; omega⟩
    · obtain rfl : i = j := by omega
      have hltI : ¬ (i : Int) < (i : Int) := by omega
      clear hb
      go_wp2
      go_ret
      exact ⟨i, rfl, hjn, h1, h2, HB.out⟩
end Go.Proofs.Ytcglkdmfbnpniaa
