/- How much a number or a text takes, where it fails too. -/
import Derived.Test.YthjimldojdhccaaZGetMath
namespace Go.Proofs.Ythjimldojdhccaa
open Go Go.RowKit

theorem getGo_err : ∀ (l : List UInt8) (i V : Nat), ¬ (getGo i V l).2.2 = 0 → (getGo i V l).2.1 ≤ l.length
  | [], i, V, h => by
    unfold getGo
    split <;> simp
  | c :: l, i, V, h => by
    unfold getGo at h ⊢
    split
    · simp
    · rename_i h1
      rw [if_neg h1] at h
      split
      · rename_i h2
        rw [if_pos h2] at h
        have := getGo_err l (i + 1) (V + c.toNat % 128 * 128 ^ i % 18446744073709551616) h
        simp
        omega
      · rename_i h2
        rw [if_neg h2] at h
        split
        · simp
        · rename_i h3
          rw [if_neg h3] at h
          exact absurd rfl h

theorem getText_used (l : List UInt8) : (getText l).2.2 = 0 → (getText l).2.1 ≤ l.length := by
  unfold getText
  intro h
  split at h
  · rename_i h0
    rw [if_pos h0]
    split at h
    · simp at h
    · rename_i h1
      rw [if_neg h1]
      have := getGo_ok l 0 0 (getGo 0 0 l).1 (getGo 0 0 l).2.1 (by decide) (Prod.ext rfl (Prod.ext rfl h0))
      simp
      omega
  · exact absurd h (by assumption)

theorem getGo_le (l : List UInt8) : (getGo 0 0 l).2.1 ≤ l.length := by
  by_cases h : (getGo 0 0 l).2.2 = 0
  · have := getGo_ok l 0 0 (getGo 0 0 l).1 (getGo 0 0 l).2.1 (by decide) (Prod.ext rfl (Prod.ext rfl h))
    omega
  · exact getGo_err l 0 0 h

theorem getText_le (l : List UInt8) : (getText l).2.1 ≤ l.length := by
  by_cases h : (getText l).2.2 = 0
  · exact getText_used l h
  · unfold getText at h ⊢
    split
    · rename_i h1
      rw [if_pos h1] at h
      split
      · exact Nat.zero_le _
      · rename_i h2
        rw [if_neg h2] at h
        exact absurd rfl h
    · exact Nat.zero_le _
end Go.Proofs.Ythjimldojdhccaa
