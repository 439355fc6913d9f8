import Derived.Test.YthjimldojdhccaaZCodecWalks
namespace Go.Proofs.Ythjimldojdhccaa

set_option maxRecDepth 100000 in
theorem getGo_ok : ∀ (l : List UInt8) (i V v n : Nat), V < 128 ^ i → getGo i V l = (v, n, 0) → i < n ∧ n ≤ i + l.length ∧ n ≤ 10 ∧ v < 18446744073709551616
  | [], i, V, v, n, _, h => by
    rw [getGo] at h
    simp only [Prod.mk.injEq] at h
    split at h <;> omega
  | c :: r, i, V, v, n, hV, h => by
    rw [getGo] at h
    split at h
    · simp at h
    · rename_i h10
      split at h
      · have := getGo_ok r (i + 1) _ v n (get_grows hV) h
        simp only [List.length_cons]
        omega
      · split at h
        · simp at h
        · rename_i hc hb
          simp only [Prod.mk.injEq] at h
          obtain ⟨rfl, rfl, _⟩ := h
          simp only [List.length_cons]
          refine ⟨by omega, by omega, by omega, ?_⟩
          have hg := get_grows (c := c.toNat) hV
          by_cases h9 : i = 9
          · subst h9
            have hc1 : c.toNat ≤ 1 := by omega
            have e1 : c.toNat % 128 = c.toNat := by omega
            rw [e1]
            have h2 : c.toNat * 128 ^ 9 ≤ 1 * 128 ^ 9 := Nat.mul_le_mul_right _ hc1
            exact Nat.lt_of_lt_of_le (Nat.add_lt_add_of_lt_of_le hV (Nat.le_trans (Nat.mod_le _ _) h2)) (by decide)
          · have : 128 ^ (i + 1) ≤ 128 ^ 9 := Nat.pow_le_pow_right (by omega) (by omega)
            exact Nat.lt_of_lt_of_le hg (Nat.le_trans this (by decide))

/-- what codec.GetText comes to: the text, how many bytes, the error -/
def getText (l : List UInt8) : List UInt8 × Nat × Nat :=
  if (getGo 0 0 l).2.2 = 0 then
    if l.length - (getGo 0 0 l).2.1 < (getGo 0 0 l).1 then ([], 0, 7)
    else ((l.drop (getGo 0 0 l).2.1).take (getGo 0 0 l).1, (getGo 0 0 l).2.1 + (getGo 0 0 l).1, 0)
  else ([], 0, (getGo 0 0 l).2.2)
end Go.Proofs.Ythjimldojdhccaa
