import Derived.Test.YtekdcjbjjakhcaaOuterMath
import Derived.Test.YtekdcjbjjakhcaaCodecOrderMath
namespace Go.Proofs.Ytekdcjbjjakhcaa

theorem beVal_rev (a k : Nat) (hk : k ≤ 8) (ha : a < 18446744073709551616) : beVal (revBytes a k) = top a k := by
  induction k with
  | zero =>
    have h1 : top a 0 = 0 := by unfold top; rw [Nat.div_eq_zero_iff]; right; show _ < 256 ^ 8; omega
    rw [h1]; rfl
  | succ k ih => rw [revBytes, beVal_snoc, ih (by omega), top_succ a k (by omega) ha]

theorem outer_inner (p : List UInt8) (a : Nat) (x : Bool) (ha : a < 18446744073709551616) : outer (inner p a x) = some (p, a, x) := by
  have h : unesc (inner p a x) = some (p, revBytes a 8 ++ [if x then 0 else 1]) := by
    rw [inner, innTo]
    simp only [List.append_assoc]
    exact unesc_esc p _
  have hl : (revBytes a 8).length = 8 := revBytes_length a 8
  have ht : top a 8 = 18446744073709551615 - a := by simp [top]
  unfold outer
  rw [h]
  simp only
  have h8 : (revBytes a 8 ++ [if x then 0 else 1]).getD 8 0 = if x then 0 else 1 := by
    rw [List.getD_eq_getElem?_getD, List.getElem?_append_right (by omega), hl]
    rfl
  rw [h8, if_pos ⟨by simp [hl], by cases x <;> decide⟩, List.take_left' hl, beVal_rev a 8 (by omega) ha, ht]
  cases x <;> simp <;> omega
end Go.Proofs.Ytekdcjbjjakhcaa
