/- Layer 2: inner keys, read whole. -/
import Derived.Test.YtekdcjbjjakhcaaUnescMath
import Derived.Laws.BitsAllLaws
namespace Go.Proofs.Ytekdcjbjjakhcaa
open Go

/-- the number that bytes make, the first one first -/
def beVal (l : List UInt8) : Nat := l.foldl (fun a c => a * 256 + c.toNat) 0

theorem beVal_snoc (l : List UInt8) (c : UInt8) : beVal (l ++ [c]) = beVal l * 256 + c.toNat := by
  simp [beVal, List.foldl_append]

theorem beVal_lt (l : List UInt8) : beVal l < 256 ^ l.length := by
  have h : ∀ (l : List UInt8) (a : Nat), l.foldl (fun a c => a * 256 + c.toNat) a < (a + 1) * 256 ^ l.length := by
    intro l
    induction l with
    | nil => intro a; simp
    | cons c l ih =>
      intro a
      have h1 := ih (a * 256 + c.toNat)
      have h2 := c.toNat_lt
      have h3 : (a * 256 + c.toNat + 1) * 256 ^ l.length ≤ ((a + 1) * 256) * 256 ^ l.length := Nat.mul_le_mul_right _ (by omega)
      simp only [List.foldl_cons, List.length_cons]
      rw [Nat.pow_succ, Nat.mul_comm (256 ^ l.length) 256, ← Nat.mul_assoc]
      omega
  simpa [beVal] using h l 0

/-- an entry: key, revision, whether it takes away -/
def outer (l : List UInt8) : Option (List UInt8 × Nat × Bool) :=
  match unesc l with
  | none => none
  | some (k, r) => if r.length = 9 ∧ (r.getD 8 0).toNat ≤ 1 then some (k, 18446744073709551615 - beVal (r.take 8), decide ((r.getD 8 0).toNat = 0)) else none
end Go.Proofs.Ytekdcjbjjakhcaa
