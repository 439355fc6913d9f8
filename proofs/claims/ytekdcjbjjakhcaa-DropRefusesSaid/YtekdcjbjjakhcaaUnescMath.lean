/- Layer 2: inner keys, read. -/
import Derived.Lib.IndexLaws
import Derived.Test.YtekdcjbjjakhcaaCodecMath
namespace Go.Proofs.Ytekdcjbjjakhcaa
open Go

/-- the key with which an inner key begins, and what stands behind its end mark -/
def unesc : List UInt8 → Option (List UInt8 × List UInt8)
  | [] => none
  | [_] => none
  | c :: d :: r => if c = 0 then (if d = 1 then some ([], r) else if d = 255 then (unesc r).map fun x => (0 :: x.1, x.2) else none) else (unesc (d :: r)).map fun x => (c :: x.1, x.2)

theorem unesc_step {c : UInt8} {l : List UInt8} (hc : ¬ c = 0) : unesc (c :: l) = (unesc l).map fun x => (c :: x.1, x.2) := by
  cases l with
  | nil => rfl
  | cons d r => rw [unesc, if_neg hc]

theorem unesc_none {l : List UInt8} (h : ∀ k : Nat, l[k]? ≠ some 0) : unesc l = none := by
  induction l with
  | nil => rfl
  | cons c l ih =>
    have hc : ¬ c = 0 := fun e => h 0 (by simp [e])
    rw [unesc_step hc, ih fun k => by simpa using h (k + 1)]
    rfl

theorem unesc_at {l : List UInt8} {o : Nat} (h0 : l[o]? = some 0) (h : ∀ k : Nat, k < o → l[k]? ≠ some 0) :
    unesc l = match l[o + 1]? with
      | none => none
      | some d => if d = 1 then some (l.take o, l.drop (o + 2)) else if d = 255 then (unesc (l.drop (o + 2))).map fun x => (l.take o ++ 0 :: x.1, x.2) else none := by
  induction l generalizing o with
  | nil => simp at h0
  | cons c l ih =>
    cases o with
    | zero =>
      simp at h0
      subst h0
      cases l with
      | nil => rfl
      | cons d r =>
        simp [unesc]
    | succ o =>
      have hc : ¬ c = 0 := fun e => h 0 (by omega) (by simp [e])
      rw [unesc_step hc, ih (o := o) (by simpa using h0) fun k hk => by simpa using h (k + 1) (by omega)]
      simp only [List.getElem?_cons_succ]
      cases l[o + 1]? with
      | none => rfl
      | some d =>
        simp only
        split
        · simp
        · split
          · simp [Option.map_map, Function.comp_def]
          · rfl

theorem unesc_esc (p r : List UInt8) : unesc (esc p ++ ([0, 1] ++ r)) = some (p, r) := by
  induction p with
  | nil => simp [esc, unesc]
  | cons c p ih =>
    by_cases hc : c = 0
    · subst hc
      simp [esc, unesc]
      simpa using ih
    · rw [esc, if_neg hc, List.cons_append, unesc_step hc, ih]
      rfl
end Go.Proofs.Ytekdcjbjjakhcaa
