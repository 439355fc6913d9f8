/- Layer 2: inner keys stand in order as entries do. -/
import Derived.WalkKit
import Derived.Test.YtbhapbioibhalaaCodecMath
namespace Go.Proofs.Ytbhapbioibhalaa
open Go

theorem less_same (p r s : List UInt8) : Op.bytesLess (p ++ r) (p ++ s) = Op.bytesLess r s := by
  induction p with
  | nil => rfl
  | cons c p ih =>
    have h : ¬ c < c := fun h => Nat.lt_irrefl _ (UInt8.lt_iff_toNat_lt.1 h)
    simp [Op.bytesLess, ih, h]

theorem less_cons (c d : UInt8) (r s : List UInt8) : Op.bytesLess (c :: r) (d :: s) = (c < d || (c == d && Op.bytesLess r s)) := rfl

/-- keys, each behind its end mark, and what follows -/
theorem less_esc (p q r s : List UInt8) :
    Op.bytesLess (esc p ++ ([0, 1] ++ r)) (esc q ++ ([0, 1] ++ s)) = (Op.bytesLess p q || (p == q && Op.bytesLess r s)) := by
  induction p generalizing q with
  | nil =>
    cases q with
    | nil => simp [esc, Op.bytesLess]
    | cons d q =>
      by_cases hd : d = 0
      · subst hd
        simp [esc, Op.bytesLess]
      · have h0 : (0 : UInt8) < d := by
          rw [UInt8.lt_iff_toNat_lt]
          have : d.toNat ≠ 0 := fun e => hd (UInt8.toNat_inj.1 (by simpa using e))
          simp; omega
        simp [esc, hd, Op.bytesLess, h0]
  | cons c p ih =>
    cases q with
    | nil =>
      by_cases hc : c = 0
      · subst hc
        simp [esc, Op.bytesLess]
      · have h0 : ¬ c < 0 := by
          rw [UInt8.lt_iff_toNat_lt]; simp
        simp [esc, hc, Op.bytesLess]
    | cons d q =>
      by_cases hcd : c = d
      · subst hcd
        have hlt : ¬ c < c := fun h => Nat.lt_irrefl _ (UInt8.lt_iff_toNat_lt.1 h)
        have ih' : Op.bytesLess (esc p ++ 0 :: 1 :: r) (esc q ++ 0 :: 1 :: s) = (Op.bytesLess p q || (p == q && Op.bytesLess r s)) := by simpa using ih q
        by_cases hc : c = 0
        · subst hc
          simp [esc, Op.bytesLess, ih']
        · simp [esc, hc, Op.bytesLess, ih', hlt]
      · have hne : (c == d) = false := by simpa using hcd
        by_cases hc : c = 0
        · subst hc
          have hd : ¬ d = 0 := fun e => hcd e.symm
          have h0 : (0 : UInt8) < d := by
            rw [UInt8.lt_iff_toNat_lt]
            have : d.toNat ≠ 0 := fun e => hd (UInt8.toNat_inj.1 (by simpa using e))
            simp; omega
          simp [esc, hd, Op.bytesLess, h0]
        · by_cases hd : d = 0
          · subst hd
            simp [esc, hc, Op.bytesLess, hne]
          · simp [esc, hc, hd, Op.bytesLess, hne]

/-- what stands in front, where both have as much of it -/
theorem less_front (p q r s : List UInt8) (h : p.length = q.length) : Op.bytesLess (p ++ r) (q ++ s) = (Op.bytesLess p q || (p == q && Op.bytesLess r s)) := by
  induction p generalizing q with
  | nil =>
    cases q with
    | nil => simp [Op.bytesLess]
    | cons d q => simp at h
  | cons c p ih =>
    cases q with
    | nil => simp at h
    | cons d q =>
      have ih' := ih q (by simpa using h)
      simp only [List.cons_append, less_cons, ih']
      by_cases hcd : c = d
      · subst hcd
        have hlt : ¬ c < c := fun h => Nat.lt_irrefl _ (UInt8.lt_iff_toNat_lt.1 h)
        simp [hlt]
      · have hne : (c == d) = false := by simpa using hcd
        simp [hne]

/-- the number that the first k of the eight bytes make -/
def top (rev k : Nat) : Nat := (18446744073709551615 - rev) / 256 ^ (8 - k)

theorem top_succ (rev k : Nat) (hk : k < 8) (hr : rev < 18446744073709551616) : top rev (k + 1) = top rev k * 256 + (revByte rev (7 - k)).toNat := by
  have h1 := (revByte_up rev (7 - k) hr (by omega)).symm
  have h2 : 256 ^ (8 - k) = 256 ^ (7 - k) * 256 := by rw [← Nat.pow_succ]; congr 1; omega
  unfold top
  rw [h1, h2, ← Nat.div_div_eq_div_mul, show 8 - (k + 1) = 7 - k by omega]
  omega

theorem rev_less (a b : Nat) (ha : a < 18446744073709551616) (hb : b < 18446744073709551616) (k : Nat) (hk : k ≤ 8) :
    Op.bytesLess (revBytes a k) (revBytes b k) = decide (top a k < top b k) ∧ (revBytes a k == revBytes b k) = decide (top a k = top b k) := by
  induction k with
  | zero =>
    have h1 : top a 0 = 0 := by unfold top; rw [Nat.div_eq_zero_iff]; right; show _ < 256 ^ 8; omega
    have h2 : top b 0 = 0 := by unfold top; rw [Nat.div_eq_zero_iff]; right; show _ < 256 ^ 8; omega
    simp [revBytes, Op.bytesLess, h1, h2]
  | succ k ih =>
    obtain ⟨i1, i2⟩ := ih (by omega)
    have t1 := top_succ a k (by omega) ha
    have t2 := top_succ b k (by omega) hb
    have c1 := (revByte a (7 - k)).toNat_lt
    have c2 := (revByte b (7 - k)).toNat_lt
    have hl : (revBytes a k).length = (revBytes b k).length := by rw [revBytes_length, revBytes_length]
    constructor
    · rw [revBytes, revBytes, less_front _ _ _ _ hl, i1, i2]
      rw [Bool.eq_iff_iff]
      simp [Op.bytesLess, UInt8.lt_iff_toNat_lt]
      omega
    · rw [revBytes, revBytes, Bool.eq_iff_iff]
      have i3 : revBytes a k = revBytes b k ↔ top a k = top b k := by
        rw [Bool.eq_iff_iff] at i2; simpa using i2
      have i4 : revByte a (7 - k) = revByte b (7 - k) ↔ (revByte a (7 - k)).toNat = (revByte b (7 - k)).toNat := UInt8.toNat_inj.symm
      have i5 : revBytes a k ++ [revByte a (7 - k)] = revBytes b k ++ [revByte b (7 - k)] ↔ revBytes a k = revBytes b k ∧ revByte a (7 - k) = revByte b (7 - k) := by
        constructor
        · intro h
          obtain ⟨h1, h2⟩ := List.append_inj h hl
          exact ⟨h1, by simpa using h2⟩
        · rintro ⟨h1, h2⟩
          rw [h1, h2]
      simp only [beq_iff_eq, decide_eq_true_eq]
      rw [i5, i3, i4]
      omega

/-- does an entry stand ahead of another one? -/
def lessE (p q : List UInt8) (a b : Nat) (x y : Bool) : Bool := if p == q then (if a = b then x && !y else decide (b < a)) else Op.bytesLess p q

theorem less_inner (p q : List UInt8) (a b : Nat) (x y : Bool) (ha : a < 18446744073709551616) (hb : b < 18446744073709551616) :
    Op.bytesLess (inner p a x) (inner q b y) = lessE p q a b x y := by
  have hl : (revBytes a 8).length = (revBytes b 8).length := by rw [revBytes_length, revBytes_length]
  obtain ⟨h1, h2⟩ := rev_less a b ha hb 8 (by omega)
  have t1 : top a 8 = 18446744073709551615 - a := by simp [top]
  have t2 : top b 8 = 18446744073709551615 - b := by simp [top]
  rw [inner, inner, innTo, innTo]
  simp only [List.append_assoc]
  rw [less_esc, less_front _ _ _ _ hl, h1, h2, t1, t2, lessE]
  by_cases hpq : p = q
  · subst hpq
    have hs : Op.bytesLess p p = false := by
      have := less_same p [] []
      simpa [Op.bytesLess] using this
    simp only [hs, beq_self_eq_true, Bool.true_and, Bool.false_or, if_true]
    by_cases hab : a = b
    · subst hab
      cases x <;> cases y <;> simp [Op.bytesLess]
    · rw [if_neg hab]
      have e1 : decide (18446744073709551615 - a = 18446744073709551615 - b) = false := by simp; omega
      rw [e1, Bool.false_and, Bool.or_false]
      rw [Bool.eq_iff_iff]
      simp
      omega
  · have hne : (p == q) = false := by simpa using hpq
    simp [hne]

theorem less_irrefl (l : List UInt8) : Op.bytesLess l l = false := by
  have := less_same l [] []
  simpa [Op.bytesLess] using this

theorem less_total (p q : List UInt8) (h : Op.bytesLess p q = false) (k : Op.bytesLess q p = false) : p = q := by
  induction p generalizing q with
  | nil => cases q with
    | nil => rfl
    | cons d q => simp [Op.bytesLess] at h
  | cons c p ih =>
    cases q with
    | nil => simp [Op.bytesLess] at k
    | cons d q =>
      simp only [Op.bytesLess, Bool.or_eq_false_iff, decide_eq_false_iff_not, UInt8.lt_iff_toNat_lt] at h k
      have e : c = d := UInt8.toNat_inj.1 (by omega)
      subst e
      simp only [beq_self_eq_true, Bool.true_and] at h k
      rw [ih q h.2 k.2]

theorem inner_inj (p q : List UInt8) (a b : Nat) (x y : Bool) (ha : a < 18446744073709551616) (hb : b < 18446744073709551616) :
    inner p a x = inner q b y ↔ p = q ∧ a = b ∧ x = y := by
  constructor
  · intro h
    have h1 : lessE p q a b x y = false := by rw [← less_inner p q a b x y ha hb, h, less_irrefl]
    have h2 : lessE q p b a y x = false := by rw [← less_inner q p b a y x hb ha, h, less_irrefl]
    by_cases hpq : p = q
    · subst hpq
      by_cases hab : a = b
      · subst hab
        cases x <;> cases y <;> simp [lessE] at h1 h2 ⊢
      · simp [lessE, hab, Ne.symm hab] at h1 h2
        omega
    · exfalso
      simp [lessE, hpq, Ne.symm hpq] at h1 h2
      exact hpq (less_total p q h1 h2)
  · rintro ⟨rfl, rfl, rfl⟩
    rfl
end Go.Proofs.Ytbhapbioibhalaa
