/- What the proof stands on, part 1. -/
import Derived.WalkKit
import Derived.WalkSpells
import Derived.WalkLawsBesides
import Derived.Deep.Upon
import Derived.Deep.CutRange
import Derived.Maps.AppendAt
import Derived.Laws.BytesArg
import Derived.Laws.BytesString
import Derived.Lib.Hide
import Derived.Test.YtfhdonidgegebaaDoorRows
import Derived.Lib.Builder
import Derived.Sort.Walk0
/- Layer 2's plain mathematics. -/
namespace Go.Proofs.YtfhdonidgegebaaDoor

/-- a number's bytes -/
def enc (v : Nat) : List UInt8 :=
  if v < 128 then [UInt8.ofNat v] else UInt8.ofNat (v % 128 + 128) :: enc (v / 128)
termination_by v
decreasing_by omega

theorem enc_lt {v : Nat} (h : v < 128) : enc v = [UInt8.ofNat v] := by rw [enc, if_pos h]
theorem enc_ge {v : Nat} (h : ¬ v < 128) : enc v = UInt8.ofNat (v % 128 + 128) :: enc (v / 128) := by rw [enc, if_neg h]

theorem enc_pos (v : Nat) : 0 < (enc v).length := by
  by_cases h : v < 128
  · rw [enc_lt h]; simp
  · rw [enc_ge h]; simp

theorem enc_length_le (k : Nat) : ∀ v : Nat, v < 128 ^ (k + 1) → (enc v).length ≤ k + 1 := by
  induction k with
  | zero => intro v h; rw [enc_lt (by simpa using h)]; simp
  | succ k ih =>
    intro v h
    by_cases h1 : v < 128
    · rw [enc_lt h1]; simp
    · rw [enc_ge h1]
      have := ih (v / 128) (by rw [Nat.div_lt_iff_lt_mul (by omega)]; rwa [Nat.pow_succ] at h)
      simp; omega

/-- what codec.Get comes to, at byte i, with v so far: the number, how many bytes, the error -/
def getGo (i v : Nat) : List UInt8 → Nat × Nat × Nat
  | [] => (0, 0, if 10 ≤ i then 9 else 7)
  | c :: r =>
    if 10 ≤ i then (0, 0, 9)
    else if 128 ≤ c.toNat then getGo (i + 1) (v + c.toNat % 128 * 128 ^ i % 18446744073709551616) r
    else if (0 < i ∧ c.toNat = 0) ∨ (i = 9 ∧ 1 < c.toNat) then (0, 0, 9)
    else (v + c.toNat % 128 * 128 ^ i % 18446744073709551616, i + 1, 0)

theorem get_grows {V k c : Nat} (hV : V < 128 ^ k) : V + c % 128 * 128 ^ k % 18446744073709551616 < 128 ^ (k + 1) := by
  have h1 := Nat.mod_le (c % 128 * 128 ^ k) 18446744073709551616
  have h2 : c % 128 * 128 ^ k ≤ 127 * 128 ^ k := Nat.mul_le_mul_right _ (by omega)
  rw [Nat.pow_succ]
  omega

theorem getGo_more {k V : Nat} {l : List UInt8} (h : k < l.length) (h10 : k < 10) (hc : 128 ≤ (l.getD k 0).toNat) :
    getGo k V (l.drop k) = getGo (k + 1) (V + (l.getD k 0).toNat % 128 * 128 ^ k % 18446744073709551616) (l.drop (k + 1)) := by
  have e : l.drop k = l.getD k 0 :: l.drop (k + 1) := by
    rw [List.drop_eq_getElem_cons h]; simp [h]
  rw [e, getGo, if_neg (by omega), if_pos hc]

theorem getGo_bad {k V : Nat} {l : List UInt8} (h : k < l.length) (h10 : k < 10) (hc : ¬ 128 ≤ (l.getD k 0).toNat) (hb : (0 < k ∧ (l.getD k 0).toNat = 0) ∨ (k = 9 ∧ 1 < (l.getD k 0).toNat)) :
    getGo k V (l.drop k) = (0, 0, 9) := by
  have e : l.drop k = l.getD k 0 :: l.drop (k + 1) := by
    rw [List.drop_eq_getElem_cons h]; simp [h]
  rw [e, getGo, if_neg (by omega), if_neg hc, if_pos hb]

theorem getGo_good {k V : Nat} {l : List UInt8} (h : k < l.length) (h10 : k < 10) (hc : ¬ 128 ≤ (l.getD k 0).toNat) (hb : ¬ ((0 < k ∧ (l.getD k 0).toNat = 0) ∨ (k = 9 ∧ 1 < (l.getD k 0).toNat))) :
    getGo k V (l.drop k) = (V + (l.getD k 0).toNat % 128 * 128 ^ k % 18446744073709551616, k + 1, 0) := by
  have e : l.drop k = l.getD k 0 :: l.drop (k + 1) := by
    rw [List.drop_eq_getElem_cons h]; simp [h]
  rw [e, getGo, if_neg (by omega), if_neg hc, if_neg hb]

theorem getGo_end {k V : Nat} {l : List UInt8} (h : l.length ≤ k) : getGo k V (l.drop k) = (0, 0, if 10 ≤ k then 9 else 7) := by
  rw [List.drop_of_length_le h, getGo]

theorem getGo_ten {V : Nat} {l : List UInt8} : getGo 10 V (l.drop 10) = (0, 0, 9) := by
  cases l.drop 10 with
  | nil => rfl
  | cons c r => rw [getGo, if_pos (by omega)]

theorem getGo_enc_go (k : Nat) : ∀ (i N V : Nat) (r : List UInt8), N < 128 ^ (k + 1) → i + k ≤ 9 → (i = 0 ∨ 0 < N) → V + N * 128 ^ i < 18446744073709551616 →
    getGo i V (enc N ++ r) = (V + N * 128 ^ i, i + (enc N).length, 0) := by
  have small : ∀ (i N V : Nat) (r : List UInt8), N < 128 → i ≤ 9 → (i = 0 ∨ 0 < N) → V + N * 128 ^ i < 18446744073709551616 →
      getGo i V (enc N ++ r) = (V + N * 128 ^ i, i + (enc N).length, 0) := by
    intro i N V r hN hi h0 hb
    have hc : (UInt8.ofNat N).toNat = N := by simp; omega
    have h9 : ¬ (i = 9 ∧ 1 < N) := by
      rintro ⟨rfl, h1⟩
      have : 2 * 128 ^ 9 ≤ N * 128 ^ 9 := Nat.mul_le_mul_right _ h1
      have e : 2 * 128 ^ 9 = 18446744073709551616 := by decide
      omega
    rw [enc_lt hN]
    simp only [List.singleton_append, List.length_singleton, getGo, hc]
    rw [if_neg (by omega), if_neg (by omega), if_neg (by omega), Nat.mod_eq_of_lt hN, Nat.mod_eq_of_lt (by omega)]
  induction k with
  | zero =>
    intro i N V r hN hi h0 hb
    exact small i N V r (by simpa using hN) (by omega) h0 hb
  | succ k ih =>
    intro i N V r hN hi h0 hb
    by_cases h : N < 128
    · exact small i N V r h (by omega) h0 hb
    · have hc : (UInt8.ofNat (N % 128 + 128)).toNat = N % 128 + 128 := by simp; omega
      have e1 : N % 128 * 128 ^ i + N / 128 * 128 ^ (i + 1) = N * 128 ^ i := by
        rw [Nat.pow_succ, Nat.mul_comm (128 ^ i) 128, ← Nat.mul_assoc, ← Nat.add_mul]
        congr 1
        omega
      rw [enc_ge h]
      simp only [List.cons_append, getGo, hc, List.length_cons]
      rw [if_neg (by omega), if_pos (by omega), show (N % 128 + 128) % 128 = N % 128 by omega, Nat.mod_eq_of_lt (a := N % 128 * 128 ^ i) (by omega)]
      rw [ih (i + 1) (N / 128) _ r (by rw [Nat.div_lt_iff_lt_mul (by omega)]; rwa [Nat.pow_succ] at hN) (by omega) (.inr (by omega)) (by omega)]
      refine Prod.ext ?_ (Prod.ext ?_ rfl) <;> simp only <;> omega

/-- a key's bytes, each 0 followed by 255 -/
def esc : List UInt8 → List UInt8
  | [] => []
  | c :: r => if c = 0 then c :: 255 :: esc r else c :: esc r

theorem esc_append (a b : List UInt8) : esc (a ++ b) = esc a ++ esc b := by
  induction a with
  | nil => rfl
  | cons c r ih =>
    rw [List.cons_append, esc, esc, ih]
    split <;> rfl

theorem esc_length (a : List UInt8) : (esc a).length ≤ 2 * a.length := by
  induction a with
  | nil => simp [esc]
  | cons c r ih => rw [esc]; split <;> simp <;> omega

theorem esc_snoc0 (l : List UInt8) (c : UInt8) (h : c = 0) : esc (l ++ [c]) = esc l ++ [c, 255] := by
  rw [esc_append]; simp [esc, h]
theorem esc_snoc1 (l : List UInt8) (c : UInt8) (h : ¬ c = 0) : esc (l ++ [c]) = esc l ++ [c] := by
  rw [esc_append]; simp [esc, h]

/-- byte number i (from the low end) of a revision, turned round -/
def revByte (rev i : Nat) : UInt8 := UInt8.ofNat (255 - rev / 256 ^ i % 256)
theorem revByte_up (rev k : Nat) (hr : rev < 18446744073709551616) (hk : k < 8) : (18446744073709551615 - rev) / 256 ^ k % 256 = (revByte rev k).toNat := by
  have h : (18446744073709551615 - rev) / 256 ^ k % 256 = 255 - rev / 256 ^ k % 256 := by
    match k, hk with
    | 0, _ => simp only [Nat.pow_zero, Nat.div_one]; omega
    | 1, _ => simp only [show (256 : Nat) ^ 1 = 256 from rfl]; omega
    | 2, _ => simp only [show (256 : Nat) ^ 2 = 65536 from rfl]; omega
    | 3, _ => simp only [show (256 : Nat) ^ 3 = 16777216 from rfl]; omega
    | 4, _ => simp only [show (256 : Nat) ^ 4 = 4294967296 from rfl]; omega
    | 5, _ => simp only [show (256 : Nat) ^ 5 = 1099511627776 from rfl]; omega
    | 6, _ => simp only [show (256 : Nat) ^ 6 = 281474976710656 from rfl]; omega
    | 7, _ => simp only [show (256 : Nat) ^ 7 = 72057594037927936 from rfl]; omega
  rw [h, revByte]
  simp
  omega

/-- the first k of the eight bytes -/
def revBytes (rev : Nat) : Nat → List UInt8
  | 0 => []
  | k + 1 => revBytes rev k ++ [revByte rev (7 - k)]

theorem revBytes_length (rev k : Nat) : (revBytes rev k).length = k := by
  induction k with
  | zero => rfl
  | succ k ih => simp [revBytes, ih]

/-- an inner key up to k bytes of the revision -/
def innTo (key : List UInt8) (rev k : Nat) : List UInt8 := esc key ++ [0, 1] ++ revBytes rev k
theorem innTo_succ (key : List UInt8) (rev k : Nat) : innTo key rev (k + 1) = innTo key rev k ++ [revByte rev (7 - k)] := by
  simp [innTo, revBytes]
theorem innTo_length (key : List UInt8) (rev k : Nat) : (innTo key rev k).length = (esc key).length + 2 + k := by
  simp [innTo, revBytes_length]; omega

/-- an entry's inner key -/
def inner (key : List UInt8) (rev : Nat) (del : Bool) : List UInt8 := innTo key rev 8 ++ [if del then 0 else 1]
end Go.Proofs.YtfhdonidgegebaaDoor

/- Layer 2: inner keys stand in order as entries do. -/
namespace Go.Proofs.YtfhdonidgegebaaDoor
open Go

theorem less_same (p r s : List UInt8) : Op.bytesLess (p ++ r) (p ++ s) = Op.bytesLess r s := by
  induction p with
  | nil => rfl
  | cons c p ih =>
    have h : ¬ c < c := fun h => Nat.lt_irrefl _ (UInt8.lt_iff_toNat_lt.1 h)
    simp [Op.bytesLess, ih, h]

theorem less_cons (c d : UInt8) (r s : List UInt8) : Op.bytesLess (c :: r) (d :: s) = (c < d || (c == d && Op.bytesLess r s)) := rfl

/-- keys, each behind its end mark, and what follows -/
theorem less_esc (p q r s : List UInt8) :
    Op.bytesLess (esc p ++ ([0, 1] ++ r)) (esc q ++ ([0, 1] ++ s)) = (Op.bytesLess p q || (p == q && Op.bytesLess r s)) := by
  induction p generalizing q with
  | nil =>
    cases q with
    | nil => simp [esc, Op.bytesLess]
    | cons d q =>
      by_cases hd : d = 0
      · subst hd
        simp [esc, Op.bytesLess]
      · have h0 : (0 : UInt8) < d := by
          rw [UInt8.lt_iff_toNat_lt]
          have : d.toNat ≠ 0 := fun e => hd (UInt8.toNat_inj.1 (by simpa using e))
          simp; omega
        simp [esc, hd, Op.bytesLess, h0]
  | cons c p ih =>
    cases q with
    | nil =>
      by_cases hc : c = 0
      · subst hc
        simp [esc, Op.bytesLess]
      · have h0 : ¬ c < 0 := by
          rw [UInt8.lt_iff_toNat_lt]; simp
        simp [esc, hc, Op.bytesLess]
    | cons d q =>
      by_cases hcd : c = d
      · subst hcd
        have hlt : ¬ c < c := fun h => Nat.lt_irrefl _ (UInt8.lt_iff_toNat_lt.1 h)
        have ih' : Op.bytesLess (esc p ++ 0 :: 1 :: r) (esc q ++ 0 :: 1 :: s) = (Op.bytesLess p q || (p == q && Op.bytesLess r s)) := by simpa using ih q
        by_cases hc : c = 0
        · subst hc
          simp [esc, Op.bytesLess, ih']
        · simp [esc, hc, Op.bytesLess, ih', hlt]
      · have hne : (c == d) = false := by simpa using hcd
        by_cases hc : c = 0
        · subst hc
          have hd : ¬ d = 0 := fun e => hcd e.symm
          have h0 : (0 : UInt8) < d := by
            rw [UInt8.lt_iff_toNat_lt]
            have : d.toNat ≠ 0 := fun e => hd (UInt8.toNat_inj.1 (by simpa using e))
            simp; omega
          simp [esc, hd, Op.bytesLess, h0]
        · by_cases hd : d = 0
          · subst hd
            simp [esc, hc, Op.bytesLess, hne]
          · simp [esc, hc, hd, Op.bytesLess, hne]

/-- what stands in front, where both have as much of it -/
theorem less_front (p q r s : List UInt8) (h : p.length = q.length) : Op.bytesLess (p ++ r) (q ++ s) = (Op.bytesLess p q || (p == q && Op.bytesLess r s)) := by
  induction p generalizing q with
  | nil =>
    cases q with
    | nil => simp [Op.bytesLess]
    | cons d q => simp at h
  | cons c p ih =>
    cases q with
    | nil => simp at h
    | cons d q =>
      have ih' := ih q (by simpa using h)
      simp only [List.cons_append, less_cons, ih']
      by_cases hcd : c = d
      · subst hcd
        have hlt : ¬ c < c := fun h => Nat.lt_irrefl _ (UInt8.lt_iff_toNat_lt.1 h)
        simp [hlt]
      · have hne : (c == d) = false := by simpa using hcd
        simp [hne]

/-- the number that the first k of the eight bytes make -/
def top (rev k : Nat) : Nat := (18446744073709551615 - rev) / 256 ^ (8 - k)

theorem top_succ (rev k : Nat) (hk : k < 8) (hr : rev < 18446744073709551616) : top rev (k + 1) = top rev k * 256 + (revByte rev (7 - k)).toNat := by
  have h1 := (revByte_up rev (7 - k) hr (by omega)).symm
  have h2 : 256 ^ (8 - k) = 256 ^ (7 - k) * 256 := by rw [← Nat.pow_succ]; congr 1; omega
  unfold top
  rw [h1, h2, ← Nat.div_div_eq_div_mul, show 8 - (k + 1) = 7 - k by omega]
  omega

theorem rev_less (a b : Nat) (ha : a < 18446744073709551616) (hb : b < 18446744073709551616) (k : Nat) (hk : k ≤ 8) :
    Op.bytesLess (revBytes a k) (revBytes b k) = decide (top a k < top b k) ∧ (revBytes a k == revBytes b k) = decide (top a k = top b k) := by
  induction k with
  | zero =>
    have h1 : top a 0 = 0 := by unfold top; rw [Nat.div_eq_zero_iff]; right; show _ < 256 ^ 8; omega
    have h2 : top b 0 = 0 := by unfold top; rw [Nat.div_eq_zero_iff]; right; show _ < 256 ^ 8; omega
    simp [revBytes, Op.bytesLess, h1, h2]
  | succ k ih =>
    obtain ⟨i1, i2⟩ := ih (by omega)
    have t1 := top_succ a k (by omega) ha
    have t2 := top_succ b k (by omega) hb
    have c1 := (revByte a (7 - k)).toNat_lt
    have c2 := (revByte b (7 - k)).toNat_lt
    have hl : (revBytes a k).length = (revBytes b k).length := by rw [revBytes_length, revBytes_length]
    constructor
    · rw [revBytes, revBytes, less_front _ _ _ _ hl, i1, i2]
      rw [Bool.eq_iff_iff]
      simp [Op.bytesLess, UInt8.lt_iff_toNat_lt]
      omega
    · rw [revBytes, revBytes, Bool.eq_iff_iff]
      have i3 : revBytes a k = revBytes b k ↔ top a k = top b k := by
        rw [Bool.eq_iff_iff] at i2; simpa using i2
      have i4 : revByte a (7 - k) = revByte b (7 - k) ↔ (revByte a (7 - k)).toNat = (revByte b (7 - k)).toNat := UInt8.toNat_inj.symm
      have i5 : revBytes a k ++ [revByte a (7 - k)] = revBytes b k ++ [revByte b (7 - k)] ↔ revBytes a k = revBytes b k ∧ revByte a (7 - k) = revByte b (7 - k) := by
        constructor
        · intro h
          obtain ⟨h1, h2⟩ := List.append_inj h hl
          exact ⟨h1, by simpa using h2⟩
        · rintro ⟨h1, h2⟩
          rw [h1, h2]
      simp only [beq_iff_eq, decide_eq_true_eq]
      rw [i5, i3, i4]
      omega

/-- does an entry stand ahead of another one? -/
def lessE (p q : List UInt8) (a b : Nat) (x y : Bool) : Bool := if p == q then (if a = b then x && !y else decide (b < a)) else Op.bytesLess p q

theorem less_inner (p q : List UInt8) (a b : Nat) (x y : Bool) (ha : a < 18446744073709551616) (hb : b < 18446744073709551616) :
    Op.bytesLess (inner p a x) (inner q b y) = lessE p q a b x y := by
  have hl : (revBytes a 8).length = (revBytes b 8).length := by rw [revBytes_length, revBytes_length]
  obtain ⟨h1, h2⟩ := rev_less a b ha hb 8 (by omega)
  have t1 : top a 8 = 18446744073709551615 - a := by simp [top]
  have t2 : top b 8 = 18446744073709551615 - b := by simp [top]
  rw [inner, inner, innTo, innTo]
  simp only [List.append_assoc]
  rw [less_esc, less_front _ _ _ _ hl, h1, h2, t1, t2, lessE]
  by_cases hpq : p = q
  · subst hpq
    have hs : Op.bytesLess p p = false := by
      have := less_same p [] []
      simpa [Op.bytesLess] using this
    simp only [hs, beq_self_eq_true, Bool.true_and, Bool.false_or, if_true]
    by_cases hab : a = b
    · subst hab
      cases x <;> cases y <;> simp [Op.bytesLess]
    · rw [if_neg hab]
      have e1 : decide (18446744073709551615 - a = 18446744073709551615 - b) = false := by simp; omega
      rw [e1, Bool.false_and, Bool.or_false]
      rw [Bool.eq_iff_iff]
      simp
      omega
  · have hne : (p == q) = false := by simpa using hpq
    simp [hne]

theorem less_irrefl (l : List UInt8) : Op.bytesLess l l = false := by
  have := less_same l [] []
  simpa [Op.bytesLess] using this

theorem less_total (p q : List UInt8) (h : Op.bytesLess p q = false) (k : Op.bytesLess q p = false) : p = q := by
  induction p generalizing q with
  | nil => cases q with
    | nil => rfl
    | cons d q => simp [Op.bytesLess] at h
  | cons c p ih =>
    cases q with
    | nil => simp [Op.bytesLess] at k
    | cons d q =>
      simp only [Op.bytesLess, Bool.or_eq_false_iff, decide_eq_false_iff_not, UInt8.lt_iff_toNat_lt] at h k
      have e : c = d := UInt8.toNat_inj.1 (by omega)
      subst e
      simp only [beq_self_eq_true, Bool.true_and] at h k
      rw [ih q h.2 k.2]

theorem inner_inj (p q : List UInt8) (a b : Nat) (x y : Bool) (ha : a < 18446744073709551616) (hb : b < 18446744073709551616) :
    inner p a x = inner q b y ↔ p = q ∧ a = b ∧ x = y := by
  constructor
  · intro h
    have h1 : lessE p q a b x y = false := by rw [← less_inner p q a b x y ha hb, h, less_irrefl]
    have h2 : lessE q p b a y x = false := by rw [← less_inner q p b a y x hb ha, h, less_irrefl]
    by_cases hpq : p = q
    · subst hpq
      by_cases hab : a = b
      · subst hab
        cases x <;> cases y <;> simp [lessE] at h1 h2 ⊢
      · simp [lessE, hab, Ne.symm hab] at h1 h2
        omega
    · exfalso
      simp [lessE, hpq, Ne.symm hpq] at h1 h2
      exact hpq (less_total p q h1 h2)
  · rintro ⟨rfl, rfl, rfl⟩
    rfl
end Go.Proofs.YtfhdonidgegebaaDoor

/- Slices that may be appended to without a store into old memory. -/
namespace Go.Proofs.YtfhdonidgegebaaDoor
open Go Go.RowKit

theorem below_undrew {B : Nat} {w w' : World} (h : Below B w.drew w') : Below B w w' := ⟨h.os, h.tape, h.output, h.size, h.block⟩

/-- The slice value v has n elements of size cells each; its cells read xs. -/
def Reads (w : World) (size : Nat) (v : Value) (n : Nat) (xs : List Value) : Prop :=
  xs.length = n * size ∧ ∃ a cap, v = .slice a n cap ∧ n ≤ cap ∧ cap ≤ maxLen ∧ (∀ j u, xs[j]? = some u → ∃ b off, a = some ⟨b, off, none⟩ ∧ b < w.heap.size ∧ w.cell? ⟨b, off + j, none⟩ = some u)

/-- What is appended to it goes into a new row, or into its own, which is new (block B or later). -/
def Fresh (B : Nat) (w : World) (e : TypeId) (size : Nat) (v : Value) (n : Nat) (xs : List Value) : Prop :=
  Reads w size v n xs ∧ ((∃ a, v = .slice a n n) ∨ w.ownsRow B e size v n xs)

theorem Reads.firstCells {P : Program} {w : World} {size n : Nat} {v : Value} {xs : List Value} (h : Reads w size v n xs) (w' : World) (hw : w'.heap = w.heap) :
    (Builtin.firstCells size n v).run P w' = .ok xs.toArray w' := by
  obtain ⟨hl, a, cap, rfl, h1, h2, h3⟩ := h
  cases a with
  | none =>
    have : xs = [] := by
      cases xs with
      | nil => rfl
      | cons x r => obtain ⟨_, _, hc, _⟩ := h3 0 x rfl; cases hc
    subst this
    exact run_firstCells_none w' size n n cap
  | some a =>
    refine run_firstCells_some w' size n a n cap xs hl ?_
    intro j u hj
    obtain ⟨b, off, hc, _, hr⟩ := h3 j u hj
    cases hc
    rw [Addr.add_lit, World.cell?_of_block (w := w) (by rw [hw])]
    exact hr

theorem Reads.grown {w w' : World} {row : Option Nat} {size n : Nat} {v : Value} {xs : List Value} (h : Reads w size v n xs) (hg : w.grownBy w' row) (hne : v.ownBlock = none ∨ v.ownBlock ≠ row) : Reads w' size v n xs := by
  obtain ⟨hl, a, cap, rfl, h1, h2, h3⟩ := h
  refine ⟨hl, a, cap, rfl, h1, h2, fun j u hj => ?_⟩
  obtain ⟨b, off, rfl, hb, hr⟩ := h3 j u hj
  refine ⟨b, off, rfl, Nat.lt_of_lt_of_le hb hg.size, hg.cell hr ?_⟩
  rcases hne with hne | hne
  · cases hne
  · exact hne

theorem Fresh.grown {B : Nat} {w w' : World} {e : TypeId} {row : Option Nat} {size n : Nat} {v : Value} {xs : List Value} (h : Fresh B w e size v n xs) (hg : w.grownBy w' row) (hne : v.ownBlock = none ∨ v.ownBlock ≠ row) : Fresh B w' e size v n xs :=
  ⟨h.1.grown hg hne, h.2.imp id fun k => k.kept hg hne⟩

theorem Fresh.alloc {B : Nat} {w : World} {e : TypeId} {size n : Nat} {v : Value} {xs : List Value} (h : Fresh B w e size v n xs) (o : Obj) : Fresh B (w.alloc o) e size v n xs := by
  refine h.grown (World.grownBy_alloc w o none) ?_
  cases v.ownBlock <;> simp

theorem Fresh.drew {B : Nat} {w : World} {e : TypeId} {size n : Nat} {v : Value} {xs : List Value} (h : Fresh B w e size v n xs) : Fresh B w.drew e size v n xs := h

theorem ownsRow.reads {B : Nat} {w : World} {e : TypeId} {size n : Nat} {v : Value} {xs : List Value} (h : w.ownsRow B e size v n xs) : Reads w size v n xs := by
  refine ⟨h.1, ?_⟩
  rcases h.2 with ⟨rfl, rfl⟩ | ⟨g, cap, cur, rfl, h1, h2, h3, h4, h5, h6⟩
  · refine ⟨none, 0, rfl, Nat.le_refl _, Nat.zero_le _, fun j u hj => ?_⟩
    have := h.1
    simp at this
    subst this
    simp at hj
  · refine ⟨_, cap, rfl, h3, h4, fun j u hj => ⟨g, 0, rfl, (Array.getElem?_eq_some_iff.1 h2).1, ?_⟩⟩
    have := h.cells (g := g) rfl j u hj
    rwa [Addr.add_lit] at this

theorem tape_setCells (g : Nat) (vs : List Value) (o : Nat) (w : World) : (w.setCells g o vs).tape = w.tape := by
  induction vs generalizing o w with
  | nil => rfl
  | cons v vs ih => rw [World.setCells, ih]; rfl

theorem heap_setCells_same (g : Nat) (e : TypeId) (fz : Nat × Nat) (vs : List Value) (o : Nat) (w : World) (cur : Array Value) (h : w.heap[g]? = some (.cells cur e fz)) :
    ∃ cur', (w.setCells g o vs).heap[g]? = some (.cells cur' e fz) ∧ cur'.size = cur.size := by
  induction vs generalizing o w cur with
  | nil => exact ⟨cur, h, rfl⟩
  | cons v vs ih =>
    rw [World.setCells]
    have h1 : (w.setCell ⟨g, o, none⟩ v).heap[g]? = some (.cells (cur.setIfInBounds o v) e fz) := by
      have hlt := (Array.getElem?_eq_some_iff.1 h).1
      simp [World.setCell, Array.getElem?_modify, h]
    obtain ⟨cur', k1, k2⟩ := ih (o + 1) _ _ h1
    exact ⟨cur', k1, by rw [k2, Array.size_setIfInBounds]⟩

/-- The row of what is handed back is the one that it had, or a new one. -/
def Moves (w : World) (v v' : Value) : Prop := ∀ b, b < w.heap.size → v.ownBlock ≠ some b → v'.ownBlock ≠ some b

theorem run_append_fresh {P : Program} {w : World} (B : Nat) (t tx ty e : TypeId) (i : TypeInfo) (z : Value) (size bytes : Nat) (ht : P.underlying t = some (.slice e)) (hi : P.info? e = some i) (hz : i.zero = some z)
    (hsize : i.size = size) (hby : i.bytes = bytes) (hzs : z.cells.size = size)
    (v : Value) (n : Nat) (xs : List Value) (h : Fresh B w e size v n xs) (x : Value) (m : Nat) (news : List Value) (hs : Src P size tx x m news w)
    (h63 : n + m ≤ maxLen) (hbytes : (n + m) * bytes ≤ 140737488355328) (hB : B ≤ w.heap.size) :
    ∃ v' w', (Builtin.append_ #[t, tx] ty #[v, x]).run P w = .ok v' w' ∧ Fresh B w' e size v' (n + m) (xs ++ news) ∧ w.grownBy w' v.ownBlock ∧ Below B w w' ∧ Moves w v v' := by
  subst hsize
  subst hby
  have hsmall : n + m ≤ 9223372036854775807 := by simp only [maxLen] at h63; omega
  have hnl := hs.newsLen
  have hxl := h.1.1
  have hlen : (xs ++ news).length = (n + m) * i.size := by rw [List.length_append, hxl, hnl, Nat.add_mul]
  have grow : ∀ (bs : Option Addr) (sc : Nat), v = .slice bs n sc → sc < n + m →
      ∃ v' w', (Builtin.append_ #[t, tx] ty #[v, x]).run P w = .ok v' w' ∧ Fresh B w' e i.size v' (n + m) (xs ++ news) ∧ w.grownBy w' v.ownBlock ∧ Below B w w' ∧ Moves w v v' := by
    rintro bs sc hv hg
    have hold := h.1.firstCells (P := P) w.drew rfl
    subst hv
    have hrun := run_append_grow_src (P := P) w t tx ty e i z ht hi hz bs n sc xs hold x m news hs hg (by omega) (growslice_fits hg hbytes)
    have hge := grownCap_ge w (n + m) sc e
    have hcm := grownCap_le_maxLen w (n + m) sc e h63
    have hblk : ∀ k, k < w.heap.size → (w.drew.alloc (.cells ((xs ++ news).toArray ++ Builtin.zeroCells z.cells (grownCap w (n + m) sc e - (n + m))) e)).heap[k]? = w.heap[k]? := fun k hk => Below.heap_alloc w.drew _ k hk
    have hown : (w.drew.alloc (.cells ((xs ++ news).toArray ++ Builtin.zeroCells z.cells (grownCap w (n + m) sc e - (n + m))) e)).ownsRow B e i.size (.slice (some ⟨w.heap.size, 0, none⟩) (n + m) (grownCap w (n + m) sc e)) (n + m) (xs ++ news) := by
      refine ⟨hlen, .inr ⟨w.heap.size, _, _, rfl, hB, heap_alloc_new w.drew _, hge, hcm, ?_, ?_⟩⟩
      · rw [Array.size_append, List.size_toArray, hlen, size_zeroCells, hzs, ← Nat.add_mul]
        congr 1
        omega
      · simp only [Array.toList_append]
        rw [← hlen]
        exact List.take_left
    exact ⟨_, _, hrun, ⟨ownsRow.reads hown, .inr hown⟩, ⟨rfl, rfl, rfl, by simp, fun k hk _ => hblk k hk⟩, ⟨rfl, rfl, rfl, by simp, fun k hk => hblk k (by omega)⟩, fun b hb _ => by simp [Value.ownBlock]; omega⟩
  by_cases hm : m = 0
  · subst hm
    have hn : news = [] := List.eq_nil_of_length_eq_zero (by simpa using hnl)
    subst hn
    obtain ⟨_, a, cap, rfl, h1, h2, h3⟩ := h.1
    exact ⟨_, w, run_append_nothing (P := P) w t tx ty e i ht hi a n cap h1 x hs, by simpa using h, World.grownBy.refl _ _, Below.refl _ _, fun _ _ h => h⟩
  · rcases h.2 with ⟨a, hv⟩ | hown
    · exact grow a n hv (by omega)
    · rcases hown.2 with ⟨hv, h0⟩ | ⟨g, cap, cur, hv, hbg, hg, hnc, hcm, hcs, htake⟩
      · subst h0
        exact grow none 0 hv (by omega)
      · by_cases hroom : n + m ≤ cap
        · subst hv
          have hfit : n * i.size + news.length ≤ cur.size := by rw [hnl, hcs, ← Nat.add_mul]; exact Nat.mul_le_mul_right _ hroom
          have hc : ∀ j, j < news.length → (w.cell? ⟨g, 0 + n * i.size + j, none⟩).isSome = true := by
            intro j hj
            have hlt : n * i.size + j < cur.size := by omega
            simp [World.cell?, hg, Array.getElem?_eq_getElem hlt]
          have hf : ∀ j, j < news.length → w.frozen? ⟨g, 0 + n * i.size + j, none⟩ = false := by
            intro j hj
            simp [World.frozen?, hg]
          have hrun := run_append_room_src (P := P) w t tx ty e i ht hi g 0 n cap x m news hs hroom hc hf
          have hk := World.keptBut_setCells g (may := fun p => p.block = g) news (0 + n * i.size) w (fun _ _ => rfl)
          have hblk : ∀ k, k < w.heap.size → k ≠ g → (w.setCells g (0 + n * i.size) news).heap[k]? = w.heap[k]? := fun k hk1 hk2 => World.heap_setCells_other w g _ news hk1 hk2
          have hcell : ∀ j u, (xs ++ news)[j]? = some u → (w.setCells g (0 + n * i.size) news).cell? ⟨g, 0 + j, none⟩ = some u := by
            intro j u hj
            by_cases hjx : j < xs.length
            · rw [World.cell?_setCells_out g _ _ _ _ (fun _ _ => Or.inl (by show 0 + j < 0 + n * i.size; omega))]
              rw [List.getElem?_append_left hjx] at hj
              have := hown.cells (g := g) rfl j u hj
              rwa [Addr.add_lit] at this
            · rw [List.getElem?_append_right (by omega)] at hj
              obtain ⟨hjl, hju⟩ := List.getElem?_eq_some_iff.1 hj
              have := World.cell?_setCells_in g news (0 + n * i.size) w hc (j - xs.length) hjl
              rw [show 0 + n * i.size + (j - xs.length) = 0 + j by omega] at this
              rw [this, hju]
          obtain ⟨cur', hc1, hc2⟩ := heap_setCells_same g e (0, 0) news (0 + n * i.size) w cur hg
          have hown' : (w.setCells g (0 + n * i.size) news).ownsRow B e i.size (.slice (some ⟨g, 0, none⟩) (n + m) cap) (n + m) (xs ++ news) := by
            refine ⟨hlen, .inr ⟨g, cap, cur', rfl, hbg, hc1, hroom, hcm, by rw [hc2, hcs], ?_⟩⟩
            have hl1 : (n + m) * i.size ≤ cap * i.size := Nat.mul_le_mul_right _ hroom
            apply List.ext_getElem?
            intro j
            by_cases hj : j < (xs ++ news).length
            · have hr := hcell j _ (List.getElem?_eq_getElem hj)
              rw [List.getElem?_eq_getElem hj, ← hr, List.getElem?_take_of_lt (by omega)]
              unfold World.cell?
              rw [hc1]
              simp
            · rw [List.getElem?_eq_none (by rw [List.length_take]; omega), List.getElem?_eq_none (by omega)]
          exact ⟨_, _, hrun, ⟨ownsRow.reads hown', .inr hown'⟩, ⟨World.os_setCells _ _ _ _, tape_setCells _ _ _ _, World.output_setCells _ _ _ _, hk.size, fun k hk1 hk2 => hblk k hk1 (fun e => hk2 (by simp [Value.ownBlock, e]))⟩, ⟨World.os_setCells _ _ _ _, tape_setCells _ _ _ _, World.output_setCells _ _ _ _, hk.size, fun k hk1 => hblk k (by omega) (by omega)⟩, fun _ _ h => h⟩
        · exact grow _ cap hv (by omega)

/-- 'append(s, x...)' for the walk. -/
theorem wpList_append_fresh {P : Program} {w : World} {ops : Array Oper} {rest : List Oper} {o : Oper} {a : Act} {Q : Exit → Act → World → Prop} (hgd : o.guard = none) (s x : Operand) (t tx : TypeId)
    (ho : o.op = .call { callee := .builtin .append, args := #[s, x], argTypes := #[t, tx] })
    (B : Nat) (e : TypeId) (i : TypeInfo) (z : Value) (size bytes : Nat) (ht : P.underlying t = some (.slice e)) (hi : P.info? e = some i) (hz : i.zero = some z)
    (hsize : i.size = size) (hby : i.bytes = bytes) (hzs : z.cells.size = size)
    (v : Value) (n : Nat) (xs : List Value) (hs : a.eval s = v) (hown : Fresh B w e size v n xs)
    (xv : Value) (m : Nat) (news : List Value) (hx : a.eval x = xv) (hsrc : Src P size tx xv m news w)
    (h63 : n + m ≤ maxLen) (hbytes : (n + m) * bytes ≤ 140737488355328) (hB : B ≤ w.heap.size)
    (h : ∀ v' w', Fresh B w' e size v' (n + m) (xs ++ news) → w.grownBy w' v.ownBlock → Below B w w' → Moves w v v' → wpList P ops Q rest (a.put o.dst v') w') : wpList P ops Q (o :: rest) a w := by
  refine wpList_plain hgd fun K hK => ?_
  obtain ⟨v', w', hr, h2, h3, h4, h5⟩ := run_append_fresh (P := P) B t tx o.type e i z size bytes ht hi hz hsize hby hzs v n xs hown xv m news hsrc h63 hbytes hB
  unfold Oper.wp execOp
  simp only [ho, resolve, invoke, builtin, Sem.run_bind, Sem.run_pure, Result.andThen_ok, List.map_toArray, List.map_cons, List.map_nil, hs, hx, hr]
  exact hK _ _ (h v' w' h2 h3 h4 h5)

theorem Src.ofLits {P : Program} {tx e' e : TypeId} (hk : P.underlying tx = some (.slice e')) (w0 : World) (n : Nat) (us : List Value) (hl : us.length = n) (h1 : ∀ u ∈ us, u.oneCell' = true) :
    Src P 1 tx (.slice (some ⟨w0.heap.size, 0, none⟩) n n) n us (w0.alloc (.cells us.toArray e)) := by
  refine Src.ofSlice _ hk _ _ _ _ (by omega) ?_ h1
  intro j y hj
  rw [Addr.add_lit]
  rw [show (0 + j) = j by omega]
  rw [World.cell?_alloc_new w0 _ _ j]
  simpa using hj

/-- 'append(s, x, ..)' of cells that have just been laid in a block of their own. -/
theorem wpList_append_lits {P : Program} {w0 : World} {ops : Array Oper} {rest : List Oper} {o : Oper} {a : Act} {Q : Exit → Act → World → Prop} (hgd : o.guard = none) (s x : Operand) (t : TypeId)
    (ho : o.op = .call { callee := .builtin .append, args := #[s, x], argTypes := #[t, t] })
    (B : Nat) (e : TypeId) (i : TypeInfo) (z : Value) (bytes : Nat) (ht : P.underlying t = some (.slice e)) (hi : P.info? e = some i) (hz : i.zero = some z)
    (hsize : i.size = 1) (hby : i.bytes = bytes) (hzs : z.cells.size = 1)
    {v : Value} {n : Nat} {xs : List Value} (us : List Value) (m : Nat) (hl : us.length = m) (hown : Fresh B w0 e 1 v n xs) (hs : a.eval s = v) (hx : a.eval x = .slice (some ⟨w0.heap.size, 0, none⟩) m m) (h1 : ∀ u ∈ us, u.oneCell' = true)
    (h63 : n + m ≤ maxLen) (hbytes : (n + m) * bytes ≤ 140737488355328) (hB : B ≤ w0.heap.size)
    (h : ∀ v' w', Fresh B w' e 1 v' (n + m) (xs ++ us) → w0.grownBy w' v.ownBlock → Below B w0 w' → Moves w0 v v' → wpList P ops Q rest (a.put o.dst v') w') : wpList P ops Q (o :: rest) a (w0.alloc (.cells us.toArray e)) := by
  refine wpList_append_fresh hgd s x t t ho B e i z 1 bytes ht hi hz hsize hby hzs v n xs hs (hown.alloc _) _ m us hx (Src.ofLits ht w0 m us hl h1) h63 hbytes (by simp; omega) (fun v' w' k1 k2 k3 k4 => h v' w' k1 ((World.grownBy_alloc w0 _ _).trans k2) (((Below.refl _ _).alloc hB _).trans k3) (fun b hb => k4 b (by simp; omega)))

/-- 'append(s, x)' of one cell that has just been laid in a block of its own. -/
theorem wpList_append_one {P : Program} {w0 : World} {ops : Array Oper} {rest : List Oper} {o : Oper} {a : Act} {Q : Exit → Act → World → Prop} (hgd : o.guard = none) (s x : Operand) (t : TypeId)
    (ho : o.op = .call { callee := .builtin .append, args := #[s, x], argTypes := #[t, t] })
    (B : Nat) (e : TypeId) (i : TypeInfo) (z : Value) (bytes : Nat) (ht : P.underlying t = some (.slice e)) (hi : P.info? e = some i) (hz : i.zero = some z)
    (hsize : i.size = 1) (hby : i.bytes = bytes) (hzs : z.cells.size = 1)
    {v : Value} {n : Nat} {xs : List Value} {u : Value} (hown : Fresh B w0 e 1 v n xs) (hs : a.eval s = v) (hx : a.eval x = .slice (some ⟨w0.heap.size, 0, none⟩) 1 1) (h1 : u.oneCell' = true)
    (h63 : n + 1 ≤ maxLen) (hbytes : (n + 1) * bytes ≤ 140737488355328) (hB : B ≤ w0.heap.size)
    (h : ∀ v' w', Fresh B w' e 1 v' (n + 1) (xs ++ [u]) → w0.grownBy w' v.ownBlock → Below B w0 w' → Moves w0 v v' → wpList P ops Q rest (a.put o.dst v') w') : wpList P ops Q (o :: rest) a (w0.alloc (.cells #[u] e)) :=
  wpList_append_lits hgd s x t ho B e i z bytes ht hi hz hsize hby hzs [u] 1 rfl hown hs hx (fun y hy => by simp at hy; subst hy; exact h1) h63 hbytes hB h

theorem Reads.src {P : Program} {w : World} {size n : Nat} {v : Value} {xs : List Value} {tx e' : TypeId} (hk : P.underlying tx = some (.slice e')) (h : Reads w size v n xs) (h1 : ∀ u ∈ xs, u.oneCell' = true) : Src P size tx v n xs w := by
  refine ⟨.inl ⟨e', hk⟩, fun w' => ?_, h.firstCells w rfl, h.firstCells w.drew rfl, h.1, h1⟩
  obtain ⟨_, a, cap, rfl, _⟩ := h
  rfl

theorem Reads.alloc {w : World} {size n : Nat} {v : Value} {xs : List Value} (h : Reads w size v n xs) (o : Obj) : Reads (w.alloc o) size v n xs := by
  refine h.grown (World.grownBy_alloc w o none) ?_
  cases v.ownBlock <;> simp

theorem Reads.drew {w : World} {size n : Nat} {v : Value} {xs : List Value} (h : Reads w size v n xs) : Reads w.drew size v n xs := h

/-- What lies in old blocks reads as it did. -/
theorem Reads.below {B : Nat} {w w' : World} {size n : Nat} {v : Value} {xs : List Value} (h : Reads w size v n xs) (hb : Below B w w') (hB : ∀ b, v.ownBlock = some b → b < B) : Reads w' size v n xs := by
  obtain ⟨hl, a, cap, rfl, h1, h2, h3⟩ := h
  refine ⟨hl, a, cap, rfl, h1, h2, fun j u hj => ?_⟩
  obtain ⟨b, off, rfl, hlt, hr⟩ := h3 j u hj
  exact ⟨b, off, rfl, Nat.lt_of_lt_of_le hlt hb.size, (hb.cell (hB b rfl)).trans hr⟩

theorem Reads.below' {w w' : World} {size n : Nat} {v : Value} {xs : List Value} (h : Reads w size v n xs) (hb : Below w.heap.size w w') : Reads w' size v n xs := by
  obtain ⟨hl, a, cap, rfl, h1, h2, h3⟩ := h
  refine ⟨hl, a, cap, rfl, h1, h2, fun j u hj => ?_⟩
  obtain ⟨b, off, rfl, hlt, hr⟩ := h3 j u hj
  exact ⟨b, off, rfl, Nat.lt_of_lt_of_le hlt hb.size, (hb.cell hlt).trans hr⟩

/-- The bytes l, as cells. -/
def bcells (l : List UInt8) : List Value := l.map fun b => Value.int .u8 (b.toNat : Int)

theorem bcells_append (a b : List UInt8) : bcells (a ++ b) = bcells a ++ bcells b := List.map_append ..
theorem bcells_length (a : List UInt8) : (bcells a).length = a.length := List.length_map ..
theorem bcells_one (a : List UInt8) : ∀ u ∈ bcells a, u.oneCell' = true := by
  intro u hu
  obtain ⟨_, _, rfl⟩ := List.mem_map.1 hu
  rfl
theorem bcells_byteCells (s : ByteArray) : byteCells s = bcells s.data.toList := rfl

theorem bcells_snoc (l : List UInt8) (b : UInt8) {z : Int} (h : z = (b.toNat : Int)) : bcells l ++ [Value.int .u8 z] = bcells (l ++ [b]) := by
  subst h; simp [bcells]

theorem Reads.head {w : World} {n : Nat} {v : Value} {l : List UInt8} (h : Reads w 1 v n (bcells l)) (hp : 0 < n) :
    ∃ b off cap, v = .slice (some ⟨b, off, none⟩) n cap ∧ n ≤ cap ∧ cap ≤ maxLen ∧ l.length = n ∧ ∀ j, (hj : j < n) → w.cell? ⟨b, off + j, none⟩ = some (.int .u8 ((l.getD j 0).toNat : Int)) := by
  obtain ⟨hl, a, cap, rfl, h1, h2, h3⟩ := h
  rw [bcells_length] at hl
  have hg : ∀ j, j < n → (bcells l)[j]? = some (.int .u8 ((l.getD j 0).toNat : Int)) := by
    intro j hj
    simp [bcells, List.getElem?_eq_getElem (show j < l.length by omega)]
  obtain ⟨b, off, rfl, _, _⟩ := h3 0 _ (hg 0 hp)
  refine ⟨b, off, cap, rfl, h1, h2, by omega, fun j hj => ?_⟩
  obtain ⟨b', off', e, _, hr⟩ := h3 j _ (hg j hj)
  cases e
  exact hr

/-- 'string(b)'. -/
theorem Reads.conv {P : Program} {w : World} {n : Nat} {v : Value} {l : List UInt8} {src e dst : TypeId} (hs : P.underlying src = some (.slice e)) (he : P.underlying e = some (.int .u8)) (hd : P.underlying dst = some .string)
    (h : Reads w 1 v n (bcells l)) : (convert src dst v).run P w = .ok (.string ⟨l.toArray⟩) w := by
  by_cases hp : n = 0
  · subst hp
    obtain ⟨hl, a, cap, rfl, h1, h2, h3⟩ := h
    obtain rfl : l = [] := by simpa [bcells_length] using hl
    cases a with
    | none => exact run_convert_bytes_nil w src e hs he _ _ dst hd
    | some a =>
      have hl : (loadCells a 0).run P w = .ok ((([] : List Int)).map (Value.int .u8)).toArray w := by
        simp [loadCells, loadCellsFrom]
      rw [run_convert_bytes_string w src dst e _ 0 cap hs he hd, run_bytesToString w _ 0 cap [] hl]
      rfl
  · obtain ⟨b, off, cap, rfl, h1, h2, hl, hcell⟩ := h.head (by omega)
    have := run_convert_bytes_arg w src e hs he b off n cap (l.map fun b => (b.toNat : Int)) (by simpa using hl) (fun i hi => by
      rw [hcell i hi]
      simp [List.getD, show i < l.length by omega]) dst hd
    rw [this]
    have e : (l.map fun b => (b.toNat : Int)).map (fun n => UInt8.ofNat n.toNat) = l := by
      rw [List.map_map]
      exact (List.map_congr_left fun b _ => by simp).trans (List.map_id l)
    unfold strOfNums
    rw [e]

/-- What a slice of bytes that came in reads as. -/
def IsRow (k : IntKind) (w : World) (a : Option Addr) (len cap : Nat) (zs : List Int) : Prop :=
  (a = none ∧ len = 0 ∧ cap = 0 ∧ zs = []) ∨
  ∃ x, a = some x ∧ len ≤ cap ∧ cap ≤ maxLen ∧ zs.length = cap ∧ (∀ i, i < zs.length → w.cell? (x.add i) = some (.int k (zs.getD i 0))) ∧ ∀ n ∈ zs, (Lit.int k n).wf = true

theorem IsRow.reads {w : World} {a : Option Addr} {len cap : Nat} {zs : List Int} (h : IsRow .u8 w a len cap zs) : ∃ l : List UInt8, l.length = len ∧ Reads w 1 (.slice a len cap) len (bcells l) := by
  rcases h with ⟨rfl, rfl, rfl, rfl⟩ | ⟨x, rfl, h1, h2, h3, h4, h5⟩
  · exact ⟨[], rfl, by simp [bcells], none, 0, rfl, Nat.le_refl _, Nat.zero_le _, fun j u hj => by simp [bcells] at hj⟩
  · refine ⟨(zs.take len).map fun z => UInt8.ofNat z.toNat, by simp; omega, by simp [bcells]; omega, _, cap, rfl, h1, h2, fun j u hj => ?_⟩
    have hj' := (List.getElem?_eq_some_iff.1 hj).1
    simp [bcells] at hj'
    have hj1 : j < len := by omega
    have hj2 : j < zs.length := by omega
    have hw := h5 zs[j] (List.getElem_mem _)
    have hb : 0 ≤ zs[j] ∧ zs[j] ≤ 255 := by simpa [Lit.wf, IntKind.min, IntKind.max, IntKind.signed, IntKind.bits] using hw
    have hc := h4 j (by omega)
    obtain ⟨b, off, spot⟩ := x
    have hspot : spot = none := by
      have h0 := h4 0 (by omega)
      simpa [Addr.add] using World.cell?_spot h0
    subst hspot
    rw [Addr.add_lit] at hc
    refine ⟨b, off, rfl, World.block_lt_of_cell? _ _ hc, ?_⟩
    rw [hc]
    simp [bcells, hj1, hj2] at hj
    rw [← hj]
    simp [List.getD, hj2]
    omega

theorem Reads.take {w : World} {n : Nat} {v : Value} {l : List UInt8} (h : Reads w 1 v n (bcells l)) (k : Nat) (hk : k ≤ n) :
    ∃ a cap, v = .slice a n cap ∧ n ≤ cap ∧ cap ≤ maxLen ∧ Reads w 1 (.slice a k cap) k (bcells (l.take k)) := by
  obtain ⟨hl, a, cap, rfl, h1, h2, h3⟩ := h
  rw [bcells_length] at hl
  refine ⟨a, cap, rfl, h1, h2, by rw [bcells_length, List.length_take]; omega, a, cap, rfl, by omega, h2, fun j u hj => h3 j u ?_⟩
  simp only [bcells, List.map_take] at hj ⊢
  rw [List.getElem?_take] at hj
  split at hj
  · exact hj
  · cases hj

/-- A slice of what is read. -/
theorem Reads.skip {w : World} {n : Nat} {b off cap : Nat} {l : List UInt8} (h : Reads w 1 (.slice (some ⟨b, off, none⟩) n cap) n (bcells l)) (k : Nat) (hk : k ≤ n) :
    Reads w 1 (.slice (some ⟨b, off + k, none⟩) (n - k) (cap - k)) (n - k) (bcells (l.drop k)) := by
  obtain ⟨hl, a, cap', hv, h1, h2, h3⟩ := h
  cases hv
  rw [bcells_length] at hl
  refine ⟨by rw [bcells_length, List.length_drop]; omega, _, _, rfl, by omega, by omega, fun j u hj => ?_⟩
  simp only [bcells, List.map_drop] at hj h3
  rw [List.getElem?_drop] at hj
  obtain ⟨b', off', e, hb, hr⟩ := h3 _ _ hj
  cases e
  exact ⟨_, _, rfl, hb, by rw [Nat.add_assoc]; exact hr⟩

theorem Reads.le {w : World} {size n : Nat} {v : Value} {xs : List Value} (h : Reads w size v n xs) : ∃ a cap, v = .slice a n cap ∧ n ≤ cap ∧ cap ≤ maxLen := by
  obtain ⟨_, a, cap, rfl, h1, h2, _⟩ := h
  exact ⟨a, cap, rfl, h1, h2⟩

/-- '[]byte(s)'. -/
theorem wpList_bytes {P : Program} {w : World} {ops : Array Oper} {rest : List Oper} {o : Oper} {a : Act} {Q : Exit → Act → World → Prop} (hgd : o.guard = none) (x : Operand) (src dst e : TypeId)
    (ho : o.op = .convert src dst x) (hs : P.underlying src = some .string) (hd : P.underlying dst = some (.slice e)) (he : P.underlying e = some (.int .u8)) (s : ByteArray) (hx : a.eval x = .string s) (hlen : s.size ≤ maxLen)
    (h : ∀ cap w', Reads w' 1 (.slice (some ⟨w.heap.size, 0, none⟩) s.size cap) s.size (bcells s.data.toList) → w.grownBy w' none → Below w.heap.size w w' → w.heap.size < w'.heap.size → wpList P ops Q rest (a.put o.dst (.slice (some ⟨w.heap.size, 0, none⟩) s.size cap)) w') : wpList P ops Q (o :: rest) a w := by
  refine wpList_plain hgd fun K hK => ?_
  have hrun := run_bytes_of_string (P := P) w src dst e s hs hd he
  have hge := grownCap_ge w s.size 0 e
  have hle := grownCap_le_maxLen w s.size 0 e hlen
  unfold Oper.wp execOp
  simp only [ho, Sem.run_bind, Sem.run_pure, Result.andThen_ok, hx, hrun]
  refine hK _ _ (h _ _ ⟨?_, _, _, rfl, hge, hle, fun j u hj => ⟨_, _, rfl, by simp, ?_⟩⟩ ⟨rfl, rfl, rfl, by simp, fun k hk _ => Below.heap_alloc w.drew _ k hk⟩ ⟨rfl, rfl, rfl, by simp, fun k hk => Below.heap_alloc w.drew _ k hk⟩ (by simp))
  · rw [bcells_length, Array.length_toList, Nat.mul_one]
    rfl
  · obtain ⟨hjl, hju⟩ := List.getElem?_eq_some_iff.1 hj
    rw [bcells_length, Array.length_toList] at hjl
    have : ((w.drew.alloc (.cells (bytesRow s (grownCap w s.size 0 e)) e ((bytesRow s (grownCap w s.size 0 e)).size, (bytesRow s (grownCap w s.size 0 e)).size + 1))).heap[w.heap.size]?) = some (.cells (bytesRow s (grownCap w s.size 0 e)) e ((bytesRow s (grownCap w s.size 0 e)).size, (bytesRow s (grownCap w s.size 0 e)).size + 1)) := heap_alloc_new w.drew _
    unfold World.cell?
    simp only [this]
    simp only [bcells, List.getElem_map, Array.getElem_toList] at hju
    have hjs : j < s.size := hjl
    simp [bytesRow, ← hju, Array.getElem?_append, hjs]

/-- 'make([]T, 0, n)'. -/
theorem wpList_make_fresh {P : Program} {w : World} {ops : Array Oper} {rest : List Oper} {o : Oper} {a : Act} {Q : Exit → Act → World → Prop} (hg : o.guard = none) (l c : Operand) (t : TypeId) (hop : o.op = Op.makeSlice t l c)
    (B : Nat) (e : TypeId) (i : TypeInfo) (z : Value) (size bytes : Nat) (h1 : P.underlying t = some (.slice e)) (h2 : P.info? e = some i) (h3 : i.zero = some z) (h4 : i.size = size) (h5 : i.bytes = bytes)
    (kl kc : IntKind) (C : Int) (n : Nat) (hl : a.eval l = .int kl 0) (hc : a.eval c = .int kc C) (hC : C = (n : Int)) (b2 : bytes * n ≤ 281474976710656) (b3 : n ≤ maxLen) (b4 : B ≤ w.heap.size)
    (hK : ∀ w', Fresh B w' e size (.slice (some ⟨w.heap.size, 0, none⟩) 0 n) 0 [] → w.grownBy w' none → Below w.heap.size w w' → w.heap.size < w'.heap.size → wpList P ops Q rest (a.put o.dst (.slice (some ⟨w.heap.size, 0, none⟩) 0 n)) w') : wpList P ops Q (o :: rest) a w := by
  subst h5
  refine wpList_make_own w hg l c t hop B e i z size h1 h2 h3 h4 kl kc C n hl hc hC b2 b3 b4 fun w' hown hg => ?_
  refine hK w' ⟨ownsRow.reads hown, .inr hown⟩ hg ⟨hg.os, hg.tape, hg.output, hg.size, fun k hk => hg.block k hk (by simp)⟩ ?_
  exact (hown.lt w.heap.size rfl).2
end Go.Proofs.YtfhdonidgegebaaDoor

/- What several layers' walks share. -/
namespace Go.Proofs.YtfhdonidgegebaaDoor
open Go.RowKit

theorem info5 : (Tryd.prog.info? 5).map (fun i => (i.zero, i.size, i.bytes)) = some (some (.int .u8 0), 1, 1) := by kernel_rfl

/-- A slice of bytes is handed back that reads l and is new, or has no spare room; nothing old is changed. -/
def GivesBytes (w : World) (l : List UInt8) (e : Ending) (w' : World) : Prop :=
  ∃ v', e = .returned v' ∧ Fresh w.heap.size w' 5 1 v' l.length (bcells l) ∧ Below w.heap.size w w'

def SaysTrue (w : World) (e : Ending) (w' : World) : Prop := e = .returned (.bool true) ∧ Below w.heap.size w w'

/-- A truth is told; nothing old is changed. -/
def GivesBool (w : World) (b : Bool) (e : Ending) (w' : World) : Prop := e = .returned (.bool b) ∧ Below w.heap.size w w'

/-- A number of 64 bits is told; nothing old is changed. -/
def GivesU64 (w : World) (n : Nat) (e : Ending) (w' : World) : Prop := e = .returned (.int .u64 (n : Int)) ∧ Below w.heap.size w w'

/-- The strings l, as cells. -/
def scells (l : List ByteArray) : List Value := l.map Value.string

theorem Reads.scell {w : World} {a : Option Addr} {n cap : Nat} {l : List ByteArray} (h : Reads w 1 (.slice a n cap) n (scells l)) (j : Nat) (hj : j < n) :
    ∃ b off s, a = some ⟨b, off, none⟩ ∧ l[j]? = some s ∧ b < w.heap.size ∧ w.cell? ⟨b, off + j, none⟩ = some (.string s) := by
  obtain ⟨hl, a', cap', hv, _, _, h3⟩ := h
  cases hv
  have hlen : j < l.length := by simp [scells] at hl; omega
  obtain ⟨b, off, rfl, hb, hc⟩ := h3 j (.string l[j]) (by simp [scells, hlen])
  exact ⟨b, off, l[j], rfl, List.getElem?_eq_getElem hlen, hb, hc⟩

theorem Reads.bcell {w : World} {b off n cap : Nat} {l : List UInt8} (h : Reads w 1 (.slice (some ⟨b, off, none⟩) n cap) n (bcells l)) (k : Nat) (hk : k < n) :
    w.cell? ⟨b, off + k, none⟩ = some (.int .u8 ((l.getD k 0).toNat : Int)) := by
  obtain ⟨b', off', cap', hv, _, _, _, hc⟩ := h.head (by omega)
  cases hv
  exact hc k hk

/-- A row of no cells that has just been laid. -/
theorem fresh_empty (w : World) (e : TypeId) (size : Nat) : Fresh w.heap.size (w.alloc (.cells #[] e)) e size (.slice (some ⟨w.heap.size, 0, none⟩) 0 0) 0 [] :=
  ⟨⟨by simp, _, 0, rfl, Nat.le_refl _, Nat.zero_le _, fun j u h => by simp at h⟩, .inl ⟨_, rfl⟩⟩

theorem entryBox {w w1 : World} {cs : Array Value} {t : TypeId} (b : Below (w.heap.size + 1) (w.alloc (.cells cs t)) w1) :
    (∀ j, w1.cell? ⟨w.heap.size, j, none⟩ = cs[j]?) ∧ (∀ j, w1.frozen? ⟨w.heap.size, j, none⟩ = false) := by
  have h : w1.heap[w.heap.size]? = some (.cells cs t (0, 0)) := (b.block _ (Nat.lt_succ_self _)).trans (heap_alloc_new w _)
  exact ⟨fun j => Lib.cell_of_heap h j, fun j => Lib.frozen_of_heap h j⟩
end Go.Proofs.YtfhdonidgegebaaDoor

/- Strings in order; a row of strings, each once. -/
namespace Go.Proofs.YtfhdonidgegebaaDoor
open Go Go.RowKit

theorem less_trans {a b c : List UInt8} (h : Op.bytesLess a b = true) (k : Op.bytesLess b c = true) : Op.bytesLess a c = true := by
  rw [bytesLess_eq, decide_eq_true_eq] at *
  exact List.lt_trans h k

theorem less_asymm {a b : List UInt8} (h : Op.bytesLess a b = true) : Op.bytesLess b a = false := by
  cases k : Op.bytesLess b a with
  | false => rfl
  | true =>
    have := less_trans h k
    rw [less_irrefl] at this
    cases this

def bl (a b : ByteArray) : Bool := Op.bytesLess a.data.toList b.data.toList

theorem bl_spell (x y : ByteArray) : Op.bytesLess x.toList y.toList = bl x y := by
  unfold bl
  rw [Go.ByteArray.toList_eq, Go.ByteArray.toList_eq]

theorem bl_trans {a b c : ByteArray} (h : bl a b = true) (k : bl b c = true) : bl a c = true := less_trans h k
theorem bl_irrefl (a : ByteArray) : bl a a = false := less_irrefl _
theorem bl_asymm {a b : ByteArray} (h : bl a b = true) : bl b a = false := less_asymm h
theorem bl_total {a b : ByteArray} (h : bl a b = false) (k : bl b a = false) : a = b := Go.WideShapes.bytes_inj (less_total _ _ h k)
theorem bl_ne {a b : ByteArray} (h : bl a b = true) : a ≠ b := fun e => by subst e; rw [bl_irrefl] at h; cases h
/-- not less: equal, or greater -/
theorem bl_ge {a b : ByteArray} (h : bl a b = false) (hne : a ≠ b) : bl b a = true := by
  cases k : bl b a with
  | true => rfl
  | false => exact absurd (bl_total h k) hne

/-- Each is less than those behind it. -/
def rises (l : List ByteArray) : Prop := l.Pairwise (fun a b => bl a b = true)

theorem rises_nil : rises [] := List.Pairwise.nil
theorem rises_snoc {l : List ByteArray} {x : ByteArray} : rises (l ++ [x]) ↔ rises l ∧ ∀ y ∈ l, bl y x = true := by
  unfold rises
  rw [List.pairwise_append]
  simp

/-- What is asked of neighbours alone. -/
def stepsUp (l : List ByteArray) (n : Nat) : Prop := ∀ i, 0 < i → i < n → ∀ x y, l[i - 1]? = some x → l[i]? = some y → bl x y = true

theorem rises_of_steps (l : List ByteArray) (h : stepsUp l l.length) : rises l := by
  induction l with
  | nil => exact rises_nil
  | cons a r ih =>
    have hr : rises r := ih (fun i h0 hi x y hx hy => h (i + 1) (by omega) (by simp; omega) x y (by
      rw [show i + 1 - 1 = i - 1 + 1 by omega]
      simpa using hx) (by simpa using hy))
    refine List.Pairwise.cons (fun y hy => ?_) hr
    cases r with
    | nil => cases hy
    | cons b r =>
      have hab : bl a b = true := h 1 (by omega) (by simp) a b rfl rfl
      rcases List.mem_cons.1 hy with rfl | hy
      · exact hab
      · exact bl_trans hab (List.rel_of_pairwise_cons hr hy)

theorem steps_of_rises {l : List ByteArray} (h : rises l) : stepsUp l l.length := by
  intro i h0 hi x y hx hy
  obtain ⟨h1, rfl⟩ := List.getElem?_eq_some_iff.1 hx
  obtain ⟨h2, rfl⟩ := List.getElem?_eq_some_iff.1 hy
  exact List.pairwise_iff_getElem.1 h (i - 1) i h1 h2 (by omega)

instance (l : List ByteArray) : Decidable (rises l) := by unfold rises; infer_instance

theorem not_rises {l : List ByteArray} {i : Nat} {x y : ByteArray} (h0 : 0 < i) (hx : l[i - 1]? = some x) (hy : l[i]? = some y) (h : bl x y = false) : ¬ rises l := fun hr => by
  have := steps_of_rises hr i h0 (List.getElem?_eq_some_iff.1 hy).1 x y hx hy
  rw [h] at this
  cases this

/-- Where a key belongs: behind those that are less. -/
def putAt (l : List ByteArray) (k : ByteArray) : Nat := (l.takeWhile fun x => bl x k).length
def putK (l : List ByteArray) (k : ByteArray) : List ByteArray := if l[putAt l k]? = some k then l else l.take (putAt l k) ++ k :: l.drop (putAt l k)

theorem putAt_le (l : List ByteArray) (k : ByteArray) : putAt l k ≤ l.length := (List.takeWhile_sublist _).length_le

theorem putAt_lt {l : List ByteArray} {k x : ByteArray} {i : Nat} (h : i < putAt l k) (hx : l[i]? = some x) : bl x k = true := by
  induction l generalizing i with
  | nil => simp at hx
  | cons a r ih =>
    unfold putAt at h
    rw [List.takeWhile_cons] at h
    split at h
    · rename_i ha
      cases i with
      | zero => simp at hx; subst hx; exact ha
      | succ i => exact ih (by unfold putAt; simpa using h) (by simpa using hx)
    · simp at h

theorem putAt_at {l : List ByteArray} {k x : ByteArray} (hx : l[putAt l k]? = some x) : bl x k = false := by
  induction l with
  | nil => simp at hx
  | cons a r ih =>
    unfold putAt at hx
    rw [List.takeWhile_cons] at hx
    split at hx
    · exact ih (by unfold putAt; simpa using hx)
    · rename_i ha
      simp at hx
      subst hx
      simpa using ha

/-- The place is found one by one. -/
theorem putAt_eq {l : List ByteArray} {k : ByteArray} {i : Nat} (h : ∀ j x, j < i → l[j]? = some x → bl x k = true) (hi : i ≤ l.length) (hat : ∀ x, l[i]? = some x → bl x k = false) : putAt l k = i := by
  rcases Nat.lt_trichotomy (putAt l k) i with hlt | he | hgt
  · have hl : putAt l k < l.length := by omega
    have h1 := putAt_at (List.getElem?_eq_getElem hl)
    rw [h _ _ hlt (List.getElem?_eq_getElem hl)] at h1
    cases h1
  · exact he
  · have hl : i < l.length := Nat.lt_of_lt_of_le hgt (putAt_le l k)
    have h1 := putAt_lt hgt (List.getElem?_eq_getElem hl)
    rw [hat _ (List.getElem?_eq_getElem hl)] at h1
    cases h1

theorem putK_length (l : List ByteArray) (k : ByteArray) : (putK l k).length ≤ l.length + 1 := by
  have := putAt_le l k
  unfold putK
  split
  · omega
  · simp
    omega

theorem putK_mem {l : List ByteArray} {k x : ByteArray} (h : x ∈ putK l k) : x = k ∨ x ∈ l := by
  unfold putK at h
  split at h
  · exact .inr h
  · rcases List.mem_append.1 h with h | h
    · exact .inr (List.mem_of_mem_take h)
    · rcases List.mem_cons.1 h with h | h
      · exact .inl h
      · exact .inr (List.mem_of_mem_drop h)

theorem mem_putK {l : List ByteArray} {k x : ByteArray} (h : x = k ∨ x ∈ l) : x ∈ putK l k := by
  unfold putK
  split
  · rename_i hk
    rcases h with rfl | h
    · exact List.mem_of_getElem? hk
    · exact h
  · rcases h with rfl | h
    · simp
    · rw [← List.take_append_drop (putAt l k) l] at h
      rcases List.mem_append.1 h with h | h
      · exact List.mem_append_left _ h
      · exact List.mem_append_right _ (List.mem_cons_of_mem _ h)

theorem putK_rises {l : List ByteArray} {k : ByteArray} (h : rises l) : rises (putK l k) := by
  unfold putK
  split
  · exact h
  · rename_i hne
    have hp := h
    unfold rises at hp ⊢
    rw [← List.take_append_drop (putAt l k) l, List.pairwise_append] at hp
    rw [List.pairwise_append]
    refine ⟨hp.1, List.Pairwise.cons (fun y hy => ?_) hp.2.1, fun a ha b hb => ?_⟩
    · obtain ⟨i, hi⟩ := List.getElem?_of_mem hy
      rw [List.getElem?_drop] at hi
      have hl : putAt l k < l.length := by have := (List.getElem?_eq_some_iff.1 hi).1; omega
      have h0 := List.getElem?_eq_getElem hl
      have hk : bl k l[putAt l k] = true := bl_ge (putAt_at h0) (fun e => hne (by rw [h0, e]))
      by_cases hi0 : i = 0
      · subst hi0
        rw [Nat.add_zero, h0] at hi
        cases hi
        exact hk
      · obtain ⟨h1, rfl⟩ := List.getElem?_eq_some_iff.1 hi
        exact bl_trans hk (List.pairwise_iff_getElem.1 h _ _ hl h1 (by omega))
    · obtain ⟨i, hi⟩ := List.getElem?_of_mem ha
      rw [List.getElem?_take] at hi
      split at hi
      · rename_i hlt
        have hak := putAt_lt hlt hi
        rcases List.mem_cons.1 hb with rfl | hb
        · exact hak
        · exact hp.2.2 a ha b hb
      · cases hi

end Go.Proofs.YtfhdonidgegebaaDoor

/- Slices of strings, cut. -/
namespace Go.Proofs.YtfhdonidgegebaaDoor
open Go Go.RowKit

theorem scells_length (l : List ByteArray) : (scells l).length = l.length := List.length_map ..
theorem scells_append (a b : List ByteArray) : scells (a ++ b) = scells a ++ scells b := List.map_append ..
theorem scells_one (l : List ByteArray) : ∀ u ∈ scells l, u.oneCell' = true := by
  intro u hu
  obtain ⟨_, _, rfl⟩ := List.mem_map.1 hu
  rfl

theorem info9 : (Tryd.prog.info? 9).map (fun i => (i.zero, i.size, i.bytes)) = some (some (.string ⟨#[]⟩), 1, 16) := by kernel_rfl

theorem Reads.stake {w : World} {a : Option Addr} {n cap : Nat} {l : List ByteArray} (h : Reads w 1 (.slice a n cap) n (scells l)) (k : Nat) (hk : k ≤ n) : Reads w 1 (.slice a k cap) k (scells (l.take k)) := by
  obtain ⟨hl, a', cap', hv, h1, h2, h3⟩ := h
  cases hv
  rw [scells_length] at hl
  refine ⟨by rw [scells_length, List.length_take]; omega, a, cap, rfl, by omega, h2, fun j u hj => h3 j u ?_⟩
  simp only [scells, List.map_take] at hj ⊢
  rw [List.getElem?_take] at hj
  split at hj
  · exact hj
  · cases hj

/-- The address behind the first k elements, as the model leaves it. -/
def behind (a : Option Addr) (k cap : Nat) : Option Addr := if cap = k then a else a.map fun x => x.add k

theorem Reads.sdrop {w : World} {a : Option Addr} {n cap : Nat} {l : List ByteArray} (h : Reads w 1 (.slice a n cap) n (scells l)) (k : Nat) (hk : k ≤ n) : Reads w 1 (.slice (behind a k cap) (n - k) (cap - k)) (n - k) (scells (l.drop k)) := by
  obtain ⟨hl, a', cap', hv, h1, h2, h3⟩ := h
  cases hv
  rw [scells_length] at hl
  refine ⟨by rw [scells_length, List.length_drop]; omega, _, _, rfl, by omega, by omega, fun j u hj => ?_⟩
  have hjl := (List.getElem?_eq_some_iff.1 hj).1
  rw [scells_length, List.length_drop] at hjl
  simp only [scells, List.map_drop] at hj h3
  rw [List.getElem?_drop] at hj
  obtain ⟨b, off, rfl, hb, hr⟩ := h3 _ _ hj
  unfold behind
  rw [if_neg (by omega)]
  exact ⟨b, off + k, by simp [Addr.add], hb, by rw [Nat.add_assoc]; exact hr⟩
end Go.Proofs.YtfhdonidgegebaaDoor

namespace Go.Proofs.YtfhdonidgegebaaDoor
open Go Go.RowKit

/-- A value is told; nothing old is changed. -/
def GivesVal (w : World) (v : Value) (e : Ending) (w' : World) : Prop := e = .returned v ∧ Below w.heap.size w w'

theorem below_block {B : Nat} {w w' : World} (h : Below B w w') {g : Nat} {o : Obj} (hg : w.heap[g]? = some o) (hB : g < B) : w'.heap[g]? = some o := (h.block g hB).trans hg
end Go.Proofs.YtfhdonidgegebaaDoor
