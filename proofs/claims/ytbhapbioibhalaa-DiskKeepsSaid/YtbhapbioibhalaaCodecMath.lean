/- Layer 2's plain mathematics. -/
namespace Go.Proofs.Ytbhapbioibhalaa

/-- a number's bytes -/
def enc (v : Nat) : List UInt8 :=
  if v < 128 then [UInt8.ofNat v] else UInt8.ofNat (v % 128 + 128) :: enc (v / 128)
termination_by v
decreasing_by omega

theorem enc_lt {v : Nat} (h : v < 128) : enc v = [UInt8.ofNat v] := by rw [enc, if_pos h]
theorem enc_ge {v : Nat} (h : ¬ v < 128) : enc v = UInt8.ofNat (v % 128 + 128) :: enc (v / 128) := by rw [enc, if_neg h]

theorem enc_pos (v : Nat) : 0 < (enc v).length := by
  by_cases h : v < 128
  · rw [enc_lt h]; simp
  · rw [enc_ge h]; simp

theorem enc_length_le (k : Nat) : ∀ v : Nat, v < 128 ^ (k + 1) → (enc v).length ≤ k + 1 := by
  induction k with
  | zero => intro v h; rw [enc_lt (by simpa using h)]; simp
  | succ k ih =>
    intro v h
    by_cases h1 : v < 128
    · rw [enc_lt h1]; simp
    · rw [enc_ge h1]
      have := ih (v / 128) (by rw [Nat.div_lt_iff_lt_mul (by omega)]; rwa [Nat.pow_succ] at h)
      simp; omega

/-- what codec.Get comes to, at byte i, with v so far: the number, how many bytes, the error -/
def getGo (i v : Nat) : List UInt8 → Nat × Nat × Nat
  | [] => (0, 0, if 10 ≤ i then 9 else 7)
  | c :: r =>
    if 10 ≤ i then (0, 0, 9)
    else if 128 ≤ c.toNat then getGo (i + 1) (v + c.toNat % 128 * 128 ^ i % 18446744073709551616) r
    else if (0 < i ∧ c.toNat = 0) ∨ (i = 9 ∧ 1 < c.toNat) then (0, 0, 9)
    else (v + c.toNat % 128 * 128 ^ i % 18446744073709551616, i + 1, 0)

theorem get_grows {V k c : Nat} (hV : V < 128 ^ k) : V + c % 128 * 128 ^ k % 18446744073709551616 < 128 ^ (k + 1) := by
  have h1 := Nat.mod_le (c % 128 * 128 ^ k) 18446744073709551616
  have h2 : c % 128 * 128 ^ k ≤ 127 * 128 ^ k := Nat.mul_le_mul_right _ (by omega)
  rw [Nat.pow_succ]
  omega

theorem getGo_more {k V : Nat} {l : List UInt8} (h : k < l.length) (h10 : k < 10) (hc : 128 ≤ (l.getD k 0).toNat) :
    getGo k V (l.drop k) = getGo (k + 1) (V + (l.getD k 0).toNat % 128 * 128 ^ k % 18446744073709551616) (l.drop (k + 1)) := by
  have e : l.drop k = l.getD k 0 :: l.drop (k + 1) := by
    rw [List.drop_eq_getElem_cons h]; simp [h]
  rw [e, getGo, if_neg (by omega), if_pos hc]

theorem getGo_bad {k V : Nat} {l : List UInt8} (h : k < l.length) (h10 : k < 10) (hc : ¬ 128 ≤ (l.getD k 0).toNat) (hb : (0 < k ∧ (l.getD k 0).toNat = 0) ∨ (k = 9 ∧ 1 < (l.getD k 0).toNat)) :
    getGo k V (l.drop k) = (0, 0, 9) := by
  have e : l.drop k = l.getD k 0 :: l.drop (k + 1) := by
    rw [List.drop_eq_getElem_cons h]; simp [h]
  rw [e, getGo, if_neg (by omega), if_neg hc, if_pos hb]

theorem getGo_good {k V : Nat} {l : List UInt8} (h : k < l.length) (h10 : k < 10) (hc : ¬ 128 ≤ (l.getD k 0).toNat) (hb : ¬ ((0 < k ∧ (l.getD k 0).toNat = 0) ∨ (k = 9 ∧ 1 < (l.getD k 0).toNat))) :
    getGo k V (l.drop k) = (V + (l.getD k 0).toNat % 128 * 128 ^ k % 18446744073709551616, k + 1, 0) := by
  have e : l.drop k = l.getD k 0 :: l.drop (k + 1) := by
    rw [List.drop_eq_getElem_cons h]; simp [h]
  rw [e, getGo, if_neg (by omega), if_neg hc, if_neg hb]

theorem getGo_end {k V : Nat} {l : List UInt8} (h : l.length ≤ k) : getGo k V (l.drop k) = (0, 0, if 10 ≤ k then 9 else 7) := by
  rw [List.drop_of_length_le h, getGo]

theorem getGo_ten {V : Nat} {l : List UInt8} : getGo 10 V (l.drop 10) = (0, 0, 9) := by
  cases l.drop 10 with
  | nil => rfl
  | cons c r => rw [getGo, if_pos (by omega)]

theorem getGo_enc_go (k : Nat) : ∀ (i N V : Nat) (r : List UInt8), N < 128 ^ (k + 1) → i + k ≤ 9 → (i = 0 ∨ 0 < N) → V + N * 128 ^ i < 18446744073709551616 →
    getGo i V (enc N ++ r) = (V + N * 128 ^ i, i + (enc N).length, 0) := by
  have small : ∀ (i N V : Nat) (r : List UInt8), N < 128 → i ≤ 9 → (i = 0 ∨ 0 < N) → V + N * 128 ^ i < 18446744073709551616 →
      getGo i V (enc N ++ r) = (V + N * 128 ^ i, i + (enc N).length, 0) := by
    intro i N V r hN hi h0 hb
    have hc : (UInt8.ofNat N).toNat = N := by simp; omega
    have h9 : ¬ (i = 9 ∧ 1 < N) := by
      rintro ⟨rfl, h1⟩
      have : 2 * 128 ^ 9 ≤ N * 128 ^ 9 := Nat.mul_le_mul_right _ h1
      have e : 2 * 128 ^ 9 = 18446744073709551616 := by decide
      omega
    rw [enc_lt hN]
    simp only [List.singleton_append, List.length_singleton, getGo, hc]
    rw [if_neg (by omega), if_neg (by omega), if_neg (by omega), Nat.mod_eq_of_lt hN, Nat.mod_eq_of_lt (by omega)]
  induction k with
  | zero =>
    intro i N V r hN hi h0 hb
    exact small i N V r (by simpa using hN) (by omega) h0 hb
  | succ k ih =>
    intro i N V r hN hi h0 hb
    by_cases h : N < 128
    · exact small i N V r h (by omega) h0 hb
    · have hc : (UInt8.ofNat (N % 128 + 128)).toNat = N % 128 + 128 := by simp; omega
      have e1 : N % 128 * 128 ^ i + N / 128 * 128 ^ (i + 1) = N * 128 ^ i := by
        rw [Nat.pow_succ, Nat.mul_comm (128 ^ i) 128, ← Nat.mul_assoc, ← Nat.add_mul]
        congr 1
        omega
      rw [enc_ge h]
      simp only [List.cons_append, getGo, hc, List.length_cons]
      rw [if_neg (by omega), if_pos (by omega), show (N % 128 + 128) % 128 = N % 128 by omega, Nat.mod_eq_of_lt (a := N % 128 * 128 ^ i) (by omega)]
      rw [ih (i + 1) (N / 128) _ r (by rw [Nat.div_lt_iff_lt_mul (by omega)]; rwa [Nat.pow_succ] at hN) (by omega) (.inr (by omega)) (by omega)]
      refine Prod.ext ?_ (Prod.ext ?_ rfl) <;> simp only <;> omega

/-- a key's bytes, each 0 followed by 255 -/
def esc : List UInt8 → List UInt8
  | [] => []
  | c :: r => if c = 0 then c :: 255 :: esc r else c :: esc r

theorem esc_append (a b : List UInt8) : esc (a ++ b) = esc a ++ esc b := by
  induction a with
  | nil => rfl
  | cons c r ih =>
    rw [List.cons_append, esc, esc, ih]
    split <;> rfl

theorem esc_length (a : List UInt8) : (esc a).length ≤ 2 * a.length := by
  induction a with
  | nil => simp [esc]
  | cons c r ih => rw [esc]; split <;> simp <;> omega

theorem esc_snoc0 (l : List UInt8) (c : UInt8) (h : c = 0) : esc (l ++ [c]) = esc l ++ [c, 255] := by
  rw [esc_append]; simp [esc, h]
theorem esc_snoc1 (l : List UInt8) (c : UInt8) (h : ¬ c = 0) : esc (l ++ [c]) = esc l ++ [c] := by
  rw [esc_append]; simp [esc, h]

/-- byte number i (from the low end) of a revision, turned round -/
def revByte (rev i : Nat) : UInt8 := UInt8.ofNat (255 - rev / 256 ^ i % 256)
theorem revByte_up (rev k : Nat) (hr : rev < 18446744073709551616) (hk : k < 8) : (18446744073709551615 - rev) / 256 ^ k % 256 = (revByte rev k).toNat := by
  have h : (18446744073709551615 - rev) / 256 ^ k % 256 = 255 - rev / 256 ^ k % 256 := by
    match k, hk with
    | 0, _ => simp only [Nat.pow_zero, Nat.div_one]; omega
    | 1, _ => simp only [show (256 : Nat) ^ 1 = 256 from rfl]; omega
    | 2, _ => simp only [show (256 : Nat) ^ 2 = 65536 from rfl]; omega
    | 3, _ => simp only [show (256 : Nat) ^ 3 = 16777216 from rfl]; omega
    | 4, _ => simp only [show (256 : Nat) ^ 4 = 4294967296 from rfl]; omega
    | 5, _ => simp only [show (256 : Nat) ^ 5 = 1099511627776 from rfl]; omega
    | 6, _ => simp only [show (256 : Nat) ^ 6 = 281474976710656 from rfl]; omega
    | 7, _ => simp only [show (256 : Nat) ^ 7 = 72057594037927936 from rfl]; omega
  rw [h, revByte]
  simp
  omega

/-- the first k of the eight bytes -/
def revBytes (rev : Nat) : Nat → List UInt8
  | 0 => []
  | k + 1 => revBytes rev k ++ [revByte rev (7 - k)]

theorem revBytes_length (rev k : Nat) : (revBytes rev k).length = k := by
  induction k with
  | zero => rfl
  | succ k ih => simp [revBytes, ih]

/-- an inner key up to k bytes of the revision -/
def innTo (key : List UInt8) (rev k : Nat) : List UInt8 := esc key ++ [0, 1] ++ revBytes rev k
theorem innTo_succ (key : List UInt8) (rev k : Nat) : innTo key rev (k + 1) = innTo key rev k ++ [revByte rev (7 - k)] := by
  simp [innTo, revBytes]
theorem innTo_length (key : List UInt8) (rev k : Nat) : (innTo key rev k).length = (esc key).length + 2 + k := by
  simp [innTo, revBytes_length]; omega

/-- an entry's inner key -/
def inner (key : List UInt8) (rev : Nat) (del : Bool) : List UInt8 := innTo key rev 8 ++ [if del then 0 else 1]
end Go.Proofs.Ytbhapbioibhalaa
