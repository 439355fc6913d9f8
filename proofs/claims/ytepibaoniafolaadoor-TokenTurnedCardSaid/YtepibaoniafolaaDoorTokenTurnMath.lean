import Derived.Test.YtepibaoniafolaaDoorTokenTrip
namespace Go.Proofs.YtepibaoniafolaaDoor
open Go

/-- a bit of bytes turned -/
def xorBit (P : List UInt8) (k : Nat) : List UInt8 := P.set (k / 8) (UInt8.ofNat ((P.getD (k / 8) 0).toNat ^^^ 2 ^ (k % 8)))

theorem xorBit_length (P : List UInt8) (k : Nat) : (xorBit P k).length = P.length := List.length_set

theorem xor_byte_lt (c : UInt8) (k : Nat) : c.toNat ^^^ 2 ^ (k % 8) < 256 := by
  have h2 : 2 ^ (k % 8) < 2 ^ 8 := Nat.pow_lt_pow_right (by decide) (Nat.mod_lt _ (by decide))
  exact Nat.xor_lt_two_pow (n := 8) c.toNat_lt h2

theorem pow_mul_xor (k a b : Nat) : 2 ^ k * (a ^^^ b) = 2 ^ k * a ^^^ 2 ^ k * b := by
  have h := Nat.shiftLeft_xor_distrib (a := a) (b := b) (i := k)
  simp only [Nat.shiftLeft_eq] at h
  rw [Nat.mul_comm, h, Nat.mul_comm a, Nat.mul_comm b]

theorem leNum_xorBit (P : List UInt8) : ∀ k, k < 8 * P.length → leNum (xorBit P k) = leNum P ^^^ 2 ^ k := by
  induction P with
  | nil => intro k hk; simp at hk
  | cons c r ih =>
    intro k hk
    have hc := c.toNat_lt
    have e0 : ∀ (d : Nat) (m : Nat), d < 256 → d + 256 * m = 2 ^ 8 * m ^^^ d := fun d m hd => by
      have := split_xor 8 m d hd
      omega
    by_cases h8 : k < 8
    · have hx := xor_byte_lt c k
      have e1 : xorBit (c :: r) k = UInt8.ofNat (c.toNat ^^^ 2 ^ (k % 8)) :: r := by
        unfold xorBit
        rw [show k / 8 = 0 by omega]
        rfl
      rw [e1, leNum, leNum]
      have e2 : (UInt8.ofNat (c.toNat ^^^ 2 ^ (k % 8))).toNat = c.toNat ^^^ 2 ^ (k % 8) := by
        simp only [UInt8.toNat_ofNat']
        exact Nat.mod_eq_of_lt hx
      rw [e2, e0 _ _ hx, e0 _ _ hc, show k % 8 = k by omega, Nat.xor_assoc]
    · have e1 : xorBit (c :: r) k = c :: xorBit r (k - 8) := by
        unfold xorBit
        rw [show k / 8 = (k - 8) / 8 + 1 by omega, show k % 8 = (k - 8) % 8 by omega]
        rfl
      rw [e1, leNum, leNum, ih (k - 8) (by simp at hk; omega), e0 _ _ hc, e0 _ _ hc, pow_mul_xor, ← Nat.pow_add, show 8 + (k - 8) = k by omega]
      rw [Nat.xor_assoc, Nat.xor_assoc, Nat.xor_comm (2 ^ k)]

/-- is the i-th bit turned? -/
def turnsAt (L k by' i : Nat) : Bool := by'.testBit i && decide (k + i < 8 * L)

/-- the first i bits turned from place k on -/
def flips (P : List UInt8) (k by' : Nat) : Nat → List UInt8
  | 0 => P
  | i + 1 => if turnsAt P.length k by' i then xorBit (flips P k by' i) (k + i) else flips P k by' i

/-- which of them are turned, as a number -/
def turnNum (L k by' : Nat) : Nat → Nat
  | 0 => 0
  | i + 1 => if turnsAt L k by' i then turnNum L k by' i + 2 ^ i else turnNum L k by' i

/-- is any turned? -/
def turnAny (L k by' : Nat) : Nat → Bool
  | 0 => false
  | i + 1 => if turnsAt L k by' i then true else turnAny L k by' i

theorem flips_length (P : List UInt8) (k by' i : Nat) : (flips P k by' i).length = P.length := by
  induction i with
  | zero => rfl
  | succ i ih => rw [flips]; split <;> simp [xorBit_length, ih]

theorem turnNum_lt (L k by' i : Nat) : turnNum L k by' i < 2 ^ i := by
  induction i with
  | zero => simp [turnNum]
  | succ i ih => rw [turnNum, Nat.pow_succ]; split <;> omega

theorem leNum_flips (P : List UInt8) (k by' i : Nat) : leNum (flips P k by' i) = leNum P ^^^ 2 ^ k * turnNum P.length k by' i := by
  induction i with
  | zero => simp [flips, turnNum]
  | succ i ih =>
    rw [flips, turnNum]
    by_cases h : turnsAt P.length k by' i = true
    · rw [if_pos h, if_pos h]
      have hk : k + i < 8 * P.length := by simp [turnsAt] at h; exact h.2
      rw [leNum_xorBit _ _ (by rw [flips_length]; exact hk), ih, Nat.xor_assoc]
      congr 1
      have h2 := split_xor i 1 (turnNum P.length k by' i) (turnNum_lt _ _ _ _)
      rw [Nat.mul_one] at h2
      rw [Nat.add_comm (turnNum _ _ _ _), h2, pow_mul_xor, ← Nat.pow_add, Nat.xor_comm]
    · rw [if_neg h, if_neg h, ih]

theorem turnAny_iff (L k by' i : Nat) : turnAny L k by' i = true ↔ turnNum L k by' i ≠ 0 := by
  induction i with
  | zero => simp [turnAny, turnNum]
  | succ i ih =>
    rw [turnAny, turnNum]
    have hp : 0 < 2 ^ i := Nat.two_pow_pos i
    split
    · constructor
      · intro _; omega
      · intro _; rfl
    · exact ih

theorem flips_none (P : List UInt8) (k by' i : Nat) (h : turnAny P.length k by' i = false) : flips P k by' i = P := by
  induction i with
  | zero => rfl
  | succ i ih =>
    rw [turnAny] at h
    rw [flips]
    split at h
    · cases h
    · next hn => rw [if_neg hn]; exact ih h

/-- Turned bits of a payload turn its sum. -/
theorem flips_sum {l : List UInt8} {k by' : Nat} (hk : k ≤ 8 * l.length) : sumL (flips l k by' 32) = sumL l ↔ turnAny l.length k by' 32 = false := by
  constructor
  · intro h
    have h1 := sumL_xor (l := l) (m := flips l k by' 32) (flips_length ..)
    rw [h, Nat.xor_self, leNum_flips] at h1
    have h2 : leNum l ^^^ (leNum l ^^^ 2 ^ k * turnNum l.length k by' 32) = 2 ^ k * turnNum l.length k by' 32 := by
      rw [← Nat.xor_assoc, Nat.xor_self, Nat.zero_xor]
    rw [h2] at h1
    have h3 := turned_sum hk (turnNum_lt l.length k by' 32) h1.symm
    cases ht : turnAny l.length k by' 32 with
    | false => rfl
    | true => exact absurd h3 ((turnAny_iff ..).1 ht)
  · intro h
    rw [flips_none _ _ _ _ h]

theorem flips_same {P : List UInt8} {k by' : Nat} (h : flips P k by' 32 = P) : turnAny P.length k by' 32 = false := by
  have h1 := leNum_flips P k by' 32
  rw [h] at h1
  have h2 : 2 ^ k * turnNum P.length k by' 32 = 0 := by
    have := congrArg (fun x => leNum P ^^^ x) h1
    simp only [← Nat.xor_assoc, Nat.xor_self, Nat.zero_xor] at this
    exact this.symm
  have h3 : turnNum P.length k by' 32 = 0 := by
    rcases Nat.mul_eq_zero.1 h2 with h | h
    · exact absurd h (Nat.ne_of_gt (Nat.two_pow_pos k))
    · exact h
  cases ht : turnAny P.length k by' 32 with
  | false => rfl
  | true => exact absurd h3 ((turnAny_iff ..).1 ht)


theorem ofNat_inj {n : Nat} {a : UInt8} (h : n % 256 = a.toNat) : UInt8.ofNat n = a := UInt8.toNat_inj.1 (by rw [UInt8.toNat_ofNat']; exact h)

theorem be4_numB (a b c d : UInt8) : be4 (numB [a, b, c, d]) = [a, b, c, d] := by
  have ha := a.toNat_lt
  have hb := b.toNat_lt
  have hc := c.toNat_lt
  have hd := d.toNat_lt
  simp only [numB, be4, List.foldl_cons, List.foldl_nil]
  rw [ofNat_inj (a := a) (by omega), ofNat_inj (a := b) (by omega), ofNat_inj (a := c) (by omega), ofNat_inj (a := d) (by omega)]

theorem be8_numB (a b c d e f g h : UInt8) : be8 (numB [a, b, c, d, e, f, g, h]) = [a, b, c, d, e, f, g, h] := by
  have e1 : numB [a, b, c, d, e, f, g, h] = numB [a, b, c, d] * 4294967296 + numB [e, f, g, h] := by
    simp only [numB, List.foldl_cons, List.foldl_nil]
    omega
  have h1' : numB [e, f, g, h] < 4294967296 := by
    have := numB_lt [e, f, g, h]
    simpa using this
  have e2 : numB [a, b, c, d, e, f, g, h] / 4294967296 = numB [a, b, c, d] := by omega
  have e3 : be4 (numB [a, b, c, d, e, f, g, h]) = be4 (numB [e, f, g, h]) := by
    rw [e1]
    generalize numB [a, b, c, d] = x
    generalize numB [e, f, g, h] = y at h1'
    unfold be4
    have k1 : UInt8.ofNat ((x * 4294967296 + y) / 16777216) = UInt8.ofNat (y / 16777216) := ofNat_inj (by rw [UInt8.toNat_ofNat']; omega)
    have k2 : UInt8.ofNat ((x * 4294967296 + y) / 65536) = UInt8.ofNat (y / 65536) := ofNat_inj (by rw [UInt8.toNat_ofNat']; omega)
    have k3 : UInt8.ofNat ((x * 4294967296 + y) / 256) = UInt8.ofNat (y / 256) := ofNat_inj (by rw [UInt8.toNat_ofNat']; omega)
    have k4 : UInt8.ofNat (x * 4294967296 + y) = UInt8.ofNat y := ofNat_inj (by rw [UInt8.toNat_ofNat']; omega)
    rw [k1, k2, k3, k4]
  unfold be8
  rw [e2, e3, be4_numB, be4_numB]
  rfl

theorem twelve {P : List UInt8} (h : P.length = 12) : ∃ a b c d e f g i j k l m, P = [a, b, c, d, e, f, g, i, j, k, l, m] :=
  match P, h with
  | [a, b, c, d, e, f, g, i, j, k, l, m], _ => ⟨a, b, c, d, e, f, g, i, j, k, l, m, rfl⟩

theorem tokP_numB {P : List UInt8} (h : P.length = 12) : tokP (numB (P.take 4)) (numB ((P.drop 4).take 8)) = P := by
  obtain ⟨a, b, c, d, e, f, g, i, j, k, l, m, rfl⟩ := twelve h
  show be4 (numB [a, b, c, d]) ++ be8 (numB [e, f, g, i, j, k, l, m]) = _
  rw [be4_numB, be8_numB]
  rfl

theorem be4_inj {M N : Nat} (hM : M < 4294967296) (hN : N < 4294967296) (h : be4 M = be4 N) : M = N := by
  rw [← numB_be4 M hM, ← numB_be4 N hN, h]

/-- What bytes with a sum behind them tell. -/
theorem readR_laid {P : List UInt8} {S : Nat} (hP : P.length = 12) (hS : S < 4294967296) : (readR (textL (P ++ be4 S))).2.2 = if S = sumL P then 0 else 8 := by
  have hl : (P ++ be4 S).length = 16 := by rw [List.length_append, hP]; rfl
  have e1 : (P ++ be4 S).take 4 = P.take 4 := by rw [List.take_append_of_le_length (by omega)]
  have e2 : ((P ++ be4 S).drop 4).take 8 = (P.drop 4).take 8 := by
    rw [List.drop_append_of_le_length (by omega), List.take_append_of_le_length (by rw [List.length_drop]; omega)]
  unfold readR
  rw [if_pos (goodT_text hl), digsT_text, bytesD_digs hl, e1, e2]
  have e3 : tokL (numB (P.take 4)) (numB ((P.drop 4).take 8)) = P ++ be4 (sumL P) := by
    unfold tokL
    rw [tokP_numB hP]
  rw [e3]
  by_cases h : S = sumL P
  · rw [if_pos (by rw [h]), if_pos h]
  · rw [if_neg (fun hc => h (be4_inj hS (sumL_lt P) (List.append_cancel_left hc))), if_neg h]

/-- Turned bits of the first twelve bytes. -/
theorem readR_turned (id rev k0 y : Nat) (hk : k0 ≤ 8 * 12) : (readR (textL (flips (tokP id rev) k0 y 32 ++ be4 (sumL (tokP id rev))))).2.2 = if turnAny 12 k0 y 32 then 8 else 0 := by
  rw [readR_laid (by rw [flips_length]; rfl) (sumL_lt _)]
  have h := flips_sum (l := tokP id rev) (k := k0) (by' := y) (by rw [tokP_length]; exact hk)
  rw [tokP_length] at h
  cases ht : turnAny 12 k0 y 32 with
  | false => rw [if_pos (h.2 ht).symm]; rfl
  | true =>
    rw [if_neg (fun hs => by rw [h.1 hs.symm] at ht; cases ht)]
    rfl
end Go.Proofs.YtepibaoniafolaaDoor
