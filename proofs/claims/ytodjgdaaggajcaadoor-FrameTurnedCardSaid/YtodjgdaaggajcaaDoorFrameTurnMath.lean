import Derived.Test.YtodjgdaaggajcaaDoorFrameFixed
namespace Go.Proofs.YtodjgdaaggajcaaDoor
open Go

/-- a bit of bytes turned -/
def xorBit (P : List UInt8) (k : Nat) : List UInt8 := P.set (k / 8) (UInt8.ofNat ((P.getD (k / 8) 0).toNat ^^^ 2 ^ (k % 8)))

theorem xorBit_length (P : List UInt8) (k : Nat) : (xorBit P k).length = P.length := List.length_set

theorem xor_byte_lt (c : UInt8) (k : Nat) : c.toNat ^^^ 2 ^ (k % 8) < 256 := by
  have h2 : 2 ^ (k % 8) < 2 ^ 8 := Nat.pow_lt_pow_right (by decide) (Nat.mod_lt _ (by decide))
  exact Nat.xor_lt_two_pow (n := 8) c.toNat_lt h2

theorem pow_mul_xor (k a b : Nat) : 2 ^ k * (a ^^^ b) = 2 ^ k * a ^^^ 2 ^ k * b := by
  have h := Nat.shiftLeft_xor_distrib (a := a) (b := b) (i := k)
  simp only [Nat.shiftLeft_eq] at h
  rw [Nat.mul_comm, h, Nat.mul_comm a, Nat.mul_comm b]

theorem leNum_xorBit (P : List UInt8) : ∀ k, k < 8 * P.length → leNum (xorBit P k) = leNum P ^^^ 2 ^ k := by
  induction P with
  | nil => intro k hk; simp at hk
  | cons c r ih =>
    intro k hk
    have hc := c.toNat_lt
    have e0 : ∀ (d : Nat) (m : Nat), d < 256 → d + 256 * m = 2 ^ 8 * m ^^^ d := fun d m hd => by
      have := split_xor 8 m d hd
      omega
    by_cases h8 : k < 8
    · have hx := xor_byte_lt c k
      have e1 : xorBit (c :: r) k = UInt8.ofNat (c.toNat ^^^ 2 ^ (k % 8)) :: r := by
        unfold xorBit
        rw [show k / 8 = 0 by omega]
        rfl
      rw [e1, leNum, leNum]
      have e2 : (UInt8.ofNat (c.toNat ^^^ 2 ^ (k % 8))).toNat = c.toNat ^^^ 2 ^ (k % 8) := by
        simp only [UInt8.toNat_ofNat']
        exact Nat.mod_eq_of_lt hx
      rw [e2, e0 _ _ hx, e0 _ _ hc, show k % 8 = k by omega, Nat.xor_assoc]
    · have e1 : xorBit (c :: r) k = c :: xorBit r (k - 8) := by
        unfold xorBit
        rw [show k / 8 = (k - 8) / 8 + 1 by omega, show k % 8 = (k - 8) % 8 by omega]
        rfl
      rw [e1, leNum, leNum, ih (k - 8) (by simp at hk; omega), e0 _ _ hc, e0 _ _ hc, pow_mul_xor, ← Nat.pow_add, show 8 + (k - 8) = k by omega]
      rw [Nat.xor_assoc, Nat.xor_assoc, Nat.xor_comm (2 ^ k)]

/-- is the i-th bit turned? -/
def turnsAt (L k by' i : Nat) : Bool := by'.testBit i && decide (k + i < 8 * L)

/-- the first i bits turned from place k on -/
def flips (P : List UInt8) (k by' : Nat) : Nat → List UInt8
  | 0 => P
  | i + 1 => if turnsAt P.length k by' i then xorBit (flips P k by' i) (k + i) else flips P k by' i

/-- which of them are turned, as a number -/
def turnNum (L k by' : Nat) : Nat → Nat
  | 0 => 0
  | i + 1 => if turnsAt L k by' i then turnNum L k by' i + 2 ^ i else turnNum L k by' i

/-- is any turned? -/
def turnAny (L k by' : Nat) : Nat → Bool
  | 0 => false
  | i + 1 => if turnsAt L k by' i then true else turnAny L k by' i

theorem flips_length (P : List UInt8) (k by' i : Nat) : (flips P k by' i).length = P.length := by
  induction i with
  | zero => rfl
  | succ i ih => rw [flips]; split <;> simp [xorBit_length, ih]

theorem turnNum_lt (L k by' i : Nat) : turnNum L k by' i < 2 ^ i := by
  induction i with
  | zero => simp [turnNum]
  | succ i ih => rw [turnNum, Nat.pow_succ]; split <;> omega

theorem leNum_flips (P : List UInt8) (k by' i : Nat) : leNum (flips P k by' i) = leNum P ^^^ 2 ^ k * turnNum P.length k by' i := by
  induction i with
  | zero => simp [flips, turnNum]
  | succ i ih =>
    rw [flips, turnNum]
    by_cases h : turnsAt P.length k by' i = true
    · rw [if_pos h, if_pos h]
      have hk : k + i < 8 * P.length := by simp [turnsAt] at h; exact h.2
      rw [leNum_xorBit _ _ (by rw [flips_length]; exact hk), ih, Nat.xor_assoc]
      congr 1
      have h2 := split_xor i 1 (turnNum P.length k by' i) (turnNum_lt _ _ _ _)
      rw [Nat.mul_one] at h2
      rw [Nat.add_comm (turnNum _ _ _ _), h2, pow_mul_xor, ← Nat.pow_add, Nat.xor_comm]
    · rw [if_neg h, if_neg h, ih]

theorem turnAny_iff (L k by' i : Nat) : turnAny L k by' i = true ↔ turnNum L k by' i ≠ 0 := by
  induction i with
  | zero => simp [turnAny, turnNum]
  | succ i ih =>
    rw [turnAny, turnNum]
    have hp : 0 < 2 ^ i := Nat.two_pow_pos i
    split
    · constructor
      · intro _; omega
      · intro _; rfl
    · exact ih

theorem flips_none (P : List UInt8) (k by' i : Nat) (h : turnAny P.length k by' i = false) : flips P k by' i = P := by
  induction i with
  | zero => rfl
  | succ i ih =>
    rw [turnAny] at h
    rw [flips]
    split at h
    · cases h
    · next hn => rw [if_neg hn]; exact ih h

/-- Turned bits of a payload turn its sum. -/
theorem flips_sum {l : List UInt8} {k by' : Nat} (hk : k ≤ 8 * l.length) : sumL (flips l k by' 32) = sumL l ↔ turnAny l.length k by' 32 = false := by
  constructor
  · intro h
    have h1 := sumL_xor (l := l) (m := flips l k by' 32) (flips_length ..)
    rw [h, Nat.xor_self, leNum_flips] at h1
    have h2 : leNum l ^^^ (leNum l ^^^ 2 ^ k * turnNum l.length k by' 32) = 2 ^ k * turnNum l.length k by' 32 := by
      rw [← Nat.xor_assoc, Nat.xor_self, Nat.zero_xor]
    rw [h2] at h1
    have h3 := turned_sum hk (turnNum_lt l.length k by' 32) h1.symm
    cases ht : turnAny l.length k by' 32 with
    | false => rfl
    | true => exact absurd h3 ((turnAny_iff ..).1 ht)
  · intro h
    rw [flips_none _ _ _ _ h]

theorem flips_same {P : List UInt8} {k by' : Nat} (h : flips P k by' 32 = P) : turnAny P.length k by' 32 = false := by
  have h1 := leNum_flips P k by' 32
  rw [h] at h1
  have h2 : 2 ^ k * turnNum P.length k by' 32 = 0 := by
    have := congrArg (fun x => leNum P ^^^ x) h1
    simp only [← Nat.xor_assoc, Nat.xor_self, Nat.zero_xor] at this
    exact this.symm
  have h3 : turnNum P.length k by' 32 = 0 := by
    rcases Nat.mul_eq_zero.1 h2 with h | h
    · exact absurd h (Nat.ne_of_gt (Nat.two_pow_pos k))
    · exact h
  cases ht : turnAny P.length k by' 32 with
  | false => rfl
  | true => exact absurd h3 ((turnAny_iff ..).1 ht)

theorem four_list {P : List UInt8} (h : P.length = 4) : ∃ a b c d, P = [a, b, c, d] :=
  match P, h with
  | [a, b, c, d], _ => ⟨a, b, c, d, rfl⟩

theorem num4_inj {P Q : List UInt8} (hP : P.length = 4) (hQ : Q.length = 4) (h : num4 P = num4 Q) : P = Q := by
  obtain ⟨a, b, c, d, rfl⟩ := four_list hP
  obtain ⟨e, f, g, i, rfl⟩ := four_list hQ
  · 
    simp only [num4, List.getD_eq_getElem?_getD, List.getElem?_cons_zero, List.getElem?_cons_succ, Option.getD_some] at h
    have ha := a.toNat_lt
    have hb := b.toNat_lt
    have hc := c.toNat_lt
    have hd := d.toNat_lt
    have he := e.toNat_lt
    have hf := f.toNat_lt
    have hg := g.toNat_lt
    have hi := i.toNat_lt
    have h1 : a.toNat = e.toNat := by omega
    have h2 : b.toNat = f.toNat := by omega
    have h3 : c.toNat = g.toNat := by omega
    have h4 : d.toNat = i.toNat := by omega
    rw [UInt8.toNat_inj.1 h1, UInt8.toNat_inj.1 h2, UInt8.toNat_inj.1 h3, UInt8.toNat_inj.1 h4]

/-- A frame whose payload is another one of its length. -/
theorem next_other {l m : List UInt8} (h : l.length < 4294967296) (hm : m.length = l.length) :
    (nextL (be4 l.length ++ be4 (sumL l) ++ m)).1 = if sumL m = sumL l then 0 else 8 := by
  have e0 : be4 l.length ++ be4 (sumL l) ++ m = be4 l.length ++ (be4 (sumL l) ++ m) := by simp
  have e1 : num4 (be4 l.length ++ be4 (sumL l) ++ m) = l.length := by rw [e0, num4_be4 h]
  have e2 : (be4 l.length ++ be4 (sumL l) ++ m).length = 8 + l.length := by simp [be4, hm]; omega
  have e3 : (be4 l.length ++ be4 (sumL l) ++ m).drop 8 = m := by simp [be4]
  have e4 : (be4 l.length ++ be4 (sumL l) ++ m).drop 4 = be4 (sumL l) ++ m := by simp [be4]
  unfold nextL
  rw [e1, e2, if_neg (by omega), e3, e4, num4_be4 (sumL_lt l), List.take_of_length_le (by omega)]
  by_cases hs : sumL m = sumL l
  · rw [if_pos hs, if_pos hs]
  · rw [if_neg hs, if_neg hs]

/-- A frame whose sum is another one. -/
theorem next_sum {l P : List UInt8} (h : l.length < 4294967296) (hP : P.length = 4) :
    (nextL (be4 l.length ++ P ++ l)).1 = if sumL l = num4 P then 0 else 8 := by
  have e0 : be4 l.length ++ P ++ l = be4 l.length ++ (P ++ l) := by simp
  have e1 : num4 (be4 l.length ++ P ++ l) = l.length := by rw [e0, num4_be4 h]
  have e2 : (be4 l.length ++ P ++ l).length = 8 + l.length := by simp [be4, hP]; omega
  have e4 : (be4 l.length ++ P ++ l).drop 4 = P ++ l := by simp [be4]
  have e3 : (be4 l.length ++ P ++ l).drop 8 = l := by
    rw [show (8 : Nat) = 4 + 4 from rfl, ← List.drop_drop, e4, ← hP, List.drop_left]
  have e5 : num4 (P ++ l) = num4 P := by
    match P, hP with
    | [a, b, c, d], _ => rfl
  unfold nextL
  rw [e1, e2, if_neg (by omega), e3, e4, e5, List.take_length]
  by_cases hs : sumL l = num4 P
  · rw [if_pos hs, if_pos hs]
  · rw [if_neg hs, if_neg hs]

theorem turned_payload {l : List UInt8} {k by' : Nat} (h : l.length < 4294967296) (hk : k ≤ 8 * l.length) :
    (nextL (be4 l.length ++ be4 (sumL l) ++ flips l k by' 32)).1 = if turnAny l.length k by' 32 then 8 else 0 := by
  rw [next_other h (flips_length ..)]
  cases ht : turnAny l.length k by' 32 with
  | false => rw [if_pos ((flips_sum hk).2 ht)]; rfl
  | true =>
    rw [if_neg (fun hs => by rw [(flips_sum hk).1 hs] at ht; cases ht)]
    rfl

theorem turned_sumpart {l : List UInt8} {k by' : Nat} (h : l.length < 4294967296) :
    (nextL (be4 l.length ++ flips (be4 (sumL l)) k by' 32 ++ l)).1 = if turnAny 4 k by' 32 then 8 else 0 := by
  have h4 : (be4 (sumL l)).length = 4 := rfl
  have hs : num4 (be4 (sumL l)) = sumL l := by
    have := num4_be4 (sumL_lt l) []
    simpa using this
  rw [next_sum h (by rw [flips_length]; rfl)]
  cases ht : turnAny 4 k by' 32 with
  | false =>
    have := flips_none (be4 (sumL l)) k by' 32 ht
    rw [this, hs, if_pos rfl]
    rfl
  | true =>
    rw [if_neg]
    · rfl
    · intro he
      have h5 : flips (be4 (sumL l)) k by' 32 = be4 (sumL l) := num4_inj (by rw [flips_length]; rfl) rfl (by rw [← he, hs])
      have h6 := flips_same h5
      rw [h4, ht] at h6
      cases h6
end Go.Proofs.YtodjgdaaggajcaaDoor
