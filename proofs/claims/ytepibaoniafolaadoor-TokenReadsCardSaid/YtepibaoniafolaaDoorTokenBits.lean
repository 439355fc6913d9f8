/- Numbers out of bits. -/
import Derived.Test.YtepibaoniafolaaDoorBase
namespace Go.Proofs.YtepibaoniafolaaDoor
open Go Go.RowKit

/-- The number that the bits f a .. f (a + n - 1) write, the highest first. -/
def bitsN (f : Nat → Nat) (a : Nat) : Nat → Nat
  | 0 => 0
  | n + 1 => 2 * bitsN f a n + f (a + n)

def IsBits (f : Nat → Nat) : Prop := ∀ k, f k ≤ 1

theorem bitsN_lt {f : Nat → Nat} (h : IsBits f) (a n : Nat) : bitsN f a n < 2 ^ n := by
  induction n with
  | zero => exact Nat.one_pos
  | succ n ih =>
    have := h (a + n)
    rw [bitsN, Nat.pow_succ]
    omega

theorem bitsN_add (f : Nat → Nat) (a m n : Nat) : bitsN f a (m + n) = bitsN f a m * 2 ^ n + bitsN f (a + m) n := by
  induction n with
  | zero => simp [bitsN]
  | succ n ih =>
    rw [← Nat.add_assoc, bitsN, ih, bitsN, Nat.pow_succ, Nat.add_assoc a m n]
    rw [Nat.mul_add, ← Nat.mul_assoc, Nat.mul_comm 2 (bitsN f a m), Nat.mul_assoc, Nat.mul_comm 2 (2 ^ n)]
    omega

theorem bitsN_div {f : Nat → Nat} (h : IsBits f) (a m n : Nat) : bitsN f a (m + n) / 2 ^ n = bitsN f a m := by
  rw [bitsN_add, Nat.mul_comm, Nat.mul_add_div (Nat.two_pow_pos n), Nat.div_eq_of_lt (bitsN_lt h _ _), Nat.add_zero]

theorem bitsN_mod {f : Nat → Nat} (h : IsBits f) (a m n : Nat) : bitsN f a (m + n) % 2 ^ n = bitsN f (a + m) n := by
  rw [bitsN_add, Nat.mul_comm, Nat.mul_add_mod, Nat.mod_eq_of_lt (bitsN_lt h _ _)]

/-- A bit of the number. -/
theorem bitsN_bit {f : Nat → Nat} (h : IsBits f) (a n j : Nat) (hj : j < n) : bitsN f a n / 2 ^ (n - 1 - j) % 2 = f (a + j) := by
  have e : n = (j + 1) + (n - 1 - j) := by omega
  have h1 := bitsN_div h a (j + 1) (n - 1 - j)
  rw [← e] at h1
  rw [h1, bitsN]
  have := h (a + j)
  omega

theorem bitsN_congr {f g : Nat → Nat} {a n : Nat} (h : ∀ j, j < n → f (a + j) = g (a + j)) : bitsN f a n = bitsN g a n := by
  induction n with
  | zero => rfl
  | succ n ih => rw [bitsN, bitsN, ih (fun j hj => h j (by omega)), h n (by omega)]

/-- The same number from another place. -/
theorem bitsN_shift {f g : Nat → Nat} {a b n : Nat} (h : ∀ j, j < n → f (a + j) = g (b + j)) : bitsN f a n = bitsN g b n := by
  induction n with
  | zero => rfl
  | succ n ih => rw [bitsN, bitsN, ih (fun j hj => h j (by omega)), h n (by omega)]

/-- The bits of rows of bytes, noughts behind them. -/
def byteBit (l : List UInt8) (k : Nat) : Nat := if k < 8 * l.length then (l.getD (k / 8) 0).toNat / 2 ^ (7 - k % 8) % 2 else 0

theorem byteBit_le (l : List UInt8) : IsBits (byteBit l) := by
  intro k
  unfold byteBit
  split <;> omega

theorem byte_all : ∀ c : Fin 256, bitsN (fun k => c.val / 2 ^ (7 - k % 8) % 2) 0 8 = c.val := by decide +kernel

theorem byteBit_byte (l : List UInt8) (q : Nat) (hq : q < l.length) : bitsN (byteBit l) (8 * q) 8 = (l.getD q 0).toNat := by
  have h := byte_all ⟨(l.getD q 0).toNat, (l.getD q 0).toNat_lt⟩
  simp only at h
  rw [← h]
  refine bitsN_shift fun j hj => ?_
  unfold byteBit
  rw [if_pos (by omega), show (8 * q + j) / 8 = q by omega, show (8 * q + j) % 8 = j by omega, Nat.zero_add, Nat.mod_eq_of_lt hj]

/-- The bits of rows of digits of five bits. -/
def digBit (d : List Nat) (k : Nat) : Nat := (d.getD (k / 5) 0) / 2 ^ (4 - k % 5) % 2

theorem digBit_le (d : List Nat) : IsBits (digBit d) := by
  intro k
  unfold digBit
  omega

theorem dig_all : ∀ c : Fin 32, bitsN (fun k => c.val / 2 ^ (4 - k % 5) % 2) 0 5 = c.val := by decide +kernel

theorem digBit_dig (d : List Nat) (i : Nat) (h : d.getD i 0 < 32) : bitsN (digBit d) (5 * i) 5 = d.getD i 0 := by
  have hd := dig_all ⟨d.getD i 0, h⟩
  simp only at hd
  rw [← hd]
  refine bitsN_shift fun j hj => ?_
  unfold digBit
  rw [show (5 * i + j) / 5 = i by omega, show (5 * i + j) % 5 = j by omega, Nat.zero_add, Nat.mod_eq_of_lt hj]

/-- The digits of sixteen bytes. -/
def digs (l : List UInt8) : List Nat := (List.range 26).map fun i => bitsN (byteBit l) (5 * i) 5

theorem digs_getD (l : List UInt8) (i : Nat) (h : i < 26) : (digs l).getD i 0 = bitsN (byteBit l) (5 * i) 5 := by
  simp [digs, List.getD, h]

theorem digs_lt (l : List UInt8) (i : Nat) : (digs l).getD i 0 < 32 := by
  by_cases h : i < 26
  · rw [digs_getD l i h]
    exact bitsN_lt (byteBit_le l) _ _
  · simp [digs, List.getD, h]

theorem digBit_digs (l : List UInt8) (k : Nat) (h : k < 130) : digBit (digs l) k = byteBit l k := by
  unfold digBit
  rw [digs_getD l _ (by omega)]
  have := bitsN_bit (byteBit_le l) (5 * (k / 5)) 5 (k % 5) (Nat.mod_lt _ (by decide))
  rw [show 5 - 1 - k % 5 = 4 - k % 5 by omega, show 5 * (k / 5) + k % 5 = k by omega] at this
  exact this

/-- The bytes of digits. -/
def bytesD (d : List Nat) : List UInt8 := (List.range 16).map fun q => UInt8.ofNat (bitsN (digBit d) (8 * q) 8)

theorem bytesD_getD (d : List Nat) (q : Nat) (h : q < 16) : ((bytesD d).getD q 0).toNat = bitsN (digBit d) (8 * q) 8 := by
  have hlt := bitsN_lt (digBit_le d) (8 * q) 8
  simp only [bytesD, List.getD, List.getElem?_map, List.getElem?_range h, Option.map_some, Option.getD_some, UInt8.toNat_ofNat']
  exact Nat.mod_eq_of_lt hlt

theorem bytesD_length (d : List Nat) : (bytesD d).length = 16 := by simp [bytesD]

/-- What is written is read. -/
theorem bytesD_digs {l : List UInt8} (h : l.length = 16) : bytesD (digs l) = l := by
  apply List.ext_getElem?
  intro q
  by_cases hq : q < 16
  · have e : bitsN (digBit (digs l)) (8 * q) 8 = (l.getD q 0).toNat := by
      rw [← byteBit_byte l q (by omega)]
      exact bitsN_congr fun j hj => digBit_digs l _ (by omega)
    rw [List.getElem?_eq_getElem (show q < l.length by omega)]
    simp only [bytesD, List.getElem?_map, List.getElem?_range hq, Option.map_some, e]
    simp [List.getD, show q < l.length by omega]
  · rw [List.getElem?_eq_none (by rw [bytesD_length]; omega), List.getElem?_eq_none (by omega)]

/-- Behind them there is nothing. -/
theorem rest_digs {l : List UInt8} (h : l.length = 16) : bitsN (digBit (digs l)) 128 2 = 0 := by
  simp only [bitsN]
  rw [digBit_digs l _ (by decide), digBit_digs l _ (by decide)]
  unfold byteBit
  rw [if_neg (by omega), if_neg (by omega)]
end Go.Proofs.YtepibaoniafolaaDoor
