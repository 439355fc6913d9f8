import Derived.Test.YtepibaoniafolaaDoorTokenTrip
namespace Go.Proofs.YtepibaoniafolaaDoor
open Go Go.RowKit

/-- The first K bits, noughts behind them. -/
def cutBit (d : List Nat) (K k : Nat) : Nat := if k < K then digBit d k else 0

theorem cutBit_le (d : List Nat) (K : Nat) : IsBits (cutBit d K) := by
  intro k
  unfold cutBit
  split
  · exact digBit_le d k
  · exact Nat.zero_le _

theorem bitsN_zero {f : Nat → Nat} {a n : Nat} (h : ∀ j, j < n → f (a + j) = 0) : bitsN f a n = 0 := by
  induction n with
  | zero => rfl
  | succ n ih => rw [bitsN, ih (fun j hj => h j (by omega)), h n (by omega)]

theorem cut_byte (d : List Nat) (K q : Nat) : bitsN (cutBit d (K + 1)) (8 * q) 8 = bitsN (cutBit d K) (8 * q) 8 + if q = K / 8 then digBit d K * 2 ^ (7 - K % 8) else 0 := by
  by_cases hq : q = K / 8
  · rw [if_pos hq]
    have hK : K = 8 * q + K % 8 := by omega
    have hr : K % 8 < 8 := Nat.mod_lt _ (by decide)
    generalize K % 8 = r at *
    have e8 : (8 : Nat) = (r + 1) + (7 - r) := by omega
    have split : ∀ f : Nat → Nat, bitsN f (8 * q) 8 = bitsN f (8 * q) (r + 1) * 2 ^ (7 - r) + bitsN f (8 * q + (r + 1)) (7 - r) := fun f => by
      have h1 := bitsN_add f (8 * q) (r + 1) (7 - r)
      rw [← e8] at h1
      exact h1
    have z1 : bitsN (cutBit d (K + 1)) (8 * q + (r + 1)) (7 - r) = 0 := bitsN_zero fun j _ => by
      unfold cutBit
      rw [if_neg (by omega)]
    have z0 : bitsN (cutBit d K) (8 * q + (r + 1)) (7 - r) = 0 := bitsN_zero fun j _ => by
      unfold cutBit
      rw [if_neg (by omega)]
    have p1 : bitsN (cutBit d (K + 1)) (8 * q) (r + 1) = 2 * bitsN (cutBit d K) (8 * q) r + digBit d K := by
      rw [bitsN]
      have c1 : bitsN (cutBit d (K + 1)) (8 * q) r = bitsN (cutBit d K) (8 * q) r := bitsN_congr fun j hj => by
        unfold cutBit
        rw [if_pos (by omega), if_pos (by omega)]
      have c2 : cutBit d (K + 1) (8 * q + r) = digBit d K := by
        unfold cutBit
        rw [if_pos (by omega), ← hK]
      rw [c1, c2]
    have p0 : bitsN (cutBit d K) (8 * q) (r + 1) = 2 * bitsN (cutBit d K) (8 * q) r := by
      rw [bitsN]
      have c2 : cutBit d K (8 * q + r) = 0 := by
        unfold cutBit
        rw [if_neg (by omega)]
      rw [c2]
      rfl
    rw [split, split, z1, z0, p1, p0, Nat.add_mul]
    rfl
  · rw [if_neg hq, Nat.add_zero]
    refine bitsN_congr fun j hj => ?_
    unfold cutBit
    by_cases h1 : 8 * q + j < K
    · rw [if_pos (by omega), if_pos h1]
    · rw [if_neg (by omega), if_neg h1]

/-- Seventeen bytes of which the first K bits are laid. -/
def upB (d : List Nat) (K : Nat) : List UInt8 := (List.range 17).map fun q => UInt8.ofNat (bitsN (cutBit d K) (8 * q) 8)

theorem upB_length (d : List Nat) (K : Nat) : (upB d K).length = 17 := by simp [upB]

theorem upB_getD (d : List Nat) (K q : Nat) (h : q < 17) : ((upB d K).getD q 0).toNat = bitsN (cutBit d K) (8 * q) 8 := by
  have hlt := bitsN_lt (cutBit_le d K) (8 * q) 8
  simp only [upB, List.getD, List.getElem?_map, List.getElem?_range h, Option.map_some, Option.getD_some, UInt8.toNat_ofNat']
  exact Nat.mod_eq_of_lt hlt

theorem upB_zero (d : List Nat) : upB d 0 = List.replicate 17 0 := by
  have h : ∀ q, bitsN (cutBit d 0) (8 * q) 8 = 0 := fun q => bitsN_zero fun j _ => by
    unfold cutBit
    rw [if_neg (by omega)]
  unfold upB
  simp only [h]
  rfl

theorem upB_off (d : List Nat) (K : Nat) (h : digBit d K = 0) : upB d (K + 1) = upB d K := by
  unfold upB
  refine List.map_congr_left fun q _ => ?_
  rw [cut_byte, h, Nat.zero_mul]
  split <;> rfl

theorem upB_on (d : List Nat) (K : Nat) (h : digBit d K = 1) (hK : K < 136) :
    upB d (K + 1) = (upB d K).set (K / 8) (UInt8.ofNat (((upB d K).getD (K / 8) 0).toNat + 2 ^ (7 - K % 8))) := by
  rw [upB_getD d K _ (by omega)]
  apply List.ext_getElem?
  intro q
  by_cases hq : q < 17
  · rw [List.getElem?_set]
    by_cases hqk : K / 8 = q
    · rw [if_pos hqk, if_pos (by rw [upB_length]; omega)]
      simp only [upB, List.getElem?_map, List.getElem?_range hq, Option.map_some]
      rw [cut_byte, h, Nat.one_mul, if_pos hqk.symm, hqk]
    · rw [if_neg hqk]
      simp only [upB, List.getElem?_map, List.getElem?_range hq, Option.map_some]
      rw [cut_byte, if_neg (fun e => hqk e.symm), Nat.add_zero]
  · rw [List.getElem?_eq_none (by rw [upB_length]; omega), List.getElem?_eq_none (by rw [List.length_set, upB_length]; omega)]

/-- The sum of the bits before and the bit laid is a byte. -/
theorem upB_room (d : List Nat) (K : Nat) (h : digBit d K = 1) (hK : K < 136) : ((upB d K).getD (K / 8) 0).toNat + 2 ^ (7 - K % 8) < 256 := by
  rw [upB_getD d K _ (by omega)]
  have h1 := bitsN_lt (cutBit_le d (K + 1)) (8 * (K / 8)) 8
  rw [cut_byte, h, if_pos rfl, Nat.one_mul] at h1
  exact h1

theorem cut_full (d : List Nat) (q : Nat) (h : q < 16) : bitsN (cutBit d 130) (8 * q) 8 = bitsN (digBit d) (8 * q) 8 :=
  bitsN_congr fun j hj => by
    unfold cutBit
    rw [if_pos (by omega)]

theorem upB_take (d : List Nat) : (upB d 130).take 16 = bytesD d := by
  have e : (List.range 17).take 16 = List.range 16 := rfl
  have h : (List.range 16).map (fun q => UInt8.ofNat (bitsN (cutBit d 130) (8 * q) 8)) = (List.range 16).map (fun q => UInt8.ofNat (bitsN (digBit d) (8 * q) 8)) :=
    List.map_congr_left fun q hq => congrArg UInt8.ofNat (cut_full d q (List.mem_range.1 hq))
  rw [upB, ← List.map_take, e, h, bytesD]

theorem low_zero (f : Nat → Nat) (a : Nat) (h : bitsN f (a + 2) 6 = 0) : bitsN f a 8 = bitsN f a 2 * 64 := by
  have h1 := bitsN_add f a 2 6
  rw [h, Nat.add_zero] at h1
  exact h1

theorem upB_last (d : List Nat) : ((upB d 130).getD 16 0).toNat = bitsN (digBit d) 128 2 * 64 := by
  rw [upB_getD d 130 16 (by decide)]
  have ha : 8 * 16 = 128 := rfl
  generalize 8 * 16 = a at ha
  have h2 : bitsN (cutBit d 130) (a + 2) 6 = 0 := bitsN_zero fun j _ => by
    unfold cutBit
    rw [if_neg (by omega)]
  have h3 : bitsN (cutBit d 130) a 2 = bitsN (digBit d) a 2 := bitsN_congr fun j hj => by
    unfold cutBit
    rw [if_pos (by omega)]
  rw [low_zero _ a h2, h3, ha]

/-- The place of a sign among the first k of the signs; below 0: it is not there. -/
def fndTo (c : UInt8) (k : Nat) : Int := if 0 ≤ digZ c ∧ digZ c < k then digZ c else -1

theorem fndTo_all : ∀ k : Fin 33, k.val < 32 → ∀ c : Fin 256, fndTo (UInt8.ofNat c.val) (k.val + 1) = if sgn k.val = UInt8.ofNat c.val then (k.val : Int) else fndTo (UInt8.ofNat c.val) k.val := by decide +kernel

theorem fndTo_step (c : UInt8) (k : Nat) (h : k < 32) : fndTo c (k + 1) = if sgn k = c then (k : Int) else fndTo c k := by
  have := fndTo_all ⟨k, by omega⟩ h ⟨c.toNat, c.toNat_lt⟩
  simpa using this

theorem fndTo_full (c : UInt8) : fndTo c 32 = digZ c := by
  have h := digZ_bd c
  unfold fndTo
  split
  · rfl
  · next hn => have := h.1; have := h.2; omega

theorem fndTo_zero (c : UInt8) : fndTo c 0 = -1 := by
  unfold fndTo
  rw [if_neg (by omega)]
end Go.Proofs.YtepibaoniafolaaDoor
