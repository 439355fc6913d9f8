/- A block: its bytes. -/
import Derived.Test.YtcglkdmfbnpniaaStrWalks
import Derived.Test.YtcglkdmfbnpniaaTexts
import Derived.Test.YtcglkdmfbnpniaaBe4
namespace Go.Proofs.Ytcglkdmfbnpniaa
open Go Go.RowKit

/-- How many first bytes two texts share. -/
def comL : List UInt8 → List UInt8 → Nat
  | a :: la, b :: lb => if a = b then comL la lb + 1 else 0
  | _, _ => 0

theorem comL_le : ∀ (a b : List UInt8), comL a b ≤ a.length ∧ comL a b ≤ b.length
  | [], _ => by simp [comL]
  | _ :: _, [] => by simp [comL]
  | a :: la, b :: lb => by
    have := comL_le la lb
    unfold comL
    split <;> simp <;> omega

theorem comL_take : ∀ (a b : List UInt8), a.take (comL a b) = b.take (comL a b)
  | [], _ => by simp [comL]
  | _ :: _, [] => by simp [comL]
  | a :: la, b :: lb => by
    have := comL_take la lb
    unfold comL
    split
    · rename_i h
      simp [h, this]
    · simp

/-- So far they are the same. -/
def upTo (a b : List UInt8) (n : Nat) : Prop := n ≤ a.length ∧ n ≤ b.length ∧ a.take n = b.take n

theorem comL_stop : ∀ (a b : List UInt8) (n : Nat), upTo a b n → (a.length ≤ n ∨ b.length ≤ n ∨ a[n]? ≠ b[n]?) → comL a b = n
  | [], b, n, h, _ => by
    have := h.1
    simp at this
    subst this
    simp [comL]
  | a :: la, [], n, h, _ => by
    have := h.2.1
    simp at this
    subst this
    simp [comL]
  | a :: la, b :: lb, 0, h, hs => by
    simp at hs
    unfold comL
    rw [if_neg hs]
  | a :: la, b :: lb, n + 1, ⟨h1, h2, h3⟩, hs => by
    simp at h3 hs h1 h2
    unfold comL
    rw [if_pos h3.1, comL_stop la lb n ⟨h1, h2, h3.2⟩ (by simpa using hs)]

theorem upTo_step {a b : List UInt8} {n : Nat} {x : UInt8} (h : upTo a b n) (ha : a[n]? = some x) (hb : b[n]? = some x) : upTo a b (n + 1) := by
  refine ⟨(List.getElem?_eq_some_iff.1 ha).1, (List.getElem?_eq_some_iff.1 hb).1, ?_⟩
  rw [List.take_add_one, List.take_add_one, h.2.2, ha, hb]

theorem comL_comm : ∀ (a b : List UInt8), comL a b = comL b a
  | [], b => by cases b <;> simp [comL]
  | _ :: _, [] => by simp [comL]
  | a :: la, b :: lb => by
    unfold comL
    by_cases h : a = b
    · rw [if_pos h, if_pos h.symm, comL_comm la lb]
    · rw [if_neg h, if_neg (fun e => h e.symm)]

def kb (ks : List ByteArray) (i : Nat) : List UInt8 := (ks.getD i ⟨#[]⟩).data.toList

/-- A key's entry, that shares n bytes with the one ahead. -/
def entL (n : Nat) (k : List UInt8) : List UInt8 := enc n ++ (enc (k.length - n) ++ k.drop n)

def shareL (ks : List ByteArray) (i : Nat) : Nat := if i % 16 = 0 then 0 else comL (kb ks (i - 1)) (kb ks i)

def bodyTo (ks : List ByteArray) : Nat → List UInt8
  | 0 => []
  | i + 1 => bodyTo ks i ++ entL (shareL ks i) (kb ks i)

def placesTo (ks : List ByteArray) : Nat → List UInt8
  | 0 => []
  | i + 1 => placesTo ks i ++ if i % 16 = 0 then be4 (bodyTo ks i).length else []

def buildL (ks : List ByteArray) : List UInt8 := bodyTo ks ks.length ++ placesTo ks ks.length ++ be4 ((placesTo ks ks.length).length / 4)

theorem shareL_le (ks : List ByteArray) (i : Nat) : shareL ks i ≤ (kb ks i).length := by
  unfold shareL
  split
  · exact Nat.zero_le _
  · exact (comL_le _ _).2

theorem entL_length {n : Nat} {k : List UInt8} (h : n ≤ k.length) (hk : k.length ≤ 1000000) : (entL n k).length ≤ 20 + k.length := by
  have h1 := enc_length_le 9 n (by omega)
  have h2 := enc_length_le 9 (k.length - n) (by omega)
  unfold entL
  simp
  omega

theorem bodyTo_length {ks : List ByteArray} (h : ∀ x ∈ ks, x.size ≤ 4000) : ∀ i, (bodyTo ks i).length ≤ i * 4020
  | 0 => Nat.le_refl _
  | i + 1 => by
    have ih := bodyTo_length h i
    have hk : (kb ks i).length ≤ 4000 := by
      unfold kb
      rw [Array.length_toList]
      by_cases hi : i < ks.length
      · rw [List.getD_eq_getElem?_getD, List.getElem?_eq_getElem hi]
        exact h _ (List.getElem_mem hi)
      · rw [List.getD_eq_getElem?_getD, List.getElem?_eq_none (by omega)]
        decide
    have := entL_length (shareL_le ks i) (by omega)
    unfold bodyTo
    simp
    omega

theorem placesTo_length (ks : List ByteArray) : ∀ i, (placesTo ks i).length = (i + 15) / 16 * 4
  | 0 => rfl
  | i + 1 => by
    have ih := placesTo_length ks i
    unfold placesTo
    rw [List.length_append, ih]
    split
    · simp [be4]
      omega
    · simp
      omega

theorem kb_at {ks : List ByteArray} {i : Nat} {x : ByteArray} (h : ks[i]? = some x) : kb ks i = x.data.toList := by
  unfold kb
  rw [List.getD_eq_getElem?_getD, h]
  rfl
end Go.Proofs.Ytcglkdmfbnpniaa
