/- What Seek tells of a block of rising keys. -/
import Derived.Test.YtcglkdmfbnpniaaBlockFixed
import Derived.Test.YtcglkdmfbnpniaaRef11Seek
namespace Go.Proofs.Ytcglkdmfbnpniaa
open Go Go.RowKit

theorem getGo_enc {N : Nat} (h : N < 18446744073709551616) (r : List UInt8) : getGo 0 0 (enc N ++ r) = (N, (enc N).length, 0) := by
  have := getGo_enc_go 9 0 N 0 r (Nat.lt_of_lt_of_le h (by decide)) (by decide) (.inl rfl) (by simpa using h)
  simpa using this

theorem getText_enc {S : List UInt8} (h : S.length < 18446744073709551616) (r : List UInt8) : getText (enc S.length ++ (S ++ r)) = (S, (enc S.length).length + S.length, 0) := by
  unfold getText
  rw [getGo_enc h]
  simp only [if_true]
  have h1 : (enc S.length ++ (S ++ r)).length - (enc S.length).length = (S ++ r).length := by rw [List.length_append]; omega
  rw [h1, if_neg (by rw [List.length_append]; omega)]
  rw [List.drop_left, List.take_left]

theorem stepB_ent {n : Nat} {k key r : List UInt8} (h1 : n ≤ key.length) (h2 : n ≤ k.length) (h3 : key.take n = k.take n) (hk : k.length ≤ 1000000) : stepB (entL n k ++ r) key = some (r, k, n) := by
  have e1 : entL n k ++ r = enc n ++ (enc (k.drop n).length ++ (k.drop n ++ r)) := by
    unfold entL
    rw [List.length_drop]
    simp
  have hg : getGo 0 0 (entL n k ++ r) = (n, (enc n).length, 0) := by rw [e1]; exact getGo_enc (by omega) _
  have hd : (entL n k ++ r).drop (enc n).length = enc (k.drop n).length ++ (k.drop n ++ r) := by rw [e1, List.drop_left]
  have ht : getText (enc (k.drop n).length ++ (k.drop n ++ r)) = (k.drop n, (enc (k.drop n).length).length + (k.drop n).length, 0) := getText_enc (by rw [List.length_drop]; omega) r
  unfold stepB
  rw [hg]
  simp only [hd, ht]
  rw [if_pos ⟨trivial, h1, trivial⟩]
  congr 2
  · rw [← List.append_assoc, List.drop_append, List.drop_of_length_le (by simp), List.nil_append]
    simp
  · rw [h3, List.take_append_drop]

/-- The entries j .. j + d - 1. -/
def restTo (ks : List ByteArray) : Nat → Nat → List UInt8
  | _, 0 => []
  | j, d + 1 => entL (shareL ks j) (kb ks j) ++ restTo ks (j + 1) d

theorem body_rest (ks : List ByteArray) : ∀ (d j : Nat), bodyTo ks (j + d) = bodyTo ks j ++ restTo ks j d
  | 0, j => by simp [restTo]
  | d + 1, j => by
    rw [show j + (d + 1) = (j + 1) + d by omega, body_rest ks d (j + 1)]
    show (bodyTo ks j ++ entL (shareL ks j) (kb ks j)) ++ _ = _
    rw [List.append_assoc]
    rfl

theorem rest_ne (ks : List ByteArray) (j d : Nat) : restTo ks j (d + 1) ≠ [] := by
  intro h
  have h1 := congrArg List.length h
  have h2 := enc_pos (shareL ks j)
  unfold restTo entL at h1
  rw [List.length_append, List.length_append, List.length_nil] at h1
  omega

theorem places_at (ks : List ByteArray) : ∀ (m i : Nat), 16 * i < m → ∃ r, (placesTo ks m).drop (4 * i) = be4 (bodyTo ks (16 * i)).length ++ r
  | m + 1, i, h => by
    have hl := placesTo_length ks m
    show ∃ r, (placesTo ks m ++ if m % 16 = 0 then be4 (bodyTo ks m).length else []).drop (4 * i) = _
    by_cases hm : 16 * i < m
    · obtain ⟨r, hr⟩ := places_at ks m i hm
      rw [List.drop_append_of_le_length (by omega), hr]
      exact ⟨_, List.append_assoc _ _ _⟩
    · have he : 16 * i = m := by omega
      rw [if_pos (by omega), ← he]
      rw [show 4 * i = (placesTo ks (16 * i)).length by rw [he]; omega, List.drop_left]
      exact ⟨[], by simp⟩

theorem places_num {ks : List ByteArray} (hs : ∀ x ∈ ks, x.size ≤ 4000) (hn : ks.length ≤ 4000) {i : Nat} (h : 16 * i < ks.length) : num4 ((placesTo ks ks.length).drop (4 * i)) = (bodyTo ks (16 * i)).length := by
  obtain ⟨r, hr⟩ := places_at ks ks.length i h
  have := bodyTo_length hs (16 * i)
  rw [hr]
  exact num4_be4 (by omega) r

theorem parts_build {ks : List ByteArray} (hn : ks.length ≤ 4000) : partsL (buildL ks) = some (bodyTo ks ks.length, placesTo ks ks.length) := by
  have hl := placesTo_length ks ks.length
  obtain ⟨c, hc⟩ : ∃ c, (placesTo ks ks.length).length = 4 * c := ⟨(ks.length + 15) / 16, by omega⟩
  have hcb : c ≤ 4000 := by omega
  unfold buildL
  rw [hc, show 4 * c / 4 = c by omega]
  generalize placesTo ks ks.length = P at *
  generalize bodyTo ks ks.length = D at *
  have hlen : (D ++ P ++ be4 c).length = D.length + 4 * c + 4 := by simp [be4]; omega
  have hd : (D ++ P ++ be4 c).drop (D.length + 4 * c) = be4 c := by
    rw [show D.length + 4 * c = (D ++ P).length by rw [List.length_append]; omega, List.drop_left]
  have hnum : num4 (be4 c) = c := by
    have := num4_be4 (N := c) (by omega) []
    simpa using this
  unfold partsL
  rw [if_neg (by omega), hlen, show D.length + 4 * c + 4 - 4 = D.length + 4 * c by omega, hd, hnum, if_neg (by omega), show D.length + 4 * c - 4 * c = D.length by omega]
  congr 2
  · rw [List.append_assoc, List.take_left]
  · rw [List.append_assoc, List.drop_left, ← hc, List.take_left]

theorem from_block {ks : List ByteArray} (hs : ∀ x ∈ ks, x.size ≤ 4000) (hn : ks.length ≤ 4000) {i : Nat} (h : 16 * i < ks.length) : fromL (bodyTo ks ks.length) (placesTo ks ks.length) i = (restTo ks (16 * i) (ks.length - 16 * i), false) := by
  unfold fromL
  rw [places_num hs hn h]
  obtain ⟨d, hd⟩ : ∃ d, ks.length - 16 * i = d + 1 := ⟨ks.length - 16 * i - 1, by omega⟩
  have hb := body_rest ks (d + 1) (16 * i)
  rw [show 16 * i + (d + 1) = ks.length by omega] at hb
  have hne := List.length_pos_iff.2 (rest_ne ks (16 * i) d)
  rw [hb, hd, if_neg (by rw [List.length_append]; omega), List.drop_left]

theorem kb_small {ks : List ByteArray} (hs : ∀ x ∈ ks, x.size ≤ 4000) (j : Nat) : (kb ks j).length ≤ 4000 := by
  unfold kb
  rw [Array.length_toList]
  by_cases hi : j < ks.length
  · rw [List.getD_eq_getElem?_getD, List.getElem?_eq_getElem hi]
    exact hs _ (List.getElem_mem hi)
  · rw [List.getD_eq_getElem?_getD, List.getElem?_eq_none (by omega)]
    decide

/-- The key ahead of the j-th entry, as a cursor has it. -/
def Ahead (ks : List ByteArray) (j : Nat) (key : List UInt8) : Prop := j % 16 = 0 ∨ key = kb ks (j - 1)

theorem step_rest {ks : List ByteArray} (hs : ∀ x ∈ ks, x.size ≤ 4000) {j d : Nat} {key : List UInt8} (h : Ahead ks j key) : stepB (restTo ks j (d + 1)) key = some (restTo ks (j + 1) d, kb ks j, shareL ks j) := by
  have hk := kb_small hs j
  show stepB (entL (shareL ks j) (kb ks j) ++ restTo ks (j + 1) d) key = _
  by_cases h0 : j % 16 = 0
  · have : shareL ks j = 0 := by unfold shareL; rw [if_pos h0]
    rw [this]
    exact stepB_ent (Nat.zero_le _) (Nat.zero_le _) rfl (by omega)
  · rcases h with h | rfl
    · exact absurd h h0
    · have : shareL ks j = comL (kb ks (j - 1)) (kb ks j) := by unfold shareL; rw [if_neg h0]
      rw [this]
      exact stepB_ent (comL_le _ _).1 (comL_le _ _).2 (comL_take _ _) (by omega)

/-- The first key from j on that isn't less. -/
def firstGe (ks : List ByteArray) (want : List UInt8) : Nat → Nat → Option (List UInt8)
  | _, 0 => none
  | j, d + 1 => if 0 ≤ Lib.compareBytes (kb ks j) want then some (kb ks j) else firstGe ks want (j + 1) d

def firstR : Option (List UInt8) → List UInt8 × Bool × Nat
  | some k => (k, true, 0)
  | none => ([], false, 0)

theorem scan_rest {ks : List ByteArray} (hs : ∀ x ∈ ks, x.size ≤ 4000) (want : List UInt8) : ∀ (d j F : Nat) (key : List UInt8), Ahead ks j key → (restTo ks j d).length < F → scanB want false F (restTo ks j d) key = firstR (firstGe ks want j d)
  | 0, j, F + 1, key, _, _ => by simp [scanB, restTo, firstGe, firstR]
  | d + 1, j, F + 1, key, h, hF => by
    unfold scanB
    rw [if_neg (rest_ne ks j d), step_rest hs h]
    unfold firstGe
    simp only
    by_cases hc : 0 ≤ Lib.compareBytes (kb ks j) want
    · rw [if_pos hc, if_pos hc]
      rfl
    · rw [if_neg hc, if_neg hc]
      refine scan_rest hs want d (j + 1) F (kb ks j) (.inr (by rw [show j + 1 - 1 = j by omega])) ?_
      have h1 := enc_pos (shareL ks j)
      have h2 : (restTo ks j (d + 1)).length = (entL (shareL ks j) (kb ks j)).length + (restTo ks (j + 1) d).length := by
        show (entL (shareL ks j) (kb ks j) ++ restTo ks (j + 1) d).length = _
        rw [List.length_append]
      have h3 : 0 < (entL (shareL ks j) (kb ks j)).length := by unfold entL; rw [List.length_append]; omega
      omega

theorem clo_block {ks : List ByteArray} (hs : ∀ x ∈ ks, x.size ≤ 4000) (hn : ks.length ≤ 4000) (want : List UInt8) {i : Nat} (h : 16 * i < ks.length) : cloB (bodyTo ks ks.length) (placesTo ks ks.length) want i = decide (0 < Lib.compareBytes (kb ks (16 * i)) want) := by
  obtain ⟨d, hd⟩ : ∃ d, ks.length - 16 * i = d + 1 := ⟨ks.length - 16 * i - 1, by omega⟩
  unfold cloB
  rw [from_block hs hn h, hd]
  simp only
  rw [if_neg (rest_ne ks (16 * i) d), step_rest hs (.inl (by omega))]
end Go.Proofs.Ytcglkdmfbnpniaa
