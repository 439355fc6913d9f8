/- Seek of a block of rising keys is the first key that isn't less. -/
import Derived.Test.YtcglkdmfbnpniaaBlockSeekM
namespace Go.Proofs.Ytcglkdmfbnpniaa
open Go Go.RowKit

theorem cmp_ge : ∀ (a b : List UInt8), 0 ≤ Lib.compareBytes a b ↔ Op.bytesLess a b = false
  | [], [] => by simp [Lib.compareBytes, Op.bytesLess]
  | [], _ :: _ => by simp [Lib.compareBytes, Op.bytesLess]
  | _ :: _, [] => by simp [Lib.compareBytes, Op.bytesLess]
  | a :: x, b :: y => by
    unfold Lib.compareBytes Op.bytesLess
    by_cases h : a < b
    · simp [h]
    · by_cases k : b < a
      · have : a ≠ b := fun e => by subst e; exact h k
        simp [h, k, this]
      · have : a = b := UInt8.le_antisymm (UInt8.not_lt.1 k) (UInt8.not_lt.1 h)
        subst this
        simpa [h] using cmp_ge x y

theorem cmp_gt : ∀ (a b : List UInt8), 0 < Lib.compareBytes a b ↔ Op.bytesLess b a = true
  | [], [] => by simp [Lib.compareBytes, Op.bytesLess]
  | [], _ :: _ => by simp [Lib.compareBytes, Op.bytesLess]
  | _ :: _, [] => by simp [Lib.compareBytes, Op.bytesLess]
  | a :: x, b :: y => by
    unfold Lib.compareBytes Op.bytesLess
    by_cases h : a < b
    · have h1 : ¬ b < a := UInt8.lt_asymm h
      have : b ≠ a := fun e => by subst e; exact h1 h
      simp [h, h1, this]
    · by_cases k : b < a
      · simp [h, k]
      · have : a = b := UInt8.le_antisymm (UInt8.not_lt.1 k) (UInt8.not_lt.1 h)
        subst this
        simpa [h] using cmp_gt x y

theorem firstGe_find (ks : List ByteArray) (key : ByteArray) : ∀ (d j : Nat), j + d = ks.length → firstGe ks key.data.toList j d = ((ks.drop j).find? fun x => !bl x key).map fun x => x.data.toList
  | 0, j, h => by
    rw [List.drop_of_length_le (by omega)]
    rfl
  | d + 1, j, h => by
    have hj : j < ks.length := by omega
    obtain ⟨x, hx⟩ : ∃ x, ks[j]? = some x := ⟨_, List.getElem?_eq_getElem hj⟩
    have e : ks.drop j = x :: ks.drop (j + 1) := by
      rw [List.drop_eq_getElem_cons hj]
      rw [List.getElem?_eq_getElem hj] at hx
      cases hx
      rfl
    unfold firstGe
    have hc := cmp_ge x.data.toList key.data.toList
    rw [e, List.find?_cons, kb_at hx]
    cases hb : bl x key with
    | false =>
      rw [if_pos (hc.2 hb)]
      rfl
    | true =>
      have hb2 : Op.bytesLess x.data.toList key.data.toList = true := hb
      rw [if_neg (fun h => by rw [hc.1 h] at hb2; cases hb2)]
      exact firstGe_find ks key d (j + 1) (by omega)

theorem sk_spell (l : List ByteArray) (key : ByteArray) : sk11 l key false = l.find? fun x => !bl x key := by
  unfold sk11
  congr 1
  funext x
  rcases bl_cases x key with ⟨h1, h2, h3⟩ | ⟨h1, h2, h3⟩ | ⟨h1, h2, h3⟩
  · simp [h1, h2, h3]
  · subst h3; simp [bl_irrefl]
  · simp [h1, h2]

theorem find_behind {ks : List ByteArray} {p : ByteArray → Bool} : ∀ (j : Nat), (∀ m x, m < j → ks[m]? = some x → p x = false) → ks.find? p = (ks.drop j).find? p := by
  induction ks with
  | nil => intro j _; rw [List.drop_nil]
  | cons a r ih =>
    intro j h
    cases j with
    | zero => rfl
    | succ j =>
      rw [List.find?_cons, h 0 a (by omega) rfl, List.drop_succ_cons]
      exact ih j (fun m x hm hx => h (m + 1) x (by omega) hx)

theorem rises_at {l : List ByteArray} (h : rises l) {i j : Nat} {x y : ByteArray} (hij : i < j) (hx : l[i]? = some x) (hy : l[j]? = some y) : bl x y = true := by
  obtain ⟨hi, rfl⟩ := List.getElem?_eq_some_iff.1 hx
  obtain ⟨hj, rfl⟩ := List.getElem?_eq_some_iff.1 hy
  exact List.pairwise_iff_getElem.1 h i j hi hj hij

def secR : Option ByteArray → List UInt8 × Bool × Nat
  | some k => (k.data.toList, true, 0)
  | none => ([], false, 0)

theorem seek_block {ks : List ByteArray} (hr : rises ks) (hs : ∀ x ∈ ks, x.size ≤ 4000) (hn : ks.length ≤ 4000) (h0 : 0 < ks.length) (key : ByteArray) {i : Nat} (h : Found (bodyTo ks ks.length) (placesTo ks ks.length) key.data.toList i) :
    seekR (bodyTo ks ks.length) (placesTo ks ks.length) key.data.toList i = secR (sk11 ks key false) := by
  have hl := placesTo_length ks ks.length
  obtain ⟨h1, h2, _⟩ := h
  have hi : 16 * (i - 1) < ks.length := by omega
  have hbefore : ∀ m x, m < 16 * (i - 1) → ks[m]? = some x → (!bl x key) = false := by
    intro m x hm hx
    rcases h2 with rfl | h2
    · omega
    rw [clo_block hs hn _ hi] at h2
    obtain ⟨y, hy⟩ : ∃ y, ks[16 * (i - 1)]? = some y := ⟨_, List.getElem?_eq_getElem hi⟩
    have hxy := rises_at hr hm hx hy
    rw [kb_at hy, decide_eq_false_iff_not, cmp_gt] at h2
    have hky : ¬ bl key y = true := h2
    rcases bl_cases y key with ⟨k1, _, _⟩ | ⟨_, _, k3⟩ | ⟨_, k2, _⟩
    · rw [bl_trans hxy k1]; rfl
    · rw [← k3, hxy]; rfl
    · exact absurd k2 hky
  unfold seekR
  rw [from_block hs hn hi]
  have hb := body_rest ks (ks.length - 16 * (i - 1)) (16 * (i - 1))
  rw [show 16 * (i - 1) + (ks.length - 16 * (i - 1)) = ks.length by omega] at hb
  have hlen : (restTo ks (16 * (i - 1)) (ks.length - 16 * (i - 1))).length ≤ (bodyTo ks ks.length).length := by
    rw [hb, List.length_append]; omega
  rw [scan_rest hs _ _ _ _ [] (.inl (by omega)) (by omega), firstGe_find ks key _ _ (by omega), sk_spell, find_behind _ hbefore]
  cases (ks.drop (16 * (i - 1))).find? (fun x => !bl x key) with
  | none => rfl
  | some x => rfl
end Go.Proofs.Ytcglkdmfbnpniaa
