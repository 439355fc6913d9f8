/- Strings in order; a row of strings, each once. -/
import Derived.Test.YtbhapbioibhalaaCodecOrderMath
import Derived.Test.YtbhapbioibhalaaBase
import Derived.Sort.Walk0
namespace Go.Proofs.Ytbhapbioibhalaa
open Go Go.RowKit

theorem less_trans {a b c : List UInt8} (h : Op.bytesLess a b = true) (k : Op.bytesLess b c = true) : Op.bytesLess a c = true := by
  rw [bytesLess_eq, decide_eq_true_eq] at *
  exact List.lt_trans h k

theorem less_asymm {a b : List UInt8} (h : Op.bytesLess a b = true) : Op.bytesLess b a = false := by
  cases k : Op.bytesLess b a with
  | false => rfl
  | true =>
    have := less_trans h k
    rw [less_irrefl] at this
    cases this

def bl (a b : ByteArray) : Bool := Op.bytesLess a.data.toList b.data.toList

theorem bl_spell (x y : ByteArray) : Op.bytesLess x.toList y.toList = bl x y := by
  unfold bl
  rw [Go.ByteArray.toList_eq, Go.ByteArray.toList_eq]

theorem bl_trans {a b c : ByteArray} (h : bl a b = true) (k : bl b c = true) : bl a c = true := less_trans h k
theorem bl_irrefl (a : ByteArray) : bl a a = false := less_irrefl _
theorem bl_asymm {a b : ByteArray} (h : bl a b = true) : bl b a = false := less_asymm h
theorem bl_total {a b : ByteArray} (h : bl a b = false) (k : bl b a = false) : a = b := Go.WideShapes.bytes_inj (less_total _ _ h k)
theorem bl_ne {a b : ByteArray} (h : bl a b = true) : a ≠ b := fun e => by subst e; rw [bl_irrefl] at h; cases h
/-- not less: equal, or greater -/
theorem bl_ge {a b : ByteArray} (h : bl a b = false) (hne : a ≠ b) : bl b a = true := by
  cases k : bl b a with
  | true => rfl
  | false => exact absurd (bl_total h k) hne

/-- Each is less than those behind it. -/
def rises (l : List ByteArray) : Prop := l.Pairwise (fun a b => bl a b = true)

theorem rises_nil : rises [] := List.Pairwise.nil
theorem rises_snoc {l : List ByteArray} {x : ByteArray} : rises (l ++ [x]) ↔ rises l ∧ ∀ y ∈ l, bl y x = true := by
  unfold rises
  rw [List.pairwise_append]
  simp

/-- What is asked of neighbours alone. -/
def stepsUp (l : List ByteArray) (n : Nat) : Prop := ∀ i, 0 < i → i < n → ∀ x y, l[i - 1]? = some x → l[i]? = some y → bl x y = true

theorem rises_of_steps (l : List ByteArray) (h : stepsUp l l.length) : rises l := by
  induction l with
  | nil => exact rises_nil
  | cons a r ih =>
    have hr : rises r := ih (fun i h0 hi x y hx hy => h (i + 1) (by omega) (by simp; omega) x y (by
      rw [show i + 1 - 1 = i - 1 + 1 by omega]
      simpa using hx) (by simpa using hy))
    refine List.Pairwise.cons (fun y hy => ?_) hr
    cases r with
    | nil => cases hy
    | cons b r =>
      have hab : bl a b = true := h 1 (by omega) (by simp) a b rfl rfl
      rcases List.mem_cons.1 hy with rfl | hy
      · exact hab
      · exact bl_trans hab (List.rel_of_pairwise_cons hr hy)

theorem steps_of_rises {l : List ByteArray} (h : rises l) : stepsUp l l.length := by
  intro i h0 hi x y hx hy
  obtain ⟨h1, rfl⟩ := List.getElem?_eq_some_iff.1 hx
  obtain ⟨h2, rfl⟩ := List.getElem?_eq_some_iff.1 hy
  exact List.pairwise_iff_getElem.1 h (i - 1) i h1 h2 (by omega)

instance (l : List ByteArray) : Decidable (rises l) := by unfold rises; infer_instance

theorem not_rises {l : List ByteArray} {i : Nat} {x y : ByteArray} (h0 : 0 < i) (hx : l[i - 1]? = some x) (hy : l[i]? = some y) (h : bl x y = false) : ¬ rises l := fun hr => by
  have := steps_of_rises hr i h0 (List.getElem?_eq_some_iff.1 hy).1 x y hx hy
  rw [h] at this
  cases this

/-- Where a key belongs: behind those that are less. -/
def putAt (l : List ByteArray) (k : ByteArray) : Nat := (l.takeWhile fun x => bl x k).length
def putK (l : List ByteArray) (k : ByteArray) : List ByteArray := if l[putAt l k]? = some k then l else l.take (putAt l k) ++ k :: l.drop (putAt l k)

theorem putAt_le (l : List ByteArray) (k : ByteArray) : putAt l k ≤ l.length := (List.takeWhile_sublist _).length_le

theorem putAt_lt {l : List ByteArray} {k x : ByteArray} {i : Nat} (h : i < putAt l k) (hx : l[i]? = some x) : bl x k = true := by
  induction l generalizing i with
  | nil => simp at hx
  | cons a r ih =>
    unfold putAt at h
    rw [List.takeWhile_cons] at h
    split at h
    · rename_i ha
      cases i with
      | zero => simp at hx; subst hx; exact ha
      | succ i => exact ih (by unfold putAt; simpa using h) (by simpa using hx)
    · simp at h

theorem putAt_at {l : List ByteArray} {k x : ByteArray} (hx : l[putAt l k]? = some x) : bl x k = false := by
  induction l with
  | nil => simp at hx
  | cons a r ih =>
    unfold putAt at hx
    rw [List.takeWhile_cons] at hx
    split at hx
    · exact ih (by unfold putAt; simpa using hx)
    · rename_i ha
      simp at hx
      subst hx
      simpa using ha

/-- The place is found one by one. -/
theorem putAt_eq {l : List ByteArray} {k : ByteArray} {i : Nat} (h : ∀ j x, j < i → l[j]? = some x → bl x k = true) (hi : i ≤ l.length) (hat : ∀ x, l[i]? = some x → bl x k = false) : putAt l k = i := by
  rcases Nat.lt_trichotomy (putAt l k) i with hlt | he | hgt
  · have hl : putAt l k < l.length := by omega
    have h1 := putAt_at (List.getElem?_eq_getElem hl)
    rw [h _ _ hlt (List.getElem?_eq_getElem hl)] at h1
    cases h1
  · exact he
  · have hl : i < l.length := Nat.lt_of_lt_of_le hgt (putAt_le l k)
    have h1 := putAt_lt hgt (List.getElem?_eq_getElem hl)
    rw [hat _ (List.getElem?_eq_getElem hl)] at h1
    cases h1

theorem putK_length (l : List ByteArray) (k : ByteArray) : (putK l k).length ≤ l.length + 1 := by
  have := putAt_le l k
  unfold putK
  split
  · omega
  · simp
    omega

theorem putK_mem {l : List ByteArray} {k x : ByteArray} (h : x ∈ putK l k) : x = k ∨ x ∈ l := by
  unfold putK at h
  split at h
  · exact .inr h
  · rcases List.mem_append.1 h with h | h
    · exact .inr (List.mem_of_mem_take h)
    · rcases List.mem_cons.1 h with h | h
      · exact .inl h
      · exact .inr (List.mem_of_mem_drop h)

theorem mem_putK {l : List ByteArray} {k x : ByteArray} (h : x = k ∨ x ∈ l) : x ∈ putK l k := by
  unfold putK
  split
  · rename_i hk
    rcases h with rfl | h
    · exact List.mem_of_getElem? hk
    · exact h
  · rcases h with rfl | h
    · simp
    · rw [← List.take_append_drop (putAt l k) l] at h
      rcases List.mem_append.1 h with h | h
      · exact List.mem_append_left _ h
      · exact List.mem_append_right _ (List.mem_cons_of_mem _ h)

theorem putK_rises {l : List ByteArray} {k : ByteArray} (h : rises l) : rises (putK l k) := by
  unfold putK
  split
  · exact h
  · rename_i hne
    have hp := h
    unfold rises at hp ⊢
    rw [← List.take_append_drop (putAt l k) l, List.pairwise_append] at hp
    rw [List.pairwise_append]
    refine ⟨hp.1, List.Pairwise.cons (fun y hy => ?_) hp.2.1, fun a ha b hb => ?_⟩
    · obtain ⟨i, hi⟩ := List.getElem?_of_mem hy
      rw [List.getElem?_drop] at hi
      have hl : putAt l k < l.length := by have := (List.getElem?_eq_some_iff.1 hi).1; omega
      have h0 := List.getElem?_eq_getElem hl
      have hk : bl k l[putAt l k] = true := bl_ge (putAt_at h0) (fun e => hne (by rw [h0, e]))
      by_cases hi0 : i = 0
      · subst hi0
        rw [Nat.add_zero, h0] at hi
        cases hi
        exact hk
      · obtain ⟨h1, rfl⟩ := List.getElem?_eq_some_iff.1 hi
        exact bl_trans hk (List.pairwise_iff_getElem.1 h _ _ hl h1 (by omega))
    · obtain ⟨i, hi⟩ := List.getElem?_of_mem ha
      rw [List.getElem?_take] at hi
      split at hi
      · rename_i hlt
        have hak := putAt_lt hlt hi
        rcases List.mem_cons.1 hb with rfl | hb
        · exact hak
        · exact hp.2.2 a ha b hb
      · cases hi

end Go.Proofs.Ytbhapbioibhalaa
