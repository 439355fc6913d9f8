import Derived.Test.YtkcaadkamaogbaaDoorIndexKeysWalk
namespace Go.Proofs.YtkcaadkamaogbaaDoor
open Go Go.RowKit

theorem range_iff : ∀ (X K : List UInt8), (!(Op.bytesLess K (X ++ [0])) && Op.bytesLess K (X ++ [1])) = (X ++ [0]).isPrefixOf K
  | [], [] => by simp [Op.bytesLess]
  | [], b :: k => by
    have h0 : (b < 0) = False := by simp
    by_cases hb : b = 0
    · subst hb
      simp [Op.bytesLess]
    · have h1 : ¬ b < 1 := by
        rw [UInt8.lt_iff_toNat_lt]
        intro h
        exact hb (UInt8.toNat_inj.1 (by have : (1 : UInt8).toNat = 1 := rfl; show b.toNat = 0; omega))
      have h2 : Op.bytesLess k [] = false := by cases k <;> rfl
      have h3 : ((0 : UInt8) == b) = false := beq_eq_false_iff_ne.2 (Ne.symm hb)
      simp [Op.bytesLess, h0, h1, h2, List.isPrefixOf, h3]
  | x :: X, [] => by simp [Op.bytesLess]
  | x :: X, b :: k => by
    have ih := range_iff X k
    simp only [List.cons_append, Op.bytesLess, List.isPrefixOf_cons_cons]
    by_cases hb : b = x
    · subst hb
      rw [← ih]
      simp [UInt8.lt_irrefl]
    · have hbx : (b == x) = false := beq_eq_false_iff_ne.2 hb
      have hxb : (x == b) = false := beq_eq_false_iff_ne.2 (Ne.symm hb)
      rw [hbx, hxb]
      cases decide (b < x) <;> simp

theorem keyL_prefix : ∀ (p q : List (List UInt8)), (∀ x ∈ p, NZ x) → (∀ x ∈ q, NZ x) → (keyL p <+: keyL q ↔ p <+: q)
  | [], q, _, _ => by simp [keyL]
  | a :: x, [], _, _ => by
    constructor
    · intro h
      have := h.length_le
      simp [keyL] at this
    · intro h
      have := h.length_le
      simp at this
  | a :: x, b :: y, hp, hq => by
    have ih := keyL_prefix x y (fun z hz => hp z (List.mem_cons_of_mem _ hz)) (fun z hz => hq z (List.mem_cons_of_mem _ hz))
    constructor
    · intro h
      obtain ⟨rfl, h1⟩ := part_prefix a b _ _ (hp a (List.mem_cons_self ..)) (hq b (List.mem_cons_self ..)) h
      exact List.cons_prefix_cons.2 ⟨rfl, ih.1 h1⟩
    · intro h
      obtain ⟨rfl, h1⟩ := List.cons_prefix_cons.1 h
      obtain ⟨t, ht⟩ := ih.2 h1
      exact ⟨t, by simp [keyL, ← ht]⟩

/-- The row of a kind and texts, as bytes: ends in a zero. -/
theorem row_bytes (c : UInt8) (s : ByteArray) (l : List ByteArray) : (rowB ⟨#[c]⟩ (s :: l)).data.toList = c :: keyL (lists (s :: l)) := by
  rw [keyL_join]
  unfold rowB
  simp [ByteArray.data_append]

theorem with_bytes {r : ByteArray} {X : List UInt8} (h : r.data.toList = X ++ [0]) : (withB r).data.toList = X ++ [1] := by
  unfold withB
  rw [ByteArray.data_append, Array.toList_append, Lib.extract_from_zero, h]
  have hs := size_data r
  rw [h] at hs
  simp at hs
  have : r.size - 1 = X.length := by omega
  rw [this]
  simp

theorem key_last (l : List (List UInt8)) (h : l ≠ []) : ∃ X, keyL l = X ++ [0] := by
  induction l with
  | nil => exact absurd rfl h
  | cons a x ih =>
    cases x with
    | nil => exact ⟨a, by simp [keyL]⟩
    | cons b y =>
      obtain ⟨X, hX⟩ := ih (by simp)
      exact ⟨a ++ 0 :: X, by rw [keyL, hX]; simp⟩

/-- Does a key stand within the range of a row? -/
def withinB (r K : ByteArray) : Bool := (Op.bytesLess r.toList K.toList || r.toList == K.toList) && Op.bytesLess K.toList (withB r).toList

theorem leq_not : ∀ (a b : List UInt8), (Op.bytesLess a b || a == b) = !(Op.bytesLess b a)
  | [], [] => rfl
  | [], b :: y => by simp [Op.bytesLess]
  | a :: x, [] => by simp [Op.bytesLess]
  | a :: x, b :: y => by
    have ih := leq_not x y
    simp only [Op.bytesLess, List.cons_beq_cons]
    by_cases h1 : a < b
    · have h2 : ¬ b < a := fun h => by
        rw [UInt8.lt_iff_toNat_lt] at h1 h
        omega
      have h3 : (b == a) = false := beq_eq_false_iff_ne.2 (fun e => h2 (by rw [e] at h1 ⊢; exact h1))
      simp [h1, h2, h3]
    · by_cases h2 : b < a
      · have h3 : (a == b) = false := beq_eq_false_iff_ne.2 (fun e => h1 (by rw [e] at h2 ⊢; exact h2))
        simp [h1, h2, h3]
      · have h3 : a = b := UInt8.toNat_inj.1 (by rw [UInt8.lt_iff_toNat_lt] at h1 h2; omega)
        subst h3
        simp only [UInt8.lt_irrefl, decide_false, beq_self_eq_true, Bool.true_and, Bool.false_or]
        exact ih

theorem within_row (c c' : UInt8) (s s' : ByteArray) (l l' : List ByteArray) (h1 : ∀ x ∈ lists (s :: l), NZ x) (h2 : ∀ x ∈ lists (s' :: l'), NZ x) :
    withinB (rowB ⟨#[c]⟩ (s :: l)) (rowB ⟨#[c']⟩ (s' :: l')) = (c == c' && decide ((s :: l) <+: (s' :: l'))) := by
  obtain ⟨X, hX⟩ := key_last (lists (s :: l)) (by simp [lists])
  have hr : (rowB ⟨#[c]⟩ (s :: l)).data.toList = (c :: X) ++ [0] := by rw [row_bytes, hX]; rfl
  unfold withinB
  rw [leq_not]
  rw [Go.ByteArray.toList_eq, Go.ByteArray.toList_eq, Go.ByteArray.toList_eq, with_bytes hr, hr, range_iff, ← hr, row_bytes, row_bytes, List.isPrefixOf_cons_cons]
  congr 1
  rw [Bool.eq_iff_iff, List.isPrefixOf_iff_prefix, keyL_prefix _ _ h1 h2, decide_eq_true_iff]
  unfold lists
  constructor
  · intro h
    have hinj : ∀ a b : ByteArray, a.data.toList = b.data.toList → a = b := fun a b h => by
      apply ByteArray.ext
      exact Array.toList_inj.1 h
    have : ∀ (p q : List ByteArray), p.map (·.data.toList) <+: q.map (·.data.toList) → p <+: q := by
      intro p
      induction p with
      | nil => intro q _; exact List.nil_prefix
      | cons a p ih =>
        intro q hq
        cases q with
        | nil => simp at hq
        | cons b q =>
          simp only [List.map_cons, List.cons_prefix_cons] at hq ⊢
          exact ⟨hinj _ _ hq.1, ih _ hq.2⟩
    exact this _ _ h
  · intro h
    exact h.map _
end Go.Proofs.YtkcaadkamaogbaaDoor
