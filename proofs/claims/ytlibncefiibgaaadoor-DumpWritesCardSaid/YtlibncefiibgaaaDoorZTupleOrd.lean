/- Tuples in order, as rows of strings; a list of them sorted. -/
import Derived.Test.YtlibncefiibgaaaDoorMga
import Derived.Test.YtlibncefiibgaaaDoorZTupleCmp
import Derived.Shelf.SlSortCmp.NoneTotal
import Derived.Sort.Walk0
namespace Go.Proofs.YtlibncefiibgaaaDoor
open Go Go.RowKit Go.Shelf Go.Sort

theorem lessT {a b c : List UInt8} (h : Op.bytesLess a b = true) (k : Op.bytesLess b c = true) : Op.bytesLess a c = true := by
  rw [bytesLess_eq, decide_eq_true_eq] at *
  exact List.lt_trans h k

theorem cmpL_cons (a b : List UInt8) (x y : List (List UInt8)) : cmpL (a :: x) (b :: y) = if Op.bytesLess a b then -1 else if a == b then cmpL x y else 1 := by rw [cmpL]

theorem cmpL_neg (a b : List UInt8) (x y : List (List UInt8)) : cmpL (a :: x) (b :: y) = -1 ↔ Op.bytesLess a b = true ∨ (a = b ∧ cmpL x y = -1) := by
  rw [cmpL_cons]
  cases h : Op.bytesLess a b with
  | true => simp
  | false =>
    by_cases e : a = b
    · simp [e]
    · simp [e]

theorem cmpL_zero : ∀ (p q : List (List UInt8)), p.length = q.length → cmpL p q = 0 → p = q
  | [], [], _, _ => rfl
  | a :: x, b :: y, hl, h => by
    rw [cmpL_cons] at h
    split at h
    · cases h
    · split at h
      · rename_i e
        rw [eq_of_beq e, cmpL_zero x y (by simpa using hl) h]
      · cases h

theorem cmpL_flip : ∀ (p q : List (List UInt8)), p.length = q.length → cmpL p q = 1 → cmpL q p = -1
  | [], [], _, h => by cases h
  | a :: x, b :: y, hl, h => by
    rw [cmpL_neg]
    rw [cmpL_cons] at h
    cases hb : Op.bytesLess a b with
    | true => rw [hb] at h; cases h
    | false =>
      rw [hb] at h
      by_cases e : a = b
      · subst e
        right
        exact ⟨rfl, cmpL_flip x y (by simpa using hl) (by simpa using h)⟩
      · left
        cases hk : Op.bytesLess b a with
        | true => rfl
        | false => exact absurd (less_total a b hb hk) e

theorem cmpL_trans : ∀ (p q r : List (List UInt8)), cmpL p q = -1 → cmpL q r = -1 → cmpL p r = -1
  | a :: x, b :: y, c :: z, h, k => by
    rw [cmpL_neg] at *
    rcases h with h | ⟨rfl, h⟩
    · rcases k with k | ⟨rfl, k⟩
      · exact .inl (lessT h k)
      · exact .inl h
    · rcases k with k | ⟨rfl, k⟩
      · exact .inl k
      · exact .inr ⟨rfl, cmpL_trans x y z h k⟩
  | [], _, _, h, _ => by simp [cmpL] at h
  | _ :: _, [], _, h, _ => by simp [cmpL] at h
  | _ :: _, _ :: _, [], _, k => by simp [cmpL] at k

def six6 (p : Six) : List (List UInt8) := p.list.map (·.data.toList)
theorem six6_len (p : Six) : (six6 p).length = 6 := rfl
theorem six6_inj {p q : Six} (h : six6 p = six6 q) : p = q := by
  obtain ⟨a, b, c, d, e, f⟩ := p
  obtain ⟨a', b', c', d', e', f'⟩ := q
  simp only [six6, Six.list, List.map_cons, List.map_nil, List.cons.injEq, and_true] at h
  obtain ⟨h1, h2, h3, h4, h5, h6⟩ := h
  have g : ∀ {x y : ByteArray}, x.data.toList = y.data.toList → x = y := fun h => ba_extL (by rw [Go.ByteArray.toList_eq, Go.ByteArray.toList_eq]; exact h)
  rw [g h1, g h2, g h3, g h4, g h5, g h6]

/-- The order that Cmp tells. -/
def cf6 (p q : Six) : Int := cmpBs p.list q.list
theorem cf6_eq (p q : Six) : cf6 p q = cmpL (six6 p) (six6 q) := cmpBs_eq _ _
/-- One stands ahead of the other. -/
def slt (p q : Six) : Bool := decide (cf6 p q < 0)
theorem slt_ltOf : ltOf cf6 = slt := rfl
theorem slt_iff (p q : Six) : slt p q = true ↔ cmpL (six6 p) (six6 q) = -1 := by
  unfold slt
  rw [decide_eq_true_eq, cf6_eq]
  rcases cmpL_ways (six6 p) (six6 q) with h | h | h <;> rw [h] <;> decide
theorem slt_irrefl (p : Six) : slt p p = false := by
  cases h : slt p p with
  | false => rfl
  | true => rw [slt_iff, cmpL_refl] at h; cases h
theorem slt_trans {p q r : Six} (h : slt p q = true) (k : slt q r = true) : slt p r = true := by
  rw [slt_iff] at *
  exact cmpL_trans _ _ _ h k
theorem slt_asymm {p q : Six} (h : slt p q = true) : slt q p = false := by
  cases k : slt q p with
  | false => rfl
  | true => have := slt_trans h k; rw [slt_irrefl] at this; cases this
theorem slt_total {p q : Six} (h : slt p q = false) (k : slt q p = false) : p = q := by
  have h1 : ¬ cmpL (six6 p) (six6 q) = -1 := fun e => by rw [(slt_iff _ _).2 e] at h; cases h
  have h2 : ¬ cmpL (six6 q) (six6 p) = -1 := fun e => by rw [(slt_iff _ _).2 e] at k; cases k
  rcases cmpL_ways (six6 p) (six6 q) with h3 | h3 | h3
  · exact absurd h3 h1
  · exact six6_inj (cmpL_zero _ _ (by rw [six6_len, six6_len]) h3)
  · exact absurd (cmpL_flip _ _ (by rw [six6_len, six6_len]) h3) h2
theorem slt_swo : SWO slt where
  irrefl := slt_irrefl
  trans _ _ _ := slt_trans
  ntrans x y z h1 h2 := by
    cases h3 : slt y x with
    | false =>
      rw [slt_total h1 h3]
      exact h2
    | true =>
      cases h4 : slt x z with
      | false => rfl
      | true => rw [slt_trans h3 h4] at h2; cases h2

/-- Tuples in order. -/
def srt6 (l : List Six) : List Six := l.mergeSort fun x y => !slt y x
def Up6 (l : List Six) : Prop := l.Pairwise fun a b => slt b a = false
theorem srt6_perm (l : List Six) : (srt6 l).Perm l := List.mergeSort_perm _ _
theorem srt6_up (l : List Six) : Up6 (srt6 l) := by
  have h := List.pairwise_mergeSort (le := fun x y => !slt y x) (fun a b c h1 h2 => by
    simp only [Bool.not_eq_true'] at *
    exact slt_swo.ntrans _ _ _ h2 h1) (fun a b => by
    cases h : slt b a with
    | false => simp
    | true => simp [slt_asymm h]) l
  exact h.imp fun h => by simpa using h
theorem up6_uniq {l m : List Six} (hp : l.Perm m) (hl : Up6 l) (hm : Up6 m) : l = m :=
  List.Perm.eq_of_pairwise (le := fun a b => slt b a = false) (fun _ _ _ _ h1 h2 => slt_total h2 h1) hl hm hp
theorem srt6_uniq {l m : List Six} (hp : l.Perm m) (hm : Up6 m) : m = srt6 l :=
  up6_uniq (hp.symm.trans (srt6_perm l).symm) hm (srt6_up l)
end Go.Proofs.YtlibncefiibgaaaDoor
