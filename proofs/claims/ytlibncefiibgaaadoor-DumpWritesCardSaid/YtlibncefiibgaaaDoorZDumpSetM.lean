/- The set of a list of tuples: each once, in order; put one by one or sorted at once, it is the same. -/
import Derived.Test.YtlibncefiibgaaaDoorZDumpLines
namespace Go.Proofs.YtlibncefiibgaaaDoor
open Go Go.RowKit

def Strict6 (l : List Six) : Prop := l.Pairwise fun a b => slt a b = true

theorem Strict6.nodup {l : List Six} (h : Strict6 l) : l.Nodup := List.Pairwise.imp (fun hab e => by subst e; rw [slt_irrefl] at hab; cases hab) h
theorem Strict6.up {l : List Six} (h : Strict6 l) : Up6 l := List.Pairwise.imp (fun hab => slt_asymm hab) h

theorem strict_uniq {l m : List Six} (hl : Strict6 l) (hm : Strict6 m) (h : ∀ x, x ∈ l ↔ x ∈ m) : l = m :=
  up6_uniq ((List.perm_ext_iff_of_nodup hl.nodup hm.nodup).2 h) hl.up hm.up

/-- Where a tuple stands, or would stand. -/
def at6 (l : List Six) (t : Six) : Nat := (l.takeWhile fun u => slt u t).length

open Classical in
/-- A tuple put among tuples. -/
noncomputable def put6 (l : List Six) (t : Six) : List Six := if l[at6 l t]? = some t then l else l.take (at6 l t) ++ t :: l.drop (at6 l t)

theorem take_at6 (l : List Six) (t : Six) : l.take (at6 l t) = l.takeWhile fun u => slt u t := by
  unfold at6
  conv => lhs; rw [← List.takeWhile_append_dropWhile (p := fun u => slt u t) (l := l)]
  rw [List.take_left']
  simp [List.takeWhile_append_dropWhile]
theorem drop_at6 (l : List Six) (t : Six) : l.drop (at6 l t) = l.dropWhile fun u => slt u t := by
  unfold at6
  conv => lhs; rw [← List.takeWhile_append_dropWhile (p := fun u => slt u t) (l := l)]
  rw [List.drop_left']
  simp [List.takeWhile_append_dropWhile]

theorem at6_eq {l : List Six} {t : Six} {i : Nat} (h : ∀ j x, j < i → l[j]? = some x → slt x t = true) (hi : i ≤ l.length) (hx : ∀ x, l[i]? = some x → slt x t = false) : at6 l t = i := by
  unfold at6
  induction l generalizing i with
  | nil => simp at hi; simp [hi]
  | cons u l ih =>
    cases i with
    | zero =>
      have := hx u rfl
      rw [List.takeWhile_cons_of_neg (p := fun u => slt u t) (by simp [this])]
      rfl
    | succ i =>
      have := h 0 u (by omega) rfl
      rw [List.takeWhile_cons_of_pos (p := fun u => slt u t) this, List.length_cons, ih (i := i) (fun j x hj hx' => h (j + 1) x (by omega) (by simpa using hx')) (by simpa using hi) (fun x hx' => hx x (by simpa using hx'))]

theorem mem_put6 (l : List Six) (t x : Six) : x ∈ put6 l t ↔ x ∈ l ∨ x = t := by
  unfold put6
  split
  · rename_i h
    have := List.mem_of_getElem? h
    constructor
    · exact .inl
    · rintro (h | rfl)
      · exact h
      · exact this
  · conv => rhs; rw [← List.take_append_drop (at6 l t) l]
    simp only [List.mem_append, List.mem_cons]
    constructor
    · rintro (h | h | h)
      · exact .inl (.inl h)
      · exact .inr h
      · exact .inl (.inr h)
    · rintro ((h | h) | h)
      · exact .inl h
      · exact .inr (.inr h)
      · exact .inr (.inl h)

theorem put6_strict {l : List Six} (h : Strict6 l) (t : Six) : Strict6 (put6 l t) := by
  unfold put6
  split
  · exact h
  · rename_i hne
    have hd : ∀ x ∈ l.drop (at6 l t), slt t x = true := by
      intro x hx
      have hne' : (l.drop (at6 l t))[0]? ≠ some t := by rw [List.getElem?_drop, Nat.add_zero]; exact hne
      have hf : ∀ u v, l.drop (at6 l t) = u :: v → slt u t = false := by
        intro u v e
        rw [drop_at6] at e
        have := List.head?_dropWhile_not (fun u => slt u t) l
        rw [e] at this
        simpa using this
      have hS : Strict6 (l.drop (at6 l t)) := h.sublist (List.drop_sublist _ _)
      generalize l.drop (at6 l t) = d at *
      cases d with
      | nil => cases hx
      | cons u v =>
        have h1 := hf u v rfl
        have h2 : slt t u = true := by
          cases k : slt t u with
          | true => rfl
          | false => exact absurd (by rw [slt_total h1 k]; rfl) hne'
        rcases List.mem_cons.1 hx with rfl | hx
        · exact h2
        · exact slt_trans h2 ((List.pairwise_cons.1 hS).1 x hx)
    have ht : ∀ x ∈ l.take (at6 l t), slt x t = true := by
      intro x hx
      rw [take_at6] at hx
      have := List.all_takeWhile (p := fun u => slt u t) (l := l)
      exact List.all_eq_true.1 this x hx
    unfold Strict6 at *
    rw [List.pairwise_append]
    refine ⟨h.sublist (List.take_sublist _ _), List.pairwise_cons.2 ⟨hd, h.sublist (List.drop_sublist _ _)⟩, ?_⟩
    intro a ha b hb
    rcases List.mem_cons.1 hb with rfl | hb
    · exact ht a ha
    · exact slt_trans (ht a ha) (hd b hb)

/-- One by one. -/
noncomputable def setL (l : List Six) : List Six := (l.filter Six.ok).foldl put6 []

theorem fold_put6 : ∀ (l out : List Six), Strict6 out → Strict6 (l.foldl put6 out) ∧ ∀ x, x ∈ l.foldl put6 out ↔ x ∈ out ∨ x ∈ l
  | [], out, h => ⟨h, fun x => by simp⟩
  | t :: l, out, h => by
    obtain ⟨h1, h2⟩ := fold_put6 l (put6 out t) (put6_strict h t)
    refine ⟨h1, fun x => ?_⟩
    rw [List.foldl_cons, h2, mem_put6, List.mem_cons, or_assoc]

theorem setL_strict (l : List Six) : Strict6 (setL l) := (fold_put6 _ [] List.Pairwise.nil).1
theorem setL_mem (l : List Six) (x : Six) : x ∈ setL l ↔ x ∈ l.filter Six.ok := by
  have := (fold_put6 (l.filter Six.ok) [] List.Pairwise.nil).2 x
  rw [setL, this]
  simp

theorem ddN_strict {m : List Six} (h : Up6 m) : ∀ j, j ≤ m.length → Strict6 (ddN m j) ∧ ∀ x, x ∈ ddN m j ↔ x ∈ m.take j
  | 0, _ => ⟨List.Pairwise.nil, fun x => by simp [ddN]⟩
  | 1, _ => by
    rw [ddN]
    refine ⟨?_, fun x => Iff.rfl⟩
    cases m with
    | nil => exact List.Pairwise.nil
    | cons a m => simp [Strict6]
  | j + 2, hj => by
    obtain ⟨h1, h2⟩ := ddN_strict h (j + 1) (by omega)
    obtain ⟨a, ha⟩ : ∃ a, m[j + 1]? = some a := ⟨m[j + 1]'(by omega), List.getElem?_eq_getElem _⟩
    obtain ⟨b, hb⟩ : ∃ b, m[j]? = some b := ⟨m[j]'(by omega), List.getElem?_eq_getElem _⟩
    have hup : ∀ (i k : Nat) (x y : Six), i < k → m[i]? = some x → m[k]? = some y → slt y x = false := by
      intro i k x y hik hx hy
      obtain ⟨hi', rfl⟩ := List.getElem?_eq_some_iff.1 hx
      obtain ⟨hk', rfl⟩ := List.getElem?_eq_some_iff.1 hy
      exact (List.pairwise_iff_getElem.1 h) i k hi' hk' hik
    by_cases e : m[j + 1]? = m[j]?
    · rw [ddN_same e]
      refine ⟨h1, fun x => ?_⟩
      rw [h2, List.take_add_one (i := j + 1), List.mem_append, ha]
      refine ⟨.inl, ?_⟩
      rintro (hx | hx)
      · exact hx
      · simp only [Option.toList_some, List.mem_singleton] at hx
        subst hx
        rw [List.take_add_one, ← e, ha]
        simp
    · rw [ddN_next ha e]
      refine ⟨?_, fun x => ?_⟩
      · unfold Strict6
        rw [List.pairwise_append]
        refine ⟨h1, by simp, fun x hx y hy => ?_⟩
        simp only [List.mem_singleton] at hy
        subst hy
        rw [h2] at hx
        obtain ⟨i, hi⟩ := List.mem_iff_getElem?.1 hx
        rw [List.getElem?_take] at hi
        split at hi
        case isFalse => cases hi
        rename_i hij
        have k1 := hup i (j + 1) x y hij hi ha
        cases k2 : slt x y with
        | true => rfl
        | false =>
          have hxy := slt_total k2 k1
          subst hxy
          have k3 := hup j (j + 1) b x (by omega) hb ha
          have k4 : slt b x = false := by
            by_cases hie : i = j
            · subst hie
              rw [hb] at hi
              cases hi
              exact slt_irrefl _
            · exact hup i j x b (by omega) hi hb
          exact absurd (by rw [ha, hb, slt_total k3 k4]) e
      · rw [List.mem_append, h2, List.take_add_one (i := j + 1), List.mem_append, ha]
        simp

theorem once6_strict (l : List Six) : Strict6 (once6 l) ∧ ∀ x, x ∈ once6 l ↔ x ∈ l := by
  obtain ⟨h1, h2⟩ := ddN_strict (srt6_up l) (srt6 l).length (Nat.le_refl _)
  refine ⟨h1, fun x => ?_⟩
  rw [once6, h2, List.take_length, (srt6_perm l).mem_iff]

theorem good_set (l : List Six) : goodL l = setL l :=
  strict_uniq (once6_strict _).1 (setL_strict l) fun x => by rw [goodL, (once6_strict _).2, setL_mem]
theorem goodL_strict (l : List Six) : Strict6 (goodL l) := (once6_strict _).1
end Go.Proofs.YtlibncefiibgaaaDoor
