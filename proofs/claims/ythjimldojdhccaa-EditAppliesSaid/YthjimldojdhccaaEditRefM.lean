/- What the reference's Apply does to its row: what is dropped, what is laid at its place. -/
import Derived.Test.YthjimldojdhccaaEditRef
import Derived.Test.YthjimldojdhccaaEditRowM
namespace Go.Proofs.Ythjimldojdhccaa
open Go Go.RowKit Go.Lib

theorem flat_one (l : List Tb) : ∀ u ∈ l.flatMap Tb.cells, u.oneCell' = true := by
  intro u hu
  obtain ⟨t, _, ht⟩ := List.mem_flatMap.1 hu
  exact Tb.cells_one t u ht
theorem ncells_one (l : List Int) : ∀ u ∈ ncells l, u.oneCell' = true := by
  intro u hu
  obtain ⟨t, _, rfl⟩ := List.mem_map.1 hu
  rfl
theorem TRows.reads {w w' : World} {a : Option Addr} {n c : Nat} {l : List Tb} (h : TRows w (.slice a n c) l) (hb : Below w.heap.size w w') (hn : l.length = n) : Reads w' 5 (.slice a n c) n (l.flatMap Tb.cells) := by
  subst hn
  exact h.below hb

theorem good_chain (next : Int) : ∀ (l pre : List Tb), goodTabs next pre l = true → pre.all (fun u => mayT u next) = true → (l.Pairwise fun a b => tlt a b = true) ∧ ∀ u, pre.getLast? = some u → ∀ t ∈ l, tlt u t = true
  | [], pre, _, _ => ⟨List.Pairwise.nil, fun u hu t ht => by cases ht⟩
  | t :: r, pre, h, hp => by
    rw [goodTabs, Bool.and_eq_true] at h
    obtain ⟨h1, h2⟩ := h
    have h1' := h1
    unfold okTab at h1
    rw [Bool.and_eq_true, Bool.and_eq_true, Bool.not_eq_true', List.any_eq_false] at h1
    obtain ⟨⟨hd, hm⟩, hf⟩ := h1
    obtain ⟨k1, k2⟩ := good_chain next r (pre ++ [t]) h2 (by rw [List.all_append, hp]; simp [hm])
    have hl : ∀ x ∈ r, tlt t x = true := k2 t (by rw [List.getLast?_concat])
    refine ⟨List.pairwise_cons.2 ⟨hl, k1⟩, fun u hu x hx => ?_⟩
    have hut : tlt u t = true := by
      have hmu := List.mem_of_getLast? hu
      rw [hu] at hf
      simp only at hf
      rw [fol_ref (next := next) (fun e => hd u hmu (by simp [e])) (List.all_eq_true.1 hp u hmu) hm] at hf
      unfold refFol at hf
      rw [Bool.and_eq_true] at hf
      exact hf.1
    rcases List.mem_cons.1 hx with rfl | hx
    · exact hut
    · exact tlt_trans _ _ _ hut (hl x hx)

theorem chk_up {v : Ver} (h : chk v = 0) : Up v.tabs := by
  have := (good_chain v.next v.tabs [] (chk_zero h).2 rfl).1
  exact this.imp fun h => tlt_asymm h

/-- One is taken out. -/
theorem cut_one {l : List Tb} (ha : Apart l) {a : Nat} {t : Tb} (h : l[a]? = some t) : l.take a ++ l.drop (a + 1) = l.filter fun u => !(u.num == t.num) := by
  induction l generalizing a with
  | nil => simp at h
  | cons x r ih =>
    obtain ⟨hx, hr⟩ := List.pairwise_cons.1 ha
    cases a with
    | zero =>
      simp at h
      subst h
      simp
      symm
      rw [List.filter_eq_self]
      intro u hu
      have := hx u hu
      simp [Ne.symm this]
    | succ a =>
      have h' : r[a]? = some t := by simpa using h
      have hm := List.mem_of_getElem? h'
      have hne := hx t hm
      rw [List.take_succ_cons, List.drop_succ_cons, List.cons_append, ih hr h', List.filter_cons]
      simp [hne]

/-- One is laid at its place. -/
theorem put_up {l : List Tb} {t : Tb} (hu : Up l) {a : Nat} (h1 : ∀ x ∈ l.take a, tlt x t = true) (h2 : ∀ x, l[a]? = some x → tlt x t = false) : Up (l.take a ++ [t] ++ l.drop a) := by
  have hd : ∀ y ∈ l.drop a, tlt y t = false := by
    cases hg : l[a]? with
    | none =>
      intro y hy
      rw [List.drop_of_length_le (List.getElem?_eq_none_iff.1 hg)] at hy
      cases hy
    | some x =>
      intro y hy
      have hx := h2 x hg
      rw [drop_cons hg] at hy
      rcases List.mem_cons.1 hy with rfl | hy
      · exact hx
      · have hp : (l.drop a).Pairwise fun a b => tlt b a = false := hu.sublist (List.drop_sublist _ _)
        rw [drop_cons hg] at hp
        exact tlt_swo.ntrans _ _ _ ((List.pairwise_cons.1 hp).1 y hy) hx
  unfold Up
  rw [List.append_assoc, List.pairwise_append]
  refine ⟨hu.sublist (List.take_sublist _ _), ?_, fun x hx y hy => ?_⟩
  · rw [List.singleton_append, List.pairwise_cons]
    exact ⟨hd, hu.sublist (List.drop_sublist _ _)⟩
  · rw [List.singleton_append] at hy
    rcases List.mem_cons.1 hy with rfl | hy
    · exact tlt_asymm (h1 x hx)
    · have : l = l.take a ++ l.drop a := (List.take_append_drop a l).symm
      unfold Up at hu
      rw [this, List.pairwise_append] at hu
      exact hu.2.2 x hx y hy

theorem put_perm (l m : List Tb) (t : Tb) (a : Nat) (h : l.Perm m) : (l.take a ++ [t] ++ l.drop a).Perm (m ++ [t]) := by
  have h1 : (l.take a ++ [t] ++ l.drop a).Perm (l.take a ++ l.drop a ++ [t]) := by
    rw [List.append_assoc, List.append_assoc]
    exact (List.perm_append_comm).append_left _
  rw [List.take_append_drop] at h1
  exact h1.trans (h.append_right _)

theorem add_apart {l : List Tb} {t : Tb} (h : Apart l) (hf : (l.any fun u => u.num == t.num) = false) : Apart (l ++ [t]) := by
  rw [List.any_eq_false] at hf
  unfold Apart
  rw [List.pairwise_append]
  refine ⟨h, List.pairwise_singleton _ _, fun a ha b hb e => ?_⟩
  rw [List.mem_singleton] at hb
  exact hf a ha (by simp [e, hb])
end Go.Proofs.Ythjimldojdhccaa
