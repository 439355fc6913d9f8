/- Two edits, one behind the other, and one that has both. -/
import Derived.Test.YthjimldojdhccaaEditV
namespace Go.Proofs.Ythjimldojdhccaa
open Go Go.RowKit Go.Lib

def bothE (x y : Ed) : Ed := ⟨x.add ++ y.add, x.drop ++ y.drop, max x.floor y.floor, max x.head y.head, max x.log y.log, max x.next y.next⟩

theorem appl_inv {v a : Ver} {e : Ed} (h : appl v e = (a, 0)) : chk v = 0 ∧ right e = true ∧ ∃ l m, dropT e.drop v.tabs = some l ∧ addT e.add l = some m ∧ a = newV v e m ∧ chk (newV v e m) = 0 := by
  unfold appl at h
  split at h
  · rename_i hc
    have : chk v = 0 := congrArg Prod.snd h
    exact absurd this hc
  · rename_i hc
    split at h
    · have : (1 : Int) = 0 := congrArg Prod.snd h
      cases this
    · rename_i hr
      cases hd : dropT e.drop v.tabs with
      | none =>
        rw [hd] at h
        have : (4 : Int) = 0 := congrArg Prod.snd h
        cases this
      | some l =>
        rw [hd] at h
        simp only at h
        cases hm : addT e.add l with
        | none =>
          rw [hm] at h
          have : (3 : Int) = 0 := congrArg Prod.snd h
          cases this
        | some m =>
          rw [hm] at h
          simp only at h
          split at h
          · rename_i hk
            exact ⟨by simpa using hc, by simpa using hr, l, m, rfl, hm, (congrArg Prod.fst h).symm, hk⟩
          · have : (11 : Int) = 0 := congrArg Prod.snd h
            cases this

theorem appl_of {v : Ver} {e : Ed} {l m : List Tb} (h : chk v = 0) (hr : right e = true) (hd : dropT e.drop v.tabs = some l) (ha : addT e.add l = some m) (hc : chk (newV v e m) = 0) : appl v e = (newV v e m, 0) := by
  unfold appl
  rw [if_neg (by simp [h]), if_neg (by simp [hr]), hd]
  simp only [ha, if_pos hc]

theorem any_perm {l m : List Tb} (h : l.Perm m) (n : Int) : (l.any fun t => t.num == n) = m.any fun t => t.num == n := by
  rw [Bool.eq_iff_iff, List.any_eq_true, List.any_eq_true]
  exact ⟨fun ⟨t, ht, e⟩ => ⟨t, h.mem_iff.1 ht, e⟩, fun ⟨t, ht, e⟩ => ⟨t, h.mem_iff.2 ht, e⟩⟩

theorem drop_append : ∀ (a b : List Int) (l m : List Tb), dropT a l = some m → dropT (a ++ b) l = dropT b m
  | [], b, l, m, h => by
    cases h
    rfl
  | n :: r, b, l, m, h => by
    rw [dropT] at h
    rw [List.cons_append, dropT]
    split at h
    · rename_i hc
      rw [if_pos hc]
      exact drop_append r b _ m h
    · cases h

theorem drop_perm : ∀ (d : List Int) (l l' m : List Tb), l.Perm l' → dropT d l = some m → ∃ m', dropT d l' = some m' ∧ m.Perm m'
  | [], l, l', m, hp, h => by
    cases h
    exact ⟨l', rfl, hp⟩
  | n :: r, l, l', m, hp, h => by
    rw [dropT] at h
    rw [dropT, ← any_perm hp]
    split at h
    · rename_i hc
      rw [if_pos hc]
      exact drop_perm r _ _ m (hp.filter _) h
    · cases h

/-- What is dropped isn't among those behind. -/
theorem drop_behind : ∀ (d : List Int) (l b m : List Tb), (∀ n ∈ d, ∀ t ∈ b, t.num ≠ n) → dropT d (l ++ b) = some m → ∃ m', dropT d l = some m' ∧ m = m' ++ b
  | [], l, b, m, _, h => by
    cases h
    exact ⟨l, rfl, rfl⟩
  | n :: r, l, b, m, hn, h => by
    have hb : (b.any fun t => t.num == n) = false := by
      rw [List.any_eq_false]
      intro t ht e
      exact hn n List.mem_cons_self t ht (by simpa using e)
    have hf : (b.filter fun t => !(t.num == n)) = b := by
      rw [List.filter_eq_self]
      intro t ht
      have := hn n List.mem_cons_self t ht
      simp [this]
    rw [dropT, List.any_append, hb, Bool.or_false, List.filter_append, hf] at h
    rw [dropT]
    split at h
    · rename_i hc
      rw [if_pos hc]
      exact drop_behind r _ b m (fun x hx => hn x (List.mem_cons_of_mem _ hx)) h
    · cases h

theorem drop_sub : ∀ (d : List Int) (l m : List Tb), dropT d l = some m → ∀ t ∈ m, t ∈ l
  | [], l, m, h, t, ht => by
    cases h
    exact ht
  | n :: r, l, m, h, t, ht => by
    rw [dropT] at h
    split at h
    · exact (List.mem_filter.1 (drop_sub r _ m h t ht)).1
    · cases h

theorem drop_len : ∀ (d : List Int) (l m : List Tb), dropT d l = some m → m.length ≤ l.length
  | [], l, m, h => by
    cases h
    exact Nat.le_refl _
  | n :: r, l, m, h => by
    rw [dropT] at h
    split at h
    · exact Nat.le_trans (drop_len r _ m h) (List.length_filter_le _ _)
    · cases h

theorem add_eq : ∀ (r l m : List Tb), addT r l = some m → m = l ++ r
  | [], l, m, h => by
    cases h
    simp
  | t :: r, l, m, h => by
    rw [addT] at h
    split at h
    · cases h
    · rw [add_eq r _ m h]
      simp

theorem add_append : ∀ (a b l m : List Tb), addT a l = some m → addT (a ++ b) l = addT b m
  | [], b, l, m, h => by
    cases h
    rfl
  | t :: r, b, l, m, h => by
    rw [addT] at h
    rw [List.cons_append, addT]
    split at h
    · cases h
    · rename_i hc
      rw [if_neg hc]
      exact add_append r b _ m h

/-- Fewer ones stand in the way. -/
theorem add_less : ∀ (r l l' m : List Tb), (∀ t ∈ l', t ∈ l) → addT r l = some m → addT r l' = some (l' ++ r)
  | [], l, l', m, _, _ => by
    rw [addT, List.append_nil]
  | t :: r, l, l', m, hs, h => by
    rw [addT] at h
    rw [addT]
    split at h
    · cases h
    · rename_i hc
      have hf : (l.any fun u => u.num == t.num) = false := by simpa using hc
      rw [List.any_eq_false] at hf
      have hf' : (l'.any fun u => u.num == t.num) = false := by
        rw [List.any_eq_false]
        exact fun u hu => hf u (hs u hu)
      rw [if_neg (by simp [hf'])]
      rw [add_less r (l ++ [t]) (l' ++ [t]) m (fun u hu => by
        rcases List.mem_append.1 hu with hu | hu
        · exact List.mem_append_left _ (hs u hu)
        · exact List.mem_append_right _ hu) h]
      simp

theorem inB_max {a b : Int} (ha : inB a = true) (hb : inB b = true) : inB (max a b) = true := by
  unfold inB at *
  simp only [Bool.and_eq_true, decide_eq_true_eq] at *
  omega

theorem right_both {x y : Ed} (hx : right x = true) (hy : right y = true) : right (bothE x y) = true := by
  unfold right bothE at *
  simp only [Bool.and_eq_true, List.all_append] at *
  exact ⟨⟨⟨inB_max hx.1.1.1 hy.1.1.1, inB_max hx.1.1.2 hy.1.1.2⟩, hx.1.2, hy.1.2⟩, hx.2, hy.2⟩

theorem row_math {v a b : Ver} {x y : Ed} (h1 : appl v x = (a, 0)) (h2 : appl a y = (b, 0)) (hn : ∀ n ∈ y.drop, ∀ t ∈ x.add, t.num ≠ n) (hap : ∀ w : Ver, chk w = 0 → Apart w.tabs) : appl v (bothE x y) = (b, 0) := by
  obtain ⟨c1, r1, l1, m1, d1, a1, rfl, k1⟩ := appl_inv h1
  obtain ⟨c2, r2, l2, m2, d2, a2, rfl, k2⟩ := appl_inv h2
  have e1 := add_eq _ _ _ a1
  have e2 := add_eq _ _ _ a2
  obtain ⟨l3, d3, p3⟩ := drop_perm _ _ m1 _ (srt_perm m1) d2
  rw [e1] at d3
  obtain ⟨l4, d4, rfl⟩ := drop_behind _ _ _ _ hn d3
  have d5 : dropT (bothE x y).drop v.tabs = some l4 := (drop_append _ _ _ _ d1).trans d4
  have a5 : addT x.add l4 = some (l4 ++ x.add) := add_less _ _ _ _ (drop_sub _ _ _ d4) a1
  have a6 : addT y.add (l4 ++ x.add) = some (l4 ++ x.add ++ y.add) := add_less _ _ _ _ (fun t ht => p3.mem_iff.2 ht) a2
  have a7 : addT (bothE x y).add l4 = some (l4 ++ x.add ++ y.add) := (add_append _ _ _ _ a5).trans a6
  have p7 : m2.Perm (l4 ++ x.add ++ y.add) := by
    rw [e2]
    exact p3.append_right _
  have hap2 : Apart m2 := (hap _ k2).perm (srt_perm m2)
  have hs : srt (l4 ++ x.add ++ y.add) = srt m2 := srt_uniq (p7.trans (srt_perm _).symm) (srt_up _) hap2
  have hv : newV v (bothE x y) (l4 ++ x.add ++ y.add) = newV (newV v x m1) y m2 := by
    unfold newV bothE
    simp only
    rw [hs, Nat.max_assoc, Nat.max_assoc, Int.max_assoc, Int.max_assoc]
  rw [← hv] at k2 ⊢
  exact appl_of c1 (right_both r1 r2) d5 a7 k2
end Go.Proofs.Ythjimldojdhccaa
