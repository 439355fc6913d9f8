/- What is kept is kept again, and tells the same. -/
import Derived.Test.YtekdcjbjjakhcaaDropFixed
import Derived.Test.YtekdcjbjjakhcaaDropAt2
namespace Go.Proofs.Ytekdcjbjjakhcaa
open Go Go.RowKit

/-- Rows of inner keys that rise, and their entries. -/
structure RowsOk (xs : List KE) : Prop where
  up : rises (xs.map (·.1))
  one : ∀ x ∈ xs, x.1 = innB x.2 ∧ x.2.rev < 18446744073709551616

theorem RowsOk.keys {xs : List KE} (h : RowsOk xs) : xs.map (·.1) = (xs.map (·.2)).map innB := by
  rw [List.map_map]
  exact List.map_congr_left fun x hx => (h.one x hx).1

theorem zip_parts (xs : List KE) : (xs.map (·.1)).zip (xs.map (·.2)) = xs := by
  induction xs with
  | nil => rfl
  | cons x t ih => simp only [List.map_cons, List.zip_cons_cons, ih]

theorem RowsOk.told {xs : List KE} (h : RowsOk xs) : decs (xs.map (·.1)) = some (xs.map (·.2)) ∧ mono xs := by
  have hv : ∀ e ∈ xs.map (·.2), e.rev < 18446744073709551616 := fun e he => by
    obtain ⟨x, hx, rfl⟩ := List.mem_map.1 he
    exact (h.one x hx).2
  have hu := h.up
  rw [h.keys] at hu
  obtain ⟨h1, h2⟩ := inn_mono hu hv
  rw [← h.keys] at h1 h2
  rw [zip_parts] at h2
  exact ⟨h1, h2⟩

theorem RowsOk.sub {xs ys : List KE} (h : RowsOk xs) (k : ys.Sublist xs) : RowsOk ys :=
  ⟨List.Pairwise.sublist (k.map _) h.up, fun x hx => h.one x (k.subset hx)⟩

theorem RowsOk.err {xs : List KE} (h : RowsOk xs) : errOf (xs.map (·.1)) = 0 := by rw [errOf_some h.told.1, if_pos h.up]

theorem RowsOk.keep {xs : List KE} (h : RowsOk xs) (f : Nat) (b : Bool) : keepOut f b (xs.map (·.1)) = (gS true b f [] xs).map (·.1) := by
  rw [keepOut_some h.told.1 h.up, zip_parts, gF_eq _ _ _ _ h.told.2]

theorem RowsOk.at_ {xs : List KE} (h : RowsOk xs) (f : Nat) : atOut f (xs.map (·.1)) = keysOf (gS false true f [] xs) := by
  rw [atOut_some h.told.1 h.up, zip_parts, gF_eq _ _ _ _ h.told.2]

theorem rows_ok {es : List Ent} (hv : ∀ x ∈ es, x.key.size ≤ 100 ∧ x.rev < 18446744073709551616) : ∃ xs, rowsL es = xs.map (·.1) ∧ RowsOk xs ∧ ∀ x ∈ xs, x.2 ∈ es := by
  obtain ⟨h1, _, h3⟩ := rowsL_all es
  have go : ∀ (l : List ByteArray), (∀ k ∈ l, ∃ x ∈ es, k = innB x) → ∃ xs : List KE, l = xs.map (·.1) ∧ ∀ x ∈ xs, x.1 = innB x.2 ∧ x.2 ∈ es := by
    intro l
    induction l with
    | nil => intro _; exact ⟨[], rfl, fun x hx => by cases hx⟩
    | cons k t ih =>
      intro h
      obtain ⟨x, hx, he⟩ := h k (by simp)
      obtain ⟨xs, e1, e2⟩ := ih (fun y hy => h y (by simp [hy]))
      refine ⟨(k, x) :: xs, by simp [e1], fun y hy => ?_⟩
      rcases List.mem_cons.1 hy with rfl | hy
      · exact ⟨he, hx⟩
      · exact e2 y hy
  obtain ⟨xs, e1, e2⟩ := go _ h3
  refine ⟨xs, e1, ⟨e1 ▸ h1, fun x hx => ⟨(e2 x hx).1, (hv _ (e2 x hx).2).2⟩⟩, fun x hx => (e2 x hx).2⟩

structure DropFacts (f f' : Nat) (b : Bool) (K : List ByteArray) : Prop where
  err : errOf K = 0
  errA : errOf (keepOut f b K) = 0
  same : keepOut f b (keepOut f b K) = keepOut f b K
  more : keepOut f' b (keepOut f b K) = keepOut f' b K
  len : (keepOut f' b K).length ≤ (keepOut f b K).length
  short : (keepOut f b K).length ≤ K.length
  size : ∀ k ∈ keepOut f b K, k.size ≤ 1000000
  tell : atOut f' (keepOut f b K) = atOut f' K

theorem drop_facts {es : List Ent} (hv : ∀ x ∈ es, x.key.size ≤ 100 ∧ x.rev < 18446744073709551616) {f f' : Nat} (h : f ≤ f') (b : Bool) : DropFacts f f' b (rowsL es) := by
  obtain ⟨xs, e1, hok, _⟩ := rows_ok hv
  have hsz := rowsL_size (es := es) (fun x hx => (hv x hx).1)
  rw [e1] at hsz ⊢
  have hA : RowsOk (gS true b f [] xs) := hok.sub (gS_sub _ _ _ _ _)
  have hkk := g_keep true b b f f' h (fun h => h) xs [] [] [] hok.told.2 (fun p hp => hp) (fun p hp => hp) (fun p hp => by cases hp)
  have hk0 := g_keep true b b f f (Nat.le_refl _) (fun h => h) xs [] [] [] hok.told.2 (fun p hp => hp) (fun p hp => hp) (fun p hp => by cases hp)
  have hat := g_keep false b true f f' h (fun _ => rfl) xs [] [] [] hok.told.2 (fun p hp => hp) (fun p hp => hp) (fun p hp => by cases hp)
  have hsub := gS_sub true b f [] xs
  refine ⟨hok.err, ?_, ?_, ?_, ?_, ?_, ?_, ?_⟩
  · rw [hok.keep, hA.err]
  · rw [hok.keep, hA.keep, hk0]
  · rw [hok.keep, hA.keep, hkk, ← hok.keep]
  · rw [hok.keep, hok.keep, ← hkk, List.length_map, List.length_map]
    exact (gS_sub true b f' [] _).length_le
  · rw [hok.keep, List.length_map, List.length_map]
    exact hsub.length_le
  · rw [hok.keep]
    exact fun k hk => hsz k ((hsub.map _).subset hk)
  · rw [hok.keep, hA.at_, hat, ← hok.at_]
end Go.Proofs.Ytekdcjbjjakhcaa
