/- A region that draws its order, some of whose operations write into rows that the region itself made, and whose last operation waits for all others: facts that hold until their row is taken on, then that one. -/
import Derived.Test.YtbhapbioibhalaaDrawnUntil
import Derived.Test.YtbhapbioibhalaaDrawnTail
namespace Go.Proofs.Ytbhapbioibhalaa
open Go Go.RowKit

section
variable {P : Program} {id : Nat} {l : List Oper} {z : Oper} {Q : Exit → Act → World → Prop} {a0 : Act} {w0 : World}

theorem InvU.step {us : List UntilFact} {wild : List Nat} (hok : drawnOk l a0.tmps.size = true) (hw : wildOk l us wild = true) {L0 : Nat → Bool} {a : Act} {w w' : World} (hinv : InvU l us a0 w0 L0 a w) {i : Nat} {o : Oper} (hi : l[i]? = some o)
    (hL0i : L0 i = false) (hlean0 : ∀ j, waitsFor l i j = true → j < l.length ∧ L0 j = true) {v : Value} (hv : (uAt us i).fact.p v w') (hb : Below (if wild.contains i then w0.heap.size else w.heap.size) w w') :
    InvU l us a0 w0 (fun k => if k = i then true else L0 k) (a.put o.dst v) w' := by
  have hil : i < l.length := (List.getElem?_eq_some_iff.1 hi).1
  obtain ⟨_, h2, _⟩ := drawnOk_at hok hi
  have hsz : w.heap.size ≤ w'.heap.size := hb.size
  have hb0 : Below w0.heap.size w w' := by
    split at hb
    · exact hb
    · exact hb.mono hinv.below.size
  refine ⟨?_, ?_, ⟨fun c => rfl, fun f => rfl, fun k hk => ?_⟩, hinv.below.trans hb0, fun j x hj hx => ?_, fun j hj => ?_, fun j o' d hj hd hlj hu => ?_⟩
  · cases o.dst <;> exact hinv.defers
  · cases hd : o.dst with
    | none => exact hinv.size
    | some d => simpa [Act.put] using hinv.size
  · show (a.put o.dst v).tmps.getD k undef = _
    cases hd : o.dst with
    | none => exact hinv.like.tmp k hk
    | some d =>
      have hne : k ≠ d := by
        have := List.all_eq_true.1 hk o (List.mem_of_getElem? hi)
        simp [hd] at this
        exact fun e => this e.symm
      rw [getD_put hne]
      exact hinv.like.tmp k hk
  · show (if x = i then true else L0 x) = true
    split
    · rfl
    · have hj : (if j = i then true else L0 j) = true := hj
      split at hj
      · rename_i hji
        subst hji
        exact (hlean0 x hx).2
      · exact hinv.closed j x hj hx
  · have hj : (if j = i then true else L0 j) = true := hj
    split at hj
    · rename_i hji
      subst hji
      exact hil
    · exact hinv.only j hj
  · by_cases hji : j = i
    · subst hji
      rw [hi] at hj
      cases hj
      obtain ⟨h3, _⟩ := h2 d hd
      rw [hd, getD_put_same (by rw [hinv.size]; exact h3)]
      exact hv
    · have hlj' : L0 j = true := by
        have hlj : (if j = i then true else L0 j) = true := hlj
        rw [if_neg hji] at hlj
        exact hlj
      have hu' : ∀ u, (uAt us j).until_ = some u → u ≠ i ∧ L0 u = false := fun u hu' => by
        have : (if u = i then true else L0 u) = false := hu u hu'
        split at this
        · cases this
        · rename_i hne
          exact ⟨hne, this⟩
      have hold := hinv.facts j o' d hj hd hlj' (fun u hu'' => (hu' u hu'').2)
      have hnew : (uAt us j).fact.p (a.tmps.getD d undef) w' := by
        by_cases hwi : wild.contains i = true
        · have h4 := List.all_eq_true.1 hw i (by simpa using hwi)
          have hjl : j < l.length := (List.getElem?_eq_some_iff.1 hj).1
          have h5 := List.all_eq_true.1 h4 j (List.mem_range.2 hjl)
          simp only [Bool.or_eq_true, beq_iff_eq] at h5
          rcases h5 with (((h5 | h5) | h5) | h5) | h5
          · exact absurd h5 hji
          · exact (uAt us j).ok h5 _ _ _ hold
          · exact absurd rfl (hu' i h5).1
          · have := waits_deep hinv.closed 3 j i hlj' h5
            rw [hL0i] at this
            cases this
          · cases huu : (uAt us j).until_ with
            | none => rw [huu] at h5; cases h5
            | some u =>
              rw [huu] at h5
              have h5 : waitsDeep l 3 i u = true := h5
              have h6 : (if u = i then true else L0 u) = true := waits_deep (L := fun k => if k = i then true else L0 k) (fun x y hx hxy => by
                show (if y = i then true else L0 y) = true
                have hx : (if x = i then true else L0 x) = true := hx
                split
                · rfl
                · split at hx
                  · rename_i hxi
                    subst hxi
                    exact (hlean0 y hxy).2
                  · exact hinv.closed x y hx hxy) 3 i u (by show (if i = i then true else L0 i) = true; rw [if_pos rfl]) h5
              rw [if_neg (hu' u huu).1, (hu' u huu).2] at h6
              cases h6
        · rw [if_neg hwi] at hb
          exact (uAt us j).fact.stable _ _ _ hold hb
      cases hdo : o.dst with
      | none => exact hnew
      | some d' =>
        have hne : d ≠ d' := by
          intro e
          subst e
          exact (h2 d hdo).2 j o' hj hji hd
        rw [getD_put hne]
        exact hnew

theorem wp_region_until_last (hm : P.follows .mixedOrders = true) (us : List UntilFact) (wild : List Nat) (hok : drawnOk (l ++ [z]) a0.tmps.size = true) (hok' : drawnOk l a0.tmps.size = true) (hung : (l ++ [z]).all (·.guard.isNone) = true) (hw : wildOk l us wild = true) (hz : leansAll (l ++ [z]) l.length = true)
    (hop : AllFrom (OpGoalU P l us wild a0 w0) 0 l)
    (hend : ∀ a w, a.defers = a0.defers → a.tmps.size = a0.tmps.size → Like l a0 a.eval → Below w0.heap.size w0 w → (∀ (i : Nat) (o : Oper) (d : Nat), l[i]? = some o → o.dst = some d → (uAt us i).until_ = none → (uAt us i).fact.p (a.tmps.getD d undef) w) → z.wp P a w (fun a' w' => Q .normal a' w') Q) :
    (Code.region id (l ++ [z]).toArray true).wp P Q a0 w0 := by
  refine wp_region_inv hm hok hung (fun L a w => (L l.length = true ∧ (∀ x, x < l.length → L x = true) ∧ Q .normal a w) ∨ (L l.length = false ∧ ∃ L0 : Nat → Bool, (∀ k, k < l.length → L0 k = L k) ∧ InvU l us a0 w0 L0 a w)) (fun L hL => ?_) (fun i o hi L a w hLi hprev hJ => ?_) (fun L a w hL hJ => ?_)
  · exact .inr ⟨hL _ (by simp), fun _ => false, fun k hk => (hL k (by simp; omega)).symm, rfl, rfl, ⟨fun _ => rfl, fun _ => rfl, fun _ _ => rfl⟩, ⟨rfl, rfl, rfl, Nat.le_refl _, fun _ _ => rfl⟩, fun _ _ h => (by cases h), fun _ h => (by cases h), fun _ _ _ _ _ h => (by cases h)⟩
  · rcases hJ with ⟨h1, hfull, _⟩ | ⟨hn, L0, h0, hinv⟩
    · rcases last_at hi with ⟨hlt, _⟩ | ⟨rfl, _⟩
      · rw [hfull i hlt] at hLi
        cases hLi
      · rw [h1] at hLi
        cases hLi
    · rcases last_at hi with ⟨hil, hio⟩ | ⟨rfl, rfl⟩
      · have hL0i : L0 i = false := by rw [h0 i hil]; exact hLi
        have hlean0 : ∀ j, waitsFor l i j = true → j < l.length ∧ L0 j = true := by
          intro j hj
          unfold waitsFor at hj
          rw [hio] at hj
          have hjl : j < l.length := by
            obtain ⟨h1, _, _⟩ := drawnOk_at hok' hio
            rw [Array.any_eq_true'] at hj
            obtain ⟨e, he, hej⟩ := hj
            simp only [Bool.and_eq_true, beq_iff_eq] at hej
            have := h1 e he hej.1
            omega
          exact ⟨hjl, by rw [h0 j hjl]; exact hprev j hj⟩
        have hg := hop.at i o hio
        rw [Nat.zero_add] at hg
        have hy := hg a.eval w hinv.like hinv.below (fun j hj hu d hd => by
          obtain ⟨oj, hoj, hdj⟩ := Option.bind_eq_some_iff.1 hd
          have hwj : waitsFor l i j = true := by unfold waitsFor; rw [hio]; exact hj
          refine hinv.facts j oj d hoj hdj (hlean0 j hwj).2 (fun u hu' => ?_)
          rcases hu with hu | hu
          · rw [hu] at hu'; cases hu'
          · rw [hu] at hu'
            cases hu'
            exact hL0i)
        refine wp_of_yields hy fun v w' hv L' hL' => .inr ⟨?_, fun k => if k = i then true else L0 k, fun k hk => ?_, hinv.step hok' hw hio hL0i hlean0 hv.1 hv.2⟩
        · rw [hL' l.length, if_neg (by omega)]
          exact hn
        · show (if k = i then true else L0 k) = L' k
          rw [hL' k]
          split
          · rfl
          · exact h0 k hk
      · have hcl : ∀ j i, L0 j = true → waitsOn (l ++ [o]) j i = true → L0 i = true := by
          intro j i hj hw'
          have hjl := hinv.only j hj
          refine hinv.closed j i hj ?_
          unfold waitsOn at hw'
          unfold waitsFor
          rw [List.getElem?_append_left hjl] at hw'
          exact hw'
        have hlow : ∀ j, waitsOn (l ++ [o]) l.length j = true → L0 j = true := by
          intro j hj
          unfold waitsOn at hj
          rw [hi] at hj
          have hjl : j < l.length := by
            obtain ⟨h1, _, _⟩ := drawnOk_at hok hi
            have hj' := hj
            simp only [Array.any_eq_true'] at hj'
            obtain ⟨e, he, hej⟩ := hj'
            simp only [Bool.and_eq_true, beq_iff_eq] at hej
            have := h1 e he hej.1
            omega
          rw [h0 j hjl]
          exact hprev j hj
        have hall : ∀ x, x < l.length → L0 x = true := leans_all hz hcl hlow
        refine Oper.wp_mono (fun a' w' hq L' hL' => .inl ⟨?_, fun x hx => ?_, hq⟩) (hend a w hinv.defers hinv.size hinv.like hinv.below fun i o d hi hd hu => hinv.facts i o d hi hd (hall i (List.getElem?_eq_some_iff.1 hi).1) (fun u hu' => by rw [hu] at hu'; cases hu'))
        · rw [hL' l.length, if_pos rfl]
        · rw [hL' x, if_neg (by omega), ← h0 x hx]
          exact hall x hx
  · rcases hJ with ⟨_, _, hq⟩ | ⟨hn, _⟩
    · exact hq
    · rw [hL l.length (by simp)] at hn
      cases hn
end
end Go.Proofs.Ytbhapbioibhalaa
