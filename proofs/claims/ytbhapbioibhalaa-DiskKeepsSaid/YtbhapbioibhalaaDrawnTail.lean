/- A region that draws its order and ends in operations that follow one another: facts for the others, then those in their row. -/
import Derived.Test.YtbhapbioibhalaaDrawnLast
namespace Go.Proofs.Ytbhapbioibhalaa
open Go Go.RowKit

def waitsOn (ops : List Oper) (j i : Nat) : Bool := match ops[j]? with | some o => o.after.any fun e => Region.binds .any e && e.on == i | none => false

/-- what the m-th leans on, itself and all that it leans on -/
def leanSet (ops : List Oper) (m : Nat) : Nat → List Nat
  | 0 => [m]
  | d + 1 => if (leanSet ops m d).any (fun j => waitsOn ops j (m - (d + 1))) then (m - (d + 1)) :: leanSet ops m d else leanSet ops m d

def leansAll (ops : List Oper) (m : Nat) : Bool := (List.range m).all fun i => (leanSet ops m m).contains i && i != m

def tailOk (l tl : List Oper) : Bool := (List.range tl.length).all fun j => leansAll (l ++ tl) (l.length + j)

theorem lean_set {ops : List Oper} {m : Nat} {L : Nat → Bool} (hc : ∀ j i, L j = true → waitsOn ops j i = true → L i = true) (hm : ∀ i, waitsOn ops m i = true → L i = true) : ∀ d x, x ∈ leanSet ops m d → x = m ∨ L x = true
  | 0, x, h => by simp [leanSet] at h; exact .inl h
  | d + 1, x, h => by
    unfold leanSet at h
    split at h
    · rename_i ha
      rcases List.mem_cons.1 h with rfl | h
      · right
        obtain ⟨j, hj, hw⟩ := List.any_eq_true.1 ha
        rcases lean_set hc hm d j hj with rfl | hl
        · exact hm _ hw
        · exact hc j _ hl hw
      · exact lean_set hc hm d x h
    · exact lean_set hc hm d x h

theorem leans_all {ops : List Oper} {m : Nat} {L : Nat → Bool} (h : leansAll ops m = true) (hc : ∀ j i, L j = true → waitsOn ops j i = true → L i = true) (hm : ∀ i, waitsOn ops m i = true → L i = true) : ∀ i, i < m → L i = true := by
  intro i hi
  have h1 := List.all_eq_true.1 h i (List.mem_range.2 hi)
  simp only [Bool.and_eq_true] at h1
  have h2 : i ∈ leanSet ops m m := by simpa using h1.1
  rcases lean_set hc hm m i h2 with rfl | h3
  · omega
  · exact h3

section
variable {P : Program} {id : Nat} {l tl : List Oper} {Q : Exit → Act → World → Prop} {a0 : Act} {w0 : World}

def seqWp (P : Program) (Q : Exit → Act → World → Prop) : List Oper → Act → World → Prop
  | [], a, w => Q .normal a w
  | o :: r, a, w => o.wp P a w (seqWp P Q r) Q

theorem InvL.step' {z : List Oper} {F : Nat → Value → World → Prop} (hF : ∀ i v w w', F i v w → Below w.heap.size w w' → F i v w') (hok : drawnOk (l ++ z) a0.tmps.size = true)
    {L L' : Nat → Bool} {a : Act} {w w' : World} (h : InvL l F a0 w0 L a w) {i : Nat} {o : Oper} (hi : l[i]? = some o) {v : Value} (hv : F i v w') (hb : Below w.heap.size w w')
    (hL : ∀ k, L' k = if k = i then true else L k) : InvL l F a0 w0 L' (a.put o.dst v) w' := by
  have hin : ∀ {i : Nat} {o : Oper}, l[i]? = some o → (l ++ z)[i]? = some o := fun h => by
    rw [List.getElem?_append_left (List.getElem?_eq_some_iff.1 h).1]
    exact h
  obtain ⟨_, h2, _⟩ := drawnOk_at hok (hin hi)
  refine ⟨?_, ?_, ⟨fun c => rfl, fun f => rfl, fun k hk => ?_⟩, h.below.trans (hb.mono h.below.size), fun j o' d hj hd hl => ?_⟩
  · cases o.dst <;> exact h.defers
  · cases hd : o.dst with
    | none => exact h.size
    | some d => simpa [Act.put] using h.size
  · show (a.put o.dst v).tmps.getD k undef = _
    cases hd : o.dst with
    | none => exact h.like.tmp k hk
    | some d =>
      have hne : k ≠ d := by
        have := List.all_eq_true.1 hk o (List.mem_of_getElem? hi)
        simp [hd] at this
        exact fun e => this e.symm
      rw [getD_put hne]
      exact h.like.tmp k hk
  · by_cases hji : j = i
    · subst hji
      rw [hi] at hj
      cases hj
      obtain ⟨h3, _⟩ := h2 d hd
      rw [hd, getD_put_same (by rw [h.size]; exact h3)]
      exact hv
    · have hl' : L j = true := by
        have := hL j
        rw [if_neg hji] at this
        rw [← this]
        exact hl
      have := hF _ _ _ _ (h.facts j o' d hj hd hl') hb
      cases hdo : o.dst with
      | none => exact this
      | some d' =>
        have hne : d ≠ d' := by
          intro e
          subst e
          exact (h2 d hdo).2 j o' (hin hj) hji hd
        rw [getD_put hne]
        exact this

/-- what has been carried out has all that it leans on -/
def Closed (ops : List Oper) (L : Nat → Bool) : Prop := ∀ j i, j < ops.length → L j = true → waitsOn ops j i = true → L i = true

theorem wp_region_tail (hm : P.follows .mixedOrders = true) (fs : List SlotFact) (hok : drawnOk (l ++ tl) a0.tmps.size = true) (hung : (l ++ tl).all (·.guard.isNone) = true) (hz : tailOk l tl = true) (hpos : 0 < tl.length)
    (hop : AllFrom (OpGoal P l fs a0 w0) 0 l)
    (hend : ∀ a w, a.defers = a0.defers → a.tmps.size = a0.tmps.size → Like l a0 a.eval → Below w0.heap.size w0 w → (∀ (i : Nat) (o : Oper) (d : Nat), l[i]? = some o → o.dst = some d → factsOf fs i (a.tmps.getD d undef) w) → seqWp P Q tl a w) :
    (Code.region id (l ++ tl).toArray true).wp P Q a0 w0 := by
  have hwait : ∀ (L : Nat → Bool) (i : Nat) (o : Oper), (l ++ tl)[i]? = some o → (∀ j, (o.after.any fun e => Region.binds .any e && e.on == j) = true → L j = true) → ∀ j, waitsOn (l ++ tl) i j = true → L j = true := by
    intro L i o hi hp j hj
    unfold waitsOn at hj
    rw [hi] at hj
    exact hp j hj
  refine wp_region_inv hm hok hung (fun L a w => Closed (l ++ tl) L ∧ (((∀ j, j < tl.length → L (l.length + j) = false) ∧ InvL l (factsOf fs) a0 w0 L a w) ∨ (∃ k, 0 < k ∧ k ≤ tl.length ∧ (∀ i, i < l.length + k → L i = true) ∧ (∀ j, k ≤ j → j < tl.length → L (l.length + j) = false) ∧ seqWp P Q (tl.drop k) a w)))
    (fun L hL => ?_) (fun i o hi L a w hLi hprev hJ => ?_) (fun L a w hL hJ => ?_)
  · refine ⟨fun j i hj hlj _ => ?_, .inl ⟨fun j hj => hL _ (by rw [List.length_append]; omega), rfl, rfl, ⟨fun _ => rfl, fun _ => rfl, fun _ _ => rfl⟩, ⟨rfl, rfl, rfl, Nat.le_refl _, fun _ _ => rfl⟩, fun i o d hi _ hl => ?_⟩⟩
    · rw [hL j hj] at hlj
      cases hlj
    · rw [hL i (by have := (List.getElem?_eq_some_iff.1 hi).1; rw [List.length_append]; omega)] at hl
      cases hl
  · obtain ⟨hcl, hJ⟩ := hJ
    have hlt : i < l.length + tl.length := by
      have := (List.getElem?_eq_some_iff.1 hi).1
      rw [List.length_append] at this
      exact this
    have hclosed : ∀ L' : Nat → Bool, (∀ k, L' k = if k = i then true else L k) → Closed (l ++ tl) L' := by
      intro L' hL' j x hj hlj hw
      rw [hL' x]
      split
      · rfl
      · rw [hL' j] at hlj
        split at hlj
        · rename_i hji
          subst hji
          exact hwait L j o hi hprev x hw
        · exact hcl j x hj hlj hw
    by_cases hil : i < l.length
    · have hio : l[i]? = some o := by
        rw [List.getElem?_append_left hil] at hi
        exact hi
      rcases hJ with ⟨hf, hinv⟩ | ⟨k, _, _, hall, _, _⟩
      · have hg := hop.at i o hio
        rw [Nat.zero_add] at hg
        have hleans : Leans l (factsOf fs) o a.eval w := by
          intro j hj d hd
          obtain ⟨oj, hoj, hdj⟩ := Option.bind_eq_some_iff.1 hd
          exact hinv.facts j oj d hoj hdj (hprev j hj)
        refine wp_of_yields (hg a.eval w hinv.like hinv.below hleans) fun v w' hv L' hL' => ⟨hclosed L' hL', .inl ⟨fun j hj => ?_, hinv.step' (factsOf_stable fs) hok hio hv.1 hv.2 hL'⟩⟩
        rw [hL' (l.length + j), if_neg (by omega)]
        exact hf j hj
      · rw [hall i (by omega)] at hLi
        cases hLi
    · obtain ⟨j, rfl⟩ : ∃ j, i = l.length + j := ⟨i - l.length, by omega⟩
      have hj : j < tl.length := by omega
      have hoj : tl[j]? = some o := by
        rw [List.getElem?_append_right (by omega), show l.length + j - l.length = j by omega] at hi
        exact hi
      have hfull : ∀ x, x < l.length + j → L x = true := by
        refine leans_all (List.all_eq_true.1 hz j (List.mem_range.2 hj)) (fun p q hp hw => ?_) (hwait L _ o hi hprev)
        by_cases hpl : p < (l ++ tl).length
        · exact hcl p q hpl hp hw
        · unfold waitsOn at hw
          rw [List.getElem?_eq_none (by omega)] at hw
          cases hw
      have hgo : ∀ k, k = j → seqWp P Q (tl.drop k) a w → o.wp P a w (fun a' w' => ∀ L' : Nat → Bool, (∀ x, L' x = if x = l.length + j then true else L x) → Closed (l ++ tl) L' ∧ (((∀ y, y < tl.length → L' (l.length + y) = false) ∧ InvL l (factsOf fs) a0 w0 L' a' w') ∨ (∃ k, 0 < k ∧ k ≤ tl.length ∧ (∀ i, i < l.length + k → L' i = true) ∧ (∀ y, k ≤ y → y < tl.length → L' (l.length + y) = false) ∧ seqWp P Q (tl.drop k) a' w'))) Q ∨ ¬ (∀ y, j ≤ y → y < tl.length → L (l.length + y) = false) := by
        intro k hk hs
        by_cases hrest : ∀ y, j ≤ y → y < tl.length → L (l.length + y) = false
        · left
          subst hk
          rw [List.drop_eq_getElem_cons hj] at hs
          have ho : tl[k] = o := by
            rw [List.getElem?_eq_getElem hj] at hoj
            exact Option.some.inj hoj
          rw [ho] at hs
          refine Oper.wp_mono (fun a' w' hq L' hL' => ⟨hclosed L' hL', .inr ⟨k + 1, by omega, by omega, fun x hx => ?_, fun y hy hyl => ?_, hq⟩⟩) hs
          · rw [hL' x]
            split
            · rfl
            · exact hfull x (by omega)
          · rw [hL' (l.length + y), if_neg (by omega)]
            exact hrest y (by omega) hyl
        · exact .inr hrest
      rcases hJ with ⟨hf, hinv⟩ | ⟨k, hk0, hkl, hall, hnot, hs⟩
      · have hj0 : j = 0 := by
          rcases Nat.eq_zero_or_pos j with h | h
          · exact h
          · have h1 := hfull (l.length + 0) (by omega)
            rw [hf 0 hpos] at h1
            cases h1
        have hs := hend a w hinv.defers hinv.size hinv.like hinv.below fun x ox d hx hd => hinv.facts x ox d hx hd (hfull x (by have := (List.getElem?_eq_some_iff.1 hx).1; omega))
        rcases hgo 0 hj0.symm (by simpa using hs) with h | h
        · exact h
        · exact absurd (fun y _ hyl => hf y hyl) h
      · have hjk : k = j := by
          rcases Nat.lt_trichotomy k j with h | h | h
          · have h1 := hfull (l.length + k) (by omega)
            rw [hnot k (Nat.le_refl _) (by omega)] at h1
            cases h1
          · exact h
          · rw [hall (l.length + j) (by omega)] at hLi
            cases hLi
        rcases hgo k hjk hs with h | h
        · exact h
        · exact absurd (fun y hy hyl => hnot y (by omega) hyl) h
  · obtain ⟨_, hJ⟩ := hJ
    rcases hJ with ⟨hf, _⟩ | ⟨k, hk0, hkl, _, hnot, hs⟩
    · have h1 := hL (l.length + 0) (by rw [List.length_append]; omega)
      rw [hf 0 hpos] at h1
      cases h1
    · have hk : k = tl.length := by
        rcases Nat.lt_or_ge k tl.length with h | h
        · have h1 := hL (l.length + k) (by rw [List.length_append]; omega)
          rw [hnot k (Nat.le_refl _) h] at h1
          cases h1
        · omega
      subst hk
      rw [List.drop_length] at hs
      exact hs
end
end Go.Proofs.Ytbhapbioibhalaa
