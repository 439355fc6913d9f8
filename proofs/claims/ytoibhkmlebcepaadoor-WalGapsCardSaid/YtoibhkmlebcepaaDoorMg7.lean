/- What the proof stands on, part 7. -/
import Derived.Test.YtoibhkmlebcepaaDoorMg6
/- A region that draws its order and ends in one operation that waits for all others: facts for the others, then that one. -/
namespace Go.Proofs.YtoibhkmlebcepaaDoor
open Go Go.RowKit

section
variable {P : Program} {id : Nat} {l : List Oper} {z : Oper} {Q : Exit → Act → World → Prop} {a0 : Act} {w0 : World}

structure InvL (l : List Oper) (F : Nat → Value → World → Prop) (a0 : Act) (w0 : World) (L : Nat → Bool) (a : Act) (w : World) : Prop where
  defers : a.defers = a0.defers
  size : a.tmps.size = a0.tmps.size
  like : Like l a0 a.eval
  below : Below w0.heap.size w0 w
  facts : ∀ i o d, l[i]? = some o → o.dst = some d → L i = true → F i (a.tmps.getD d undef) w

theorem last_at {i : Nat} {o : Oper} (h : (l ++ [z])[i]? = some o) : (i < l.length ∧ l[i]? = some o) ∨ (i = l.length ∧ o = z) := by
  by_cases hi : i < l.length
  · left
    rw [List.getElem?_append_left hi] at h
    exact ⟨hi, h⟩
  · right
    rw [List.getElem?_append_right (by omega)] at h
    have h1 : i - l.length = 0 := by
      have := (List.getElem?_eq_some_iff.1 h).1
      simp at this
      omega
    rw [h1] at h
    simp at h
    exact ⟨by omega, h.symm⟩

theorem in_l {i : Nat} {o : Oper} (h : l[i]? = some o) : (l ++ [z])[i]? = some o := by
  rw [List.getElem?_append_left (List.getElem?_eq_some_iff.1 h).1]
  exact h

theorem InvL.step {F : Nat → Value → World → Prop} (hF : ∀ i v w w', F i v w → Below w.heap.size w w' → F i v w') (hok : drawnOk (l ++ [z]) a0.tmps.size = true)
    {L L' : Nat → Bool} {a : Act} {w w' : World} (h : InvL l F a0 w0 L a w) {i : Nat} {o : Oper} (hi : l[i]? = some o) {v : Value} (hv : F i v w') (hb : Below w.heap.size w w')
    (hL : ∀ k, L' k = if k = i then true else L k) : InvL l F a0 w0 L' (a.put o.dst v) w' := by
  obtain ⟨_, h2, _⟩ := drawnOk_at hok (in_l (z := z) hi)
  refine ⟨?_, ?_, ⟨fun c => rfl, fun f => rfl, fun k hk => ?_⟩, h.below.trans (hb.mono h.below.size), fun j o' d hj hd hl => ?_⟩
  · cases o.dst <;> exact h.defers
  · cases hd : o.dst with
    | none => exact h.size
    | some d => simpa [Act.put] using h.size
  · show (a.put o.dst v).tmps.getD k undef = _
    cases hd : o.dst with
    | none => exact h.like.tmp k hk
    | some d =>
      have hne : k ≠ d := by
        have := List.all_eq_true.1 hk o (List.mem_of_getElem? hi)
        simp [hd] at this
        exact fun e => this e.symm
      rw [getD_put hne]
      exact h.like.tmp k hk
  · by_cases hji : j = i
    · subst hji
      rw [hi] at hj
      cases hj
      obtain ⟨h3, _⟩ := h2 d hd
      rw [hd, getD_put_same (by rw [h.size]; exact h3)]
      exact hv
    · have hl' : L j = true := by
        have := hL j
        rw [if_neg hji] at this
        rw [← this]
        exact hl
      have := hF _ _ _ _ (h.facts j o' d hj hd hl') hb
      cases hdo : o.dst with
      | none => exact this
      | some d' =>
        have hne : d ≠ d' := by
          intro e
          subst e
          exact (h2 d hdo).2 j o' (in_l hj) hji hd
        rw [getD_put hne]
        exact this

def waitsAll (l : List Oper) (z : Oper) : Bool := (List.range l.length).all fun j => z.after.any fun e => Region.binds .any e && e.on == j

theorem wp_region_last (hm : P.follows .mixedOrders = true) (fs : List SlotFact) (hok : drawnOk (l ++ [z]) a0.tmps.size = true) (hung : (l ++ [z]).all (·.guard.isNone) = true) (hz : waitsAll l z = true)
    (hop : AllFrom (OpGoal P l fs a0 w0) 0 l)
    (hend : ∀ a w, a.defers = a0.defers → a.tmps.size = a0.tmps.size → Like l a0 a.eval → Below w0.heap.size w0 w → (∀ (i : Nat) (o : Oper) (d : Nat), l[i]? = some o → o.dst = some d → factsOf fs i (a.tmps.getD d undef) w) → z.wp P a w (fun a' w' => Q .normal a' w') Q) :
    (Code.region id (l ++ [z]).toArray true).wp P Q a0 w0 := by
  refine wp_region_inv hm hok hung (fun L a w => (L l.length = true ∧ (∀ i, i < l.length → L i = true) ∧ Q .normal a w) ∨ (L l.length = false ∧ InvL l (factsOf fs) a0 w0 L a w)) (fun L hL => ?_) (fun i o hi L a w hLi hprev hJ => ?_) (fun L a w hL hJ => ?_)
  · refine .inr ⟨hL _ (by simp), rfl, rfl, ⟨fun _ => rfl, fun _ => rfl, fun _ _ => rfl⟩, ⟨rfl, rfl, rfl, Nat.le_refl _, fun _ _ => rfl⟩, fun i o d hi _ hl => ?_⟩
    rw [hL i (by have := (List.getElem?_eq_some_iff.1 hi).1; simp; omega)] at hl
    cases hl
  · rcases last_at hi with ⟨hlt, hio⟩ | ⟨rfl, rfl⟩
    · rcases hJ with ⟨_, h2, _⟩ | ⟨hn, hinv⟩
      · rw [h2 i hlt] at hLi
        cases hLi
      · have hg := hop.at i o hio
        rw [Nat.zero_add] at hg
        have hleans : Leans l (factsOf fs) o a.eval w := by
          intro j hj d hd
          obtain ⟨oj, hoj, hdj⟩ := Option.bind_eq_some_iff.1 hd
          exact hinv.facts j oj d hoj hdj (hprev j hj)
        refine wp_of_yields (hg a.eval w hinv.like hinv.below hleans) fun v w' hv L' hL' => .inr ⟨?_, hinv.step (factsOf_stable fs) hok hio hv.1 hv.2 hL'⟩
        rw [hL' l.length, if_neg (by omega)]
        exact hn
    · rcases hJ with ⟨h1, _, _⟩ | ⟨hn, hinv⟩
      · rw [h1] at hLi
        cases hLi
      · have hall : ∀ i, i < l.length → L i = true := fun j hj => hprev j (List.all_eq_true.1 hz j (List.mem_range.2 hj))
        refine Oper.wp_mono (fun a' w' hq L' hL' => .inl ⟨?_, fun j hj => ?_, hq⟩) (hend a w hinv.defers hinv.size hinv.like hinv.below fun i o d hi hd => hinv.facts i o d hi hd (hall i (List.getElem?_eq_some_iff.1 hi).1))
        · rw [hL' l.length, if_pos rfl]
        · rw [hL' j, if_neg (by omega)]
          exact hall j hj
  · rcases hJ with ⟨_, _, hq⟩ | ⟨hn, _⟩
    · exact hq
    · rw [hL l.length (by simp)] at hn
      cases hn
end

/-- the slot holds the address of a new row of cells -/
def boxF (B : Nat) (cs : Array Value) (t : TypeId) : SlotFact := ⟨fun v w => ∃ g, v = .pointer (some ⟨g, 0, none⟩) ∧ B ≤ g ∧ w.heap[g]? = some (.cells cs t (0, 0)),
  fun _ _ _ ⟨g, h1, h2, h3⟩ hb => ⟨g, h1, h2, (hb.block g (Array.getElem?_eq_some_iff.1 h3).1).trans h3⟩⟩

/-- the slot holds a slice of a row of its own -/
def rowF (n : Nat) (xs : List Value) : SlotFact := ⟨fun v w => ∃ g, v = .slice (some ⟨g, 0, none⟩) n n ∧ Reads w 1 (.slice (some ⟨g, 0, none⟩) n n) n xs,
  fun _ _ _ ⟨g, h1, h2⟩ hb => ⟨g, h1, h2.below' hb⟩⟩

theorem y_new' {P : Program} {ρ : Operand → Value} {o : Oper} {w w' : World} {v : Value} {p : Value → World → Prop} (h : (execOp ρ o).run P w = .ok (.value v) w') (hp : p v w') (hb : Below w.heap.size w w') : YieldsP P ρ o w (fun u w' => p u w' ∧ Below w.heap.size w w') := by
  unfold YieldsP
  rw [h]
  exact ⟨hp, hb⟩
end Go.Proofs.YtoibhkmlebcepaaDoor

/- A region that draws its order and ends in operations that follow one another: facts for the others, then those in their row. -/
namespace Go.Proofs.YtoibhkmlebcepaaDoor
open Go Go.RowKit

def waitsOn (ops : List Oper) (j i : Nat) : Bool := match ops[j]? with | some o => o.after.any fun e => Region.binds .any e && e.on == i | none => false

/-- what the m-th leans on, itself and all that it leans on -/
def leanSet (ops : List Oper) (m : Nat) : Nat → List Nat
  | 0 => [m]
  | d + 1 => if (leanSet ops m d).any (fun j => waitsOn ops j (m - (d + 1))) then (m - (d + 1)) :: leanSet ops m d else leanSet ops m d

def leansAll (ops : List Oper) (m : Nat) : Bool := (List.range m).all fun i => (leanSet ops m m).contains i && i != m

def tailOk (l tl : List Oper) : Bool := (List.range tl.length).all fun j => leansAll (l ++ tl) (l.length + j)

theorem lean_set {ops : List Oper} {m : Nat} {L : Nat → Bool} (hc : ∀ j i, L j = true → waitsOn ops j i = true → L i = true) (hm : ∀ i, waitsOn ops m i = true → L i = true) : ∀ d x, x ∈ leanSet ops m d → x = m ∨ L x = true
  | 0, x, h => by simp [leanSet] at h; exact .inl h
  | d + 1, x, h => by
    unfold leanSet at h
    split at h
    · rename_i ha
      rcases List.mem_cons.1 h with rfl | h
      · right
        obtain ⟨j, hj, hw⟩ := List.any_eq_true.1 ha
        rcases lean_set hc hm d j hj with rfl | hl
        · exact hm _ hw
        · exact hc j _ hl hw
      · exact lean_set hc hm d x h
    · exact lean_set hc hm d x h

theorem leans_all {ops : List Oper} {m : Nat} {L : Nat → Bool} (h : leansAll ops m = true) (hc : ∀ j i, L j = true → waitsOn ops j i = true → L i = true) (hm : ∀ i, waitsOn ops m i = true → L i = true) : ∀ i, i < m → L i = true := by
  intro i hi
  have h1 := List.all_eq_true.1 h i (List.mem_range.2 hi)
  simp only [Bool.and_eq_true] at h1
  have h2 : i ∈ leanSet ops m m := by simpa using h1.1
  rcases lean_set hc hm m i h2 with rfl | h3
  · omega
  · exact h3

section
variable {P : Program} {id : Nat} {l tl : List Oper} {Q : Exit → Act → World → Prop} {a0 : Act} {w0 : World}

def seqWp (P : Program) (Q : Exit → Act → World → Prop) : List Oper → Act → World → Prop
  | [], a, w => Q .normal a w
  | o :: r, a, w => o.wp P a w (seqWp P Q r) Q

theorem InvL.step' {z : List Oper} {F : Nat → Value → World → Prop} (hF : ∀ i v w w', F i v w → Below w.heap.size w w' → F i v w') (hok : drawnOk (l ++ z) a0.tmps.size = true)
    {L L' : Nat → Bool} {a : Act} {w w' : World} (h : InvL l F a0 w0 L a w) {i : Nat} {o : Oper} (hi : l[i]? = some o) {v : Value} (hv : F i v w') (hb : Below w.heap.size w w')
    (hL : ∀ k, L' k = if k = i then true else L k) : InvL l F a0 w0 L' (a.put o.dst v) w' := by
  have hin : ∀ {i : Nat} {o : Oper}, l[i]? = some o → (l ++ z)[i]? = some o := fun h => by
    rw [List.getElem?_append_left (List.getElem?_eq_some_iff.1 h).1]
    exact h
  obtain ⟨_, h2, _⟩ := drawnOk_at hok (hin hi)
  refine ⟨?_, ?_, ⟨fun c => rfl, fun f => rfl, fun k hk => ?_⟩, h.below.trans (hb.mono h.below.size), fun j o' d hj hd hl => ?_⟩
  · cases o.dst <;> exact h.defers
  · cases hd : o.dst with
    | none => exact h.size
    | some d => simpa [Act.put] using h.size
  · show (a.put o.dst v).tmps.getD k undef = _
    cases hd : o.dst with
    | none => exact h.like.tmp k hk
    | some d =>
      have hne : k ≠ d := by
        have := List.all_eq_true.1 hk o (List.mem_of_getElem? hi)
        simp [hd] at this
        exact fun e => this e.symm
      rw [getD_put hne]
      exact h.like.tmp k hk
  · by_cases hji : j = i
    · subst hji
      rw [hi] at hj
      cases hj
      obtain ⟨h3, _⟩ := h2 d hd
      rw [hd, getD_put_same (by rw [h.size]; exact h3)]
      exact hv
    · have hl' : L j = true := by
        have := hL j
        rw [if_neg hji] at this
        rw [← this]
        exact hl
      have := hF _ _ _ _ (h.facts j o' d hj hd hl') hb
      cases hdo : o.dst with
      | none => exact this
      | some d' =>
        have hne : d ≠ d' := by
          intro e
          subst e
          exact (h2 d hdo).2 j o' (hin hj) hji hd
        rw [getD_put hne]
        exact this

/-- what has been carried out has all that it leans on -/
def Closed (ops : List Oper) (L : Nat → Bool) : Prop := ∀ j i, j < ops.length → L j = true → waitsOn ops j i = true → L i = true

theorem wp_region_tail (hm : P.follows .mixedOrders = true) (fs : List SlotFact) (hok : drawnOk (l ++ tl) a0.tmps.size = true) (hung : (l ++ tl).all (·.guard.isNone) = true) (hz : tailOk l tl = true) (hpos : 0 < tl.length)
    (hop : AllFrom (OpGoal P l fs a0 w0) 0 l)
    (hend : ∀ a w, a.defers = a0.defers → a.tmps.size = a0.tmps.size → Like l a0 a.eval → Below w0.heap.size w0 w → (∀ (i : Nat) (o : Oper) (d : Nat), l[i]? = some o → o.dst = some d → factsOf fs i (a.tmps.getD d undef) w) → seqWp P Q tl a w) :
    (Code.region id (l ++ tl).toArray true).wp P Q a0 w0 := by
  have hwait : ∀ (L : Nat → Bool) (i : Nat) (o : Oper), (l ++ tl)[i]? = some o → (∀ j, (o.after.any fun e => Region.binds .any e && e.on == j) = true → L j = true) → ∀ j, waitsOn (l ++ tl) i j = true → L j = true := by
    intro L i o hi hp j hj
    unfold waitsOn at hj
    rw [hi] at hj
    exact hp j hj
  refine wp_region_inv hm hok hung (fun L a w => Closed (l ++ tl) L ∧ (((∀ j, j < tl.length → L (l.length + j) = false) ∧ InvL l (factsOf fs) a0 w0 L a w) ∨ (∃ k, 0 < k ∧ k ≤ tl.length ∧ (∀ i, i < l.length + k → L i = true) ∧ (∀ j, k ≤ j → j < tl.length → L (l.length + j) = false) ∧ seqWp P Q (tl.drop k) a w)))
    (fun L hL => ?_) (fun i o hi L a w hLi hprev hJ => ?_) (fun L a w hL hJ => ?_)
  · refine ⟨fun j i hj hlj _ => ?_, .inl ⟨fun j hj => hL _ (by rw [List.length_append]; omega), rfl, rfl, ⟨fun _ => rfl, fun _ => rfl, fun _ _ => rfl⟩, ⟨rfl, rfl, rfl, Nat.le_refl _, fun _ _ => rfl⟩, fun i o d hi _ hl => ?_⟩⟩
    · rw [hL j hj] at hlj
      cases hlj
    · rw [hL i (by have := (List.getElem?_eq_some_iff.1 hi).1; rw [List.length_append]; omega)] at hl
      cases hl
  · obtain ⟨hcl, hJ⟩ := hJ
    have hlt : i < l.length + tl.length := by
      have := (List.getElem?_eq_some_iff.1 hi).1
      rw [List.length_append] at this
      exact this
    have hclosed : ∀ L' : Nat → Bool, (∀ k, L' k = if k = i then true else L k) → Closed (l ++ tl) L' := by
      intro L' hL' j x hj hlj hw
      rw [hL' x]
      split
      · rfl
      · rw [hL' j] at hlj
        split at hlj
        · rename_i hji
          subst hji
          exact hwait L j o hi hprev x hw
        · exact hcl j x hj hlj hw
    by_cases hil : i < l.length
    · have hio : l[i]? = some o := by
        rw [List.getElem?_append_left hil] at hi
        exact hi
      rcases hJ with ⟨hf, hinv⟩ | ⟨k, _, _, hall, _, _⟩
      · have hg := hop.at i o hio
        rw [Nat.zero_add] at hg
        have hleans : Leans l (factsOf fs) o a.eval w := by
          intro j hj d hd
          obtain ⟨oj, hoj, hdj⟩ := Option.bind_eq_some_iff.1 hd
          exact hinv.facts j oj d hoj hdj (hprev j hj)
        refine wp_of_yields (hg a.eval w hinv.like hinv.below hleans) fun v w' hv L' hL' => ⟨hclosed L' hL', .inl ⟨fun j hj => ?_, hinv.step' (factsOf_stable fs) hok hio hv.1 hv.2 hL'⟩⟩
        rw [hL' (l.length + j), if_neg (by omega)]
        exact hf j hj
      · rw [hall i (by omega)] at hLi
        cases hLi
    · obtain ⟨j, rfl⟩ : ∃ j, i = l.length + j := ⟨i - l.length, by omega⟩
      have hj : j < tl.length := by omega
      have hoj : tl[j]? = some o := by
        rw [List.getElem?_append_right (by omega), show l.length + j - l.length = j by omega] at hi
        exact hi
      have hfull : ∀ x, x < l.length + j → L x = true := by
        refine leans_all (List.all_eq_true.1 hz j (List.mem_range.2 hj)) (fun p q hp hw => ?_) (hwait L _ o hi hprev)
        by_cases hpl : p < (l ++ tl).length
        · exact hcl p q hpl hp hw
        · unfold waitsOn at hw
          rw [List.getElem?_eq_none (by omega)] at hw
          cases hw
      have hgo : ∀ k, k = j → seqWp P Q (tl.drop k) a w → o.wp P a w (fun a' w' => ∀ L' : Nat → Bool, (∀ x, L' x = if x = l.length + j then true else L x) → Closed (l ++ tl) L' ∧ (((∀ y, y < tl.length → L' (l.length + y) = false) ∧ InvL l (factsOf fs) a0 w0 L' a' w') ∨ (∃ k, 0 < k ∧ k ≤ tl.length ∧ (∀ i, i < l.length + k → L' i = true) ∧ (∀ y, k ≤ y → y < tl.length → L' (l.length + y) = false) ∧ seqWp P Q (tl.drop k) a' w'))) Q ∨ ¬ (∀ y, j ≤ y → y < tl.length → L (l.length + y) = false) := by
        intro k hk hs
        by_cases hrest : ∀ y, j ≤ y → y < tl.length → L (l.length + y) = false
        · left
          subst hk
          rw [List.drop_eq_getElem_cons hj] at hs
          have ho : tl[k] = o := by
            rw [List.getElem?_eq_getElem hj] at hoj
            exact Option.some.inj hoj
          rw [ho] at hs
          refine Oper.wp_mono (fun a' w' hq L' hL' => ⟨hclosed L' hL', .inr ⟨k + 1, by omega, by omega, fun x hx => ?_, fun y hy hyl => ?_, hq⟩⟩) hs
          · rw [hL' x]
            split
            · rfl
            · exact hfull x (by omega)
          · rw [hL' (l.length + y), if_neg (by omega)]
            exact hrest y (by omega) hyl
        · exact .inr hrest
      rcases hJ with ⟨hf, hinv⟩ | ⟨k, hk0, hkl, hall, hnot, hs⟩
      · have hj0 : j = 0 := by
          rcases Nat.eq_zero_or_pos j with h | h
          · exact h
          · have h1 := hfull (l.length + 0) (by omega)
            rw [hf 0 hpos] at h1
            cases h1
        have hs := hend a w hinv.defers hinv.size hinv.like hinv.below fun x ox d hx hd => hinv.facts x ox d hx hd (hfull x (by have := (List.getElem?_eq_some_iff.1 hx).1; omega))
        rcases hgo 0 hj0.symm (by simpa using hs) with h | h
        · exact h
        · exact absurd (fun y _ hyl => hf y hyl) h
      · have hjk : k = j := by
          rcases Nat.lt_trichotomy k j with h | h | h
          · have h1 := hfull (l.length + k) (by omega)
            rw [hnot k (Nat.le_refl _) (by omega)] at h1
            cases h1
          · exact h
          · rw [hall (l.length + j) (by omega)] at hLi
            cases hLi
        rcases hgo k hjk hs with h | h
        · exact h
        · exact absurd (fun y hy hyl => hnot y (by omega) hyl) h
  · obtain ⟨_, hJ⟩ := hJ
    rcases hJ with ⟨hf, _⟩ | ⟨k, hk0, hkl, _, hnot, hs⟩
    · have h1 := hL (l.length + 0) (by rw [List.length_append]; omega)
      rw [hf 0 hpos] at h1
      cases h1
    · have hk : k = tl.length := by
        rcases Nat.lt_or_ge k tl.length with h | h
        · have h1 := hL (l.length + k) (by rw [List.length_append]; omega)
          rw [hnot k (Nat.le_refl _) h] at h1
          cases h1
        · omega
      subst hk
      rw [List.drop_length] at hs
      exact hs
end
end Go.Proofs.YtoibhkmlebcepaaDoor

namespace Go.Proofs.YtoibhkmlebcepaaDoor
open Go Go.RowKit

/-- the slot holds a slice of a row of its own, of so many structs -/
def rowsF (s n : Nat) (xs : List Value) : SlotFact := ⟨fun v w => ∃ g, v = .slice (some ⟨g, 0, none⟩) n n ∧ Reads w s (.slice (some ⟨g, 0, none⟩) n n) n xs,
  fun _ _ _ ⟨g, h1, h2⟩ hb => ⟨g, h1, h2.below' hb⟩⟩

theorem rows_new (w : World) {x : Ent} : Reads (w.alloc (.cells #[.string x.key, .int .u64 (x.rev : Int), .bool x.del] 48)) 3 (.slice (some ⟨w.heap.size, 0, none⟩) 1 1) 1 (ecell x) := by
  refine ⟨rfl, _, 1, rfl, Nat.le_refl _, by decide, fun j u hj => ⟨w.heap.size, 0, rfl, by simp, ?_⟩⟩
  rw [Nat.zero_add, World.cell?_alloc_new w _ _ j]
  simpa [ecell] using hj

theorem Reads.srcN {P : Program} {w : World} {size n : Nat} {v : Value} {xs : List Value} {tx e' : TypeId} (hk : P.underlying tx = some (.slice e')) (h : Reads w size v n xs) (h1 : ∀ u ∈ xs, u.oneCell' = true) : Src P size tx v n xs w := by
  refine ⟨.inl ⟨e', hk⟩, fun w' => ?_, h.firstCells w rfl, h.firstCells w.drew rfl, h.1, h1⟩
  obtain ⟨_, a, cap, rfl, _⟩ := h
  rfl

theorem seqWp_append_owns {P : Program} {w : World} {rest : List Oper} {o : Oper} {a : Act} {Q : Exit → Act → World → Prop} (s x : Operand) (t tx : TypeId)
    (ho : o.op = .call { callee := .builtin .append, args := #[s, x], argTypes := #[t, tx] })
    (B : Nat) (e : TypeId) (i : TypeInfo) (z : Value) (size bytes : Nat) (ht : P.underlying t = some (.slice e)) (hi : P.info? e = some i) (hz : i.zero = some z)
    (hsize : i.size = size) (hby : i.bytes = bytes) (hzs : z.cells.size = size)
    (v : Value) (n : Nat) (xs : List Value) (hs : a.eval s = v) (hown : w.ownsRow B e size v n xs)
    (xv : Value) (m : Nat) (news : List Value) (hx : a.eval x = xv) (hsrc : Src P size tx xv m news w)
    (h63 : n + m ≤ maxLen) (hbytes : (n + m) * bytes ≤ 140737488355328) (hB : B ≤ w.heap.size)
    (h : ∀ v' w', w'.ownsRow B e size v' (n + m) (xs ++ news) → w.grownBy w' v.ownBlock → Below B w w' → Moves w v v' → seqWp P Q rest (a.put o.dst v') w') : seqWp P Q (o :: rest) a w := by
  obtain ⟨v', w', hr, h2, h3, h4, h5⟩ := run_append_owns (P := P) B t tx o.type e i z size bytes ht hi hz hsize hby hzs v n xs hown xv m news hsrc h63 hbytes hB
  show o.wp P a w (seqWp P Q rest) Q
  unfold Oper.wp execOp
  simp only [ho, resolve, invoke, builtin, Sem.run_bind, Sem.run_pure, Result.andThen_ok, List.map_toArray, List.map_cons, List.map_nil, hs, hx, hr]
  exact h v' w' h2 h3 h4 h5

/-- How far the reference has come. -/
def RDecInv (b : List UInt8) (rev M k : Nat) (es : List Ent) : Prop :=
  decL b = finL rev es (entsGo rev M (b.drop k)) ∧ (∀ x ∈ es, x.key.size ≤ b.length) ∧ es.length ≤ k ∧ k ≤ b.length

theorem RDecInv.bad {b : List UInt8} {rev m k : Nat} {es : List Ent} (h : RDecInv b rev (m + 1) k es) (he : entGo (b.drop k) = none) : decL b = none := by
  rw [h.1, fin_stop he]

theorem RDecInv.step {b : List UInt8} {rev m k : Nat} {es : List Ent} {key : ByteArray} {del : Bool} {n : Nat} (h : RDecInv b rev (m + 1) k es) (he : entGo (b.drop k) = some (key, del, n)) (hn : 1 ≤ n) (hk : k + n ≤ b.length) (hks : key.size ≤ b.length) :
    RDecInv b rev m (k + n) (es ++ [⟨key, rev, del⟩]) := by
  obtain ⟨h1, h2, h3, h4⟩ := h
  refine ⟨by rw [h1, fin_step he, List.drop_drop], fun x hx => ?_, by rw [List.length_append]; simp; omega, hk⟩
  rcases List.mem_append.1 hx with hx | hx
  · exact h2 x hx
  · simp at hx
    subst hx
    exact hks

theorem entGo_end {b : List UInt8} {k : Nat} (h : b.length ≤ k) : entGo (b.drop k) = none := by
  rw [List.drop_of_length_le h]
  rfl

theorem entGo_at {b : List UInt8} {k : Nat} (h : k < b.length) : entGo (b.drop k) = if 1 < (b.getD k 0).toNat then none else if (getText (b.drop (k + 1))).2.2 = 0 then some (⟨(getText (b.drop (k + 1))).1.toArray⟩, b.getD k 0 == 1, 1 + (getText (b.drop (k + 1))).2.1) else none := by
  have e : b.drop k = b.getD k 0 :: b.drop (k + 1) := by
    rw [List.drop_eq_getElem_cons h]; simp [h]
  have e1 : (b.getD k 0 :: b.drop (k + 1)).drop 1 = b.drop (k + 1) := rfl
  rw [e]
  unfold entGo
  rw [e1]
  generalize b.getD k 0 = c
  by_cases h1 : 1 < c.toNat
  · have e : truthL (c :: b.drop (k + 1)) = (false, 0, true) := by unfold truthL; simp [h1]
    rw [e, if_pos h1, if_pos rfl]
  · have e : truthL (c :: b.drop (k + 1)) = (c == 1, 1, false) := by unfold truthL; simp [h1]
    rw [e, if_neg h1, if_neg (by simp)]

theorem getText_nil : getText [] = ([], 0, 7) := by decide

def RDecRel (w : World) (b : List UInt8) (rev cnt : Nat) (av iv : Value) (wr : World) : Prop :=
  ∃ (k i M : Nat) (es : List Ent) (lv : Value), av = .int .i64 (k : Int) ∧ iv = .int .u64 (i : Int) ∧ i + M = cnt ∧ RDecInv b rev M k es ∧
    wr.heap[w.heap.size + 1]? = some (.cells #[.int .u64 (rev : Int), lv] 25 (0, 0)) ∧ wr.ownsRow (w.heap.size + 2) 48 3 lv es.length (ecells es) ∧ Below w.heap.size w wr ∧
    wr.heap[w.heap.size]? = some (.cells #[.int .u64 0, .slice none 0 0] 25 (0, 0))

set_option maxRecDepth 100000 in
set_option maxHeartbeats 4000000 in
theorem refdecode_any (w : World) (v : Value) (b : List UInt8) (hs : Sl w.heap.size w v b) (hb : b.length ≤ 1000000) :
    Calls Tryd.prog 15 #[v] w (DecPost w (decL b)) := by
  obtain ⟨i0, hi, hz0, hz1, hz2⟩ := info_parts info48
  have hz := heap_alloc_new w (.cells #[.int .u64 0, .slice none 0 0] 25)
  have hb0 : Below w.heap.size w (w.alloc (.cells #[.int .u64 0, .slice none 0 0] 25)) := (Below.refl _ w).alloc (Nat.le_refl _) _
  have hget := refget_any _ v _ b (hs.below hb0).reads
  have hu1 := getGo_used b
  have hlt1 := getGo_lt b
  have HZ := Lib.hid hz
  have HB := Lib.hid hb0
  have HG := Lib.hid hget
  have HS := Lib.hid hs
  clear hz hb0 hget
  by_cases he1 : (getGo 0 0 b).2.2 = 0
  · have hge0 : getGo 0 0 b = ((getGo 0 0 b).1, (getGo 0 0 b).2.1, 0) := Prod.ext rfl (Prod.ext rfl he1)
    have hkp := (getGo_ok b 0 0 _ _ (by decide) hge0).1
    have hcutS := hs.cut hu1
    have HHS0 := Lib.hid hs
    rcases hs with ⟨_, hbn⟩ | ⟨bb, off, vcap, rfl, hbB, hbw0, hrd⟩
    · subst hbn
      simp at hu1
      omega
    have hne : b ≠ [] := by
      intro e
      subst e
      simp at hu1
      omega
    replace hbB := hbB hne
    replace hbw0 := hbw0 hne
    clear hne
    obtain ⟨_, _, hv, hc1, hc2⟩ := hrd.le
    cases hv
    unfold maxLen at hc2
    have hdec : decL b = if (getGo 0 0 (b.drop (getGo 0 0 b).2.1)).2.2 = 0 then finL (getGo 0 0 b).1 [] (entsGo (getGo 0 0 b).1 (getGo 0 0 (b.drop (getGo 0 0 b).2.1)).1 ((b.drop (getGo 0 0 b).2.1).drop (getGo 0 0 (b.drop (getGo 0 0 b).2.1)).2.1)) else none := by
      unfold decL
      rw [if_pos he1]
    have hget2 := refget_any _ _ _ _ (hcutS.below HB.out).reads
    have hu2 := getGo_used (b.drop (getGo 0 0 b).2.1)
    have hlt2 := getGo_lt (b.drop (getGo 0 0 b).2.1)
    have hne : vcap = (getGo 0 0 b).2.1 → ¬ (getGo 0 0 (b.drop (getGo 0 0 b).2.1)).2.2 = 0 := by
      intro h
      have h0 : b.drop (getGo 0 0 b).2.1 = [] := List.eq_nil_of_length_eq_zero (by rw [List.length_drop]; omega)
      rw [h0]
      decide
    rw [List.drop_drop, List.length_drop] at *
    rw [cutV_some] at hget2
    generalize getGo 0 0 b = r at *
    obtain ⟨rev, k1, e1⟩ := r
    dsimp only at *
    subst he1
    generalize hl1 : b.drop k1 = l1 at *
    generalize getGo 0 0 l1 = r2 at *
    obtain ⟨cnt, k2, e2⟩ := r2
    dsimp only at *
    have HG2 := Lib.hid hget2
    have HD := Lib.hid hdec
    have HRd := Lib.hid hrd
    have HHS := Lib.hid hcutS
    have hkb : (k1 : Int) ≤ (b.length : Int) := by omega
    clear hget2 hdec hrd hcutS hge0 HS
    by_cases hck : vcap = k1
    · have hne2 := hne hck
      have hl0 : b.length = k1 := by omega
      have hN : decL b = none := by rw [HD.out, if_neg hne2]
      have HN := Lib.hid hN
      have h2 := HG2.out
      have hz1 : b.length - k1 = 0 := by omega
      have hz2 : vcap - k1 = 0 := by omega
      rw [if_pos hck, hz1, hz2] at h2
      have H2 := Lib.hid h2
      have he2I : ((e2 : Int) != 0) = true := by simp; omega
      rw [hl0] at HG ⊢
      subst hck
      clear hN h2 hz1 hz2 hne2 HG2 HD hl0
      go_enter Tryd.func15, Tryd.ntmps15
      go_wp2_with (go_at_call 31; go_must (refine HG.out.mono ?_))
      rintro e w1 ⟨rfl, rfl⟩
      go_wp2_with (go_at_call 31; go_must (refine H2.out.mono ?_))
      rintro e w1 ⟨rfl, rfl⟩
      go_wp2
      refine bodyPost_ret (ret_commit rfl rfl HZ.out) rfl ?_
      rw [HN.out]
      exact ⟨rfl, HB.out⟩
    · have h2 := HG2.out
      rw [if_neg hck] at h2
      have H2 := Lib.hid h2
      have hckI : ¬ ((vcap : Int) = k1) := by omega
      have hlen1 : ((b.length - k1 : Nat) : Int) = (b.length : Int) - k1 := by omega
      clear h2 HG2 hne
      by_cases he2 : e2 = 0
      · subst he2
        have hD := HD.out
        rw [if_pos rfl] at hD
        have HD2 := Lib.hid hD
        have hkk : k1 + k2 ≤ b.length := by omega
        have hc0 := heap_alloc_new (w.alloc (.cells #[.int .u64 0, .slice none 0 0] 25)) (.cells #[.int .u64 (rev : Int), .slice none 0 0] 25)
        have hsz0 : (w.alloc (.cells #[.int .u64 0, .slice none 0 0] 25)).heap.size = w.heap.size + 1 := by simp
        rw [hsz0] at hc0
        have HC := Lib.hid hc0
        have HZ1 := Lib.hid ((heap_alloc_old _ (.cells #[.int .u64 (rev : Int), .slice none 0 0] 25) (Array.getElem?_eq_some_iff.1 HZ.out).1).trans HZ.out)
        have HB1 := Lib.hid (HB.out.alloc HB.out.size (.cells #[.int .u64 (rev : Int), .slice none 0 0] 25))
        clear hD HD hc0 hsz0
        go_enter Tryd.func15, Tryd.ntmps15
        go_wp2_with (go_at_call 31; go_must (refine HG.out.mono ?_))
        rintro e w1 ⟨rfl, rfl⟩
        go_wp2_with (go_at_call 31; go_must (refine H2.out.mono ?_))
        rintro e w1 ⟨rfl, rfl⟩
        go_wp2
        go_loopw [7, 10] (fun av iv wr => RDecRel w b rev cnt av iv wr) (fun _ iv _ => cnt - (intOf iv).toNat)
        case atStart =>
          exact ⟨k1 + k2, 0, cnt, [], .slice none 0 0, by simp, rfl, by omega, ⟨HD2.out, fun x hx => by simp at hx, Nat.zero_le _, hkk⟩, HC.out, owns_nil _ _ _ _, HB1.out, HZ1.out⟩
        case round =>
          obtain ⟨k, i, M, es, lv, rfl, rfl, hM, hinv, hg, hown, hbw, hzz⟩ := hrel
          have glt : w.heap.size + 1 < wr.heap.size := (Array.getElem?_eq_some_iff.1 hg).1
          have q0 := Lib.cell_of_heap hg 0
          have q1 := Lib.cell_of_heap hg 1
          have qf := Lib.frozen_of_heap hg
          simp at q0 q1
          obtain ⟨la, lcap, rfl, hlc1, hlc2⟩ := (ownsRow.reads hown).le
          have hesl : es.length ≤ k := hinv.2.2.1
          have hkb2 : k ≤ b.length := hinv.2.2.2
          unfold maxLen at hlc2
          have z0 := Lib.cell_of_heap hzz 0
          have z1 := Lib.cell_of_heap hzz 1
          have zf := Lib.frozen_of_heap hzz
          simp at z0 z1
          have HI := Lib.hid hinv
          have HGG := Lib.hid hg
          have HO := Lib.hid hown
          have HBB := Lib.hid hbw
          have HZZ := Lib.hid hzz
          have hbb : bb < wr.heap.size := by omega
          clear hinv hg hown hbw hzz HC HZ1 HB1 HG H2
          by_cases hM0 : M = 0
          · subst hM0
            have hiI : ¬ (i : Int) < cnt := by omega
            have hfi := HI.out.1
            rw [fin_end] at hfi
            by_cases hkn : k = b.length
            · have hdn : b.drop k = [] := List.drop_of_length_le (by omega)
              have hknI : ((k : Int) != (b.length : Int)) = false := by simp; omega
              have hks : ∀ x ∈ es, x.key.size ≤ maxLen := fun x hx => by
                have := HI.out.2.1 x hx
                unfold maxLen
                omega
              have hmay := refright_any wr rev la es.length lcap es (ownsRow.reads HO.out) rfl ⟨hlc1, by unfold maxLen; omega⟩ hks
              have HMa := Lib.hid hmay
              rw [hdn] at hfi
              have HFi := Lib.hid hfi
              clear hmay hks hdn hfi HI HHS
              go_wp2_with (go_at_call 10; go_must (refine HMa.out.mono ?_))
              rintro e w7 ⟨rfl, b7⟩
              have HZ7 := Lib.hid (below_block b7 HZZ.out (by omega))
              have HG7 := Lib.hid (below_block b7 HGG.out glt)
              have HO7 := Lib.hid (owns_below HO.out b7)
              have HB7 := Lib.hid (HBB.out.trans (b7.mono HBB.out.size))
              clear b7 HZZ HGG HO HBB q0 q1 z0 z1 zf qf
              have z0 := Lib.cell_of_heap HZ7.out 0
              have z1 := Lib.cell_of_heap HZ7.out 1
              have zf := Lib.frozen_of_heap HZ7.out
              have y0 := Lib.cell_of_heap HG7.out 0
              have y1 := Lib.cell_of_heap HG7.out 1
              simp at z0 z1 y0 y1
              cases hrb : rightB rev es with
              | false =>
                have hN : decL b = none := by rw [HFi.out]; simp [hrb]
                have HN := Lib.hid hN
                clear hrb hN
                go_wp2
                have hst := two_stored HZ7.out (.int .u64 0) (.slice none 0 0)
                refine bodyPost_ret (ret_commit rfl rfl hst) rfl ?_
                rw [HN.out]
                exact ⟨rfl, (HB7.out.setCell (p := ⟨w.heap.size, 0, none⟩) (Nat.le_refl _) _).setCell (p := ⟨w.heap.size, 1, none⟩) (Nat.le_refl _) _⟩
              | true =>
                have hY : decL b = some (rev, es) := by rw [HFi.out]; simp [hrb]
                have HY := Lib.hid hY
                clear hrb hY
                go_wp2
                have hst := two_stored HZ7.out (.int .u64 (rev : Int)) (.slice la es.length lcap)
                refine bodyPost_ret (ret_commit rfl rfl hst) rfl ?_
                rw [HY.out]
                have ho := ownsRow_setCell_other (ownsRow_setCell_other HO7.out (a := ⟨w.heap.size, 0, none⟩) (owns_ne HO7.out (show w.heap.size < w.heap.size + 2 by omega)) (.int .u64 (rev : Int))) (a := ⟨w.heap.size, 1, none⟩) (owns_ne HO7.out (show w.heap.size < w.heap.size + 2 by omega)) (.slice la es.length lcap)
                exact ⟨la, lcap, rfl, owns_mono ho (by omega), (HB7.out.setCell (p := ⟨w.heap.size, 0, none⟩) (Nat.le_refl _) _).setCell (p := ⟨w.heap.size, 1, none⟩) (Nat.le_refl _) _⟩
            · have hknI : ((k : Int) != (b.length : Int)) = true := by simp; omega
              have hN : decL b = none := by
                rw [hfi, if_neg (fun h => ?_)]
                have := congrArg List.length h.1
                rw [List.length_drop] at this
                simp at this
                omega
              have HN := Lib.hid hN
              clear hN hfi HI HGG HO HHS
              go_wp2
              have hst := two_stored HZZ.out (.int .u64 0) (.slice none 0 0)
              refine bodyPost_ret (ret_commit rfl rfl hst) rfl ?_
              rw [HN.out]
              exact ⟨rfl, (HBB.out.setCell (p := ⟨w.heap.size, 0, none⟩) (Nat.le_refl _) _).setCell (p := ⟨w.heap.size, 1, none⟩) (Nat.le_refl _) _⟩
          · obtain ⟨m, rfl⟩ : ∃ m, M = m + 1 := ⟨M - 1, by omega⟩
            have hiI : (i : Int) < cnt := by omega
            by_cases hkn : k < b.length
            · have hknI : ¬ (b.length : Int) ≤ k := by omega
              have c0 : wr.cell? ⟨bb, off + k, none⟩ = some (.int .u8 ((b.getD k 0).toNat : Int)) := (HBB.out.cell (p := ⟨bb, off + k, none⟩) hbw0).trans (HRd.out.bcell k hkn)
              have hent := entGo_at hkn
              generalize hcc : b.getD k 0 = c at *
              by_cases h1 : 1 < c.toNat
              · have h1I : (1 : Int) < c.toNat := by omega
                rw [if_pos h1] at hent
                have HN := Lib.hid (HI.out.bad hent)
                clear hent HI HGG HO HHS
                go_wp2
                have hst := two_stored HZZ.out (.int .u64 0) (.slice none 0 0)
                refine bodyPost_ret (ret_commit rfl rfl hst) rfl ?_
                rw [HN.out]
                exact ⟨rfl, (HBB.out.setCell (p := ⟨w.heap.size, 0, none⟩) (Nat.le_refl _) _).setCell (p := ⟨w.heap.size, 1, none⟩) (Nat.le_refl _) _⟩
              · have h1I : ¬ (1 : Int) < c.toNat := by omega
                rw [if_neg h1] at hent
                have hcut := (HHS0.out.cut (show k + 1 ≤ b.length by omega)).below HBB.out
                rw [cutV_some] at hcut
                by_cases hck2 : vcap = k + 1
                · have hz1 : b.length - (k + 1) = 0 := by omega
                  have hz2 : vcap - (k + 1) = 0 := by omega
                  have hl0 : b.drop (k + 1) = [] := List.eq_nil_of_length_eq_zero (by rw [List.length_drop]; omega)
                  have hbl : b.length = k + 1 := by omega
                  rw [if_pos hck2, hz1, hz2, hl0] at hcut
                  rw [hl0, getText_nil, if_neg (by decide)] at hent
                  have htext := refgettext_any _ _ _ _ hcut.reads
                  rw [getText_nil] at htext
                  have HT := Lib.hid htext
                  have HN := Lib.hid (HI.out.bad hent)
                  have hckI2 : (vcap : Int) = (k : Int) + 1 := by omega
                  have hblI : (b.length : Int) = (k : Int) + 1 := by omega
                  clear htext hcut hent HI HGG HO HHS hl0
                  subst hck2
                  rw [hbl]
                  go_wp2_with (go_at_call 32; go_must (refine HT.out.mono ?_))
                  rintro e w5 ⟨rfl, rfl⟩
                  go_wp2
                  have hst := two_stored HZZ.out (.int .u64 0) (.slice none 0 0)
                  refine bodyPost_ret (ret_commit rfl rfl hst) rfl ?_
                  rw [HN.out]
                  exact ⟨rfl, (HBB.out.setCell (p := ⟨w.heap.size, 0, none⟩) (Nat.le_refl _) _).setCell (p := ⟨w.heap.size, 1, none⟩) (Nat.le_refl _) _⟩
                · have hck2I : ¬ ((vcap : Int) = (k : Int) + 1) := by omega
                  rw [if_neg hck2] at hcut
                  have htext := refgettext_any _ _ _ _ hcut.reads
                  have hld : (b.drop (k + 1)).length = b.length - (k + 1) := List.length_drop
                  have htu := getText_used (b.drop (k + 1))
                  have hts := text_size (b.drop (k + 1))
                  rw [hld] at htu hts
                  generalize getText (b.drop (k + 1)) = tx at *
                  obtain ⟨S, k3, te⟩ := tx
                  dsimp only at hent htu hts htext
                  have HT := Lib.hid htext
                  have hln : ((b.length - (k + 1) : Nat) : Int) = (b.length : Int) - ((k : Int) + 1) := by omega
                  have hlc : ((vcap - (k + 1) : Nat) : Int) = (vcap : Int) - ((k : Int) + 1) := by omega
                  have hk1I : (k : Int) + 1 ≤ b.length := by omega
                  clear htext hcut
                  by_cases hte : te = 0
                  · subst hte
                    rw [if_pos rfl] at hent
                    go_wp2_with (go_at_call 32; go_must (refine HT.out.mono ?_))
                    rintro e w5 ⟨rfl, rfl⟩
                    go_wp2_with fail
                    generalize hSb : (⟨S.toArray⟩ : ByteArray) = SB at *
                    have hSz : SB.size ≤ b.length := by
                      rw [← hSb]
                      show S.length ≤ b.length
                      omega
                    have hstep := HI.out.step hent (by omega) (by omega) hSz
                    have HSp := Lib.hid hstep
                    generalize htb : (c == 1) = tb at *
                    have htbI : ((c.toNat : Int) == 1) = tb := by
                      rw [← htb]
                      by_cases h : c = 1
                      · subst h; rfl
                      · have h2 : (c == 1) = false := beq_eq_false_iff_ne.2 h
                        have h3 : ¬ ((c.toNat : Int) = 1) := fun e => h (UInt8.toNat_inj.1 (by show c.toNat = 1; omega))
                        rw [h2]
                        simpa using h3
                    clear hent hstep HI HHS
                    refine wp_region_tail (l := [_, _, _, _, _, _, _, _, _, _, _]) (tl := [_, _, _]) (by kernel_rfl) [eqF (.pointer (some ⟨w.heap.size + 1, 1, none⟩)), eqF (.slice la es.length lcap), eqF (.string SB), eqF (.int .u64 (rev : Int)), eqF (.slice (some ⟨bb, off, none⟩) b.length vcap), eqF (.int .i64 (k : Int)), eqF (.pointer (some ⟨bb, off + k, none⟩)), eqF (.int .u8 (c.toNat : Int)), eqF (.bool tb), eqF (.agg #[.string SB, .int .u64 (rev : Int), .bool tb]), rowsF 3 1 (ecell ⟨SB, rev, tb⟩)] (by kernel_rfl) (by kernel_rfl) (by kernel_rfl) (by decide) ⟨?_, ?_, ?_, ?_, ?_, ?_, ?_, ?_, ?_, ?_, ?_, trivial⟩ ?_
                    · intro ρ wx hρ hbx hl
                      have e9 : ρ (.tmp 9) = .pointer (some ⟨w.heap.size + 1, 0, none⟩) := hρ.tmp 9 (by decide +kernel)
                      refine y_val (v := .pointer (some ⟨w.heap.size + 1, 1, none⟩)) ?_ rfl
                      simp [execOp, go_sem, e9]
                    · intro ρ wx hρ hbx hl
                      have e69 : ρ (.tmp 69) = .pointer (some ⟨w.heap.size + 1, 1, none⟩) := hl 0 (by decide +kernel) 69 rfl
                      have kk := (hbx.cell (glt)).trans q1
                      refine y_val (v := .slice la es.length lcap) ?_ rfl
                      simp [execOp, go_sem, e69, kk]
                    · intro ρ wx hρ hbx hl
                      have e11 : ρ (.tmp 11) = .string SB := hρ.tmp 11 (by decide +kernel)
                      refine y_val (v := .string SB) ?_ rfl
                      simp [execOp, go_sem, e11]
                    · intro ρ wx hρ hbx hl
                      have e4 : ρ (.tmp 4) = .int .u64 (rev : Int) := hρ.tmp 4 (by decide +kernel)
                      refine y_val (v := .int .u64 (rev : Int)) ?_ rfl
                      simp [execOp, go_sem, e4]
                    · intro ρ wx hρ hbx hl
                      have e0 : ρ (.tmp 0) = .slice (some ⟨bb, off, none⟩) b.length vcap := hρ.tmp 0 (by decide +kernel)
                      refine y_val (v := .slice (some ⟨bb, off, none⟩) b.length vcap) ?_ rfl
                      simp [execOp, go_sem, e0]
                    · intro ρ wx hρ hbx hl
                      have e7 : ρ (.tmp 7) = .int .i64 (k : Int) := hρ.tmp 7 (by decide +kernel)
                      refine y_val (v := .int .i64 (k : Int)) ?_ rfl
                      simp [execOp, go_sem, e7]
                    · intro ρ wx hρ hbx hl
                      have e73 : ρ (.tmp 73) = .slice (some ⟨bb, off, none⟩) b.length vcap := hl 4 (by decide +kernel) 73 rfl
                      have e74 : ρ (.tmp 74) = .int .i64 (k : Int) := hl 5 (by decide +kernel) 74 rfl
                      refine y_val (v := .pointer (some ⟨bb, off + k, none⟩)) ?_ rfl
                      simp [execOp, go_sem, e73, e74]
                      intro h
                      omega
                    · intro ρ wx hρ hbx hl
                      have e75 : ρ (.tmp 75) = .pointer (some ⟨bb, off + k, none⟩) := hl 6 (by decide +kernel) 75 rfl
                      have kk := (hbx.cell (hbb)).trans c0
                      refine y_val (v := .int .u8 (c.toNat : Int)) ?_ rfl
                      simp [execOp, go_sem, e75, kk]
                    · intro ρ wx hρ hbx hl
                      have e76 : ρ (.tmp 76) = .int .u8 (c.toNat : Int) := hl 7 (by decide +kernel) 76 rfl
                      refine y_val (v := .bool tb) ?_ rfl
                      simp [execOp, hρ.const, go_sem, e76, htbI]
                    · intro ρ wx hρ hbx hl
                      have e71 : ρ (.tmp 71) = .string SB := hl 2 (by decide +kernel) 71 rfl
                      have e72 : ρ (.tmp 72) = .int .u64 (rev : Int) := hl 3 (by decide +kernel) 72 rfl
                      have e77 : ρ (.tmp 77) = .bool tb := hl 8 (by decide +kernel) 77 rfl
                      refine y_val (v := .agg #[.string SB, .int .u64 (rev : Int), .bool tb]) ?_ rfl
                      simp [execOp, go_sem, e71, e72, e77]
                    · intro ρ wx hρ hbx hl
                      have e78 : ρ (.tmp 78) = .agg #[.string SB, .int .u64 (rev : Int), .bool tb] := hl 9 (by decide +kernel) 78 rfl
                      refine y_new' (v := .slice (some ⟨wx.heap.size, 0, none⟩) 1 1) (w' := wx.alloc (.cells #[.string SB, .int .u64 (rev : Int), .bool tb] 48)) ?_ ⟨_, rfl, rows_new wx⟩ ((Below.refl _ _).alloc (Nat.le_refl _) _)
                      simp [execOp, go_sem, e78]
                    intro aa wz hdef hsz hlk hbz hf
                    have ha := act_of_like hdef hsz hlk [69, 70, 71, 72, 73, 74, 75, 76, 77, 78, 79] 97 rfl (by decide +kernel)
                    have e69 : aa.tmps.getD 69 undef = .pointer (some ⟨w.heap.size + 1, 1, none⟩) := hf 0 _ 69 rfl rfl
                    have e70 : aa.tmps.getD 70 undef = .slice la es.length lcap := hf 1 _ 70 rfl rfl
                    have e71 : aa.tmps.getD 71 undef = .string SB := hf 2 _ 71 rfl rfl
                    have e72 : aa.tmps.getD 72 undef = .int .u64 (rev : Int) := hf 3 _ 72 rfl rfl
                    have e73 : aa.tmps.getD 73 undef = .slice (some ⟨bb, off, none⟩) b.length vcap := hf 4 _ 73 rfl rfl
                    have e74 : aa.tmps.getD 74 undef = .int .i64 (k : Int) := hf 5 _ 74 rfl rfl
                    have e75 : aa.tmps.getD 75 undef = .pointer (some ⟨bb, off + k, none⟩) := hf 6 _ 75 rfl rfl
                    have e76 : aa.tmps.getD 76 undef = .int .u8 (c.toNat : Int) := hf 7 _ 76 rfl rfl
                    have e77 : aa.tmps.getD 77 undef = .bool tb := hf 8 _ 77 rfl rfl
                    have e78 : aa.tmps.getD 78 undef = .agg #[.string SB, .int .u64 (rev : Int), .bool tb] := hf 9 _ 78 rfl rfl
                    have e79 : (rowsF 3 1 (ecell ⟨SB, rev, tb⟩)).1 (aa.tmps.getD 79 undef) wz := hf 10 _ 79 rfl rfl
                    obtain ⟨g79, h79, hr79⟩ := e79
                    simp only [putAll, List.foldl_cons, List.foldl_nil, e69, e70, e71, e72, e73, e74, e75, e76, e77, e78, h79] at ha
                    simp [Act.put] at ha
                    subst ha
                    clear hdef hsz hlk hf e69 e70 e71 e72 e73 e74 e75 e76 e77 e78 h79
                    have HOz := Lib.hid (owns_below HO.out hbz)
                    have HGz := Lib.hid (below_block hbz HGG.out glt)
                    have HZz := Lib.hid (below_block hbz HZZ.out (by omega))
                    have HBz := Lib.hid (HBB.out.trans (hbz.mono HBB.out.size))
                    have hszz := hbz.size
                    clear hbz HO HGG HZZ HBB c0 q0 q1 qf z0 z1 zf
                    refine seqWp_append_owns _ _ 23 23 rfl (w.heap.size + 2) 48 i0 _ 3 32 Tryd.underlying23 hi hz0 hz1 hz2 rfl _ _ _ rfl HOz.out _ 1 _ rfl (hr79.srcN Tryd.underlying23 (by intro u hu; simp [ecell] at hu; rcases hu with rfl | rfl | rfl <;> rfl)) ?_ ?_ ?_ ?_
                    · unfold maxLen; omega
                    · omega
                    · omega
                    intro v6 w6 o6 g6 b6 _
                    have e6 : ecells es ++ ecell ⟨SB, rev, tb⟩ = ecells (es ++ [⟨SB, rev, tb⟩]) := by simp [ecells]
                    have e7 : (es ++ [(⟨SB, rev, tb⟩ : Ent)]).length = es.length + 1 := by simp
                    have E7 := Lib.hid e7
                    rw [e6] at o6
                    obtain ⟨na, ncap, rfl, _, _⟩ := (ownsRow.reads o6).le
                    have hno1 := owns_ne HOz.out (g := w.heap.size + 1) (by omega)
                    have hno0 := owns_ne HOz.out (g := w.heap.size) (by omega)
                    have hg9 := (g6.block (w.heap.size + 1) (by omega) (fun h => hno1 h.symm)).trans HGz.out
                    have hz9 := (g6.block w.heap.size (by omega) (fun h => hno0 h.symm)).trans HZz.out
                    have hb9 := HBz.out.trans (b6.mono (by omega))
                    have HG10 := Lib.hid (heap_setCell_same w6 (w.heap.size + 1) 1 _ _ (.slice na (es.length + 1) ncap) hg9)
                    have HO10 := Lib.hid (ownsRow_setCell_other o6 (a := ⟨w.heap.size + 1, 1, none⟩) (owns_ne o6 (show w.heap.size + 1 < w.heap.size + 2 by omega)) (.slice na (es.length + 1) ncap))
                    have HZ10 := Lib.hid ((heap_setCell_other w6 ⟨w.heap.size + 1, 1, none⟩ w.heap.size (.slice na (es.length + 1) ncap) (show w.heap.size ≠ w.heap.size + 1 by omega)).trans hz9)
                    have HB10 := Lib.hid (hb9.setCell (p := ⟨w.heap.size + 1, 1, none⟩) (show w.heap.size ≤ w.heap.size + 1 by omega) (.slice na (es.length + 1) ncap))
                    have x1 := Lib.cell_of_heap hg9 1
                    have xf := Lib.frozen_of_heap hg9
                    simp at x1
                    clear e6 e7 hno1 hno0 hz9 hb9 o6 g6 b6 hr79 HOz HGz HZz HBz hg9
                    show Oper.wp _ _ _ _ _ _
                    unfold Oper.wp
                    simp [execOp, go_sem, Act.put]
                    unfold seqWp Oper.wp
                    simp [execOp, go_sem, x1, xf]
                    unfold seqWp
                    go_wp2
                    refine ⟨⟨k + (1 + k3), i + 1, m, _, _, by simp; omega, by go_num, by omega, HSp.out, HG10.out, by rw [E7.out]; exact HO10.out, HB10.out, HZ10.out⟩, by simp [intOf]; omega⟩
                  · rw [if_neg hte] at hent
                    have HN := Lib.hid (HI.out.bad hent)
                    have hteI : ((te : Int) != 0) = true := by simp; omega
                    clear hent HI HGG HO HHS
                    go_wp2_with (go_at_call 32; go_must (refine HT.out.mono ?_))
                    rintro e w5 ⟨rfl, rfl⟩
                    go_wp2
                    have hst := two_stored HZZ.out (.int .u64 0) (.slice none 0 0)
                    refine bodyPost_ret (ret_commit rfl rfl hst) rfl ?_
                    rw [HN.out]
                    exact ⟨rfl, (HBB.out.setCell (p := ⟨w.heap.size, 0, none⟩) (Nat.le_refl _) _).setCell (p := ⟨w.heap.size, 1, none⟩) (Nat.le_refl _) _⟩
            · have hknI : (b.length : Int) ≤ k := by omega
              have HN := Lib.hid (HI.out.bad (entGo_end (by omega)))
              clear HI HGG HO HHS
              go_wp2
              have hst := two_stored HZZ.out (.int .u64 0) (.slice none 0 0)
              refine bodyPost_ret (ret_commit rfl rfl hst) rfl ?_
              rw [HN.out]
              exact ⟨rfl, (HBB.out.setCell (p := ⟨w.heap.size, 0, none⟩) (Nat.le_refl _) _).setCell (p := ⟨w.heap.size, 1, none⟩) (Nat.le_refl _) _⟩
      · have hN : decL b = none := by rw [HD.out, if_neg he2]
        have HN := Lib.hid hN
        have he2I : ((e2 : Int) != 0) = true := by simp; omega
        clear hN HD he2
        go_enter Tryd.func15, Tryd.ntmps15
        go_wp2_with (go_at_call 31; go_must (refine HG.out.mono ?_))
        rintro e w1 ⟨rfl, rfl⟩
        go_wp2_with (go_at_call 31; go_must (refine H2.out.mono ?_))
        rintro e w1 ⟨rfl, rfl⟩
        go_wp2
        refine bodyPost_ret (ret_commit rfl rfl HZ.out) rfl ?_
        rw [HN.out]
        exact ⟨rfl, HB.out⟩
  · have hN : decL b = none := by unfold decL; rw [if_neg he1]
    have HN := Lib.hid hN
    have he1I : (((getGo 0 0 b).2.2 : Int) != 0) = true := by simp; omega
    have z0 := Lib.cell_of_heap HZ.out 0
    clear hN he1 HS z0
    obtain ⟨va, vcap, rfl⟩ := hs.form
    go_enter Tryd.func15, Tryd.ntmps15
    go_wp2_with (go_at_call 31; go_must (refine HG.out.mono ?_))
    rintro e w1 ⟨rfl, rfl⟩
    go_wp2
    refine bodyPost_ret (ret_commit rfl rfl HZ.out) rfl ?_
    rw [HN.out]
    exact ⟨rfl, HB.out⟩

set_option maxRecDepth 100000 in
set_option maxHeartbeats 1000000 in
theorem refdecode_nil (w : World) (a : Option Addr) (cap : Nat) (h : Reads w 1 (.slice a 0 cap) 0 (bcells [])) :
    Calls Tryd.prog 15 #[.slice a 0 cap] w (DecPost w none) := by
  have hz := heap_alloc_new w (.cells #[.int .u64 0, .slice none 0 0] 25)
  have hb0 : Below w.heap.size w (w.alloc (.cells #[.int .u64 0, .slice none 0 0] 25)) := (Below.refl _ w).alloc (Nat.le_refl _) _
  have hget := refget_any _ _ _ _ (h.below' hb0)
  rw [show getGo 0 0 [] = (0, 0, 7) from by decide] at hget
  have HZ := Lib.hid hz
  have HB := Lib.hid hb0
  have HG := Lib.hid hget
  clear hz hb0 hget h
  go_enter Tryd.func15, Tryd.ntmps15
  go_wp2_with (go_at_call 31; go_must (refine HG.out.mono ?_))
  rintro e w1 ⟨rfl, rfl⟩
  go_wp2
  refine bodyPost_ret (ret_commit rfl rfl HZ.out) rfl ?_
  exact ⟨rfl, HB.out⟩

theorem refdecode_reads (w : World) (v : Value) (b : List UInt8) (h : Reads w 1 v b.length (bcells b)) (hb : b.length ≤ 1000000) :
    Calls Tryd.prog 15 #[v] w (DecPost w (decL b)) := by
  by_cases hn : 0 < b.length
  · have h' := h
    obtain ⟨bb, off, cap, rfl, _, _, _, hc⟩ := h.head hn
    exact refdecode_any w _ b (.inr ⟨bb, off, cap, rfl, fun _ => World.block_lt_of_cell? _ _ (hc 0 hn), fun _ => World.block_lt_of_cell? _ _ (hc 0 hn), h'⟩) hb
  · obtain rfl : b = [] := List.eq_nil_of_length_eq_zero (by omega)
    obtain ⟨a, cap, rfl, _, _⟩ := h.le
    have e : decL [] = none := by decide
    rw [e]
    exact refdecode_nil w a cap h
end Go.Proofs.YtoibhkmlebcepaaDoor

namespace Go.Proofs.YtoibhkmlebcepaaDoor
open Go Go.RowKit

theorem crcIter_succ (i r : Nat) : crcIter (i + 1) r = crcBit (crcIter i r) := crcIter_add i 1 r

theorem bit_odd (s : Nat) (hs : s < 4294967296) (h : s % 2 = 1) : bits BinOp.xor .u32 ((s : Int) / 2) 3988292384 = (crcBit s : Int) := by
  have := u32_xor_nat (s / 2) 3988292384 (by omega) (by decide)
  simp only [Int.cast_ofNat_Int] at this
  rw [show (s : Int) / 2 = ((s / 2 : Nat) : Int) from by omega, this, crcBit, if_pos h]

theorem bit_even (s : Nat) (h : ¬ s % 2 = 1) : (s : Int) / 2 = (crcBit s : Int) := by
  rw [crcBit, if_neg h]
  simp

def CrcIn (r : Nat) (s i : Value) : Prop := ∃ k : Nat, i = .int .i64 (k : Int) ∧ k ≤ 8 ∧ s = .int .u32 (crcIter k r : Int)

set_option maxRecDepth 100000 in
set_option maxHeartbeats 1000000 in
theorem refsum_any (w : World) (v : Value) (n : Nat) (l : List UInt8) (h : Reads w 1 v n (bcells l)) :
    Calls Tryd.prog 25 #[v] w (TellsU32 w (sumL l)) := by
  obtain ⟨a, cap, rfl, h1, h2⟩ := h.le
  unfold maxLen at h2
  have hl : l.length = n := by have := h.1; simpa [bcells_length] using this
  have Hl := Lib.hid hl
  have HR := Lib.hid h
  clear h hl
  go_enter Tryd.func25, Tryd.ntmps25
  go_wp2
  go_loop [3, 10] (fun h i => CrcRel l h i) (fun _ i => n - (intOf i).toNat)
  case atStart => exact ⟨0, rfl, Nat.zero_le _, rfl⟩
  case round =>
    obtain ⟨k, rfl, hk, rfl⟩ := hrel
    rw [Hl.out] at hk
    by_cases hlt : k < n
    · have hlt' : (k : Int) < n := by omega
      obtain ⟨b, off, cap', hv, hxx1, hxx2, hxx3, hc⟩ := HR.out.head (by omega)
      cases hv
      clear hxx1 hxx2 hxx3
      have ck := hc k hlt
      have hsu : (l.take (k + 1)).foldl crcByte 4294967295 = crcByte ((l.take k).foldl crcByte 4294967295) (l.getD k 0) := by
        have e : l.take (k + 1) = l.take k ++ [l.getD k 0] := by
          rw [List.take_add_one, List.getElem?_eq_getElem (by rw [Hl.out]; exact hlt)]
          simp [List.getD, show k < l.length by rw [Hl.out]; exact hlt]
        rw [e, List.foldl_append, List.foldl_cons, List.foldl_nil]
      have hh := foldCrc_lt (l.take k) 4294967295 (by decide)
      generalize (l.take k).foldl crcByte 4294967295 = s at *
      generalize l.getD k 0 = c at *
      have q1 := crc_in s c hh
      have hc8 := c.toNat_lt
      have hr : s ^^^ c.toNat < 4294967296 := Nat.xor_lt_two_pow (n := 32) hh (by omega)
      have hcb : crcByte s c = crcIter 8 (s ^^^ c.toNat) := rfl
      rw [hcb] at hsu
      generalize s ^^^ c.toNat = r at *
      have Hsu := Lib.hid hsu
      clear hsu hcb hc
      go_wp2
      clear q1 ck
      go_loop [3, 6] (fun s i => CrcIn r s i) (fun _ i => 8 - (intOf i).toNat)
      case atStart => exact ⟨0, rfl, Nat.zero_le _, rfl⟩
      case round =>
        obtain ⟨i, rfl, hi, rfl⟩ := hrel
        have hsi := crcIter_lt i hr
        have hsc := crcIter_succ i r
        by_cases hi8 : i < 8
        · have hi8' : (i : Int) < 8 := by omega
          generalize crcIter i r = q at *
          have Hsc := Lib.hid hsc
          clear hsc
          by_cases hodd : q % 2 = 1
          · have ho : (((q : Int) % 2) == 1) = true := by simp; omega
            have hb := bit_odd q hsi hodd
            clear hodd
            go_wp2
            exact ⟨⟨i + 1, by go_num, by omega, by rw [Hsc.out]⟩, by simp [intOf]; omega⟩
          · have ho : (((q : Int) % 2) == 1) = false := by simp; omega
            have hb := bit_even q hodd
            clear hodd
            go_wp2
            exact ⟨⟨i + 1, by go_num, by omega, by rw [Hsc.out]⟩, by simp [intOf]; omega⟩
        · obtain rfl : i = 8 := by omega
          clear hsc
          go_wp2
          exact ⟨⟨k + 1, by go_num, by rw [Hl.out]; omega, by rw [Hsu.out]⟩, by simp [intOf]; omega⟩
    · obtain rfl : n = k := by omega
      have hlt' : ¬ ((n : Int) < n) := by omega
      have e : List.take n l = l := List.take_of_length_le (by rw [Hl.out]; exact Nat.le_refl _)
      have E := Lib.hid e
      have hs := foldCrc_lt l 4294967295 (by decide)
      have hn := u32_xor_nat _ 4294967295 hs (by decide)
      have Hn := Lib.hid hn
      clear e hn hs
      go_wp2
      go_ret
      rw [E.out]
      refine ⟨?_, rfl⟩
      exact congrArg (fun z => Ending.returned (.int .u32 z)) Hn.out

def FourPost (w : World) (N : Nat) (e : Ending) (w' : World) : Prop :=
  e = .returned (.slice (some ⟨w.heap.size, 0, none⟩) 4 4) ∧ Fresh w.heap.size w' 5 1 (.slice (some ⟨w.heap.size, 0, none⟩) 4 4) 4 (bcells (be4 N)) ∧ Below w.heap.size w w'

set_option maxRecDepth 100000 in
set_option maxHeartbeats 1000000 in
theorem four_any (w : World) (N : Nat) (hN : N < 4294967296) :
    Calls Tryd.prog 24 #[.int .u32 N] w (FourPost w N) := by
  have e4 : #[Value.int .u8 ((N : Int) / 16777216), .int .u8 ((N : Int) / 65536 % 256), .int .u8 ((N : Int) / 256 % 256), .int .u8 ((N : Int) % 256)] = (bcells (be4 N)).toArray := by
    simp [bcells, be4]
    omega
  have E4 := Lib.hid e4
  clear e4
  go_enter Tryd.func24, Tryd.ntmps24
  go_wp2
  go_ret
  refine ⟨rfl, ?_, (Below.refl _ _).alloc (Nat.le_refl _) _⟩
  rw [E4.out]
  exact ⟨lits_read w (be4 N) 4 (0, 0) rfl (by decide), .inl ⟨_, rfl⟩⟩
end Go.Proofs.YtoibhkmlebcepaaDoor

namespace Go.Proofs.YtoibhkmlebcepaaDoor
open Go Go.RowKit

set_option maxRecDepth 100000 in
set_option maxHeartbeats 1000000 in
theorem refseal_any (w : World) (v : Value) (n : Nat) (l : List UInt8) (h : Reads w 1 v n (bcells l)) (hn : n ≤ 100000000) :
    Calls Tryd.prog 11 #[v] w (GivesBytes w (sealL l)) := by
  obtain ⟨i0, hi, hz0, hz1, hz2⟩ := info_parts info5
  obtain ⟨a, cap, rfl, h1, h2⟩ := h.le
  unfold maxLen at h2
  have hl : l.length = n := by have := h.1; simpa [bcells_length] using this
  have h9 : sealL l = be4 n ++ be4 (sumL l) ++ l := by rw [sealL, hl]
  have hsl := sealL_length l
  have hsum := sumL_lt l
  rw [hl] at hsl
  have Hsl := Lib.hid hsl
  have H9 := Lib.hid h9
  have HR := Lib.hid h
  clear h hl hsl h9
  go_enter Tryd.func11, Tryd.ntmps11
  go_wp2_with (go_at_call 24; go_must (refine (four_any w n (by omega)).mono ?_))
  rintro e w1 ⟨rfl, f1, b1⟩
  have r1 := HR.out.below' b1
  have bs1 := b1.size
  go_wp2_with (go_at_call 25; go_must (refine (refsum_any w1 _ n l r1).mono ?_))
  rintro e w2 ⟨rfl, rfl⟩
  go_wp2_with (go_at_call 24; go_must (refine (four_any w1 (sumL l) hsum).mono ?_))
  rintro e w3 ⟨rfl, f3, b3⟩
  have f13 := f1.grown (row := none) ⟨b3.os, b3.tape, b3.output, b3.size, fun k hk _ => b3.block k hk⟩ (.inr (by simp [Value.ownBlock]))
  have bs3 := b3.size
  have hsrc := Reads.src (P := Tryd.prog) (tx := 28) Tryd.underlying28 f3.1 (bcells_one (be4 (sumL l)))
  have b13 : Below w.heap.size w w3 := b1.trans (b3.mono bs1)
  clear f1 f3 r1 b1 b3
  go_wp2_with (at_builtin; go_must (refine wpList_append_fresh rfl _ _ 28 28 rfl w.heap.size 5 i0 (.int .u8 0) 1 1 Tryd.underlying28 hi hz0 hz1 hz2 rfl _ _ _ rfl f13 _ _ _ rfl hsrc ?_ ?_ ?_ ?_))
  · unfold maxLen; omega
  · omega
  · omega
  intro v4 w4 f4 g4 b4 m4
  rw [← bcells_append] at f4
  have b14 := b13.trans b4
  have r4 := HR.out.below' b14
  have hsrc2 := Reads.src (P := Tryd.prog) (tx := 28) Tryd.underlying28 r4 (bcells_one l)
  have bs4 := b4.size
  clear f13 hsrc r4 g4 m4 b13 b4
  go_wp2_with (at_builtin; go_must (refine wpList_append_fresh rfl _ _ 28 28 rfl w.heap.size 5 i0 (.int .u8 0) 1 1 Tryd.underlying28 hi hz0 hz1 hz2 rfl _ _ _ rfl f4 _ _ _ rfl hsrc2 ?_ ?_ ?_ ?_))
  · unfold maxLen; omega
  · omega
  · omega
  intro v5 w5 f5 g5 b5 m5
  rw [← bcells_append] at f5
  have b15 := b14.trans b5
  have F5 := Lib.hid f5
  clear f4 hsrc2 f5 g5 m5 b5 b14
  go_wp2
  go_ret
  refine ⟨_, rfl, ?_, b15⟩
  rw [Hsl.out, H9.out]
  exact F5.out
end Go.Proofs.YtoibhkmlebcepaaDoor
