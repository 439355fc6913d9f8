/- A region that draws its order and ends in one operation that waits for all others: facts for the others, then that one. -/
import Derived.Test.YtbhapbioibhalaaDrawnInv
import Derived.Test.YtbhapbioibhalaaDrawnAct
namespace Go.Proofs.Ytbhapbioibhalaa
open Go Go.RowKit

section
variable {P : Program} {id : Nat} {l : List Oper} {z : Oper} {Q : Exit → Act → World → Prop} {a0 : Act} {w0 : World}

structure InvL (l : List Oper) (F : Nat → Value → World → Prop) (a0 : Act) (w0 : World) (L : Nat → Bool) (a : Act) (w : World) : Prop where
  defers : a.defers = a0.defers
  size : a.tmps.size = a0.tmps.size
  like : Like l a0 a.eval
  below : Below w0.heap.size w0 w
  facts : ∀ i o d, l[i]? = some o → o.dst = some d → L i = true → F i (a.tmps.getD d undef) w

theorem last_at {i : Nat} {o : Oper} (h : (l ++ [z])[i]? = some o) : (i < l.length ∧ l[i]? = some o) ∨ (i = l.length ∧ o = z) := by
  by_cases hi : i < l.length
  · left
    rw [List.getElem?_append_left hi] at h
    exact ⟨hi, h⟩
  · right
    rw [List.getElem?_append_right (by omega)] at h
    have h1 : i - l.length = 0 := by
      have := (List.getElem?_eq_some_iff.1 h).1
      simp at this
      omega
    rw [h1] at h
    simp at h
    exact ⟨by omega, h.symm⟩

theorem in_l {i : Nat} {o : Oper} (h : l[i]? = some o) : (l ++ [z])[i]? = some o := by
  rw [List.getElem?_append_left (List.getElem?_eq_some_iff.1 h).1]
  exact h

theorem InvL.step {F : Nat → Value → World → Prop} (hF : ∀ i v w w', F i v w → Below w.heap.size w w' → F i v w') (hok : drawnOk (l ++ [z]) a0.tmps.size = true)
    {L L' : Nat → Bool} {a : Act} {w w' : World} (h : InvL l F a0 w0 L a w) {i : Nat} {o : Oper} (hi : l[i]? = some o) {v : Value} (hv : F i v w') (hb : Below w.heap.size w w')
    (hL : ∀ k, L' k = if k = i then true else L k) : InvL l F a0 w0 L' (a.put o.dst v) w' := by
  obtain ⟨_, h2, _⟩ := drawnOk_at hok (in_l (z := z) hi)
  refine ⟨?_, ?_, ⟨fun c => rfl, fun f => rfl, fun k hk => ?_⟩, h.below.trans (hb.mono h.below.size), fun j o' d hj hd hl => ?_⟩
  · cases o.dst <;> exact h.defers
  · cases hd : o.dst with
    | none => exact h.size
    | some d => simpa [Act.put] using h.size
  · show (a.put o.dst v).tmps.getD k undef = _
    cases hd : o.dst with
    | none => exact h.like.tmp k hk
    | some d =>
      have hne : k ≠ d := by
        have := List.all_eq_true.1 hk o (List.mem_of_getElem? hi)
        simp [hd] at this
        exact fun e => this e.symm
      rw [getD_put hne]
      exact h.like.tmp k hk
  · by_cases hji : j = i
    · subst hji
      rw [hi] at hj
      cases hj
      obtain ⟨h3, _⟩ := h2 d hd
      rw [hd, getD_put_same (by rw [h.size]; exact h3)]
      exact hv
    · have hl' : L j = true := by
        have := hL j
        rw [if_neg hji] at this
        rw [← this]
        exact hl
      have := hF _ _ _ _ (h.facts j o' d hj hd hl') hb
      cases hdo : o.dst with
      | none => exact this
      | some d' =>
        have hne : d ≠ d' := by
          intro e
          subst e
          exact (h2 d hdo).2 j o' (in_l hj) hji hd
        rw [getD_put hne]
        exact this

def waitsAll (l : List Oper) (z : Oper) : Bool := (List.range l.length).all fun j => z.after.any fun e => Region.binds .any e && e.on == j

theorem wp_region_last (hm : P.follows .mixedOrders = true) (fs : List SlotFact) (hok : drawnOk (l ++ [z]) a0.tmps.size = true) (hung : (l ++ [z]).all (·.guard.isNone) = true) (hz : waitsAll l z = true)
    (hop : AllFrom (OpGoal P l fs a0 w0) 0 l)
    (hend : ∀ a w, a.defers = a0.defers → a.tmps.size = a0.tmps.size → Like l a0 a.eval → Below w0.heap.size w0 w → (∀ (i : Nat) (o : Oper) (d : Nat), l[i]? = some o → o.dst = some d → factsOf fs i (a.tmps.getD d undef) w) → z.wp P a w (fun a' w' => Q .normal a' w') Q) :
    (Code.region id (l ++ [z]).toArray true).wp P Q a0 w0 := by
  refine wp_region_inv hm hok hung (fun L a w => (L l.length = true ∧ (∀ i, i < l.length → L i = true) ∧ Q .normal a w) ∨ (L l.length = false ∧ InvL l (factsOf fs) a0 w0 L a w)) (fun L hL => ?_) (fun i o hi L a w hLi hprev hJ => ?_) (fun L a w hL hJ => ?_)
  · refine .inr ⟨hL _ (by simp), rfl, rfl, ⟨fun _ => rfl, fun _ => rfl, fun _ _ => rfl⟩, ⟨rfl, rfl, rfl, Nat.le_refl _, fun _ _ => rfl⟩, fun i o d hi _ hl => ?_⟩
    rw [hL i (by have := (List.getElem?_eq_some_iff.1 hi).1; simp; omega)] at hl
    cases hl
  · rcases last_at hi with ⟨hlt, hio⟩ | ⟨rfl, rfl⟩
    · rcases hJ with ⟨_, h2, _⟩ | ⟨hn, hinv⟩
      · rw [h2 i hlt] at hLi
        cases hLi
      · have hg := hop.at i o hio
        rw [Nat.zero_add] at hg
        have hleans : Leans l (factsOf fs) o a.eval w := by
          intro j hj d hd
          obtain ⟨oj, hoj, hdj⟩ := Option.bind_eq_some_iff.1 hd
          exact hinv.facts j oj d hoj hdj (hprev j hj)
        refine wp_of_yields (hg a.eval w hinv.like hinv.below hleans) fun v w' hv L' hL' => .inr ⟨?_, hinv.step (factsOf_stable fs) hok hio hv.1 hv.2 hL'⟩
        rw [hL' l.length, if_neg (by omega)]
        exact hn
    · rcases hJ with ⟨h1, _, _⟩ | ⟨hn, hinv⟩
      · rw [h1] at hLi
        cases hLi
      · have hall : ∀ i, i < l.length → L i = true := fun j hj => hprev j (List.all_eq_true.1 hz j (List.mem_range.2 hj))
        refine Oper.wp_mono (fun a' w' hq L' hL' => .inl ⟨?_, fun j hj => ?_, hq⟩) (hend a w hinv.defers hinv.size hinv.like hinv.below fun i o d hi hd => hinv.facts i o d hi hd (hall i (List.getElem?_eq_some_iff.1 hi).1))
        · rw [hL' l.length, if_pos rfl]
        · rw [hL' j, if_neg (by omega)]
          exact hall j hj
  · rcases hJ with ⟨_, _, hq⟩ | ⟨hn, _⟩
    · exact hq
    · rw [hL l.length (by simp)] at hn
      cases hn
end

/-- the slot holds the address of a new row of cells -/
def boxF (B : Nat) (cs : Array Value) (t : TypeId) : SlotFact := ⟨fun v w => ∃ g, v = .pointer (some ⟨g, 0, none⟩) ∧ B ≤ g ∧ w.heap[g]? = some (.cells cs t (0, 0)),
  fun _ _ _ ⟨g, h1, h2, h3⟩ hb => ⟨g, h1, h2, (hb.block g (Array.getElem?_eq_some_iff.1 h3).1).trans h3⟩⟩

/-- the slot holds a slice of a row of its own -/
def rowF (n : Nat) (xs : List Value) : SlotFact := ⟨fun v w => ∃ g, v = .slice (some ⟨g, 0, none⟩) n n ∧ Reads w 1 (.slice (some ⟨g, 0, none⟩) n n) n xs,
  fun _ _ _ ⟨g, h1, h2⟩ hb => ⟨g, h1, h2.below' hb⟩⟩

theorem y_new' {P : Program} {ρ : Operand → Value} {o : Oper} {w w' : World} {v : Value} {p : Value → World → Prop} (h : (execOp ρ o).run P w = .ok (.value v) w') (hp : p v w') (hb : Below w.heap.size w w') : YieldsP P ρ o w (fun u w' => p u w' ∧ Below w.heap.size w w') := by
  unfold YieldsP
  rw [h]
  exact ⟨hp, hb⟩
end Go.Proofs.Ytbhapbioibhalaa
