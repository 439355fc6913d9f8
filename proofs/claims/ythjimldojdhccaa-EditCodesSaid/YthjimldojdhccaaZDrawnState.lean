/- A region that draws its order and whose calls write: the values of its slots are known, the world is told by which operations have been carried out. -/
import Derived.Test.YthjimldojdhccaaMga
namespace Go.Proofs.Ythjimldojdhccaa
open Go Go.RowKit

def setL (L : Nat → Bool) (i : Nat) : Nat → Bool := fun k => if k = i then true else L k

section
variable {P : Program} {id : Nat} {l : List Oper} {Q : Exit → Act → World → Prop} {a0 : Act} {w0 : World}

/-- what o leans on has been carried out -/
def Done (o : Oper) (L : Nat → Bool) : Prop := ∀ j, (o.after.any fun e => Region.binds .any e && e.on == j) = true → L j = true

/-- the slots that o leans on hold what is told of them -/
def Holds (l : List Oper) (vs : List Value) (o : Oper) (ρ : Operand → Value) : Prop :=
  ∀ j, (o.after.any fun e => Region.binds .any e && e.on == j) = true → ∀ d, (l[j]?).bind (·.dst) = some d → ρ (.tmp d) = (vs[j]?).getD undef

def StGoal (P : Program) (l : List Oper) (vs : List Value) (a0 : Act) (I : (Nat → Bool) → World → Prop) (i : Nat) (o : Oper) : Prop :=
  ∀ ρ w L, Like l a0 ρ → L i = false → Done o L → Holds l vs o ρ → I L w → YieldsP P ρ o w (fun v w' => v = (vs[i]?).getD undef ∧ I (setL L i) w')

structure StInv (l : List Oper) (vs : List Value) (a0 : Act) (I : (Nat → Bool) → World → Prop) (L : Nat → Bool) (a : Act) (w : World) : Prop where
  defers : a.defers = a0.defers
  size : a.tmps.size = a0.tmps.size
  like : Like l a0 a.eval
  vals : ∀ i o d, l[i]? = some o → o.dst = some d → L i = true → a.tmps.getD d undef = (vs[i]?).getD undef
  inv : I L w

theorem wp_region_state (hm : P.follows .mixedOrders = true) (vs : List Value) (hok : drawnOk l a0.tmps.size = true) (hung : l.all (·.guard.isNone) = true) (I : (Nat → Bool) → World → Prop)
    (h0 : ∀ L : Nat → Bool, (∀ i, i < l.length → L i = false) → I L w0.drew) (hop : AllFrom (StGoal P l vs a0 I) 0 l)
    (hend : ∀ a w L, a.defers = a0.defers → a.tmps.size = a0.tmps.size → Like l a0 a.eval → (∀ i, i < l.length → L i = true) → I L w → (∀ (i : Nat) (o : Oper) (d : Nat), l[i]? = some o → o.dst = some d → a.tmps.getD d undef = (vs[i]?).getD undef) → Q .normal a w) :
    (Code.region id l.toArray true).wp P Q a0 w0 := by
  refine wp_region_inv hm hok hung (StInv l vs a0 I) (fun L hL => ?_) (fun i o hi L a w hLi hd h => ?_) (fun L a w hL h => ?_)
  · refine ⟨rfl, rfl, ⟨fun _ => rfl, fun _ => rfl, fun _ _ => rfl⟩, fun i o d hi _ hl => ?_, h0 L hL⟩
    rw [hL i (List.getElem?_eq_some_iff.1 hi).1] at hl
    cases hl
  · have hg := hop.at i o hi
    rw [Nat.zero_add] at hg
    have hho : Holds l vs o a.eval := by
      intro j hj d hdj
      obtain ⟨oj, hoj, hdst⟩ := Option.bind_eq_some_iff.1 hdj
      exact h.vals j oj d hoj hdst (hd j hj)
    refine wp_of_yields (hg a.eval w L h.like hLi hd hho h.inv) fun v w' hv => ?_
    obtain ⟨rfl, hI⟩ := hv
    intro L' hL'
    obtain rfl : L' = setL L i := funext hL'
    obtain ⟨_, h2, _⟩ := drawnOk_at hok hi
    refine ⟨?_, ?_, ⟨fun c => rfl, fun f => rfl, fun k hk => ?_⟩, fun j o' d hj hdj hl => ?_, hI⟩
    · cases o.dst <;> exact h.defers
    · cases hdd : o.dst with
      | none => exact h.size
      | some d => simpa [Act.put] using h.size
    · show (a.put o.dst _).tmps.getD k undef = _
      cases hdd : o.dst with
      | none => exact h.like.tmp k hk
      | some d =>
        have hne : k ≠ d := by
          have := List.all_eq_true.1 hk o (List.mem_of_getElem? hi)
          simp [hdd] at this
          exact fun e => this e.symm
        rw [getD_put hne]
        exact h.like.tmp k hk
    · by_cases hji : j = i
      · subst hji
        rw [hi] at hj
        cases hj
        obtain ⟨h3, _⟩ := h2 d hdj
        rw [hdj, getD_put_same (by rw [h.size]; exact h3)]
      · have hl' : L j = true := by
          unfold setL at hl
          rwa [if_neg hji] at hl
        have hv := h.vals j o' d hj hdj hl'
        cases hdo : o.dst with
        | none => exact hv
        | some d' =>
          have hne : d ≠ d' := by
            intro e
            subst e
            exact (h2 d hdo).2 j o' hj hji hdj
          rw [getD_put hne]
          exact hv
  · exact hend a w L h.defers h.size h.like hL h.inv (fun i o d hi hd => h.vals i o d hi hd (hL i (List.getElem?_eq_some_iff.1 hi).1))

theorem s_val {ρ : Operand → Value} {o : Oper} {w : World} {v x : Value} {J : World → Prop} (h : (execOp ρ o).run P w = .ok (.value v) w) (hv : v = x) (hJ : J w) : YieldsP P ρ o w (fun u w' => u = x ∧ J w') := by
  unfold YieldsP
  rw [h]
  exact ⟨hv, hJ⟩

theorem s_call {ρ : Operand → Value} {o : Oper} {w : World} {f : FuncId} {args : Array Value} {x : Value} {J : World → Prop} (h : (execOp ρ o).run P w = .ok (.enter f args) w) (hc : Calls P f args w fun e w'' => e = .returned x ∧ J w'') : YieldsP P ρ o w (fun u w' => u = x ∧ J w') := by
  unfold YieldsP
  rw [h]
  exact hc.mono fun e w' ⟨he, hj⟩ => ⟨x, he, rfl, hj⟩
end
end Go.Proofs.Ythjimldojdhccaa
