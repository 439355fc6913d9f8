/- A region that draws its order and whose calls write: facts on its slots, and the world told by which operations have been carried out. -/
import Derived.Test.YthjimldojdhccaaZDrawnState
namespace Go.Proofs.Ythjimldojdhccaa
open Go Go.RowKit

section
variable {P : Program} {id : Nat} {l : List Oper} {Q : Exit → Act → World → Prop} {a0 : Act} {w0 : World}

def sfAt (fs : List (Value → World → Prop)) (i : Nat) : Value → World → Prop := (fs[i]?).getD fun _ _ => True

def SfHolds (l : List Oper) (fs : List (Value → World → Prop)) (o : Oper) (ρ : Operand → Value) (w : World) : Prop :=
  ∀ j, (o.after.any fun e => Region.binds .any e && e.on == j) = true → ∀ d, (l[j]?).bind (·.dst) = some d → sfAt fs j (ρ (.tmp d)) w

def SfGoal (P : Program) (l : List Oper) (fs : List (Value → World → Prop)) (a0 : Act) (I : (Nat → Bool) → World → Prop) (R : World → World → Prop) (i : Nat) (o : Oper) : Prop :=
  ∀ ρ w L, Like l a0 ρ → L i = false → Done o L → SfHolds l fs o ρ w → I L w → YieldsP P ρ o w (fun v w' => sfAt fs i v w' ∧ I (setL L i) w' ∧ R w w')

structure SfInv (l : List Oper) (fs : List (Value → World → Prop)) (a0 : Act) (I : (Nat → Bool) → World → Prop) (L : Nat → Bool) (a : Act) (w : World) : Prop where
  defers : a.defers = a0.defers
  size : a.tmps.size = a0.tmps.size
  like : Like l a0 a.eval
  vals : ∀ i o d, l[i]? = some o → o.dst = some d → L i = true → sfAt fs i (a.tmps.getD d undef) w
  inv : I L w

theorem wp_region_sf (hm : P.follows .mixedOrders = true) (fs : List (Value → World → Prop)) (hok : drawnOk l a0.tmps.size = true) (hung : l.all (·.guard.isNone) = true) (I : (Nat → Bool) → World → Prop) (R : World → World → Prop)
    (hst : ∀ i v w w', sfAt fs i v w → R w w' → sfAt fs i v w')
    (h0 : ∀ L : Nat → Bool, (∀ i, i < l.length → L i = false) → I L w0.drew) (hop : AllFrom (SfGoal P l fs a0 I R) 0 l)
    (hend : ∀ a w L, a.defers = a0.defers → a.tmps.size = a0.tmps.size → Like l a0 a.eval → (∀ i, i < l.length → L i = true) → I L w → (∀ (i : Nat) (o : Oper) (d : Nat), l[i]? = some o → o.dst = some d → sfAt fs i (a.tmps.getD d undef) w) → Q .normal a w) :
    (Code.region id l.toArray true).wp P Q a0 w0 := by
  refine wp_region_inv hm hok hung (SfInv l fs a0 I) (fun L hL => ?_) (fun i o hi L a w hLi hd h => ?_) (fun L a w hL h => ?_)
  · refine ⟨rfl, rfl, ⟨fun _ => rfl, fun _ => rfl, fun _ _ => rfl⟩, fun i o d hi _ hl => ?_, h0 L hL⟩
    rw [hL i (List.getElem?_eq_some_iff.1 hi).1] at hl
    cases hl
  · have hg := hop.at i o hi
    rw [Nat.zero_add] at hg
    have hho : SfHolds l fs o a.eval w := by
      intro j hj d hdj
      obtain ⟨oj, hoj, hdst⟩ := Option.bind_eq_some_iff.1 hdj
      exact h.vals j oj d hoj hdst (hd j hj)
    refine wp_of_yields (hg a.eval w L h.like hLi hd hho h.inv) fun v w' hv => ?_
    obtain ⟨hf, hI, hR⟩ := hv
    intro L' hL'
    obtain rfl : L' = setL L i := funext hL'
    obtain ⟨_, h2, _⟩ := drawnOk_at hok hi
    refine ⟨?_, ?_, ⟨fun c => rfl, fun f => rfl, fun k hk => ?_⟩, fun j o' d hj hdj hl => ?_, hI⟩
    · cases o.dst <;> exact h.defers
    · cases hdd : o.dst with
      | none => exact h.size
      | some d => simpa [Act.put] using h.size
    · show (a.put o.dst _).tmps.getD k undef = _
      cases hdd : o.dst with
      | none => exact h.like.tmp k hk
      | some d =>
        have hne : k ≠ d := by
          have := List.all_eq_true.1 hk o (List.mem_of_getElem? hi)
          simp [hdd] at this
          exact fun e => this e.symm
        rw [getD_put hne]
        exact h.like.tmp k hk
    · by_cases hji : j = i
      · subst hji
        rw [hi] at hj
        cases hj
        obtain ⟨h3, _⟩ := h2 d hdj
        rw [hdj, getD_put_same (by rw [h.size]; exact h3)]
        exact hf
      · have hl' : L j = true := by
          unfold setL at hl
          rwa [if_neg hji] at hl
        have hv := hst _ _ _ _ (h.vals j o' d hj hdj hl') hR
        cases hdo : o.dst with
        | none => exact hv
        | some d' =>
          have hne : d ≠ d' := by
            intro e
            subst e
            exact (h2 d hdo).2 j o' hj hji hdj
          rw [getD_put hne]
          exact hv
  · exact hend a w L h.defers h.size h.like hL h.inv (fun i o d hi hd => h.vals i o d hi hd (hL i (List.getElem?_eq_some_iff.1 hi).1))

theorem f_val {ρ : Operand → Value} {o : Oper} {w : World} {v : Value} {p : Value → World → Prop} {J R : World → Prop} (h : (execOp ρ o).run P w = .ok (.value v) w) (hv : p v w) (hJ : J w) (hR : R w) : YieldsP P ρ o w (fun u w' => p u w' ∧ J w' ∧ R w') := by
  unfold YieldsP
  rw [h]
  exact ⟨hv, hJ, hR⟩

theorem f_call {ρ : Operand → Value} {o : Oper} {w : World} {f : FuncId} {args : Array Value} {p : Value → World → Prop} {J R : World → Prop} (h : (execOp ρ o).run P w = .ok (.enter f args) w) (hc : Calls P f args w fun e w'' => ∃ v, e = .returned v ∧ p v w'' ∧ J w'' ∧ R w'') : YieldsP P ρ o w (fun u w' => p u w' ∧ J w' ∧ R w') := by
  unfold YieldsP
  rw [h]
  exact hc

theorem f_store_row {ρ : Operand → Value} {o : Oper} {w : World} {p : Value → World → Prop} {J R : World → Prop} (ty : TypeId) (x y : Operand) (ho : o.op = .store ty x y) (g : Nat) (cells : Array Value) (hx : ρ x = .pointer (some ⟨g, 0, none⟩)) (hy : ρ y = .agg cells)
    (t : TypeId) (old : Array Value) (hg : w.heap[g]? = some (.cells old t (0, 0))) (hi : (P.info? ty).map (·.size) = some cells.size) (hold : old.size = cells.size) (h1 : cells.all (·.oneCell') = true) (hp : p undef (w.setRow g cells)) (hJ : J (w.setRow g cells)) (hR : R (w.setRow g cells)) : YieldsP P ρ o w (fun u w' => p u w' ∧ J w' ∧ R w') := by
  unfold YieldsP execOp
  simp only [ho, hx, hy, Instr.storeAt, Instr.sureAddr, Sem.run_bind, Sem.run_pure, Result.andThen_ok, run_storeVar_row w g t ty old cells hg hi hold h1]
  exact ⟨hp, hJ, hR⟩
end
end Go.Proofs.Ythjimldojdhccaa
