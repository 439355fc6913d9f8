/- A region that draws its order, some of whose guarded operations are not carried out. -/
import Derived.Test.YthjimldojdhccaaDrawn
namespace Go.Proofs.Ythjimldojdhccaa
open Go Go.RowKit

section
variable {P : Program} {id : Nat} {l : List Oper} {Q : Exit → Act → World → Prop} {a0 : Act} {w0 : World}

theorem on_goal {c : Prop} [Decidable c] {A B : Prop} (h : ¬ c) (hb : B) : if c then A else B := by rw [if_neg h]; exact hb
theorem off_goal {c : Prop} [Decidable c] {A B : Prop} (h : c) (hb : A) : if c then A else B := by rw [if_pos h]; exact hb

/-- THE REGION: the operations of the list `off` are not carried out. -/
theorem wp_region_some (hm : P.follows .mixedOrders = true) (off : List Nat) (fs : List SlotFact) (hok : drawnOk l a0.tmps.size = true)
    (hop : AllFrom (fun i o => if off.contains i = true then ∀ w, factsOf fs i undef w else OpGoal P l fs a0 w0 i o) 0 l)
    (hguard : AllFrom (fun i o => match o.guard with | none => off.contains i = false | some (j, b) => ∀ v w, factsOf fs j v w → v = .bool (b != off.contains i)) 0 l)
    (hend : ∀ a w, a.defers = a0.defers → a.tmps.size = a0.tmps.size → Like l a0 a.eval → Below w0.heap.size w0 w → (∀ (i : Nat) (o : Oper) (d : Nat), l[i]? = some o → o.dst = some d → factsOf fs i (a.tmps.getD d undef) w) → Q .normal a w) :
    (Code.region id l.toArray true).wp P Q a0 w0 := by
  refine wp_region_facts hm (factsOf_stable fs) hok (fun i => !off.contains i) (fun i o hi ρ w h1 h2 h3 => ?_) (fun i o hi => ?_) hend
  · have := hop.at i o hi
    rw [Nat.zero_add] at this
    cases hc : off.contains i with
    | true =>
      rw [hc] at this
      simpa using this w
    | false =>
      rw [hc] at this
      have h4 : OpGoal P l fs a0 w0 i o := by simpa using this
      simpa using h4 ρ w h1 h2 h3
  · have := hguard.at i o hi
    rw [Nat.zero_add] at this
    cases hg : o.guard with
    | none =>
      simp only [hg] at this ⊢
      rw [this]
      rfl
    | some jb =>
      obtain ⟨j, b⟩ := jb
      simp only [hg] at this ⊢
      intro v w hv
      refine ⟨_, this v w hv, ?_⟩
      cases b <;> cases off.contains i <;> rfl
end
end Go.Proofs.Ythjimldojdhccaa
