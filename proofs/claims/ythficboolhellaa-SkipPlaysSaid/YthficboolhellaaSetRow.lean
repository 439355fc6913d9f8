/- A row stored whole. -/
import Derived.Test.YthficboolhellaaBase
namespace Go.Proofs.Ythficboolhellaa
open Go Go.RowKit

theorem Below.setRow {B : Nat} {a w : World} (h : Below B a w) {g : Nat} (hp : B ≤ g) (cs : Array Value) : Below B a (w.setRow g cs) :=
  h.trans ⟨rfl, rfl, rfl, by simp, fun k hk => by
    unfold World.setRow
    simp only [Array.getElem?_modify]
    rw [if_neg (by omega)]⟩
end Go.Proofs.Ythficboolhellaa
