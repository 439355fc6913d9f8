/- The parser: a rule, with so many brackets to go. -/
import Derived.Test.YtopnldebekhelaaDoorZSchOne2
import Derived.Test.YtopnldebekhelaaDoorZSchBoth
import Derived.Test.YtopnldebekhelaaDoorZSchRule
namespace Go.Proofs.YtopnldebekhelaaDoor
open Go Go.RowKit

theorem one_ok : ∀ (n : Nat), n ≤ 8 → ∀ (W : World) (g : Nat) (T : List ByteArray), PAt W g T (8 - n) false → wtT T ≤ 600000 → Calls Tryd.prog 71 #[.pointer (some ⟨g, 0, none⟩)] W (RuPost W g T (8 - n) (oneF n T))
  | 0, hn => pone_any 0 (pbrackets_any 0 hn (inF_ok 0) (fun h => absurd h (by decide)))
  | n + 1, hn => pone_any (n + 1) (pbrackets_any (n + 1) hn (inF_ok (n + 1)) (fun _ => by
      have e : (8 : Int) - ((n + 1 : Nat) : Int) + 1 = 8 - (n : Int) := by omega
      rw [e]
      exact prule_any (oneF n) (oneF_ok n) (oneF_len n) (8 - n) (pboth_any (oneF n) (oneF_ok n) (oneF_len n) (8 - n) (one_ok n (by omega)))))

/-- A rule is read. -/
theorem prule_ok (W : World) (g : Nat) (T : List ByteArray) (h : PAt W g T 0 false) (hT : wtT T ≤ 600000) : Calls Tryd.prog 44 #[.pointer (some ⟨g, 0, none⟩)] W (RuPost W g T 0 (ruleF 8 T)) := by
  have := prule_any (oneF 8) (oneF_ok 8) (oneF_len 8) (8 - (8 : Nat)) (pboth_any (oneF 8) (oneF_ok 8) (oneF_len 8) (8 - (8 : Nat)) (one_ok 8 (Nat.le_refl _))) W g T h hT
  exact this
end Go.Proofs.YtopnldebekhelaaDoor
