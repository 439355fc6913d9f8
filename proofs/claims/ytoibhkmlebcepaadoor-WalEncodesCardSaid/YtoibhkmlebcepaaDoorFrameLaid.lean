/- What the listed table of steps gives the walks. -/
import Derived.Test.YtoibhkmlebcepaaDoorFrameSum
import Derived.ProofKit
import Derived.LaidMore
import Derived.OpenShut
import Derived.Stop.Joined
namespace Go.Proofs.YtoibhkmlebcepaaDoor
open Go Go.ChangeShapes Go.WideShapes Go.ChangeAt Go.WideMaps Go.WideElems Go.RowKit

noncomputable def laidL : List (String × DataW Unit) := [("sentry/frame.steps", Rows.laid_sentry_frame_steps)]

theorem gSteps : Tryd.prog.globalNamed "sentry/frame.steps" = some 0 := by kernel_rfl
theorem tSteps : (Tryd.prog.globals[0]?).map (·.type) = some 70 := by kernel_rfl

theorem steps_door_met (os : Os) (args : Array Value) : laidMetH Tryd.prog laidL ((World.doorLaid Tryd.prog 100 os).forCall (fun _ _ => 0) ⟨#[], args, []⟩).memory :=
  laidMetH_of_parts3 (fuel := 8) (laidMet_of_run' 8 (by kernel_rfl) (by kernel_rfl)) (by kernel_rfl) (by kernel_rfl)

theorem laid_at {H : Type} (l : List (DataW H)) (h : (Rows.laid_sentry_frame_steps : DataW H) = .agg l) (i : Nat) (hi : i < 16) : l[i]? = some (.lit (.int .u32 (stepsT.getD i 0 : Int))) := by
  unfold Rows.laid_sentry_frame_steps at h
  cases h
  have hc : i = 0 ∨ i = 1 ∨ i = 2 ∨ i = 3 ∨ i = 4 ∨ i = 5 ∨ i = 6 ∨ i = 7 ∨ i = 8 ∨ i = 9 ∨ i = 10 ∨ i = 11 ∨ i = 12 ∨ i = 13 ∨ i = 14 ∨ i = 15 := by omega
  rcases hc with rfl | rfl | rfl | rfl | rfl | rfl | rfl | rfl | rfl | rfl | rfl | rfl | rfl | rfl | rfl | rfl <;> rfl

theorem steps_of_laid {W : World} (h : laidMetH Tryd.prog laidL W) : Steps W := by
  rw [MakeChecks.laidMetH_plain _ _ _ (by kernel_rfl)] at h
  obtain ⟨ps, ⟨g0, t0, cs0, f0, p0, q0, hg0, ht0, hv0, hd0, _, _⟩, _⟩ := h
  obtain rfl := Option.some.inj (gSteps.symm.trans hg0)
  obtain rfl := Option.some.inj (tSteps.symm.trans ht0)
  obtain ⟨xs, m1, rfl, hx1, hlen, hn, hel⟩ := DataW.trod_array Tryd.underlying70 hd0
  have c1 : Tryd.prog.cellsOf 53 = 1 := by kernel_rfl
  have c16 : Tryd.prog.cellsOf 70 = 16 := by kernel_rfl
  rw [c16] at hlen
  simp only [Prod.mk.injEq] at hx1
  have hcell : ∀ i, i < 16 → W.cell? ⟨0, i, none⟩ = some (.int .u32 (stepsT.getD i 0 : Int)) := by
    intro i hi
    have h1 := hel i hi
    rw [c1, Nat.mul_one] at h1
    have hxi : xs[i]? = some (xs[i]'(by omega)) := List.getElem?_eq_getElem (by omega)
    rw [hxi] at h1
    have hci : (cs0.toList.drop i).take 1 = [cs0.toList[i]'(by omega)] := by
      rw [List.drop_eq_getElem_cons (by omega)]
      rfl
    rw [hci] at h1
    obtain ⟨k, e1, e2, _⟩ := DataW.trod_int Tryd.underlying53 h1
    have h2 := laid_at (xs.map (·.1)) hx1.1 i hi
    rw [List.getElem?_map, hxi, Option.map_some, e2] at h2
    have hk : k = (stepsT.getD i 0 : Int) := by simpa using h2
    have h3 := World.var?_cell hg0 hv0 i
    rw [h3]
    have h4 : cs0[i]? = some (cs0.toList[i]'(by omega)) := by
      rw [← Array.getElem?_toList, List.getElem?_eq_getElem (by omega)]
    rw [h4]
    simp only [List.cons.injEq, and_true] at e1
    rw [e1, hk]
  exact ⟨World.block_lt_of_cell? _ _ (hcell 0 (by decide)), hcell⟩
end Go.Proofs.YtoibhkmlebcepaaDoor
