import Derived.Test.YtlibncefiibgaaaDoorZTupleRefCheck
import Derived.StillTailTactics
import Derived.RegionTactic
namespace Go.Proofs.YtlibncefiibgaaaDoor
open Go Go.RowKit

set_option maxRecDepth 100000 in
set_option maxHeartbeats 4000000 in
theorem of_any (w : World) (b : Nat) (t : Six) (h : Reads w 1 (.slice (some ⟨b, 0, none⟩) 6 6) 6 (scells t.list)) :
    Calls Tryd.prog 44 #[.slice (some ⟨b, 0, none⟩) 6 6] w (GivesVal w t.val) := by
  have hcell : ∀ j s, t.list[j]? = some s → w.cell? ⟨b, j, none⟩ = some (.string s) := by
    intro j s hj
    have hlt : j < 6 := by
      have := (List.getElem?_eq_some_iff.1 hj).1
      simpa [Six.list] using this
    obtain ⟨b', off, x, hbe, hx, _, c1⟩ := h.scell j hlt
    cases hbe
    rw [Nat.zero_add] at c1
    rw [hj] at hx
    cases hx
    exact c1
  have k0 := hcell 0 t.a rfl
  have k1 := hcell 1 t.b rfl
  have k2 := hcell 2 t.c rfl
  have k3 := hcell 3 t.d rfl
  have k4 := hcell 4 t.e rfl
  have k5 := hcell 5 t.f rfl
  have hlt : b < w.heap.size := World.block_lt_of_cell? _ _ k0
  clear hcell h
  go_enter Tryd.func44, Tryd.ntmps44
  go_wp2_with fail
  have hz := heap_alloc_new w (.cells #[.string ⟨#[]⟩, .string ⟨#[]⟩, .string ⟨#[]⟩, .string ⟨#[]⟩, .string ⟨#[]⟩, .string ⟨#[]⟩] 37)
  have hb : Below w.heap.size w (w.alloc (.cells #[.string ⟨#[]⟩, .string ⟨#[]⟩, .string ⟨#[]⟩, .string ⟨#[]⟩, .string ⟨#[]⟩, .string ⟨#[]⟩] 37)) := (Below.refl _ w).alloc (Nat.le_refl _) _
  have k0 := (hb.cell (p := ⟨b, 0, none⟩) hlt).trans k0
  have k1 := (hb.cell (p := ⟨b, 1, none⟩) hlt).trans k1
  have k2 := (hb.cell (p := ⟨b, 2, none⟩) hlt).trans k2
  have k3 := (hb.cell (p := ⟨b, 3, none⟩) hlt).trans k3
  have k4 := (hb.cell (p := ⟨b, 4, none⟩) hlt).trans k4
  have k5 := (hb.cell (p := ⟨b, 5, none⟩) hlt).trans k5
  generalize w.alloc (.cells #[.string ⟨#[]⟩, .string ⟨#[]⟩, .string ⟨#[]⟩, .string ⟨#[]⟩, .string ⟨#[]⟩, .string ⟨#[]⟩] 37) = w0 at *
  have z0 := Lib.cell_of_heap hz 0
  have z1 := Lib.cell_of_heap hz 1
  have z2 := Lib.cell_of_heap hz 2
  have z3 := Lib.cell_of_heap hz 3
  have z4 := Lib.cell_of_heap hz 4
  have z5 := Lib.cell_of_heap hz 5
  have f0 := Lib.frozen_of_heap hz
  simp at z0 z1 z2 z3 z4 z5
  have HB := Lib.hid hb
  clear hz hb
  go_still_tail 22, (by kernel_rfl)
  show wpList _ _ _ _ _ w0.drew
  go_wp2
  refine bodyPost_ret (v := .agg #[.string t.a, .string t.b, .string t.c, .string t.d, .string t.e, .string t.f]) ?_ rfl ⟨rfl, ?_⟩
  · simp [results, Tryd.results44, go_sem, z0, z1, z2, z3, z4, z5]
  · exact ((((((HB.out.setCell (p := ⟨w.heap.size, 0, none⟩) (Nat.le_refl _) _).setCell (p := ⟨w.heap.size, 1, none⟩) (Nat.le_refl _) _).setCell (p := ⟨w.heap.size, 2, none⟩) (Nat.le_refl _) _).setCell (p := ⟨w.heap.size, 3, none⟩) (Nat.le_refl _) _).setCell (p := ⟨w.heap.size, 4, none⟩) (Nat.le_refl _) _).setCell (p := ⟨w.heap.size, 5, none⟩) (Nat.le_refl _) _).drew
end Go.Proofs.YtlibncefiibgaaaDoor
