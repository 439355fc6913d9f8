import Derived.Test.YtlibncefiibgaaaDoorZTupleTwo
import Derived.Test.YtlibncefiibgaaaDoorZTupleCut
namespace Go.Proofs.YtlibncefiibgaaaDoor
open Go Go.RowKit

theorem six_cells' {w : World} {b : Nat} {t : Six} {e : TypeId} (h : w.heap[b]? = some (.cells (scells t.list).toArray e (0, 0))) :
    w.cell? ⟨b, 0, none⟩ = some (.string t.a) ∧ w.cell? ⟨b, 1, none⟩ = some (.string t.b) ∧ w.cell? ⟨b, 2, none⟩ = some (.string t.c) ∧ w.cell? ⟨b, 3, none⟩ = some (.string t.d) ∧ w.cell? ⟨b, 4, none⟩ = some (.string t.e) ∧ w.cell? ⟨b, 5, none⟩ = some (.string t.f) :=
  ⟨Lib.cell_of_heap h 0, Lib.cell_of_heap h 1, Lib.cell_of_heap h 2, Lib.cell_of_heap h 3, Lib.cell_of_heap h 4, Lib.cell_of_heap h 5⟩

theorem cmp_same {p q : Six} (h0 : p.a.toList = q.a.toList) (h1 : p.b.toList = q.b.toList) (h2 : p.c.toList = q.c.toList) (h3 : p.d.toList = q.d.toList) (h4 : p.e.toList = q.e.toList) (h5 : p.f.toList = q.f.toList) : cmpBs p.list q.list = 0 := by
  rw [toList_eq', toList_eq'] at h0 h1 h2 h3 h4 h5
  rw [cmpBs_eq]
  have : p.list.map (fun s : ByteArray => s.data.toList) = q.list.map (fun s : ByteArray => s.data.toList) := by
    simp only [Six.list, List.map_cons, List.map_nil, h0, h1, h2, h3, h4, h5]
  rw [this, cmpL_refl]

theorem y_make {P : Program} {ρ : Operand → Value} {o : Oper} {w w1 : World} {v : Value} (h : (execOp ρ o).run P w = .ok (.value v) w1) : YieldsP P ρ o w (fun u w' => u = v ∧ w' = w1) := by
  unfold YieldsP
  rw [h]
  exact ⟨rfl, rfl⟩

theorem y_skip {P : Program} {ρ : Operand → Value} {o : Oper} {w w1 : World} (h : (execOp ρ o).run P w = .ok .skip w1) : YieldsP P ρ o w (fun _ w' => w' = w1) := by
  unfold YieldsP
  rw [h]

set_option maxRecDepth 100000 in
set_option maxHeartbeats 1000000 in
theorem tcmp_any (w : World) (p q : Six) : Calls Tryd.prog 21 #[p.val, q.val] w (GivesInt w (cmpBs p.list q.list)) := by
  unfold Six.val
  go_enter Tryd.func21, Tryd.ntmps21
  go_wp2_with fail
  · rename_i h0 h1 h2 h3 h4 h5
    rw [cmp_same h0 h1 h2 h3 h4 h5]
    go_ret
    exact ⟨rfl, ((Below.refl _ _).alloc (Nat.le_refl _) _).alloc (by simp) _⟩
  all_goals
    have hbx : (w.alloc (.cells #[.string p.a, .string p.b, .string p.c, .string p.d, .string p.e, .string p.f] 37)).heap[w.heap.size]? = some (.cells (scells p.list).toArray 37 (0, 0)) := heap_alloc_new w _
    have hbp := (Below.heap_alloc (w.alloc (.cells #[.string p.a, .string p.b, .string p.c, .string p.d, .string p.e, .string p.f] 37)) (.cells #[.string q.a, .string q.b, .string q.c, .string q.d, .string q.e, .string q.f] 37) w.heap.size (by simp)).trans hbx
    have hbq : ((w.alloc (.cells #[.string p.a, .string p.b, .string p.c, .string p.d, .string p.e, .string p.f] 37)).alloc (.cells #[.string q.a, .string q.b, .string q.c, .string q.d, .string q.e, .string q.f] 37)).heap[w.heap.size + 1]? = some (.cells (scells q.list).toArray 37 (0, 0)) := by
      have := heap_alloc_new (w.alloc (.cells #[.string p.a, .string p.b, .string p.c, .string p.d, .string p.e, .string p.f] 37)) (.cells #[.string q.a, .string q.b, .string q.c, .string q.d, .string q.e, .string q.f] 37)
      simpa [scells, Six.list] using this
    have hb0 : Below w.heap.size w ((w.alloc (.cells #[.string p.a, .string p.b, .string p.c, .string p.d, .string p.e, .string p.f] 37)).alloc (.cells #[.string q.a, .string q.b, .string q.c, .string q.d, .string q.e, .string q.f] 37)) := ((Below.refl _ _).alloc (Nat.le_refl _) _).alloc (by simp) _
    generalize ((w.alloc (.cells #[.string p.a, .string p.b, .string p.c, .string p.d, .string p.e, .string p.f] 37)).alloc (.cells #[.string q.a, .string q.b, .string q.c, .string q.d, .string q.e, .string q.f] 37)) = w0 at *
    have hp0 : w.heap.size < w0.heap.size := (Array.getElem?_eq_some_iff.1 hbp).1
    have hq0 : w.heap.size + 1 < w0.heap.size := (Array.getElem?_eq_some_iff.1 hbq).1
    refine wp_region_two (p := p) (q := q) (by decide) (by kernel_rfl) (by kernel_rfl) (by kernel_rfl) ?_ ?_
    · intro i o hi L a wx hLi hprev hJ
      have e2 : a.eval (.tmp 2) = .pointer (some ⟨w.heap.size, 0, none⟩) := hJ.outs 2 rfl
      have e3 : a.eval (.tmp 3) = .pointer (some ⟨w.heap.size + 1, 0, none⟩) := hJ.outs 3 rfl
      match i, hi with
      | 0, hi =>
        cases hi
        obtain ⟨k0, k1, k2, k3, k4, k5⟩ := six_cells' (below_block hJ.below hbp hp0)
        refine wp_of_yields (y_val (v := p.val) (p := fun v _ => v = p.val) ?_ rfl) ?_
        · generalize a.eval = ρ at e2
          simp [execOp, go_sem, e2, k0, k1, k2, k3, k4, k5, Six.val]
        · rintro v w' ⟨rfl, hb⟩ L' hL'
          exact hJ.val0 rfl hb hL'
      | 1, hi =>
        cases hi
        have e10 : a.eval (.tmp 10) = p.val := hJ.s10 (hprev 0 (by decide +kernel))
        refine wp_of_yields (y_call (p := fun v _ => v = p.val) (f := 34) (args := #[p.val]) ?_ ((parts_any wx p).mono ?_)) ?_
        · have ef : a.eval (.func 34) = .func (.func 34) #[] #[] := rfl
          generalize a.eval = ρ at e10 ef
          simp [execOp, resolve, invoke, go_sem, e10, ef]
        · rintro e w' ⟨rfl, hb⟩
          exact ⟨_, rfl, rfl, hb⟩
        · rintro v w' ⟨rfl, hb⟩ L' hL'
          exact hJ.val1 rfl hb hL'
      | 2, hi =>
        cases hi
        obtain ⟨k0, k1, k2, k3, k4, k5⟩ := six_cells' (below_block hJ.below hbq hq0)
        refine wp_of_yields (y_val (v := q.val) (p := fun v _ => v = q.val) ?_ rfl) ?_
        · generalize a.eval = ρ at e3
          simp [execOp, go_sem, e3, k0, k1, k2, k3, k4, k5, Six.val]
        · rintro v w' ⟨rfl, hb⟩ L' hL'
          exact hJ.val2 rfl hb hL'
      | 3, hi =>
        cases hi
        have e12 : a.eval (.tmp 12) = q.val := hJ.s12 (hprev 2 (by decide +kernel))
        refine wp_of_yields (y_call (p := fun v _ => v = q.val) (f := 34) (args := #[q.val]) ?_ ((parts_any wx q).mono ?_)) ?_
        · have ef : a.eval (.func 34) = .func (.func 34) #[] #[] := rfl
          generalize a.eval = ρ at e12 ef
          simp [execOp, resolve, invoke, go_sem, e12, ef]
        · rintro e w' ⟨rfl, hb⟩
          exact ⟨_, rfl, rfl, hb⟩
        · rintro v w' ⟨rfl, hb⟩ L' hL'
          exact hJ.val3 rfl hb hL'
      | 4, hi =>
        cases hi
        refine wp_of_yields (y_make (v := .pointer (some ⟨wx.heap.size, 0, none⟩)) (w1 := wx.alloc (.cells (scells Six.none.list).toArray 70)) ?_) ?_
        · generalize a.eval = ρ
          simp [execOp, go_sem, scells, Six.list, Six.none]
        · rintro v w' ⟨rfl, rfl⟩ L' hL'
          exact hJ.make4 rfl hLi hL'
      | 5, hi =>
        cases hi
        refine wp_of_yields (y_make (v := .pointer (some ⟨wx.heap.size, 0, none⟩)) (w1 := wx.alloc (.cells (scells Six.none.list).toArray 70)) ?_) ?_
        · generalize a.eval = ρ
          simp [execOp, go_sem, scells, Six.list, Six.none]
        · rintro v w' ⟨rfl, rfl⟩ L' hL'
          exact hJ.make5 rfl hLi hL'
      | 6, hi =>
        cases hi
        have l4 := hprev 4 (by decide +kernel)
        have l5 := hprev 5 (by decide +kernel)
        obtain ⟨b, h5, k5, g5⟩ := hJ.s5 l4
        have e5 : a.eval (.tmp 5) = .pointer (some ⟨b, 0, none⟩) := h5
        have e11 : a.eval (.tmp 11) = p.val := hJ.s11 (hprev 1 (by decide +kernel))
        obtain ⟨k0, k1, k2, k3, k4, k5⟩ := six_cells' g5
        have f0 := Lib.frozen_of_heap g5
        refine wp_of_yields (y_skip (w1 := set6 wx b p) ?_) ?_
        · generalize a.eval = ρ at e5 e11
          simp [execOp, go_sem, e5, e11, Six.val, k0, k1, k2, k3, k4, k5, f0, set6]
        · rintro v w' rfl L' hL'
          exact hJ.store6 h5 l4 l5 hL'
      | 7, hi =>
        cases hi
        have l4 := hprev 4 (by decide +kernel)
        have l5 := hprev 5 (by decide +kernel)
        obtain ⟨b, h6, k6, g6⟩ := hJ.s6 l5
        have e6 : a.eval (.tmp 6) = .pointer (some ⟨b, 0, none⟩) := h6
        have e13 : a.eval (.tmp 13) = q.val := hJ.s13 (hprev 3 (by decide +kernel))
        obtain ⟨k0, k1, k2, k3, k4, k5⟩ := six_cells' g6
        have f0 := Lib.frozen_of_heap g6
        refine wp_of_yields (y_skip (w1 := set6 wx b q) ?_) ?_
        · generalize a.eval = ρ at e6 e13
          simp [execOp, go_sem, e6, e13, Six.val, k0, k1, k2, k3, k4, k5, f0, set6]
        · rintro v w' rfl L' hL'
          exact hJ.store7 h6 l4 l5 hL'
      | k + 8, hi => simp at hi
    · intro L a wx hL hJ
      obtain ⟨b5, e5, k5, g5⟩ := hJ.s5 (hL 4 (by decide))
      obtain ⟨b6, e6, k6, g6⟩ := hJ.s6 (hL 5 (by decide))
      rw [hL 6 (by decide), if_pos rfl] at g5
      rw [hL 7 (by decide), if_pos rfl] at g6
      have e10 := hJ.s10 (hL 0 (by decide))
      have e11 := hJ.s11 (hL 1 (by decide))
      have e12 := hJ.s12 (hL 2 (by decide))
      have e13 := hJ.s13 (hL 3 (by decide))
      have ha := act_of_outs hJ.defers hJ.size [5, 6, 10, 11, 12, 13] hJ.outs
      simp only [putAll, List.foldl_cons, List.foldl_nil, e5, e6, e10, e11, e12, e13] at ha
      have hb := hb0.trans (hJ.below.mono hb0.size)
      have r5 : Reads wx 1 (.slice (some ⟨b5, 0, none⟩) 6 6) 6 (scells p.list) := reads_new rfl g5 (by decide)
      have r6 : Reads wx 1 (.slice (some ⟨b6, 0, none⟩) 6 6) 6 (scells q.list) := reads_new rfl g6 (by decide)
      have HB := Lib.hid hb
      have hsl := fun k => slices_quiet (w := wx) (k := k) r5 r6 (by decide)
      simp [Act.put] at ha
      subst ha
      clear hJ hL e5 e6 e10 e11 e12 e13 hb r5 r6 g5 g6 hbx hbp hbq hb0 hp0 hq0 k5 k6
      generalize cmpBs p.list q.list = c at *
      have HS := Lib.hid hsl
      clear hsl
      unfold Six.val
      go_wp2_with fail
      go_quiet (first | (go_at_call 38; exact HS.out _))
      go_wp2
      go_ret
      exact ⟨rfl, HB.out.trans ((below_drewN wx nq).mono HB.out.size)⟩
end Go.Proofs.YtlibncefiibgaaaDoor
