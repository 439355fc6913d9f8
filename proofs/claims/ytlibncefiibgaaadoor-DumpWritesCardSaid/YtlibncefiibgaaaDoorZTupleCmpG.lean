/- tuple.Cmp: the world has grown, and drawn, and no more. -/
import Derived.Test.YtlibncefiibgaaaDoorZTupleTwoG
import Derived.Test.YtlibncefiibgaaaDoorZTupleCmp2
import Derived.Shelf.SlSortCmp.NoneTotal
namespace Go.Proofs.YtlibncefiibgaaaDoor
open Go Go.RowKit

def GrownIntT (w : World) (n : Int) (e : Ending) (w' : World) : Prop := e = .returned (.int .i64 n) ∧ ∃ q os, w' = Sort.grow (w.drewN q) os

theorem grown_of {w w' : World} (h : Below w.heap.size w w') (hd : w.drawn ≤ w'.drawn) : ∃ q os, w' = Sort.grow (w.drewN q) os := by
  refine ⟨w'.drawn - w.drawn, w'.heap.extract w.heap.size w'.heap.size, ?_⟩
  have hh : w'.heap = w.heap ++ w'.heap.extract w.heap.size w'.heap.size := by
    apply Array.ext_getElem?
    intro i
    by_cases hi : i < w.heap.size
    · rw [Array.getElem?_append_left hi, h.block i hi]
    · rw [Array.getElem?_append_right (by omega), Array.getElem?_extract]
      have := h.size
      by_cases h2 : i < w'.heap.size
      · rw [if_pos (by omega), show w.heap.size + (i - w.heap.size) = i by omega]
      · rw [if_neg (by omega), Array.getElem?_eq_none (by omega)]
  obtain ⟨heap, tape, drawn, os, output⟩ := w
  obtain ⟨heap', tape', drawn', os', output'⟩ := w'
  obtain ⟨h1, h2, h3, _, _⟩ := h
  simp only at h1 h2 h3 hd hh
  subst h1
  subst h2
  subst h3
  unfold Sort.grow World.drewN
  simp only [World.mk.injEq, and_true, true_and]
  exact ⟨hh, by omega⟩

theorem parts_drawn (w : World) (t : Six) : Calls Tryd.prog 34 #[t.val] w (fun e w' => e = .returned t.val ∧ Below w.heap.size w w' ∧ w.drawn ≤ w'.drawn) := by
  obtain ⟨a, b, c, d, e, f⟩ := t
  unfold Six.val
  go_enter Tryd.func34, Tryd.ntmps34
  go_wp2
  refine bodyPost_ret (v := .agg #[.string a, .string b, .string c, .string d, .string e, .string f]) ?_ rfl ⟨rfl, ?_, Nat.le_refl _⟩
  · simp [results, Tryd.results34, go_sem]
  · exact (Below.refl _ _).alloc (Nat.le_refl _) _ |>.alloc (by simp) _

set_option maxRecDepth 100000 in
set_option maxHeartbeats 1000000 in
theorem tcmp_grown (w : World) (p q : Six) : Calls Tryd.prog 21 #[p.val, q.val] w (GrownIntT w (cmpBs p.list q.list)) := by
  unfold Six.val
  go_enter Tryd.func21, Tryd.ntmps21
  go_wp2_with fail
  · rename_i h0 h1 h2 h3 h4 h5
    rw [cmp_same h0 h1 h2 h3 h4 h5]
    go_ret
    exact ⟨rfl, grown_of (((Below.refl _ _).alloc (Nat.le_refl _) _).alloc (by simp) _) (Nat.le_refl _)⟩
  all_goals
    have hbx : (w.alloc (.cells #[.string p.a, .string p.b, .string p.c, .string p.d, .string p.e, .string p.f] 37)).heap[w.heap.size]? = some (.cells (scells p.list).toArray 37 (0, 0)) := heap_alloc_new w _
    have hbp := (Below.heap_alloc (w.alloc (.cells #[.string p.a, .string p.b, .string p.c, .string p.d, .string p.e, .string p.f] 37)) (.cells #[.string q.a, .string q.b, .string q.c, .string q.d, .string q.e, .string q.f] 37) w.heap.size (by simp)).trans hbx
    have hbq : ((w.alloc (.cells #[.string p.a, .string p.b, .string p.c, .string p.d, .string p.e, .string p.f] 37)).alloc (.cells #[.string q.a, .string q.b, .string q.c, .string q.d, .string q.e, .string q.f] 37)).heap[w.heap.size + 1]? = some (.cells (scells q.list).toArray 37 (0, 0)) := by
      have := heap_alloc_new (w.alloc (.cells #[.string p.a, .string p.b, .string p.c, .string p.d, .string p.e, .string p.f] 37)) (.cells #[.string q.a, .string q.b, .string q.c, .string q.d, .string q.e, .string q.f] 37)
      simpa [scells, Six.list] using this
    have hb0 : Below w.heap.size w ((w.alloc (.cells #[.string p.a, .string p.b, .string p.c, .string p.d, .string p.e, .string p.f] 37)).alloc (.cells #[.string q.a, .string q.b, .string q.c, .string q.d, .string q.e, .string q.f] 37)) := ((Below.refl _ _).alloc (Nat.le_refl _) _).alloc (by simp) _
    have hd0 : w.drawn ≤ ((w.alloc (.cells #[.string p.a, .string p.b, .string p.c, .string p.d, .string p.e, .string p.f] 37)).alloc (.cells #[.string q.a, .string q.b, .string q.c, .string q.d, .string q.e, .string q.f] 37)).drawn := Nat.le_refl _
    generalize ((w.alloc (.cells #[.string p.a, .string p.b, .string p.c, .string p.d, .string p.e, .string p.f] 37)).alloc (.cells #[.string q.a, .string q.b, .string q.c, .string q.d, .string q.e, .string q.f] 37)) = w0 at *
    have hp0 : w.heap.size < w0.heap.size := (Array.getElem?_eq_some_iff.1 hbp).1
    have hq0 : w.heap.size + 1 < w0.heap.size := (Array.getElem?_eq_some_iff.1 hbq).1
    refine wp_region_twoG (p := p) (q := q) (by decide) (by kernel_rfl) (by kernel_rfl) (by kernel_rfl) ?_ ?_
    · intro i o hi L a wx hLi hprev hJ
      have e2 : a.eval (.tmp 2) = .pointer (some ⟨w.heap.size, 0, none⟩) := hJ.outs 2 rfl
      have e3 : a.eval (.tmp 3) = .pointer (some ⟨w.heap.size + 1, 0, none⟩) := hJ.outs 3 rfl
      match i, hi with
      | 0, hi =>
        cases hi
        obtain ⟨k0, k1, k2, k3, k4, k5⟩ := six_cells' (below_block hJ.below hbp hp0)
        refine wp_of_yields (y_val (v := p.val) (p := fun v w' => v = p.val ∧ wx.drawn ≤ w'.drawn) ?_ ⟨rfl, Nat.le_refl _⟩) ?_
        · generalize a.eval = ρ at e2
          simp [execOp, go_sem, e2, k0, k1, k2, k3, k4, k5, Six.val]
        · rintro v w' ⟨⟨rfl, hd⟩, hb⟩ L' hL'
          exact hJ.val0 rfl hb hd hL'
      | 1, hi =>
        cases hi
        have e10 : a.eval (.tmp 10) = p.val := hJ.s10 (hprev 0 (by decide +kernel))
        refine wp_of_yields (y_call (p := fun v w' => v = p.val ∧ wx.drawn ≤ w'.drawn) (f := 34) (args := #[p.val]) ?_ ((parts_drawn wx p).mono ?_)) ?_
        · have ef : a.eval (.func 34) = .func (.func 34) #[] #[] := rfl
          generalize a.eval = ρ at e10 ef
          simp [execOp, resolve, invoke, go_sem, e10, ef]
        · rintro e w' ⟨rfl, hb, hd⟩
          exact ⟨_, rfl, ⟨rfl, hd⟩, hb⟩
        · rintro v w' ⟨⟨rfl, hd⟩, hb⟩ L' hL'
          exact hJ.val1 rfl hb hd hL'
      | 2, hi =>
        cases hi
        obtain ⟨k0, k1, k2, k3, k4, k5⟩ := six_cells' (below_block hJ.below hbq hq0)
        refine wp_of_yields (y_val (v := q.val) (p := fun v w' => v = q.val ∧ wx.drawn ≤ w'.drawn) ?_ ⟨rfl, Nat.le_refl _⟩) ?_
        · generalize a.eval = ρ at e3
          simp [execOp, go_sem, e3, k0, k1, k2, k3, k4, k5, Six.val]
        · rintro v w' ⟨⟨rfl, hd⟩, hb⟩ L' hL'
          exact hJ.val2 rfl hb hd hL'
      | 3, hi =>
        cases hi
        have e12 : a.eval (.tmp 12) = q.val := hJ.s12 (hprev 2 (by decide +kernel))
        refine wp_of_yields (y_call (p := fun v w' => v = q.val ∧ wx.drawn ≤ w'.drawn) (f := 34) (args := #[q.val]) ?_ ((parts_drawn wx q).mono ?_)) ?_
        · have ef : a.eval (.func 34) = .func (.func 34) #[] #[] := rfl
          generalize a.eval = ρ at e12 ef
          simp [execOp, resolve, invoke, go_sem, e12, ef]
        · rintro e w' ⟨rfl, hb, hd⟩
          exact ⟨_, rfl, ⟨rfl, hd⟩, hb⟩
        · rintro v w' ⟨⟨rfl, hd⟩, hb⟩ L' hL'
          exact hJ.val3 rfl hb hd hL'
      | 4, hi =>
        cases hi
        refine wp_of_yields (y_make (v := .pointer (some ⟨wx.heap.size, 0, none⟩)) (w1 := wx.alloc (.cells (scells Six.none.list).toArray 70)) ?_) ?_
        · generalize a.eval = ρ
          simp [execOp, go_sem, scells, Six.list, Six.none]
        · rintro v w' ⟨rfl, rfl⟩ L' hL'
          exact hJ.make4 rfl hLi hL'
      | 5, hi =>
        cases hi
        refine wp_of_yields (y_make (v := .pointer (some ⟨wx.heap.size, 0, none⟩)) (w1 := wx.alloc (.cells (scells Six.none.list).toArray 70)) ?_) ?_
        · generalize a.eval = ρ
          simp [execOp, go_sem, scells, Six.list, Six.none]
        · rintro v w' ⟨rfl, rfl⟩ L' hL'
          exact hJ.make5 rfl hLi hL'
      | 6, hi =>
        cases hi
        have l4 := hprev 4 (by decide +kernel)
        have l5 := hprev 5 (by decide +kernel)
        obtain ⟨b, h5, k5, g5⟩ := hJ.s5 l4
        have e5 : a.eval (.tmp 5) = .pointer (some ⟨b, 0, none⟩) := h5
        have e11 : a.eval (.tmp 11) = p.val := hJ.s11 (hprev 1 (by decide +kernel))
        obtain ⟨k0, k1, k2, k3, k4, k5⟩ := six_cells' g5
        have f0 := Lib.frozen_of_heap g5
        refine wp_of_yields (y_skip (w1 := set6 wx b p) ?_) ?_
        · generalize a.eval = ρ at e5 e11
          simp [execOp, go_sem, e5, e11, Six.val, k0, k1, k2, k3, k4, k5, f0, set6]
        · rintro v w' rfl L' hL'
          exact hJ.store6 h5 l4 l5 hL'
      | 7, hi =>
        cases hi
        have l4 := hprev 4 (by decide +kernel)
        have l5 := hprev 5 (by decide +kernel)
        obtain ⟨b, h6, k6, g6⟩ := hJ.s6 l5
        have e6 : a.eval (.tmp 6) = .pointer (some ⟨b, 0, none⟩) := h6
        have e13 : a.eval (.tmp 13) = q.val := hJ.s13 (hprev 3 (by decide +kernel))
        obtain ⟨k0, k1, k2, k3, k4, k5⟩ := six_cells' g6
        have f0 := Lib.frozen_of_heap g6
        refine wp_of_yields (y_skip (w1 := set6 wx b q) ?_) ?_
        · generalize a.eval = ρ at e6 e13
          simp [execOp, go_sem, e6, e13, Six.val, k0, k1, k2, k3, k4, k5, f0, set6]
        · rintro v w' rfl L' hL'
          exact hJ.store7 h6 l4 l5 hL'
      | k + 8, hi => simp at hi
    · intro L a wx hL hJ
      obtain ⟨b5, e5, k5, g5⟩ := hJ.s5 (hL 4 (by decide))
      obtain ⟨b6, e6, k6, g6⟩ := hJ.s6 (hL 5 (by decide))
      rw [hL 6 (by decide), if_pos rfl] at g5
      rw [hL 7 (by decide), if_pos rfl] at g6
      have e10 := hJ.s10 (hL 0 (by decide))
      have e11 := hJ.s11 (hL 1 (by decide))
      have e12 := hJ.s12 (hL 2 (by decide))
      have e13 := hJ.s13 (hL 3 (by decide))
      have ha := act_of_outs hJ.defers hJ.size [5, 6, 10, 11, 12, 13] hJ.outs
      simp only [putAll, List.foldl_cons, List.foldl_nil, e5, e6, e10, e11, e12, e13] at ha
      have hb := hb0.trans (hJ.below.mono hb0.size)
      have r5 : Reads wx 1 (.slice (some ⟨b5, 0, none⟩) 6 6) 6 (scells p.list) := reads_new rfl g5 (by decide)
      have r6 : Reads wx 1 (.slice (some ⟨b6, 0, none⟩) 6 6) 6 (scells q.list) := reads_new rfl g6 (by decide)
      have HB := Lib.hid hb
      have hdr := hJ.drawn
      have HD := Lib.hid (Nat.le_trans hd0 hdr)
      clear hdr
      have hsl := fun k => slices_quiet (w := wx) (k := k) r5 r6 (by decide)
      simp [Act.put] at ha
      subst ha
      clear hJ hL e5 e6 e10 e11 e12 e13 hb r5 r6 g5 g6 hbx hbp hbq hb0 hp0 hq0 k5 k6
      generalize cmpBs p.list q.list = c at *
      have HS := Lib.hid hsl
      clear hsl
      unfold Six.val
      go_wp2_with fail
      go_quiet (first | (go_at_call 38; exact HS.out _))
      go_wp2
      go_ret
      exact ⟨rfl, grown_of (HB.out.trans ((below_drewN wx nq).mono HB.out.size)) (Nat.le_trans HD.out (Nat.le_add_right _ _))⟩
end Go.Proofs.YtlibncefiibgaaaDoor
