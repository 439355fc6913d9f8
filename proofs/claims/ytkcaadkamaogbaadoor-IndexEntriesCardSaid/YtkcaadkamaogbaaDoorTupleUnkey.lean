import Derived.Test.YtkcaadkamaogbaaDoorTupleSplit
import Derived.Test.YtkcaadkamaogbaaDoorShelf
import Derived.Laws.Cover3
namespace Go.Proofs.YtkcaadkamaogbaaDoor
open Go Go.RowKit

/-- The library's longest text holds some number (whatever). -/
def MaxInt (w : World) : Prop := ∃ m, w.cell? ⟨0, 0, none⟩ = some (.int .i64 m)

theorem MaxInt.below {w w' : World} (h : MaxInt w) (hb : Below w.heap.size w w') : MaxInt w' := by
  obtain ⟨m, hm⟩ := h
  exact ⟨m, (hb.cell (p := ⟨0, 0, none⟩) (World.block_lt_of_cell? _ _ hm)).trans hm⟩

def unkeyV (s : ByteArray) : Value := if isKey s then .tuple #[(Six.unk s).val, .int .i64 0] else .tuple #[Six.none.val, .int .i64 9]

theorem zrest_size (k : Nat) : ∀ s : ByteArray, (zrest s k).size ≤ s.size := by
  induction k with
  | zero => exact fun _ => Nat.le_refl _
  | succ k ih => exact fun s => Nat.le_trans (ih _) (cutR_size _ _)

theorem zpart_size (s : ByteArray) (k : Nat) : (zpart s k).size ≤ s.size := Nat.le_trans (cutA_size _ _) (zrest_size k s)

theorem unk_short (s : ByteArray) (n : Nat) (h : s.size ≤ n) : (Six.unk s).short n :=
  ⟨Nat.le_trans (zpart_size s 0) h, Nat.le_trans (zpart_size s 1) h, Nat.le_trans (zpart_size s 2) h, Nat.le_trans (zpart_size s 3) h, Nat.le_trans (zpart_size s 4) h, Nat.le_trans (zpart_size s 5) h⟩

theorem split_any (w : World) (s : ByteArray) (hm : MaxInt w) (hs : s.size ≤ 1000000) :
    Calls Tryd.prog 28 #[.string s, .string ⟨#[0]⟩] w fun e w' =>
      e = .returned (.slice (some ⟨w.heap.size, 0, none⟩) (Lib.countB s zB + 1) (Lib.countB s zB + 1)) ∧ w' = w.alloc (.cells ((Lib.splitB zB 0 (Lib.countB s zB) s).map Value.string).toArray 9) := by
  obtain ⟨m, hm⟩ := hm
  exact Tryd.strings_Split s zB m w (by omega) hm (by decide)

set_option maxRecDepth 100000 in
set_option maxHeartbeats 1000000 in
theorem unkey_any (w : World) (s : ByteArray) (hs : s.size ≤ 1000000) (hm : MaxInt w) :
    Calls Tryd.prog 27 #[.string s] w (GivesVal w (unkeyV s)) := by
  have hv : unkeyV s = if isKey s then .tuple #[(Six.unk s).val, .int .i64 0] else .tuple #[Six.none.val, .int .i64 9] := rfl
  rw [isKey_eq] at hv
  have hcnt : Lib.countB s zB ≤ 1000001 := by
    have := Lib.count_le s.data.toList zB.data.toList
    rw [size_data] at this
    show Lib.count s.data.toList zB.data.toList ≤ 1000001
    omega
  have hm1 : MaxInt (w.alloc (.cells (arrAt s 0) 27)) := hm.below ((Below.refl _ w).alloc (Nat.le_refl _) _)
  have hsplit := split_any (w.alloc (.cells (arrAt s 0) 27)) s hm1 hs
  have hcells := fun h => (split_of_count 6 s h).1
  have hcheck := fun w => check_any w (Six.unk s) (unk_short s _ (by omega))
  have hwhole := fun w => whole_any w (Six.unk s)
  have hval : (Six.unk s).val = .agg #[.string (zpart s 0), .string (zpart s 1), .string (zpart s 2), .string (zpart s 3), .string (zpart s 4), .string (zpart s 5)] := rfl
  rw [hval] at hv hwhole hcheck
  generalize Lib.countB s zB = n at *
  generalize (Six.unk s).ok = ok at *
  have HV := Lib.hid hv
  have HSp := Lib.hid hsplit
  have HCe := Lib.hid hcells
  have HCk := Lib.hid hcheck
  have HW := Lib.hid hwhole
  clear hv hsplit hcells hcheck hwhole hval hm hm1
  go_enter Tryd.func27, Tryd.ntmps27
  go_wp2_with (go_at_call 28; go_must (refine HSp.out.mono ?_))
  rintro e w1 ⟨rfl, rfl⟩
  have fin : ∀ (w3 : World) (v0 v1 v2 v3 v4 v5 : Value), Below w.heap.size w w3 → Below w.heap.size w ((((((w3.setCell ⟨w.heap.size, 0, none⟩ v0).setCell ⟨w.heap.size, 1, none⟩ v1).setCell ⟨w.heap.size, 2, none⟩ v2).setCell ⟨w.heap.size, 3, none⟩ v3).setCell ⟨w.heap.size, 4, none⟩ v4).setCell ⟨w.heap.size, 5, none⟩ v5) := by
    intro w3 v0 v1 v2 v3 v4 v5 h
    exact (((((h.setCell (p := ⟨w.heap.size, 0, none⟩) (Nat.le_refl _) _).setCell (p := ⟨w.heap.size, 1, none⟩) (Nat.le_refl _) _).setCell (p := ⟨w.heap.size, 2, none⟩) (Nat.le_refl _) _).setCell (p := ⟨w.heap.size, 3, none⟩) (Nat.le_refl _) _).setCell (p := ⟨w.heap.size, 4, none⟩) (Nat.le_refl _) _).setCell (p := ⟨w.heap.size, 5, none⟩) (Nat.le_refl _) _
  have FI := Lib.hid fin
  clear fin
  have hb1 : ∀ o1 o2, Below w.heap.size w ((w.alloc o1).alloc o2) := fun o1 o2 => ((Below.refl _ w).alloc (Nat.le_refl _) o1).alloc (by simp) o2
  have HB1 := Lib.hid hb1
  clear hb1
  by_cases h6 : n = 6
  · subst h6
    rw [HCe.out rfl]
    have hx : ((w.alloc (.cells (arrAt s 0) 27)).alloc (.cells (List.map Value.string (List.map (zpart s) (List.range 6) ++ [zrest s 6])).toArray 9)).heap[w.heap.size]? = some (.cells (arrAt s 0) 27 (0, 0)) := (Below.heap_alloc (w.alloc (.cells (arrAt s 0) 27)) _ _ (by simp)).trans (heap_alloc_new w _)
    have hy : ((w.alloc (.cells (arrAt s 0) 27)).alloc (.cells (List.map Value.string (List.map (zpart s) (List.range 6) ++ [zrest s 6])).toArray 9)).heap[w.heap.size + 1]? = some (.cells #[.string (zpart s 0), .string (zpart s 1), .string (zpart s 2), .string (zpart s 3), .string (zpart s 4), .string (zpart s 5), .string (zrest s 6)] 9 (0, 0)) := by
      have := heap_alloc_new (w.alloc (.cells (arrAt s 0) 27)) (.cells (List.map Value.string (List.map (zpart s) (List.range 6) ++ [zrest s 6])).toArray 9)
      rw [World.size_alloc] at this
      exact this
    have hb := HB1.out (.cells (arrAt s 0) 27) (.cells (List.map Value.string (List.map (zpart s) (List.range 6) ++ [zrest s 6])).toArray 9)
    rw [World.size_alloc]
    generalize ((w.alloc (.cells (arrAt s 0) 27)).alloc (.cells (List.map Value.string (List.map (zpart s) (List.range 6) ++ [zrest s 6])).toArray 9)) = w1 at *
    have e0 := Lib.cell_of_heap hy 0
    have e1 := Lib.cell_of_heap hy 1
    have e2 := Lib.cell_of_heap hy 2
    have e3 := Lib.cell_of_heap hy 3
    have e4 := Lib.cell_of_heap hy 4
    have e5 := Lib.cell_of_heap hy 5
    have e6 := Lib.cell_of_heap hy 6
    simp at e0 e1 e2 e3 e4 e5 e6
    have HX := Lib.hid hx
    have HB := Lib.hid hb
    clear hx hy hb HSp HCe HB1
    generalize zpart s 0 = p0 at *
    generalize zpart s 1 = p1 at *
    generalize zpart s 2 = p2 at *
    generalize zpart s 3 = p3 at *
    generalize zpart s 4 = p4 at *
    generalize zpart s 5 = p5 at *
    generalize zrest s 6 = z at *
    by_cases hz : z = ⟨#[]⟩
    · have HV' := Lib.hid (HV.out.trans (by rw [decide_eq_true rfl, decide_eq_true hz, Bool.true_and, Bool.true_and]))
      clear HV
      subst hz
      have hat := run_arrayAt (P := Tryd.prog) w1 56 9 6 (some ⟨w.heap.size + 1, 0, none⟩) 7 7 Tryd.underlying56 (by decide)
      go_wp2_with (go_at_call 37; go_must (refine (HW.out _).mono ?_))
      rintro e w2 ⟨rfl, b2⟩
      have hb2 := HB.out.trans (b2.mono HB.out.size)
      have hx2 := below_block b2 HX.out (Array.getElem?_eq_some_iff.1 HX.out).1
      have hsz : w.heap.size < w2.heap.size := (Array.getElem?_eq_some_iff.1 hx2).1
      have HB2 := Lib.hid hb2
      have HX2 := Lib.hid hx2
      clear b2 hb2 hx2 e0 e1 e2 e3 e4 e5 e6 hat HX HB
      go_wp2_with (go_at_call 20; go_must (refine (HCk.out _).mono ?_))
      rintro e w3 ⟨rfl, b3⟩
      have hy3 := below_block b3 (heap_alloc_new w2 _) (by simp)
      have hx3 := below_block b3 ((Below.heap_alloc w2 _ _ hsz).trans HX2.out) (by simp; omega)
      have hb3 : Below w.heap.size w w3 := (HB2.out.alloc HB2.out.size _).trans (b3.mono (by simp; omega))
      have d0 := Lib.cell_of_heap hy3 0
      have d1 := Lib.cell_of_heap hy3 1
      have d2 := Lib.cell_of_heap hy3 2
      have d3 := Lib.cell_of_heap hy3 3
      have d4 := Lib.cell_of_heap hy3 4
      have d5 := Lib.cell_of_heap hy3 5
      have c0 := Lib.cell_of_heap hx3 0
      have c1 := Lib.cell_of_heap hx3 1
      have c2 := Lib.cell_of_heap hx3 2
      have c3 := Lib.cell_of_heap hx3 3
      have c4 := Lib.cell_of_heap hx3 4
      have c5 := Lib.cell_of_heap hx3 5
      have f0 := Lib.frozen_of_heap hx3
      simp [arrAt] at c0 c1 c2 c3 c4 c5 d0 d1 d2 d3 d4 d5
      have HB3 := Lib.hid hb3
      clear b3 hy3 hx3 hb3 HCk HW HX2 HB2
      unfold checkV
      cases ok with
      | false =>
        go_wp2
        refine bodyPost_ret (v := .tuple #[.agg #[.string ⟨#[]⟩, .string ⟨#[]⟩, .string ⟨#[]⟩, .string ⟨#[]⟩, .string ⟨#[]⟩, .string ⟨#[]⟩], .int .i64 9]) ?_ rfl ⟨?_, FI.out _ _ _ _ _ _ _ HB3.out⟩
        · simp [results, Tryd.results27, go_sem, c0, c1, c2, c3, c4, c5]
        · rw [HV'.out]; rfl
      | true =>
        go_wp2
        refine bodyPost_ret (v := .tuple #[.agg #[.string p0, .string p1, .string p2, .string p3, .string p4, .string p5], .int .i64 0]) ?_ rfl ⟨?_, FI.out _ _ _ _ _ _ _ HB3.out⟩
        · simp [results, Tryd.results27, go_sem, c0, c1, c2, c3, c4, c5]
        · rw [HV'.out]; rfl
    · have h00 := not_empty hz
      have hpv : unkeyV s = .tuple #[Six.none.val, .int .i64 9] := by rw [HV.out, decide_eq_false hz]; simp
      have HPV := Lib.hid hpv
      have c0 := Lib.cell_of_heap HX.out 0
      have c1 := Lib.cell_of_heap HX.out 1
      have c2 := Lib.cell_of_heap HX.out 2
      have c3 := Lib.cell_of_heap HX.out 3
      have c4 := Lib.cell_of_heap HX.out 4
      have c5 := Lib.cell_of_heap HX.out 5
      have f0 := Lib.frozen_of_heap HX.out
      simp [arrAt] at c0 c1 c2 c3 c4 c5
      clear hpv HV hz
      go_wp2
      refine bodyPost_ret (v := .tuple #[.agg #[.string ⟨#[]⟩, .string ⟨#[]⟩, .string ⟨#[]⟩, .string ⟨#[]⟩, .string ⟨#[]⟩, .string ⟨#[]⟩], .int .i64 9]) ?_ rfl ⟨?_, FI.out _ _ _ _ _ _ _ HB.out⟩
      · simp [results, Tryd.results27, go_sem, c0, c1, c2, c3, c4, c5]
      · rw [HPV.out]; rfl
  · have hne : ((n : Int) + 1 != 7) = true := by simp; omega
    have hpv : unkeyV s = .tuple #[Six.none.val, .int .i64 9] := by rw [HV.out, decide_eq_false h6]; rfl
    have HPV := Lib.hid hpv
    clear hpv HV
    unfold arrAt
    go_wp2
    refine bodyPost_ret (v := .tuple #[.agg #[.string ⟨#[]⟩, .string ⟨#[]⟩, .string ⟨#[]⟩, .string ⟨#[]⟩, .string ⟨#[]⟩, .string ⟨#[]⟩], .int .i64 9]) ?_ rfl ⟨?_, HB1.out _ _⟩
    · simp [results, Tryd.results27, go_sem]
    · rw [HPV.out]; rfl
end Go.Proofs.YtkcaadkamaogbaaDoor
