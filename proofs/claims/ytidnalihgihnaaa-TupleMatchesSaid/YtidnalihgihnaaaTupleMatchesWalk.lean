import Derived.Test.YtidnalihgihnaaaTupleMatch
import Derived.Test.YtidnalihgihnaaaDrawn
namespace Go.Proofs.Ytidnalihgihnaaa
open Go Go.RowKit

/-- A tuple that lies in a row of its own. -/
theorem tups_one {w : World} {b : Nat} {t : Six} {e : TypeId} (h : w.heap[b]? = some (.cells (scells t.list).toArray e (0, 0))) : TupsAt w b [t] := by
  intro j t' hj i s hi
  have : j = 0 := by
    have := (List.getElem?_eq_some_iff.1 hj).1
    simp at this
    exact this
  subst this
  simp at hj
  subst hj
  rw [Nat.zero_mul, Nat.zero_add, Lib.cell_of_heap h i]
  simp [scells, hi]

theorem six_cells {w : World} {b : Nat} {t : Six} {e : TypeId} (h : w.heap[b]? = some (.cells (scells t.list).toArray e (0, 0))) :
    w.cell? ⟨b, 0, none⟩ = some (.string t.a) ∧ w.cell? ⟨b, 1, none⟩ = some (.string t.b) ∧ w.cell? ⟨b, 2, none⟩ = some (.string t.c) ∧ w.cell? ⟨b, 3, none⟩ = some (.string t.d) ∧ w.cell? ⟨b, 4, none⟩ = some (.string t.e) ∧ w.cell? ⟨b, 5, none⟩ = some (.string t.f) :=
  ⟨Lib.cell_of_heap h 0, Lib.cell_of_heap h 1, Lib.cell_of_heap h 2, Lib.cell_of_heap h 3, Lib.cell_of_heap h 4, Lib.cell_of_heap h 5⟩

theorem filter_cells {w : World} {b : Nat} {f0 f1 f2 : ByteArray} {e : TypeId} (h : w.heap[b]? = some (.cells #[.string f0, .string f1, .string f2] e (0, 0))) :
    w.cell? ⟨b, 0, none⟩ = some (.string f0) ∧ w.cell? ⟨b, 1, none⟩ = some (.string f1) ∧ w.cell? ⟨b, 2, none⟩ = some (.string f2) :=
  ⟨Lib.cell_of_heap h 0, Lib.cell_of_heap h 1, Lib.cell_of_heap h 2⟩

set_option maxRecDepth 100000 in
set_option maxHeartbeats 1000000 in
theorem tupleMatches_walk (w : World) (f0 f1 f2 : ByteArray) (t : Six) :
    Calls Try.prog 3 #[filterV f0 f1 f2, t.val] w (SaysTrue w) := by
  have hm1 := fun w => match_any w f0 f1 f2 t
  have hm2 := fun w => refmatch_any w f0 f1 f2 t
  obtain ⟨M, hM⟩ : ∃ M, matchB f0 f1 f2 t = M := ⟨_, rfl⟩
  rw [hM] at hm1 hm2
  clear hM
  have HM1 := Lib.hid hm1
  have HM2 := Lib.hid hm2
  clear hm1 hm2
  go_enter Try.func3, Try.ntmps3
  unfold Six.val filterV
  go_wp2_with (go_at_call 5; go_must (refine (fixed_any _).mono ?_))
  rintro e w1 ⟨rfl, b1⟩
  simp only [World.size_alloc] at b1
  have hb1 : Below w.heap.size w w1 := ((Below.refl _ w).alloc (Nat.le_refl _) _).alloc (by simp) _ |>.trans (b1.mono (by omega))
  have hf1 : w1.heap[w.heap.size]? = some (.cells #[.string f0, .string f1, .string f2] 23 (0, 0)) :=
    below_block b1 ((Below.heap_alloc (w.alloc (.cells #[.string f0, .string f1, .string f2] 23)) _ _ (by simp)).trans (heap_alloc_new w _)) (by omega)
  have ht1 : w1.heap[w.heap.size + 1]? = some (.cells (scells t.list).toArray 29 (0, 0)) :=
    below_block b1 (by
      have := heap_alloc_new (w.alloc (.cells #[.string f0, .string f1, .string f2] 23)) (.cells (scells t.list).toArray 29)
      simpa [scells, Six.list] using this) (by omega)
  obtain ⟨c0, c1, c2, c3, c4, c5⟩ := six_cells ht1
  have HF1 := Lib.hid hf1
  have HT1 := Lib.hid ht1
  have HB1 := Lib.hid hb1
  clear b1 hf1 ht1 hb1
  have hnew := heap_alloc_new w1 (.cells (scells t.list).toArray 29)
  have hfew := few_any (w1.alloc (.cells (scells t.list).toArray 29)) w1.heap.size 1 1 [t] rfl (by decide) (by decide) (by simp) (tups_one hnew)
  have HFew := Lib.hid hfew
  clear hnew hfew
  go_wp2_with (go_at_call 6; go_must (refine HFew.out.mono ?_))
  rintro e w2 ⟨rfl, b2⟩
  simp only [World.size_alloc] at b2
  have hs1 : w.heap.size + 1 < w1.heap.size := (Array.getElem?_eq_some_iff.1 HT1.out).1
  have b12 : Below w1.heap.size w1 w2 := ((Below.refl _ w1).alloc (Nat.le_refl _) _).trans (b2.mono (by omega))
  have hf2 := below_block b12 HF1.out (by omega)
  have ht2 := below_block b12 HT1.out hs1
  have hb2 := HB1.out.trans (b12.mono HB1.out.size)
  obtain ⟨d0, d1, d2⟩ := filter_cells hf2
  have hs2 : w.heap.size + 1 < w2.heap.size := (Array.getElem?_eq_some_iff.1 ht2).1
  have HF2 := Lib.hid hf2
  have HT2 := Lib.hid ht2
  have HB2 := Lib.hid hb2
  clear b2 b12 hf2 ht2 hb2 hs1 c0 c1 c2 c3 c4 c5 HF1 HT1 HB1 HFew
  cases h0 : [t].all Six.tight with
  | false =>
    go_wp2
    go_ret
    exact ⟨rfl, HB2.out⟩
  | true =>
    by_cases h300 : (300 : Int) < wrap64 (wrap64 ((f0.size : Int) + f1.size) + f2.size)
    · go_wp2
      go_ret
      exact ⟨rfl, HB2.out⟩
    · clear h0
      go_wp2_with fail
      have kf : ∀ wx, Below w2.heap.size w2 wx → wx.cell? ⟨w.heap.size, 0, none⟩ = some (.string f0) ∧ wx.cell? ⟨w.heap.size, 1, none⟩ = some (.string f1) ∧ wx.cell? ⟨w.heap.size, 2, none⟩ = some (.string f2) := fun wx hbx => filter_cells (below_block hbx HF2.out (by omega))
      have KF := Lib.hid kf
      clear kf
      have kt : ∀ wx, Below w2.heap.size w2 wx → wx.cell? ⟨w.heap.size + 1, 0, none⟩ = some (.string t.a) ∧ wx.cell? ⟨w.heap.size + 1, 1, none⟩ = some (.string t.b) ∧ wx.cell? ⟨w.heap.size + 1, 2, none⟩ = some (.string t.c) ∧ wx.cell? ⟨w.heap.size + 1, 3, none⟩ = some (.string t.d) ∧ wx.cell? ⟨w.heap.size + 1, 4, none⟩ = some (.string t.e) ∧ wx.cell? ⟨w.heap.size + 1, 5, none⟩ = some (.string t.f) := fun wx hbx => six_cells (below_block hbx HT2.out hs2)
      have KT := Lib.hid kt
      clear kt
      refine wp_region_all (by kernel_rfl) [eqF (filterV f0 f1 f2), eqF (t.val), eqF (.bool M), eqF (filterV f0 f1 f2), eqF (t.val), eqF (.bool M), eqF (.bool true), eqF (.bool true)] (by kernel_rfl) ⟨?_, ?_, ?_, ?_, ?_, ?_, ?_, ?_, trivial⟩ ⟨trivial, trivial, trivial, trivial, trivial, trivial, trivial, trivial, trivial⟩ ?_
      · intro ρ wx hρ hbx hl
        have e2 : ρ (.tmp 2) = .pointer (some ⟨w.heap.size, 0, none⟩) := hρ.tmp 2 (by decide +kernel)
        refine y_val (v := filterV f0 f1 f2) ?_ rfl
        obtain ⟨k0, k1, k2⟩ := KF.out wx hbx
        simp [execOp, go_sem, e2, k0, k1, k2, filterV]
      · intro ρ wx hρ hbx hl
        have e3 : ρ (.tmp 3) = .pointer (some ⟨w.heap.size + 1, 0, none⟩) := hρ.tmp 3 (by decide +kernel)
        refine y_val (v := t.val) ?_ rfl
        obtain ⟨k0, k1, k2, k3, k4, k5⟩ := KT.out wx hbx
        simp [execOp, go_sem, e3, k0, k1, k2, k3, k4, k5, Six.val]
      · intro ρ wx hρ hbx hl
        have e25 : ρ (.tmp 25) = filterV f0 f1 f2 := hl 0 (by decide +kernel) 25 rfl
        have e26 : ρ (.tmp 26) = t.val := hl 1 (by decide +kernel) 26 rfl
        refine y_call (f := 7) (args := #[filterV f0 f1 f2, t.val]) (by simp [execOp, resolve, invoke, hρ.func, go_sem, e25, e26]) ?_
        refine (HM1.out wx).mono ?_
        rintro e w6 ⟨rfl, b6⟩
        exact ⟨_, rfl, rfl, b6⟩
      · intro ρ wx hρ hbx hl
        have e2 : ρ (.tmp 2) = .pointer (some ⟨w.heap.size, 0, none⟩) := hρ.tmp 2 (by decide +kernel)
        refine y_val (v := filterV f0 f1 f2) ?_ rfl
        obtain ⟨k0, k1, k2⟩ := KF.out wx hbx
        simp [execOp, go_sem, e2, k0, k1, k2, filterV]
      · intro ρ wx hρ hbx hl
        have e3 : ρ (.tmp 3) = .pointer (some ⟨w.heap.size + 1, 0, none⟩) := hρ.tmp 3 (by decide +kernel)
        refine y_val (v := t.val) ?_ rfl
        obtain ⟨k0, k1, k2, k3, k4, k5⟩ := KT.out wx hbx
        simp [execOp, go_sem, e3, k0, k1, k2, k3, k4, k5, Six.val]
      · intro ρ wx hρ hbx hl
        have e28 : ρ (.tmp 28) = filterV f0 f1 f2 := hl 3 (by decide +kernel) 28 rfl
        have e29 : ρ (.tmp 29) = t.val := hl 4 (by decide +kernel) 29 rfl
        refine y_call (f := 8) (args := #[filterV f0 f1 f2, t.val]) (by simp [execOp, resolve, invoke, hρ.func, go_sem, e28, e29]) ?_
        refine (HM2.out wx).mono ?_
        rintro e w6 ⟨rfl, b6⟩
        exact ⟨_, rfl, rfl, b6⟩
      · intro ρ wx hρ hbx hl
        have e27 : ρ (.tmp 27) = .bool M := hl 2 (by decide +kernel) 27 rfl
        have e30 : ρ (.tmp 30) = .bool M := hl 5 (by decide +kernel) 30 rfl
        refine y_val (v := .bool true) ?_ rfl
        simp [execOp, go_sem, e27, e30]
      · intro ρ wx hρ hbx hl
        have e31 : ρ (.tmp 31) = .bool true := hl 6 (by decide +kernel) 31 rfl
        refine y_val (v := .bool true) ?_ rfl
        simp [execOp, go_sem, e31]
      · intro aa wz hdef hsz hlk hbz hf
        have h4 : aa.tmps.getD 4 undef = .bool true := hf 7 _ 4 rfl rfl
        have hbz' : Below w.heap.size w wz := HB2.out.trans (hbz.mono HB2.out.size)
        have H4 := Lib.hid h4
        clear h4
        go_wp2
        have h4 := H4.out
        refine bodyPost_ret (v := .bool true) ?_ hdef ⟨rfl, hbz'⟩
        rw [Array.getD_eq_getD_getElem?] at h4
        simp [results, Try.results3, go_sem, h4]
end Go.Proofs.Ytidnalihgihnaaa
