/- The readers: numbers below the bound. -/
import Derived.Test.YthjimldojdhccaaZEditRd
namespace Go.Proofs.Ythjimldojdhccaa
open Go Go.RowKit

theorem ernum_none {l : List UInt8} {e : Nat} (h : (ernum l e).2.2 ≠ 0) : (ernum l e).1 = 0 := by
  unfold ernum at h ⊢
  split
  · rfl
  · rename_i he
    rw [if_neg he] at h
    exact (getGo_none l 0 0 h).1

set_option maxRecDepth 100000 in
set_option maxHeartbeats 2000000 in
theorem ewhole_any (B : Nat) (w : World) (g : Nat) (rest : List UInt8) (e : Nat) (h : ERAt 59 B w g rest e) :
    Calls Try.prog 28 #[.pointer (some ⟨g, 0, none⟩)] w (ERPost 59 B w g (erwh rest e).2.1 (erwh rest e).2.2 (.int .i64 (erwh rest e).1)) := by
  have hn := enumber_any B w g rest e h
  have hz := ernum_none (l := rest) (e := e)
  unfold erwh
  generalize ernum rest e = r at *
  obtain ⟨x, l, e'⟩ := r
  dsimp only at hn hz ⊢
  have HN := Lib.hid hn
  clear hn h
  by_cases hx : 4611686018427387904 ≤ x
  · have he : e' = 0 := Classical.byContradiction fun he => by have := hz he; omega
    subst he
    have hxI : (4611686018427387904 : Int) ≤ (x : Int) := by omega
    rw [if_pos hx]
    clear hz hx
    go_enter Try.func28, Try.ntmps28
    go_wp2_with (go_at_call 29; go_must (refine HN.out.mono ?_))
    rintro e1 w1 ⟨rfl, ⟨v, hg, hs, hB⟩, ht⟩
    have hlt : g < w1.heap.size := (Array.getElem?_eq_some_iff.1 hg).1
    have c0 := Lib.cell_of_heap hg 0
    have c1 := Lib.cell_of_heap hg 1
    have f0 := Lib.frozen_of_heap hg
    simp at c0 c1
    have hst : (w1.setCell ⟨g, 1, none⟩ (.int .i64 9)).heap[g]? = some (.cells #[v, .int .i64 ((9 : Nat) : Int)] 59 (0, 0)) := by
      rw [heap_setCell_same _ _ 1 _ _ _ hg]
      rfl
    have htc : Touch w1 (w1.setCell ⟨g, 1, none⟩ (.int .i64 9)) [g] := (Touch.refl w1 [g]).setCell (p := ⟨g, 1, none⟩) (.inl (by simp)) _
    have HF := Lib.hid (show ERAt 59 B (w1.setCell ⟨g, 1, none⟩ (.int .i64 9)) g l 9 ∧ Touch w (w1.setCell ⟨g, 1, none⟩ (.int .i64 9)) [g] from ⟨⟨_, hst, htc.sl hs hB, hB⟩, ht.setCell (p := ⟨g, 1, none⟩) (.inl (by simp)) _⟩)
    clear hst htc ht hg hs
    go_wp2
    go_ret
    exact ⟨rfl, HF.out.1, HF.out.2⟩
  · have hxI : ¬ (4611686018427387904 : Int) ≤ (x : Int) := by omega
    have hw : IntKind.i64.wrap (x : Int) = (x : Int) := by rw [IntKind.wrap_i64] <;> omega
    rw [if_neg hx]
    clear hz hx
    have hx0 : (0 : Int) ≤ (x : Int) := by omega
    generalize (x : Int) = xi at *
    go_enter Try.func28, Try.ntmps28
    go_wp2_with (go_at_call 29; go_must (refine HN.out.mono ?_))
    rintro e1 w1 ⟨rfl, hr, ht⟩
    have HF := Lib.hid (And.intro hr ht)
    clear hr ht
    go_wp2
    go_ret
    exact ⟨rfl, HF.out.1, HF.out.2⟩

set_option maxRecDepth 100000 in
set_option maxHeartbeats 2000000 in
theorem fsmall_any (B : Nat) (w : World) (g : Nat) (rest : List UInt8) (e : Nat) (h : ERAt 67 B w g rest e) :
    Calls Try.prog 31 #[.pointer (some ⟨g, 0, none⟩)] w (ERPost 67 B w g (erwh rest e).2.1 (erwh rest e).2.2 (.int .i64 (erwh rest e).1)) := by
  have hn := fnumber_any B w g rest e h
  have hz := ernum_none (l := rest) (e := e)
  unfold erwh
  generalize ernum rest e = r at *
  obtain ⟨x, l, e'⟩ := r
  dsimp only at hn hz ⊢
  have HN := Lib.hid hn
  clear hn h
  by_cases hx : 4611686018427387904 ≤ x
  · have he : e' = 0 := Classical.byContradiction fun he => by have := hz he; omega
    subst he
    have hxI : (4611686018427387904 : Int) ≤ (x : Int) := by omega
    rw [if_pos hx]
    clear hz hx
    go_enter Try.func31, Try.ntmps31
    go_wp2_with (go_at_call 30; go_must (refine HN.out.mono ?_))
    rintro e1 w1 ⟨rfl, ⟨v, hg, hs, hB⟩, ht⟩
    have hlt : g < w1.heap.size := (Array.getElem?_eq_some_iff.1 hg).1
    have c0 := Lib.cell_of_heap hg 0
    have c1 := Lib.cell_of_heap hg 1
    have f0 := Lib.frozen_of_heap hg
    simp at c0 c1
    have hst : (w1.setCell ⟨g, 1, none⟩ (.int .i64 9)).heap[g]? = some (.cells #[v, .int .i64 ((9 : Nat) : Int)] 67 (0, 0)) := by
      rw [heap_setCell_same _ _ 1 _ _ _ hg]
      rfl
    have htc : Touch w1 (w1.setCell ⟨g, 1, none⟩ (.int .i64 9)) [g] := (Touch.refl w1 [g]).setCell (p := ⟨g, 1, none⟩) (.inl (by simp)) _
    have HF := Lib.hid (show ERAt 67 B (w1.setCell ⟨g, 1, none⟩ (.int .i64 9)) g l 9 ∧ Touch w (w1.setCell ⟨g, 1, none⟩ (.int .i64 9)) [g] from ⟨⟨_, hst, htc.sl hs hB, hB⟩, ht.setCell (p := ⟨g, 1, none⟩) (.inl (by simp)) _⟩)
    clear hst htc ht hg hs
    go_wp2
    go_ret
    exact ⟨rfl, HF.out.1, HF.out.2⟩
  · have hxI : ¬ (4611686018427387904 : Int) ≤ (x : Int) := by omega
    have hw : IntKind.i64.wrap (x : Int) = (x : Int) := by rw [IntKind.wrap_i64] <;> omega
    rw [if_neg hx]
    clear hz hx
    have hx0 : (0 : Int) ≤ (x : Int) := by omega
    generalize (x : Int) = xi at *
    go_enter Try.func31, Try.ntmps31
    go_wp2_with (go_at_call 30; go_must (refine HN.out.mono ?_))
    rintro e1 w1 ⟨rfl, hr, ht⟩
    have HF := Lib.hid (And.intro hr ht)
    clear hr ht
    go_wp2
    go_ret
    exact ⟨rfl, HF.out.1, HF.out.2⟩
end Go.Proofs.Ythjimldojdhccaa
