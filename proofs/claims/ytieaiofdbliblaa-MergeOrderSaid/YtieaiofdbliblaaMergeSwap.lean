/- Swap. -/
import Derived.Test.YtieaiofdbliblaaMergeMem
namespace Go.Proofs.Ytieaiofdbliblaa
open Go Go.RowKit

variable {G : Nat → Prop}

theorem own_set {w : World} {B n g cap : Nat} {e : TypeId} {xs : List Value} (h : w.ownsRow B e 1 (.slice (some ⟨g, 0, none⟩) n cap) n xs) {i : Nat} (v : Value) : (w.setCell ⟨g, i, none⟩ v).ownsRow B e 1 (.slice (some ⟨g, 0, none⟩) n cap) n (xs.set i v) := by
  refine ⟨by rw [List.length_set]; exact h.1, ?_⟩
  rcases h.2 with ⟨h0, _⟩ | ⟨g', cap', cur, hv, hB, hg, h1, h2, h3, h4⟩
  · cases h0
  · cases hv
    refine .inr ⟨g, cap, cur.setIfInBounds i v, rfl, hB, heap_setCell_same _ _ i _ _ _ hg, h1, h2, by simpa using h3, ?_⟩
    rw [← h4, Array.toList_setIfInBounds, List.take_set]

theorem own_drawn {w : World} {B n : Nat} {e : TypeId} {s : Nat} {v : Value} {xs : List Value} (h : w.ownsRow B e s v n xs) (k : Nat) : (w.drewN k).ownsRow B e s v n xs := h

/-- What a swap leaves. -/
def SwapPost (G : Nat → Prop) (w : World) (B m : Nat) (rs : List Row) (e : Ending) (w' : World) : Prop := e = .returned (.tuple #[]) ∧ (∃ hv svs, MS G w' B m hv svs rs) ∧ MF B w w'

theorem swap_state {w : World} {B m g cap : Nat} {svs : List Value} {rs : List Row} {i j : Nat} {vi vj : Value} (h : MS G w B m (.slice (some ⟨g, 0, none⟩) rs.length cap) svs rs) (hi : i < rs.length) (hj : j < rs.length) (h1 : svs[i]? = some vi) (h2 : svs[j]? = some vj) (k : Nat) :
    MS G (((w.setCell ⟨g, i, none⟩ vj).setCell ⟨g, j, none⟩ vi).drewN k) B m (.slice (some ⟨g, 0, none⟩) rs.length cap) (swp svs i j) (swp rs i j) ∧ MF B w (((w.setCell ⟨g, i, none⟩ vj).setCell ⟨g, j, none⟩ vi).drewN k) := by
  have hgB : B ≤ g ∧ ∃ cs fz, w.heap[g]? = some (Obj.cells cs 46 fz) := by
    rcases h.own.2 with ⟨h0, _⟩ | ⟨g', cap', cur, hv, hB, hg, _⟩
    · cases h0
    · cases hv
      exact ⟨hB, cur, _, hg⟩
  have hgm : g ≠ m := fun e => by
    obtain ⟨_, cs, fz, hc⟩ := hgB
    rw [e, h.cell] at hc
    injection hc with hc
    injection hc with _ hc _
    exact absurd hc (by decide)
  have ht : Touch w (((w.setCell ⟨g, i, none⟩ vj).setCell ⟨g, j, none⟩ vi).drewN k) [g] := (((Touch.refl _ _).setCell (.inl (by simp)) _).setCell (.inl (by simp)) _).drewN k
  have hm : MF B w (((w.setCell ⟨g, i, none⟩ vj).setCell ⟨g, j, none⟩ vi).drewN k) := MF.of_touch ht (by have := (Array.getElem?_eq_some_iff.1 h.cell).1; have := h.base; omega) (fun x hx => by
    simp at hx
    subst hx
    obtain ⟨hb, cs, fz, hc⟩ := hgB
    exact ⟨hb, cs, _, fz, .inr rfl, hc⟩)
  refine ⟨⟨ht.keep h.cell (by simp; exact fun e => hgm e.symm), h.base, ?_, ?_, fun l hl => h.full l ((swp_perm hi hj).subset hl), by rw [swp_length]; exact h.few⟩, hm⟩
  · have hs : swp svs i j = (svs.set i vj).set j vi := by
      unfold swp
      rw [h1, h2]
    rw [hs, swp_length]
    exact own_drawn (own_set (own_set h.own vj) vi) k
  · refine ⟨by rw [swp_length, swp_length]; exact h.rows.1, fun q v l hv hl => ?_⟩
    have hl1 : svs.length = rs.length := h.rows.1
    have hi' : i < svs.length := by omega
    have hj' : j < svs.length := by omega
    rw [swp_get hi' hj'] at hv
    rw [swp_get hi hj] at hl
    have : ∃ p : Nat, svs[p]? = some v ∧ rs[p]? = some l := by
      by_cases e1 : q = j
      · rw [if_pos e1] at hv hl
        exact ⟨i, hv, hl⟩
      · rw [if_neg e1] at hv hl
        by_cases e2 : q = i
        · rw [if_pos e2] at hv hl
          exact ⟨j, hv, hl⟩
        · rw [if_neg e2] at hv hl
          exact ⟨q, hv, hl⟩
    obtain ⟨p, hp1, hp2⟩ := this
    exact (h.rows.2 p v l hp1 hp2).mf hm

set_option maxRecDepth 100000 in
set_option maxHeartbeats 4000000 in
theorem rswap_any (w : World) (B m : Nat) (hv : Value) (svs : List Value) (rs : List Row) (i j : Nat) (h : MS G w B m hv svs rs) (hi : i < rs.length) (hj : j < rs.length) :
    Calls Try.prog 41 #[hv, .int .i64 (i : Int), .int .i64 (j : Int)] w (SwapPost G w B m (swp rs i j)) := by
  obtain ⟨g, cap, ⟨ab, ao⟩, len, scap, rfl, hgl, s1, c1, l1, l1', bl1, d1, fz⟩ := h.get hi
  obtain ⟨g', cap', ⟨bb, bo⟩, len', scap', hge, _, s2, c2, l2, l2', bl2, d2, _⟩ := h.get hj
  cases hge
  have hiI : (i : Int) < rs.length := by omega
  have hjI : (j : Int) < rs.length := by omega
  have HS := Lib.hid fun k => swap_state h hi hj s1 s2 k
  have f1 := fz i
  have f2 := fz j
  clear h s1 s2 fz d1 d2 l1 l1' l2 l2' bl1 bl2
  by_cases hij : i = j
  · subst hij
    obtain ⟨rfl, rfl, rfl, rfl⟩ : bb = ab ∧ bo = ao ∧ len' = len ∧ scap' = scap := by
      rw [c1] at c2
      simp at c2
      exact ⟨c2.1.1.symm, c2.1.2.symm, c2.2.1.symm, c2.2.2.symm⟩
    clear c2 hjI f2
    go_enter Try.func41, Try.ntmps41
    go_wp2
    go_region
    go_wp2
    exact bodyPost_end (by simp [results, Try.results41]) rfl ⟨rfl, ⟨_, _, (HS.out 1).1⟩, (HS.out 1).2⟩
  · go_enter Try.func41, Try.ntmps41
    go_wp2
    go_region
    go_wp2
    exact bodyPost_end (by simp [results, Try.results41]) rfl ⟨rfl, ⟨_, _, (HS.out 1).1⟩, (HS.out 1).2⟩
end Go.Proofs.Ytieaiofdbliblaa
