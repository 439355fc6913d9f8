/- Two arrays made and written in a drawn region; how many draws there were only grows. -/
import Derived.Test.YtlibncefiibgaaaDoorZTupleTwo
namespace Go.Proofs.YtlibncefiibgaaaDoor
open Go Go.RowKit

theorem setCell_drawn (w : World) (p : Addr) (v : Value) : (w.setCell p v).drawn = w.drawn := by
  unfold World.setCell
  rfl
theorem set6_drawn (w : World) (b : Nat) (t : Six) : (set6 w b t).drawn = w.drawn := by
  unfold set6
  rw [setCell_drawn, setCell_drawn, setCell_drawn, setCell_drawn, setCell_drawn, setCell_drawn]

/-- What holds when the operations L of the region have been carried out. -/
structure CJG (a0 : Act) (w0 : World) (p q : Six) (L : Nat → Bool) (a : Act) (w : World) : Prop where
  defers : a.defers = a0.defers
  size : a.tmps.size = a0.tmps.size
  outs : ∀ k, [5, 6, 10, 11, 12, 13].contains k = false → a.tmps.getD k undef = a0.tmps.getD k undef
  below : Below w0.heap.size w0 w
  drawn : w0.drawn ≤ w.drawn
  s10 : L 0 = true → a.tmps.getD 10 undef = p.val
  s11 : L 1 = true → a.tmps.getD 11 undef = p.val
  s12 : L 2 = true → a.tmps.getD 12 undef = q.val
  s13 : L 3 = true → a.tmps.getD 13 undef = q.val
  s5 : L 4 = true → ∃ b, a.tmps.getD 5 undef = .pointer (some ⟨b, 0, none⟩) ∧ w0.heap.size ≤ b ∧ w.heap[b]? = some (.cells (scells (if L 6 then p else Six.none).list).toArray 70 (0, 0))
  s6 : L 5 = true → ∃ b, a.tmps.getD 6 undef = .pointer (some ⟨b, 0, none⟩) ∧ w0.heap.size ≤ b ∧ w.heap[b]? = some (.cells (scells (if L 7 then q else Six.none).list).toArray 70 (0, 0))
  ne : L 4 = true → L 5 = true → a.tmps.getD 5 undef ≠ a.tmps.getD 6 undef
  ord : ∀ k, k = 6 ∨ k = 7 → L k = true → L 4 = true ∧ L 5 = true

section
variable {a0 : Act} {w0 : World} {p q : Six} {L L' : Nat → Bool} {a : Act} {w w' : World}

theorem CJG.grow (h : CJG a0 w0 p q L a w) (hb : Below w.heap.size w w') (hd : w.drawn ≤ w'.drawn) : CJG a0 w0 p q L a w' :=
  { h with
    below := h.below.trans (hb.mono h.below.size)
    drawn := Nat.le_trans h.drawn hd
    s5 := fun hL => by
      obtain ⟨b, h1, h2, h3⟩ := h.s5 hL
      exact ⟨b, h1, h2, below_block hb h3 (Array.getElem?_eq_some_iff.1 h3).1⟩
    s6 := fun hL => by
      obtain ⟨b, h1, h2, h3⟩ := h.s6 hL
      exact ⟨b, h1, h2, below_block hb h3 (Array.getElem?_eq_some_iff.1 h3).1⟩ }

theorem CJG.val0 (h : CJG a0 w0 p q L a w) (hs : a0.tmps.size = 17) (hb : Below w.heap.size w w') (hd : w.drawn ≤ w'.drawn) (hL : ∀ k, L' k = if k = 0 then true else L k) : CJG a0 w0 p q L' (a.put (some 10) p.val) w' := by
  have g := h.grow hb hd
  have hsz := h.size.trans hs
  constructor
  · exact g.defers
  · rw [size_put]; exact g.size
  · intro k hk; rw [getD_put (by rintro rfl; cases hk)]; exact g.outs k hk
  · exact g.below
  · exact g.drawn
  · intro _; exact getD_put_same (by omega)
  · rw [hL 1, getD_put (by decide)]; exact g.s11
  · rw [hL 2, getD_put (by decide)]; exact g.s12
  · rw [hL 3, getD_put (by decide)]; exact g.s13
  · rw [hL 4, hL 6, getD_put (by decide)]; exact g.s5
  · rw [hL 5, hL 7, getD_put (by decide)]; exact g.s6
  · rw [hL 4, hL 5, getD_put (by decide), getD_put (by decide)]; exact g.ne
  · intro k hk h
    rw [hL k, if_neg (by omega)] at h
    rw [hL 4, hL 5]
    exact g.ord k hk h

theorem CJG.val1 (h : CJG a0 w0 p q L a w) (hs : a0.tmps.size = 17) (hb : Below w.heap.size w w') (hd : w.drawn ≤ w'.drawn) (hL : ∀ k, L' k = if k = 1 then true else L k) : CJG a0 w0 p q L' (a.put (some 11) p.val) w' := by
  have g := h.grow hb hd
  have hsz := h.size.trans hs
  constructor
  · exact g.defers
  · rw [size_put]; exact g.size
  · intro k hk; rw [getD_put (by rintro rfl; cases hk)]; exact g.outs k hk
  · exact g.below
  · exact g.drawn
  · rw [hL 0, getD_put (by decide)]; exact g.s10
  · intro _; exact getD_put_same (by omega)
  · rw [hL 2, getD_put (by decide)]; exact g.s12
  · rw [hL 3, getD_put (by decide)]; exact g.s13
  · rw [hL 4, hL 6, getD_put (by decide)]; exact g.s5
  · rw [hL 5, hL 7, getD_put (by decide)]; exact g.s6
  · rw [hL 4, hL 5, getD_put (by decide), getD_put (by decide)]; exact g.ne
  · intro k hk h
    rw [hL k, if_neg (by omega)] at h
    rw [hL 4, hL 5]
    exact g.ord k hk h

theorem CJG.val2 (h : CJG a0 w0 p q L a w) (hs : a0.tmps.size = 17) (hb : Below w.heap.size w w') (hd : w.drawn ≤ w'.drawn) (hL : ∀ k, L' k = if k = 2 then true else L k) : CJG a0 w0 p q L' (a.put (some 12) q.val) w' := by
  have g := h.grow hb hd
  have hsz := h.size.trans hs
  constructor
  · exact g.defers
  · rw [size_put]; exact g.size
  · intro k hk; rw [getD_put (by rintro rfl; cases hk)]; exact g.outs k hk
  · exact g.below
  · exact g.drawn
  · rw [hL 0, getD_put (by decide)]; exact g.s10
  · rw [hL 1, getD_put (by decide)]; exact g.s11
  · intro _; exact getD_put_same (by omega)
  · rw [hL 3, getD_put (by decide)]; exact g.s13
  · rw [hL 4, hL 6, getD_put (by decide)]; exact g.s5
  · rw [hL 5, hL 7, getD_put (by decide)]; exact g.s6
  · rw [hL 4, hL 5, getD_put (by decide), getD_put (by decide)]; exact g.ne
  · intro k hk h
    rw [hL k, if_neg (by omega)] at h
    rw [hL 4, hL 5]
    exact g.ord k hk h

theorem CJG.val3 (h : CJG a0 w0 p q L a w) (hs : a0.tmps.size = 17) (hb : Below w.heap.size w w') (hd : w.drawn ≤ w'.drawn) (hL : ∀ k, L' k = if k = 3 then true else L k) : CJG a0 w0 p q L' (a.put (some 13) q.val) w' := by
  have g := h.grow hb hd
  have hsz := h.size.trans hs
  constructor
  · exact g.defers
  · rw [size_put]; exact g.size
  · intro k hk; rw [getD_put (by rintro rfl; cases hk)]; exact g.outs k hk
  · exact g.below
  · exact g.drawn
  · rw [hL 0, getD_put (by decide)]; exact g.s10
  · rw [hL 1, getD_put (by decide)]; exact g.s11
  · rw [hL 2, getD_put (by decide)]; exact g.s12
  · intro _; exact getD_put_same (by omega)
  · rw [hL 4, hL 6, getD_put (by decide)]; exact g.s5
  · rw [hL 5, hL 7, getD_put (by decide)]; exact g.s6
  · rw [hL 4, hL 5, getD_put (by decide), getD_put (by decide)]; exact g.ne
  · intro k hk h
    rw [hL k, if_neg (by omega)] at h
    rw [hL 4, hL 5]
    exact g.ord k hk h

theorem CJG.make4 (h : CJG a0 w0 p q L a w) (hs : a0.tmps.size = 17) (h4 : L 4 = false) (hL : ∀ k, L' k = if k = 4 then true else L k) :
    CJG a0 w0 p q L' (a.put (some 5) (.pointer (some ⟨w.heap.size, 0, none⟩))) (w.alloc (.cells (scells Six.none.list).toArray 70)) := by
  have g := h.grow ((Below.refl w.heap.size w).alloc (Nat.le_refl _) (.cells (scells Six.none.list).toArray 70)) (Nat.le_refl _)
  have hsz := h.size.trans hs
  constructor
  · exact g.defers
  · rw [size_put]; exact g.size
  · intro k hk; rw [getD_put (by rintro rfl; cases hk)]; exact g.outs k hk
  · exact g.below
  · exact g.drawn
  · rw [hL 0, getD_put (by decide)]; exact g.s10
  · rw [hL 1, getD_put (by decide)]; exact g.s11
  · rw [hL 2, getD_put (by decide)]; exact g.s12
  · rw [hL 3, getD_put (by decide)]; exact g.s13
  · intro _
    refine ⟨w.heap.size, getD_put_same (by omega), h.below.size, ?_⟩
    have e6 : L' 6 = false := by
      cases hc : L' 6 with
      | false => rfl
      | true =>
        rw [hL 6, if_neg (by omega)] at hc
        rw [(h.ord 6 (.inl rfl) hc).1] at h4
        cases h4
    rw [e6]
    exact heap_alloc_new w _
  · rw [hL 5, hL 7, getD_put (by decide)]; exact g.s6
  · intro _ h5
    rw [hL 5, if_neg (by decide)] at h5
    rw [getD_put_same (by omega), getD_put (by decide)]
    obtain ⟨b, h1, _, h3⟩ := h.s6 h5
    rw [h1]
    have := (Array.getElem?_eq_some_iff.1 h3).1
    intro e
    simp at e
  · intro k hk hc
    rw [hL k, if_neg (by omega)] at hc
    rw [(h.ord k hk hc).1] at h4
    cases h4

theorem CJG.make5 (h : CJG a0 w0 p q L a w) (hs : a0.tmps.size = 17) (h5 : L 5 = false) (hL : ∀ k, L' k = if k = 5 then true else L k) :
    CJG a0 w0 p q L' (a.put (some 6) (.pointer (some ⟨w.heap.size, 0, none⟩))) (w.alloc (.cells (scells Six.none.list).toArray 70)) := by
  have g := h.grow ((Below.refl w.heap.size w).alloc (Nat.le_refl _) (.cells (scells Six.none.list).toArray 70)) (Nat.le_refl _)
  have hsz := h.size.trans hs
  constructor
  · exact g.defers
  · rw [size_put]; exact g.size
  · intro k hk; rw [getD_put (by rintro rfl; cases hk)]; exact g.outs k hk
  · exact g.below
  · exact g.drawn
  · rw [hL 0, getD_put (by decide)]; exact g.s10
  · rw [hL 1, getD_put (by decide)]; exact g.s11
  · rw [hL 2, getD_put (by decide)]; exact g.s12
  · rw [hL 3, getD_put (by decide)]; exact g.s13
  · rw [hL 4, hL 6, getD_put (by decide)]; exact g.s5
  · intro _
    refine ⟨w.heap.size, getD_put_same (by omega), h.below.size, ?_⟩
    have e7 : L' 7 = false := by
      cases hc : L' 7 with
      | false => rfl
      | true =>
        rw [hL 7, if_neg (by omega)] at hc
        rw [(h.ord 7 (.inr rfl) hc).2] at h5
        cases h5
    rw [e7]
    exact heap_alloc_new w _
  · intro h4 _
    rw [hL 4, if_neg (by decide)] at h4
    rw [getD_put (by decide), getD_put_same (by omega)]
    obtain ⟨b, h1, _, h3⟩ := h.s5 h4
    rw [h1]
    have := (Array.getElem?_eq_some_iff.1 h3).1
    intro e
    simp at e
  · intro k hk hc
    rw [hL k, if_neg (by omega)] at hc
    rw [(h.ord k hk hc).2] at h5
    cases h5

theorem CJG.store6 (h : CJG a0 w0 p q L a w) {b : Nat} (h5 : a.tmps.getD 5 undef = .pointer (some ⟨b, 0, none⟩)) (hl4 : L 4 = true) (hl5 : L 5 = true) (hL : ∀ k, L' k = if k = 6 then true else L k) :
    CJG a0 w0 p q L' a (set6 w b p) := by
  obtain ⟨b1, e1, k1, g1⟩ := h.s5 hl4
  obtain ⟨b2, e2, k2, g2⟩ := h.s6 hl5
  have hne := h.ne hl4 hl5
  rw [e1] at h5
  simp at h5
  subst h5
  rw [e1, e2] at hne
  have hne' : b2 ≠ b1 := fun e => hne (by rw [e])
  constructor
  · exact h.defers
  · exact h.size
  · exact h.outs
  · exact set6_below h.below k1
  · rw [set6_drawn]; exact h.drawn
  · rw [hL 0]; exact h.s10
  · rw [hL 1]; exact h.s11
  · rw [hL 2]; exact h.s12
  · rw [hL 3]; exact h.s13
  · intro _
    refine ⟨b1, e1, k1, ?_⟩
    rw [hL 6, if_pos rfl, if_pos rfl]
    exact set6_same g1
  · intro _
    refine ⟨b2, e2, k2, ?_⟩
    rw [hL 7, set6_other hne']
    exact g2
  · intro _ _
    rw [e1, e2]
    exact hne
  · intro k _ _
    rw [hL 4, hL 5]
    exact ⟨hl4, hl5⟩

theorem CJG.store7 (h : CJG a0 w0 p q L a w) {b : Nat} (h6 : a.tmps.getD 6 undef = .pointer (some ⟨b, 0, none⟩)) (hl4 : L 4 = true) (hl5 : L 5 = true) (hL : ∀ k, L' k = if k = 7 then true else L k) :
    CJG a0 w0 p q L' a (set6 w b q) := by
  obtain ⟨b1, e1, k1, g1⟩ := h.s5 hl4
  obtain ⟨b2, e2, k2, g2⟩ := h.s6 hl5
  have hne := h.ne hl4 hl5
  rw [e2] at h6
  simp at h6
  subst h6
  rw [e1, e2] at hne
  have hne' : b1 ≠ b2 := fun e => hne (by rw [e])
  constructor
  · exact h.defers
  · exact h.size
  · exact h.outs
  · exact set6_below h.below k2
  · rw [set6_drawn]; exact h.drawn
  · rw [hL 0]; exact h.s10
  · rw [hL 1]; exact h.s11
  · rw [hL 2]; exact h.s12
  · rw [hL 3]; exact h.s13
  · intro _
    refine ⟨b1, e1, k1, ?_⟩
    rw [hL 6, set6_other hne']
    exact g1
  · intro _
    refine ⟨b2, e2, k2, ?_⟩
    rw [hL 7, if_pos rfl, if_pos rfl]
    exact set6_same g2
  · intro _ _
    rw [e1, e2]
    exact hne
  · intro k _ _
    rw [hL 4, hL 5]
    exact ⟨hl4, hl5⟩
end

theorem wp_region_twoG {P : Program} {id : Nat} {l : List Oper} {Q : Exit → Act → World → Prop} {a0 : Act} {w0 : World} {p q : Six} (hl : 7 < l.length) (hm : P.follows .mixedOrders = true) (hok : drawnOk l a0.tmps.size = true) (hung : l.all (·.guard.isNone) = true)
    (hstep : ∀ (i : Nat) (o : Oper), l[i]? = some o → ∀ (L : Nat → Bool) (a : Act) (w : World), L i = false → (∀ j, (o.after.any fun e => Region.binds .any e && e.on == j) = true → L j = true) → CJG a0 w0 p q L a w → o.wp P a w (fun a' w' => ∀ L' : Nat → Bool, (∀ k, L' k = if k = i then true else L k) → CJG a0 w0 p q L' a' w') Q)
    (hend : ∀ (L : Nat → Bool) (a : Act) (w : World), (∀ i, i < l.length → L i = true) → CJG a0 w0 p q L a w → Q .normal a w) :
    (Code.region id l.toArray true).wp P Q a0 w0 := by
  refine wp_region_inv hm hok hung (CJG a0 w0 p q) (fun L hL => ?_) hstep hend
  have hf : ∀ k, k ≤ 5 → L k = true → False := fun k hk h => by rw [hL k (by omega)] at h; cases h
  exact ⟨rfl, rfl, fun _ _ => rfl, ⟨rfl, rfl, rfl, Nat.le_refl _, fun _ _ => rfl⟩, Nat.le_succ _, fun h => (hf 0 (by decide) h).elim, fun h => (hf 1 (by decide) h).elim, fun h => (hf 2 (by decide) h).elim, fun h => (hf 3 (by decide) h).elim, fun h => (hf 4 (by decide) h).elim, fun h => (hf 5 (by decide) h).elim, fun h => (hf 4 (by decide) h).elim, fun k hk h => by rw [hL k (by omega)] at h; cases h⟩
end Go.Proofs.YtlibncefiibgaaaDoor
