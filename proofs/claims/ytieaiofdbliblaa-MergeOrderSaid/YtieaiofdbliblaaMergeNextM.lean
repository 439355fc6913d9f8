/- What a merger tells next: the mathematics. -/
import Derived.Test.YtieaiofdbliblaaMergePopH
namespace Go.Proofs.Ytieaiofdbliblaa
open Go Go.RowKit

/-- Rows that rise, as a heap. -/
structure MI (rs : List Row) : Prop where
  heap : HeapFrom rs 0 rs.length
  up : ∀ l ∈ rs, rises l
  full : ∀ l ∈ rs, l ≠ []

theorem row_at {rs : List Row} {l : Row} (hl : l ∈ rs) : ∃ c, c < rs.length ∧ rs[c]? = some l ∧ hd rs c = l.head?.getD ⟨#[]⟩ := by
  obtain ⟨c, hc⟩ := List.getElem?_of_mem hl
  refine ⟨c, (List.getElem?_eq_some_iff.1 hc).1, hc, ?_⟩
  unfold hd
  rw [hc]
  rfl

theorem head_le {l : Row} (hr : rises l) {x : ByteArray} (hx : x ∈ l) : bl x (l.head?.getD ⟨#[]⟩) = false := by
  cases l with
  | nil => cases hx
  | cons a t =>
    rcases List.mem_cons.1 hx with rfl | hx
    · exact bl_irrefl _
    · exact bl_asymm ((List.pairwise_cons.1 hr).1 x hx)

theorem MI.root {rs : List Row} (h : MI rs) {x : ByteArray} (hx : x ∈ rs.flatten) : bl x (hd rs 0) = false := by
  obtain ⟨l, hl, hxl⟩ := List.mem_flatten.1 hx
  obtain ⟨c, hc, _, he⟩ := row_at hl
  have h1 := heap_root h.heap c hc
  rw [he] at h1
  exact bl_le_trans h1 (head_le (h.up l hl) hxl)

theorem MI.perm {rs rs' : List Row} (hp : rs'.Perm rs) (h : MI rs) (hh : HeapFrom rs' 0 rs'.length) : MI rs' := ⟨hh, fun l hl => h.up l (hp.subset hl), fun l hl => h.full l (hp.subset hl)⟩

theorem MI.head_mem {rs : List Row} (h : MI rs) (hn : 0 < rs.length) : ∃ t, rs[0]? = some (hd rs 0 :: t) := by
  obtain ⟨l, hl⟩ : ∃ l, rs[0]? = some l := ⟨_, List.getElem?_eq_getElem hn⟩
  have hne := h.full l (List.mem_of_getElem? hl)
  unfold hd
  rw [hl]
  cases l with
  | nil => exact absurd rfl hne
  | cons a t => exact ⟨t, rfl⟩

/-- What is left while a key is let go. -/
structure Mid17 (rs rs' : List Row) (key : ByteArray) (g : Nat) : Prop where
  mi : MI rs'
  keep : ∀ x, x ≠ key → (x ∈ rs'.flatten ↔ x ∈ rs.flatten)
  ge : ∀ x ∈ rs'.flatten, bl x key = false
  less : rs'.length ≤ rs.length
  tot : rs'.flatten.length ≤ g

theorem Mid17.step {rs rs' rs2 rs3 : List Row} {key : ByteArray} {t : Row} {g : Nat} (m : Mid17 rs rs' key (g + 1)) (hp : ((key :: t) :: rs2).Perm rs') (hp3 : rs3.Perm (if t = [] then rs2 else t :: rs2)) (hh : HeapFrom rs3 0 rs3.length) : Mid17 rs rs3 key g := by
  have hf3 : rs3.flatten.Perm (t ++ rs2.flatten) := by
    refine hp3.flatten.trans ?_
    split
    · rename_i h
      rw [h]
      exact List.Perm.refl _
    · exact List.Perm.refl _
  have hf : (key :: (t ++ rs2.flatten)).Perm rs'.flatten := hp.flatten
  have hl := hf.length_eq
  have hl2 := hp.length_eq
  have hl3 := hp3.length_eq
  refine ⟨⟨hh, fun l hl => ?_, fun l hl => ?_⟩, fun x hx => ?_, fun x hx => m.ge x (hf.subset (List.mem_cons_of_mem _ (hf3.subset hx))), ?_, ?_⟩
  · have := hp3.subset hl
    split at this
    · exact m.mi.up l (hp.subset (List.mem_cons_of_mem _ this))
    · rcases List.mem_cons.1 this with rfl | this
      · exact (List.pairwise_cons.1 (m.mi.up _ (hp.subset (List.mem_cons_self ..)))).2
      · exact m.mi.up l (hp.subset (List.mem_cons_of_mem _ this))
  · have := hp3.subset hl
    split at this
    · exact m.mi.full l (hp.subset (List.mem_cons_of_mem _ this))
    · rename_i hne
      rcases List.mem_cons.1 this with rfl | this
      · exact hne
      · exact m.mi.full l (hp.subset (List.mem_cons_of_mem _ this))
  · rw [← m.keep x hx]
    constructor
    · intro h
      exact hf.subset (List.mem_cons_of_mem _ (hf3.subset h))
    · intro h
      rcases List.mem_cons.1 (hf.symm.subset h) with rfl | h
      · exact absurd rfl hx
      · exact hf3.symm.subset h
  · have := m.less
    split at hl3
    · simp at hl2 hl3
      omega
    · simp at hl2 hl3
      omega
  · have h1 := m.tot
    have h2 := hf3.length_eq
    simp at hl h2
    simp at h1 ⊢
    omega

/-- What is left then. -/
structure Told17 (rs rs' : List Row) (key : ByteArray) : Prop where
  mi : MI rs'
  keep : ∀ x, x ∈ rs'.flatten ↔ x ∈ rs.flatten ∧ x ≠ key
  less : rs'.length ≤ rs.length

theorem Mid17.done {rs rs' : List Row} {key : ByteArray} {g : Nat} (m : Mid17 rs rs' key g) (hd' : rs'.length = 0 ∨ hd rs' 0 ≠ key) : Told17 rs rs' key := by
  have hno : ∀ x ∈ rs'.flatten, x ≠ key := fun x hx e => by
    subst e
    rcases hd' with h | h
    · have : rs' = [] := List.length_eq_zero_iff.1 h
      subst this
      cases hx
    · have h1 := m.mi.root hx
      have hpos : 0 < rs'.length := by
        cases rs' with
        | nil => cases hx
        | cons a t => simp
      obtain ⟨t, ht⟩ := m.mi.head_mem hpos
      have h2 := m.ge (hd rs' 0) (List.mem_flatten.2 ⟨_, List.mem_of_getElem? ht, by simp⟩)
      exact h (bl_total h2 h1)
  exact ⟨m.mi, fun x => ⟨fun hx => ⟨(m.keep x (hno x hx)).1 hx, hno x hx⟩, fun hx => (m.keep x hx.2).2 hx.1⟩, m.less⟩
end Go.Proofs.Ytieaiofdbliblaa
