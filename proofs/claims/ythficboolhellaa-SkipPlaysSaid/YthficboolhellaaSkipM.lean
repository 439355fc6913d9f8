/- Towers in memory: nodes in a row, floor by floor. -/
import Derived.Test.YthficboolhellaaTouch
import Derived.Test.YthficboolhellaaStrOrd
namespace Go.Proofs.Ythficboolhellaa
open Go Go.RowKit

def ptrO : Option Nat → Value
  | none => .pointer none
  | some b => .pointer (some ⟨b, 0, none⟩)

/-- The nodes of a floor. -/
def fl (ns : List Nat) (ht : Nat → Nat) (f : Nat) : List Nat := ns.filter fun b => decide (f < ht b)

theorem fl_append (a b : List Nat) (ht : Nat → Nat) (f : Nat) : fl (a ++ b) ht f = fl a ht f ++ fl b ht f := List.filter_append ..

theorem fl_mem {ns : List Nat} {ht : Nat → Nat} {f b : Nat} : b ∈ fl ns ht f ↔ b ∈ ns ∧ f < ht b := by
  unfold fl
  rw [List.mem_filter]
  simp

theorem fl_zero {ns : List Nat} {ht : Nat → Nat} (h : ∀ b ∈ ns, 1 ≤ ht b) : fl ns ht 0 = ns := by
  unfold fl
  rw [List.filter_eq_self]
  intro b hb
  have := h b hb
  simp
  omega

def lastP (L : Nat) (l : List Nat) : Nat := l.getLastD L

theorem lastP_at (L : Nat) (a b : List Nat) : (L :: (a ++ b))[a.length]? = some (lastP L a) := by
  unfold lastP
  rcases List.eq_nil_or_concat a with rfl | ⟨a', x, rfl⟩
  · rfl
  · rw [List.concat_eq_append, List.getLastD_eq_getLast?, List.getLast?_append]
    simp

theorem lastP_mem (L : Nat) (a : List Nat) : lastP L a ∈ L :: a := by
  have := lastP_at L a []
  rw [List.append_nil] at this
  exact List.mem_of_getElem? this

/-- The nodes as they lie in memory: block L is the head, the others ns, in order. -/
structure SkN (w : World) (L : Nat) (ns : List Nat) (key : Nat → ByteArray) (ht : Nat → Nat) : Prop where
  nodup : (L :: ns).Nodup
  head : ∃ cs, w.heap[L]? = some (Obj.cells cs 48 (0, 0)) ∧ cs.size = 12
  node : ∀ b ∈ ns, ∃ cs, w.heap[b]? = some (Obj.cells cs 46 (0, 0)) ∧ cs.size = 9
  key : ∀ b ∈ ns, w.cell? ⟨b, 0, none⟩ = some (.string (key b))
  chain : ∀ f, f < 8 → ∀ (i : Nat) (x : Nat), (L :: fl ns ht f)[i]? = some x → w.cell? ⟨x, 1 + f, none⟩ = some (ptrO (fl ns ht f)[i]?)
  tall : ∀ b ∈ ns, 1 ≤ ht b

theorem SkN.lt {w : World} {L : Nat} {ns : List Nat} {key : Nat → ByteArray} {ht : Nat → Nat} (h : SkN w L ns key ht) {x : Nat} (hx : x ∈ L :: ns) : x < w.heap.size := by
  rcases List.mem_cons.1 hx with rfl | hx
  · obtain ⟨cs, hc, _⟩ := h.head
    exact (Array.getElem?_eq_some_iff.1 hc).1
  · obtain ⟨cs, hc, _⟩ := h.node x hx
    exact (Array.getElem?_eq_some_iff.1 hc).1

theorem SkN.thaw {w : World} {L : Nat} {ns : List Nat} {key : Nat → ByteArray} {ht : Nat → Nat} (h : SkN w L ns key ht) {x : Nat} (hx : x ∈ L :: ns) (j : Nat) : w.frozen? ⟨x, j, none⟩ = false := by
  rcases List.mem_cons.1 hx with rfl | hx
  · obtain ⟨cs, hc, _⟩ := h.head
    exact Lib.frozen_of_heap hc j
  · obtain ⟨cs, hc, _⟩ := h.node x hx
    exact Lib.frozen_of_heap hc j

theorem cell_same {w w' : World} {x j : Nat} (h : w'.heap[x]? = w.heap[x]?) : w'.cell? ⟨x, j, none⟩ = w.cell? ⟨x, j, none⟩ := World.cell?_of_block (a := ⟨x, j, none⟩) h

theorem fl_sub {ns : List Nat} {ht : Nat → Nat} {f x : Nat} {L : Nat} (h : x ∈ L :: fl ns ht f) : x ∈ L :: ns := by
  rcases List.mem_cons.1 h with rfl | h
  · simp
  · exact List.mem_cons_of_mem _ (fl_mem.1 h).1

/-- What leaves head and nodes alone leaves the towers. -/
theorem SkN.kept {w w' : World} {L : Nat} {ns : List Nat} {key : Nat → ByteArray} {ht : Nat → Nat} (h : SkN w L ns key ht) (hk : ∀ x ∈ L :: ns, w'.heap[x]? = w.heap[x]?) : SkN w' L ns key ht where
  nodup := h.nodup
  head := by
    obtain ⟨cs, hc, hs⟩ := h.head
    exact ⟨cs, (hk L (by simp)).trans hc, hs⟩
  node := fun b hb => by
    obtain ⟨cs, hc, hs⟩ := h.node b hb
    exact ⟨cs, (hk b (by simp [hb])).trans hc, hs⟩
  key := fun b hb => (cell_same (hk b (by simp [hb]))).trans (h.key b hb)
  chain := fun f hf i x hx => (cell_same (hk x (fl_sub (List.mem_of_getElem? hx)))).trans (h.chain f hf i x hx)
  tall := h.tall

theorem SkN.below {w w' : World} {L : Nat} {ns : List Nat} {key : Nat → ByteArray} {ht : Nat → Nat} (h : SkN w L ns key ht) (hb : Below w.heap.size w w') : SkN w' L ns key ht :=
  h.kept fun x hx => hb.block x (h.lt hx)

/-- Where the path stands on a floor. -/
def pathV (L : Nat) (A : List Nat) (ht : Nat → Nat) (g : Nat) (vs : List Value) : Prop := vs.length = 8 ∧ (∀ u ∈ vs, u.oneCell' = true) ∧ ∀ f, g ≤ f → f < 8 → vs[f]? = some (ptrO (some (lastP L (fl A ht f))))

def PathPost (w : World) (L : Nat) (A : List Nat) (ht : Nat → Nat) (e : Ending) (w' : World) : Prop := ∃ vs, e = .returned (.agg vs.toArray) ∧ pathV L A ht 0 vs ∧ Below w.heap.size w w'

structure Asks (w : World) (P : ByteArray → Bool) (cf : FuncId) (cp : Array Value) : Prop where
  enter : ∀ (args : Array Value) (w : World), (callFunc cf args).run Try.prog w = .ok (.enter cf args) w
  call : ∀ (k : ByteArray) (w' : World), Below w.heap.size w w' → Calls Try.prog cf (#[.string k] ++ cp) w' fun e w'' => e = .returned (.bool (P k)) ∧ w' = w''

def PathRel (w : World) (L : Nat) (A : List Nat) (ht : Nat → Nat) (fv av : Value) (wr : World) : Prop :=
  ∃ (g x : Nat) (vs zs : List Value), fv = .int .i64 ((g : Int) - 1) ∧ g ≤ 8 ∧ av = .pointer (some ⟨x, 0, none⟩) ∧ x ∈ L :: fl A ht g ∧ pathV L A ht g vs ∧ zs.length = 8 ∧ wr.heap[w.heap.size]? = some (Obj.cells zs.toArray 43 (0, 0)) ∧
    wr.heap[w.heap.size + 1]? = some (Obj.cells vs.toArray 43 (0, 0)) ∧ Below w.heap.size w wr

def PathIn (L : Nat) (A B : List Nat) (ht : Nat → Nat) (f : Nat) (av : Value) : Prop :=
  ∃ (i x : Nat), av = .pointer (some ⟨x, 0, none⟩) ∧ (L :: fl (A ++ B) ht f)[i]? = some x ∧ i ≤ (fl A ht f).length

def blockOf : Value → Nat
  | .pointer (some a) => a.block
  | _ => 0

theorem fl_down {A : List Nat} {ht : Nat → Nat} {f x L : Nat} (h : x ∈ L :: fl A ht (f + 1)) : x ∈ L :: fl A ht f := by
  rcases List.mem_cons.1 h with rfl | h
  · simp
  · have := fl_mem.1 h
    exact List.mem_cons_of_mem _ (fl_mem.2 ⟨this.1, by omega⟩)

theorem fl_start {A B : List Nat} {ht : Nat → Nat} {f x L : Nat} (h : x ∈ L :: fl A ht f) : ∃ i, (L :: fl (A ++ B) ht f)[i]? = some x ∧ i ≤ (fl A ht f).length := by
  obtain ⟨i, hi⟩ := List.getElem?_of_mem h
  have hlt := (List.getElem?_eq_some_iff.1 hi).1
  simp at hlt
  refine ⟨i, ?_, by omega⟩
  rw [fl_append, ← List.cons_append, List.getElem?_append_left (by simp; omega)]
  exact hi

theorem idx_of {L : Nat} {l : List Nat} (hn : (L :: l).Nodup) {i x : Nat} (h : (L :: l)[i]? = some x) : (L :: l).idxOf x = i := by
  obtain ⟨hi, hx⟩ := List.getElem?_eq_some_iff.1 h
  rw [← hx]
  exact hn.idxOf_getElem i hi

theorem fl_nodup {L : Nat} {ns : List Nat} {ht : Nat → Nat} (h : (L :: ns).Nodup) (f : Nat) : (L :: fl ns ht f).Nodup := by
  have hp := List.nodup_cons.1 h
  exact List.nodup_cons.2 ⟨fun hm => hp.1 (fl_mem.1 hm).1, List.Nodup.sublist (List.filter_sublist ..) hp.2⟩

theorem pathV_set {L : Nat} {A : List Nat} {ht : Nat → Nat} {g : Nat} {vs : List Value} (h : pathV L A ht (g + 1) vs) (hg : g < 8) : pathV L A ht g (vs.set g (ptrO (some (lastP L (fl A ht g))))) := by
  refine ⟨by rw [List.length_set]; exact h.1, fun u hu => ?_, fun f hf h8 => ?_⟩
  · rcases List.mem_or_eq_of_mem_set hu with hu | rfl
    · exact h.2.1 u hu
    · rfl
  · by_cases he : f = g
    · subst he
      rw [List.getElem?_set_self (by rw [h.1]; exact hg)]
    · rw [List.getElem?_set_ne (by omega)]
      exact h.2.2 f (by omega) h8
end Go.Proofs.Ythficboolhellaa
