/- What a row's growing, and a constant's mark, leave alone. -/
import Derived.Test.YtdonibkkdhokpaaGreatMga
import Derived.Test.YtdonibkkdhokpaaGreatZWireR2
namespace Go.Proofs.YtdonibkkdhokpaaGreat
open Go Go.RowKit

/-- Cells of other kinds stay. -/
def KeepT (w w' : World) : Prop := ∀ (b : Nat) (cs : Array Value) (ty : TypeId) (fr : Nat × Nat), w.heap[b]? = some (.cells cs ty fr) → ty ≠ 5 → w'.heap[b]? = some (.cells cs ty fr)

theorem KeepT.refl (w : World) : KeepT w w := fun _ _ _ _ h _ => h
theorem KeepT.trans {a b c : World} (h : KeepT a b) (k : KeepT b c) : KeepT a c := fun g cs ty fr hg ht => k g cs ty fr (h g cs ty fr hg ht) ht
theorem KeepT.of_below {w w' : World} (h : Below w.heap.size w w') : KeepT w w' := fun b _ _ _ hb _ => (h.block b (Array.getElem?_eq_some_iff.1 hb).1).trans hb
theorem KeepT.of_keepW {w w' : World} (h : KeepW w.heap.size w w') : KeepT w w' := fun b cs ty fr hb ht => h b cs ty fr hb ht (by have := (Array.getElem?_eq_some_iff.1 hb).1; omega)

def GrowR (B : Nat) (w w' : World) : Prop := Below B w w' ∧ KeepT w w'

theorem GrowR.refl (B : Nat) (w : World) : GrowR B w w := ⟨Below.refl _ _, KeepT.refl _⟩
theorem GrowR.drew (B : Nat) (w : World) : GrowR B w w.drew := ⟨(Below.refl _ _).drew, KeepT.of_below (Below.refl _ _).drew⟩
theorem GrowR.trans {B : Nat} {a b c : World} (h : GrowR B a b) (k : GrowR B b c) : GrowR B a c := ⟨h.1.trans k.1, h.2.trans k.2⟩
theorem GrowR.of_below {B : Nat} {w w' : World} (h : Below w.heap.size w w') (hB : B ≤ w.heap.size) : GrowR B w w' := ⟨h.mono hB, KeepT.of_below h⟩
theorem GrowR.bel {B : Nat} {w0 w w' : World} (h : GrowR B w0 w) (k : Below w.heap.size w w') (hB : B ≤ w0.heap.size) : GrowR B w0 w' := h.trans (GrowR.of_below k (Nat.le_trans hB h.1.size))

/-- A cell of another kind. -/
theorem GrowR.cell {B : Nat} {w w' : World} (h : GrowR B w w') {g : Nat} {cs : Array Value} {ty : TypeId} {fr : Nat × Nat} (hg : w.heap[g]? = some (.cells cs ty fr)) (ht : ty ≠ 5) (j : Nat) (v : Value) (hv : cs[j]? = some v) : w'.cell? ⟨g, j, none⟩ = some v := by
  rw [Lib.cell_of_heap (h.2 g cs ty fr hg ht) j]
  exact hv

/-- A constant's two bytes, marked or not. -/
def twoF (B : Nat) (x y : Value) : SlotFact := ⟨fun v w => ∃ b fr, v = .slice (some ⟨b, 0, none⟩) 2 2 ∧ B ≤ b ∧ w.heap[b]? = some (.cells #[x, y] 5 fr) ∧ (fr = (0, 0) ∨ fr = (2, 3)), fun _ _ _ ⟨b, fr, h1, h2, h3, h4⟩ hb => ⟨b, fr, h1, h2, (hb.block b (Array.getElem?_eq_some_iff.1 h3).1).trans h3, h4⟩⟩

/-- One constant's two bytes are marked. -/
structure MarkR (B : Nat) (w w' : World) : Prop where
  os : w'.os = w.os
  tape : w'.tape = w.tape
  output : w'.output = w.output
  size : w'.heap.size = w.heap.size
  block : ∀ k, w'.heap[k]? = w.heap[k]? ∨ (B ≤ k ∧ ∃ x y fr, w.heap[k]? = some (.cells #[x, y] 5 fr) ∧ (fr = (0, 0) ∨ fr = (2, 3)) ∧ w'.heap[k]? = some (.cells #[x, y] 5 (2, 3)))

theorem MarkR.below {B : Nat} {w w' : World} (h : MarkR B w w') : Below B w w' :=
  ⟨h.os, h.tape, h.output, Nat.le_of_eq h.size.symm, fun k hk => (h.block k).resolve_right (fun ⟨hb, _⟩ => by omega)⟩

theorem litF_mark {B : Nat} {cs : Array Value} {n : Nat} : ∀ v w w', (litF 9 cs n).p v w → MarkR B w w' → (litF 9 cs n).p v w' := by
  intro v w w' ⟨b, h1, h2⟩ hm
  refine ⟨b, h1, ?_⟩
  rcases hm.block b with h | ⟨_, x, y, fr, h, _, _⟩
  · exact h.trans h2
  · rw [h2] at h
    injection h with h
    injection h with _ h _
    exact absurd h (by decide)

theorem run_convert_mark {P : Program} (w : World) (t e : TypeId) (x y : Value) (b n c : Nat) (fr : Nat × Nat) (h : w.heap[b]? = some (.cells #[x, y] e fr)) (ht : P.underlying t = some (.slice e)) (he : P.underlying e = some (.int .u8)) :
    (convert t t (.slice (some ⟨b, 0, none⟩) n c)).run P w = .ok (.slice (some ⟨b, 0, none⟩) n c) (w.freeze ⟨b, 2, none⟩ 1) := by
  have hsh : w.shape? b = some (e, 2) := by
    unfold World.shape?
    rw [h]
    rfl
  simp [convert, run_underlying ht, run_underlying he, markStringish, hsh]

theorem freeze_mark {B : Nat} (w : World) (x y : Value) (b : Nat) (fr : Nat × Nat) (h : w.heap[b]? = some (.cells #[x, y] 5 fr)) (hfr : fr = (0, 0) ∨ fr = (2, 3)) (hB : B ≤ b) :
    (w.freeze ⟨b, 2, none⟩ 1).heap[b]? = some (.cells #[x, y] 5 (2, 3)) ∧ MarkR B w (w.freeze ⟨b, 2, none⟩ 1) := by
  have hb : (w.freeze ⟨b, 2, none⟩ 1).heap[b]? = some (.cells #[x, y] 5 (2, 3)) := by
    unfold World.freeze
    rw [if_neg (by decide)]
    simp only [Array.getElem?_modify, if_true, h, Option.map_some]
    rcases hfr with rfl | rfl <;> rfl
  refine ⟨hb, ?_, ?_, ?_, ?_, fun k => ?_⟩
  · unfold World.freeze; rw [if_neg (by decide)]
  · unfold World.freeze; rw [if_neg (by decide)]
  · unfold World.freeze; rw [if_neg (by decide)]
  · unfold World.freeze; rw [if_neg (by decide)]; simp
  · by_cases hk : k = b
    · subst hk
      exact .inr ⟨hB, x, y, fr, h, hfr, hb⟩
    · left
      unfold World.freeze
      rw [if_neg (by decide)]
      simp only [Array.getElem?_modify]
      rw [if_neg (fun e => hk e.symm)]
end Go.Proofs.YtdonibkkdhokpaaGreat
