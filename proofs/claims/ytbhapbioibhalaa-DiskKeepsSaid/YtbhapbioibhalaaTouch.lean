/- What a call that writes into blocks of its caller's own leaves. -/
import Derived.Test.YtbhapbioibhalaaBase
import Derived.Maps.OwnSet
namespace Go.Proofs.Ytbhapbioibhalaa
open Go Go.RowKit

/-- w' is w but for the blocks l, and new ones. -/
structure Touch (w w' : World) (l : List Nat) : Prop where
  os : w'.os = w.os
  tape : w'.tape = w.tape
  output : w'.output = w.output
  size : w.heap.size ≤ w'.heap.size
  block : ∀ k, k < w.heap.size → k ∉ l → w'.heap[k]? = w.heap[k]?

theorem Touch.refl (w : World) (l : List Nat) : Touch w w l := ⟨rfl, rfl, rfl, Nat.le_refl _, fun _ _ _ => rfl⟩

theorem Touch.trans {a b c : World} {l m n : List Nat} (h : Touch a b l) (k : Touch b c m) (hl : ∀ x, x ∈ l → x ∈ n) (hm : ∀ x, x ∈ m → x ∈ n ∨ a.heap.size ≤ x) : Touch a c n :=
  ⟨k.os.trans h.os, k.tape.trans h.tape, k.output.trans h.output, Nat.le_trans h.size k.size, fun i hi hn =>
    (k.block i (Nat.lt_of_lt_of_le hi h.size) (fun e => (hm i e).elim hn (fun h' => absurd hi (by omega)))).trans (h.block i hi (fun e => hn (hl i e)))⟩

theorem Touch.same {a b c : World} {l : List Nat} (h : Touch a b l) (k : Touch b c l) : Touch a c l := h.trans k (fun _ h => h) (fun _ h => .inl h)

theorem Touch.mono {a b : World} {l m : List Nat} (h : Touch a b l) (hl : ∀ x, x ∈ l → x ∈ m) : Touch a b m :=
  ⟨h.os, h.tape, h.output, h.size, fun i hi hn => h.block i hi (fun e => hn (hl i e))⟩

theorem Touch.of_below {w w' : World} (h : Below w.heap.size w w') (l : List Nat) : Touch w w' l := ⟨h.os, h.tape, h.output, h.size, fun i hi _ => h.block i hi⟩

theorem Touch.of_grown {w w' : World} {b : Nat} (h : w.grownBy w' (some b)) : Touch w w' [b] := ⟨h.os, h.tape, h.output, h.size, fun i hi hn => h.block i hi (fun e => hn (by cases e; simp))⟩

theorem Touch.alloc {w w' : World} {l : List Nat} (h : Touch w w' l) (o : Obj) : Touch w (w'.alloc o) l :=
  h.same ⟨rfl, rfl, rfl, by simp, fun k hk _ => Below.heap_alloc _ _ _ hk⟩

theorem Touch.drew {w w' : World} {l : List Nat} (h : Touch w w' l) : Touch w w'.drew l := ⟨h.os, h.tape, h.output, h.size, h.block⟩

theorem Touch.drewN {w w' : World} {l : List Nat} (h : Touch w w' l) (n : Nat) : Touch w (w'.drewN n) l := ⟨h.os, h.tape, h.output, h.size, h.block⟩

theorem Touch.setCell {w w' : World} {l : List Nat} (h : Touch w w' l) {p : Addr} (hp : p.block ∈ l ∨ w.heap.size ≤ p.block) (u : Value) : Touch w (w'.setCell p u) l :=
  ⟨h.os, h.tape, h.output, Nat.le_trans h.size (by simp [World.setCell]), fun k hk hn => by
    have hne : k ≠ p.block := by
      rcases hp with hp | hp
      · intro e; exact hn (e ▸ hp)
      · omega
    exact (Below.heap_setCell _ _ _ _ hne).trans (h.block k hk hn)⟩

/-- Below a number under which no block is touched, all is as it was. -/
theorem Touch.below {w w' : World} {l : List Nat} {B : Nat} (h : Touch w w' l) (hB : B ≤ w.heap.size) (hl : ∀ x, x ∈ l → B ≤ x) : Below B w w' :=
  ⟨h.os, h.tape, h.output, h.size, fun k hk => h.block k (by omega) (fun e => by have := hl k e; omega)⟩

/-- A block that isn't touched. -/
theorem Touch.keep {w w' : World} {l : List Nat} {g : Nat} {o : Obj} (h : Touch w w' l) (hg : w.heap[g]? = some o) (hn : g ∉ l) : w'.heap[g]? = some o :=
  (h.block g (Array.getElem?_eq_some_iff.1 hg).1 hn).trans hg

theorem Touch.keepMap {H : Type} {P : Program} {k : TypeId} {R : Value → Option (DataW H × List MemPlace)} {b n : Nat} {D : DataW H} {w w' : World} {l : List Nat} (h : Touch w w' l) (hm : w.ownsMap P k R b n D) (hn : b ∉ l) : w'.ownsMap P k R b n D := by
  obtain ⟨es, clock, hb, F, hs, hD⟩ := hm
  exact ⟨es, clock, h.keep hb hn, F, hs, hD⟩

/-- What lies in a block. -/
theorem Touch.reads {w w' : World} {l : List Nat} {size n : Nat} {v : Value} {xs : List Value} (h : Touch w w' l) (hr : Reads w size v n xs) (hn : ∀ g, v.ownBlock = some g → g ∉ l) : Reads w' size v n xs := by
  obtain ⟨hl, a, cap, rfl, h1, h2, h3⟩ := hr
  refine ⟨hl, a, cap, rfl, h1, h2, fun j u hj => ?_⟩
  obtain ⟨b, off, rfl, hlt, hr⟩ := h3 j u hj
  refine ⟨b, off, rfl, Nat.lt_of_lt_of_le hlt h.size, ?_⟩
  have := h.block b hlt (hn b rfl)
  simp only [World.cell?] at hr ⊢
  rw [this]
  exact hr
end Go.Proofs.Ytbhapbioibhalaa
