/- Rows of bytes in rows. -/
import Derived.Test.YtodjgdaaggajcaaDoorBase
import Derived.Test.YtodjgdaaggajcaaDoorOwns
namespace Go.Proofs.YtodjgdaaggajcaaDoor
open Go Go.RowKit

theorem info22 : (Tryd.prog.info? 22).map (fun i => (i.zero, i.size, i.bytes)) = some (some (.slice none 0 0), 1, 24) := by kernel_rfl

/-- The slice v has n rows of bytes: ps. -/
def RowsOf (w : World) (v : Value) (n : Nat) (ps : List (List UInt8)) : Prop :=
  ∃ vs : List Value, Reads w 1 v n vs ∧ ps.length = n ∧ ∀ (i : Nat) (p : List UInt8), ps[i]? = some p → ∃ u, vs[i]? = some u ∧ Reads w 1 u p.length (bcells p)

theorem RowsOf.below' {w w' : World} {v : Value} {n : Nat} {ps : List (List UInt8)} (h : RowsOf w v n ps) (hb : Below w.heap.size w w') : RowsOf w' v n ps := by
  obtain ⟨vs, h1, h2, h3⟩ := h
  exact ⟨vs, h1.below' hb, h2, fun i p hp => by
    obtain ⟨u, e, hu⟩ := h3 i p hp
    exact ⟨u, e, hu.below' hb⟩⟩

theorem RowsOf.nil (w : World) (v : Value) (hv : v = .slice none 0 0) : RowsOf w v 0 [] := by
  subst hv
  exact ⟨[], ⟨by simp, none, 0, rfl, Nat.le_refl _, Nat.zero_le _, fun j u h => by simp at h⟩, rfl, fun i p h => by simp at h⟩

/-- One row of them. -/
theorem RowsOf.row {w : World} {a : Option Addr} {n cap : Nat} {ps : List (List UInt8)} (h : RowsOf w (.slice a n cap) n ps) {j : Nat} (hj : j < n) :
    ∃ b off p u, a = some ⟨b, off, none⟩ ∧ ps[j]? = some p ∧ b < w.heap.size ∧ w.cell? ⟨b, off + j, none⟩ = some u ∧ Reads w 1 u p.length (bcells p) := by
  obtain ⟨vs, ⟨hl, a', cap', hv, _, _, hc⟩, h2, h3⟩ := h
  cases hv
  have hp : ps[j]? = some (ps[j]'(by omega)) := List.getElem?_eq_getElem (by omega)
  obtain ⟨u, e, hu⟩ := h3 j _ hp
  obtain ⟨b, off, rfl, hb, hcell⟩ := hc j u e
  exact ⟨b, off, _, u, rfl, hp, hb, hcell, hu⟩

/-- The first k rows. -/
theorem RowsOf.take {w : World} {a : Option Addr} {n cap : Nat} {ps : List (List UInt8)} (h : RowsOf w (.slice a n cap) n ps) (k : Nat) (hk : k ≤ n) : RowsOf w (.slice a k cap) k (ps.take k) := by
  obtain ⟨vs, ⟨hl, a', cap', hv, h1, h4, hc⟩, h2, h3⟩ := h
  cases hv
  refine ⟨vs.take k, ⟨by rw [List.length_take]; omega, a, cap, rfl, by omega, h4, fun j u hj => hc j u ?_⟩, by rw [List.length_take]; omega, fun i p hp => ?_⟩
  · rw [List.getElem?_take] at hj
    split at hj
    · exact hj
    · cases hj
  · rw [List.getElem?_take] at hp
    split at hp
    · next hik =>
      obtain ⟨u, e, hu⟩ := h3 i p hp
      exact ⟨u, by rw [List.getElem?_take, if_pos hik]; exact e, hu⟩
    · cases hp

/-- A row of rows that the call makes: its own, and apart from its rows. -/
def ORows (B : Nat) (w : World) (v : Value) (k : Nat) (ps : List (List UInt8)) : Prop :=
  ∃ vs : List Value, w.ownsRow B 22 1 v k vs ∧ ps.length = k ∧ ∀ (i : Nat) (p : List UInt8), ps[i]? = some p → ∃ u, vs[i]? = some u ∧ Reads w 1 u p.length (bcells p) ∧ (p = [] ∨ u.ownBlock ≠ v.ownBlock)

theorem ORows.nil (B : Nat) (w : World) : ORows B w (.slice none 0 0) 0 [] :=
  ⟨[], World.ownsRow_nil _ _ _ _, rfl, fun i p h => by simp at h⟩

theorem ORows.below' {B : Nat} {w w' : World} {v : Value} {k : Nat} {ps : List (List UInt8)} (h : ORows B w v k ps) (hb : Below w.heap.size w w') : ORows B w' v k ps := by
  obtain ⟨vs, h1, h2, h3⟩ := h
  refine ⟨vs, h1.kept (row := none) ⟨hb.os, hb.tape, hb.output, hb.size, fun k hk _ => hb.block k hk⟩ (by cases v.ownBlock <;> simp), h2, fun i p hp => ?_⟩
  obtain ⟨u, e, hu, hn⟩ := h3 i p hp
  exact ⟨u, e, hu.below' hb, hn⟩

theorem ORows.rows {B : Nat} {w : World} {v : Value} {k : Nat} {ps : List (List UInt8)} (h : ORows B w v k ps) : RowsOf w v k ps := by
  obtain ⟨vs, h1, h2, h3⟩ := h
  exact ⟨vs, ownsRow.reads h1, h2, fun i p hp => by
    obtain ⟨u, e, hu, _⟩ := h3 i p hp
    exact ⟨u, e, hu⟩⟩

theorem reads_nil_any {w w' : World} {u : Value} (h : Reads w 1 u 0 (bcells [])) : Reads w' 1 u 0 (bcells []) := by
  obtain ⟨hl, a, cap, rfl, h1, h2, _⟩ := h
  exact ⟨hl, a, cap, rfl, h1, h2, fun j u hj => by simp [bcells] at hj⟩

theorem reads_block {w : World} {u : Value} {p : List UInt8} (h : Reads w 1 u p.length (bcells p)) (hp : p ≠ []) : ∃ b, u.ownBlock = some b ∧ b < w.heap.size := by
  have h0 : 0 < p.length := List.length_pos_iff.2 hp
  obtain ⟨b, off, cap, rfl, _, _, _, hc⟩ := h.head h0
  exact ⟨b, rfl, World.block_lt_of_cell? _ _ (hc 0 h0)⟩

/-- A row more: it was made behind the others (its block is none of what the world had when v stood alone). -/
theorem ORows.snoc {B m : Nat} {w w' : World} {v v' u : Value} {k : Nat} {ps : List (List UInt8)} {p : List UInt8} {vs : List Value} (h1 : w.ownsRow B 22 1 v k vs) (h2 : ps.length = k)
    (h3 : ∀ (i : Nat) (p : List UInt8), ps[i]? = some p → ∃ u, vs[i]? = some u ∧ Reads w 1 u p.length (bcells p) ∧ (p = [] ∨ u.ownBlock ≠ v.ownBlock)) (hu : Reads w 1 u p.length (bcells p)) (hm : ∀ b, v.ownBlock = some b → b < m) (hnew : ∀ b, b < m → u.ownBlock ≠ some b)
    (hown : w'.ownsRow B 22 1 v' (k + 1) (vs ++ [u])) (hg : w.grownBy w' v.ownBlock) (hmv : Moves w v v') : ORows B w' v' (k + 1) (ps ++ [p]) := by
  have hvl : vs.length = k := by have := h1.1; simpa using this
  have keep : ∀ (q : List UInt8) (x : Value), Reads w 1 x q.length (bcells q) → (q = [] ∨ x.ownBlock ≠ v.ownBlock) → Reads w' 1 x q.length (bcells q) ∧ (q = [] ∨ x.ownBlock ≠ v'.ownBlock) := by
    intro q x hx hn
    by_cases hq : q = []
    · subst hq
      exact ⟨reads_nil_any hx, .inl rfl⟩
    · have hn' : x.ownBlock ≠ v.ownBlock := hn.resolve_left hq
      obtain ⟨b, hb, hlt⟩ := reads_block hx hq
      refine ⟨hx.grown hg (.inr hn'), .inr ?_⟩
      rw [hb]
      exact (hmv b hlt (fun e => hn' (by rw [hb, e]))).symm
  refine ⟨vs ++ [u], hown, by simp [h2], fun i q hq => ?_⟩
  by_cases hi : i < k
  · rw [List.getElem?_append_left (by omega)] at hq
    obtain ⟨x, e, hx, hn⟩ := h3 i q hq
    have := keep q x hx hn
    exact ⟨x, by rw [List.getElem?_append_left (by omega)]; exact e, this.1, this.2⟩
  · rw [List.getElem?_append_right (by omega)] at hq
    have hi0 : i - ps.length = 0 := by
      have := (List.getElem?_eq_some_iff.1 hq).1
      simp at this
      omega
    rw [hi0] at hq
    obtain rfl : p = q := by simpa using hq
    have hn : p = [] ∨ u.ownBlock ≠ v.ownBlock := by
      by_cases hp : p = []
      · exact .inl hp
      · obtain ⟨b, hb, _⟩ := reads_block hu hp
        right
        intro e
        rw [hb] at e
        exact hnew b (hm b e.symm) hb
    have := keep p u hu hn
    refine ⟨u, ?_, this.1, this.2⟩
    rw [List.getElem?_append_right (by omega), show i - vs.length = 0 by omega]
    rfl
end Go.Proofs.YtodjgdaaggajcaaDoor
