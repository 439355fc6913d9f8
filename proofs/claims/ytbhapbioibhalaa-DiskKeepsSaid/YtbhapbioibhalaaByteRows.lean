/- Rows of bytes in rows. -/
import Derived.Test.YtbhapbioibhalaaBase
import Derived.Test.YtbhapbioibhalaaOwns
import Derived.Test.YtbhapbioibhalaaAppendRows
namespace Go.Proofs.Ytbhapbioibhalaa
open Go Go.RowKit

theorem info22 : (Try.prog.info? 29).map (fun i => (i.zero, i.size, i.bytes)) = some (some (.slice none 0 0), 1, 24) := by kernel_rfl

/-- The slice v has n rows of bytes: ps. -/
def RowsOf (w : World) (v : Value) (n : Nat) (ps : List (List UInt8)) : Prop :=
  ∃ vs : List Value, Reads w 1 v n vs ∧ ps.length = n ∧ ∀ (i : Nat) (p : List UInt8), ps[i]? = some p → ∃ u, vs[i]? = some u ∧ Reads w 1 u p.length (bcells p)

theorem RowsOf.below' {w w' : World} {v : Value} {n : Nat} {ps : List (List UInt8)} (h : RowsOf w v n ps) (hb : Below w.heap.size w w') : RowsOf w' v n ps := by
  obtain ⟨vs, h1, h2, h3⟩ := h
  exact ⟨vs, h1.below' hb, h2, fun i p hp => by
    obtain ⟨u, e, hu⟩ := h3 i p hp
    exact ⟨u, e, hu.below' hb⟩⟩

theorem RowsOf.nil (w : World) (v : Value) (hv : v = .slice none 0 0) : RowsOf w v 0 [] := by
  subst hv
  exact ⟨[], ⟨by simp, none, 0, rfl, Nat.le_refl _, Nat.zero_le _, fun j u h => by simp at h⟩, rfl, fun i p h => by simp at h⟩

/-- One row of them. -/
theorem RowsOf.row {w : World} {a : Option Addr} {n cap : Nat} {ps : List (List UInt8)} (h : RowsOf w (.slice a n cap) n ps) {j : Nat} (hj : j < n) :
    ∃ b off p u, a = some ⟨b, off, none⟩ ∧ ps[j]? = some p ∧ b < w.heap.size ∧ w.cell? ⟨b, off + j, none⟩ = some u ∧ Reads w 1 u p.length (bcells p) := by
  obtain ⟨vs, ⟨hl, a', cap', hv, _, _, hc⟩, h2, h3⟩ := h
  cases hv
  have hp : ps[j]? = some (ps[j]'(by omega)) := List.getElem?_eq_getElem (by omega)
  obtain ⟨u, e, hu⟩ := h3 j _ hp
  obtain ⟨b, off, rfl, hb, hcell⟩ := hc j u e
  exact ⟨b, off, _, u, rfl, hp, hb, hcell, hu⟩

/-- The first k rows. -/
theorem RowsOf.take {w : World} {a : Option Addr} {n cap : Nat} {ps : List (List UInt8)} (h : RowsOf w (.slice a n cap) n ps) (k : Nat) (hk : k ≤ n) : RowsOf w (.slice a k cap) k (ps.take k) := by
  obtain ⟨vs, ⟨hl, a', cap', hv, h1, h4, hc⟩, h2, h3⟩ := h
  cases hv
  refine ⟨vs.take k, ⟨by rw [List.length_take]; omega, a, cap, rfl, by omega, h4, fun j u hj => hc j u ?_⟩, by rw [List.length_take]; omega, fun i p hp => ?_⟩
  · rw [List.getElem?_take] at hj
    split at hj
    · exact hj
    · cases hj
  · rw [List.getElem?_take] at hp
    split at hp
    · next hik =>
      obtain ⟨u, e, hu⟩ := h3 i p hp
      exact ⟨u, by rw [List.getElem?_take, if_pos hik]; exact e, hu⟩
    · cases hp

/-- Rows of two types lie in two blocks. -/
theorem rows_apart {w : World} {B1 B2 n1 n2 s1 s2 : Nat} {e1 e2 : TypeId} {v1 v2 : Value} {xs1 xs2 : List Value} (h1 : w.ownsRow B1 e1 s1 v1 n1 xs1) (h2 : w.ownsRow B2 e2 s2 v2 n2 xs2) (hne : e1 ≠ e2) : v1.ownBlock = none ∨ v1.ownBlock ≠ v2.ownBlock := by
  rcases h1.2 with ⟨rfl, _⟩ | ⟨g1, c1, cur1, rfl, _, hg1, _⟩
  · exact .inl rfl
  · rcases h2.2 with ⟨rfl, _⟩ | ⟨g2, c2, cur2, rfl, _, hg2, _⟩
    · exact .inr (by simp [Value.ownBlock])
    · right
      intro e
      simp [Value.ownBlock] at e
      subst e
      rw [hg1] at hg2
      simp at hg2
      exact hne hg2.2

/-- A row of rows that the call makes, and its rows are the call's own, too. -/
def ORows (B : Nat) (w : World) (v : Value) (k : Nat) (ps : List (List UInt8)) : Prop :=
  ∃ vs : List Value, w.ownsRow B 29 1 v k vs ∧ ps.length = k ∧ ∀ (i : Nat) (p : List UInt8), ps[i]? = some p → ∃ u, vs[i]? = some u ∧ w.ownsRow B 5 1 u p.length (bcells p)

theorem ORows.nil (B : Nat) (w : World) : ORows B w (.slice none 0 0) 0 [] :=
  ⟨[], World.ownsRow_nil _ _ _ _, rfl, fun i p h => by simp at h⟩

theorem ORows.below' {B : Nat} {w w' : World} {v : Value} {k : Nat} {ps : List (List UInt8)} (h : ORows B w v k ps) (hb : Below w.heap.size w w') : ORows B w' v k ps := by
  obtain ⟨vs, h1, h2, h3⟩ := h
  refine ⟨vs, owns_below h1 hb, h2, fun i p hp => ?_⟩
  obtain ⟨u, e, hu⟩ := h3 i p hp
  exact ⟨u, e, owns_below hu hb⟩

theorem ORows.rows {B : Nat} {w : World} {v : Value} {k : Nat} {ps : List (List UInt8)} (h : ORows B w v k ps) : RowsOf w v k ps := by
  obtain ⟨vs, h1, h2, h3⟩ := h
  exact ⟨vs, ownsRow.reads h1, h2, fun i p hp => by
    obtain ⟨u, e, hu⟩ := h3 i p hp
    exact ⟨u, e, ownsRow.reads hu⟩⟩

/-- A row more. -/
theorem ORows.snoc {B : Nat} {w w' : World} {v v' u : Value} {k : Nat} {ps : List (List UInt8)} {p : List UInt8} {vs : List Value} (h1 : w.ownsRow B 29 1 v k vs) (h2 : ps.length = k)
    (h3 : ∀ (i : Nat) (p : List UInt8), ps[i]? = some p → ∃ u, vs[i]? = some u ∧ w.ownsRow B 5 1 u p.length (bcells p)) (hu : w.ownsRow B 5 1 u p.length (bcells p))
    (hown : w'.ownsRow B 29 1 v' (k + 1) (vs ++ [u])) (hg : w.grownBy w' v.ownBlock) : ORows B w' v' (k + 1) (ps ++ [p]) := by
  have hvl : vs.length = k := by have := h1.1; simpa using this
  refine ⟨vs ++ [u], hown, by simp [h2], fun i q hq => ?_⟩
  by_cases hi : i < k
  · rw [List.getElem?_append_left (by omega)] at hq
    obtain ⟨x, e, hx⟩ := h3 i q hq
    exact ⟨x, by rw [List.getElem?_append_left (by omega)]; exact e, hx.kept hg (rows_apart hx h1 (by decide))⟩
  · rw [List.getElem?_append_right (by omega)] at hq
    have hi0 : i - ps.length = 0 := by
      have := (List.getElem?_eq_some_iff.1 hq).1
      simp at this
      omega
    rw [hi0] at hq
    obtain rfl : p = q := by simpa using hq
    refine ⟨u, ?_, hu.kept hg (rows_apart hu h1 (by decide))⟩
    rw [List.getElem?_append_right (by omega), show i - vs.length = 0 by omega]
    rfl

/-- A row of rows that the call makes; its rows lie in old memory. -/
def HRows (B : Nat) (w : World) (v : Value) (k : Nat) (ps : List (List UInt8)) : Prop :=
  ∃ vs : List Value, w.ownsRow B 29 1 v k vs ∧ ps.length = k ∧ ∀ (i : Nat) (p : List UInt8), ps[i]? = some p → ∃ u, vs[i]? = some u ∧ Reads w 1 u p.length (bcells p) ∧ (u.ownBlock = none ∨ ∃ b, u.ownBlock = some b ∧ b < B)

theorem HRows.nil (B : Nat) (w : World) : HRows B w (.slice none 0 0) 0 [] :=
  ⟨[], World.ownsRow_nil _ _ _ _, rfl, fun i p h => by simp at h⟩

theorem HRows.below' {B : Nat} {w w' : World} {v : Value} {k : Nat} {ps : List (List UInt8)} (h : HRows B w v k ps) (hb : Below w.heap.size w w') : HRows B w' v k ps := by
  obtain ⟨vs, h1, h2, h3⟩ := h
  refine ⟨vs, owns_below h1 hb, h2, fun i p hp => ?_⟩
  obtain ⟨u, e, hu, ho⟩ := h3 i p hp
  exact ⟨u, e, hu.below' hb, ho⟩

theorem HRows.rows {B : Nat} {w : World} {v : Value} {k : Nat} {ps : List (List UInt8)} (h : HRows B w v k ps) : RowsOf w v k ps := by
  obtain ⟨vs, h1, h2, h3⟩ := h
  exact ⟨vs, ownsRow.reads h1, h2, fun i p hp => by
    obtain ⟨u, e, hu, _⟩ := h3 i p hp
    exact ⟨u, e, hu⟩⟩

/-- A row more, out of old memory. -/
theorem HRows.snoc {B : Nat} {w w' : World} {v v' u : Value} {k : Nat} {ps : List (List UInt8)} {p : List UInt8} {vs : List Value} (h1 : w.ownsRow B 29 1 v k vs) (h2 : ps.length = k)
    (h3 : ∀ (i : Nat) (p : List UInt8), ps[i]? = some p → ∃ u, vs[i]? = some u ∧ Reads w 1 u p.length (bcells p) ∧ (u.ownBlock = none ∨ ∃ b, u.ownBlock = some b ∧ b < B)) (hu : Reads w 1 u p.length (bcells p)) (hub : u.ownBlock = none ∨ ∃ b, u.ownBlock = some b ∧ b < B)
    (hown : w'.ownsRow B 29 1 v' (k + 1) (vs ++ [u])) (hg : w.grownBy w' v.ownBlock) : HRows B w' v' (k + 1) (ps ++ [p]) := by
  have hvl : vs.length = k := by have := h1.1; simpa using this
  have apart : ∀ x : Value, (x.ownBlock = none ∨ ∃ b, x.ownBlock = some b ∧ b < B) → x.ownBlock = none ∨ x.ownBlock ≠ v.ownBlock := by
    rintro x (h | ⟨b, h, hlt⟩)
    · exact .inl h
    · right
      rw [h]
      intro e
      have := (h1.lt b e.symm).1
      omega
  refine ⟨vs ++ [u], hown, by simp [h2], fun i q hq => ?_⟩
  by_cases hi : i < k
  · rw [List.getElem?_append_left (by omega)] at hq
    obtain ⟨x, e, hx, ho⟩ := h3 i q hq
    exact ⟨x, by rw [List.getElem?_append_left (by omega)]; exact e, hx.grown hg (apart x ho), ho⟩
  · rw [List.getElem?_append_right (by omega)] at hq
    have hi0 : i - ps.length = 0 := by
      have := (List.getElem?_eq_some_iff.1 hq).1
      simp at this
      omega
    rw [hi0] at hq
    obtain rfl : p = q := by simpa using hq
    refine ⟨u, ?_, hu.grown hg (apart u hub), hub⟩
    rw [List.getElem?_append_right (by omega), show i - vs.length = 0 by omega]
    rfl
end Go.Proofs.Ytbhapbioibhalaa
