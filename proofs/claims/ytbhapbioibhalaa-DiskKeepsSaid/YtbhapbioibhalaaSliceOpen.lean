/- A slice that came in, whatever its elements: each is opened by its own theorem. -/
import Derived.Test.YtbhapbioibhalaaAppendRows
import Derived.Deep.Slices
import Derived.Deep.Fields
import Derived.OpenShut
namespace Go.Proofs.Ytbhapbioibhalaa
open Go Go.RowKit Go.ChangeShapes Go.WideShapes Go.Deep

section
variable {H : Type} {enc : TypeId × Value → H} {w : World} {base : Nat} {spare : Nat → Bool} {held : Bool}

theorem slice_rows_of {α : Type} [Inhabited α] {t e : TypeId} {s fuel : Nat} {v : Value} {y : DataW H × List MemPlace} (f : α → List Value) (Q : α → Prop) (ht : Try.prog.underlying t = some (.slice e)) (hC : Try.prog.cellsOf e = s) (hs : 0 < s) (hf : ∀ x, (f x).length = s)
    (hopen : ∀ n cs y, cs.length = s → DataW.trod enc Try.prog w base spare held n e cs = some y → ∃ x, cs = f x ∧ Q x)
    (hfu : DataW.trod enc Try.prog w base spare held fuel t [v] = some y) :
    ∃ a len cap, ∃ l : List α, v = .slice a len cap ∧ len ≤ cap ∧ cap ≤ maxLen ∧ l.length = len ∧ (∀ x ∈ l, Q x) ∧ Reads w s (.slice a len cap) len (l.flatMap f) := by
  rcases open_slice ht hfu with ⟨hcs, _⟩ | ⟨x, len, cap, m, n, D, Pl, hcs, _, hl, hm, hmm, _, hx⟩
  · simp at hcs
    subst hcs
    exact ⟨none, 0, 0, [], rfl, Nat.le_refl _, Nat.zero_le _, rfl, fun x hx => (by simp at hx), ⟨by simp, none, 0, rfl, Nat.le_refl _, Nat.zero_le _, fun j u hj => by simp at hj⟩⟩
  · simp at hcs
    subst hcs
    have hlm : len ≤ m := by
      rw [hmm]
      split <;> omega
    have hgs : 0 < len → x.spot = none := by
      intro h0
      obtain ⟨cs0, hc0, _⟩ := hx 0 (by omega)
      rw [hC] at hc0
      obtain ⟨_, hl0, ha0⟩ := World.cells?_some hc0
      have h1 := ha0 0 hs
      rw [List.getElem?_eq_getElem (by omega)] at h1
      have h2 : w.cell? x = some (cs0[0]'(by omega)) := by simpa [Addr.add] using h1
      exact World.cell?_spot h2
    have hall : ∀ i, i < len → ∃ y : α, Q y ∧ ∀ j u, (f y)[j]? = some u → w.cell? (x.add (i * s + j)) = some u := by
      intro i hi
      obtain ⟨cs, hc, htr⟩ := hx i (by omega)
      rw [hC] at hc
      obtain ⟨_, hlen, hat⟩ := World.cells?_some hc
      obtain ⟨y, rfl, hq⟩ := hopen _ _ _ hlen htr
      refine ⟨y, hq, fun j u hj => ?_⟩
      have hjs : j < s := by
        have := (List.getElem?_eq_some_iff.1 hj).1
        rw [hf] at this
        exact this
      have h1 := hat j hjs
      rw [hj] at h1
      rw [← h1]
      have hsp := hgs (by omega)
      obtain ⟨b, off, sp⟩ := x
      simp at hsp
      subst hsp
      rw [Addr.add_lit, Addr.add_lit, Addr.add_lit, Nat.add_assoc]
    obtain ⟨X, hX⟩ := choose_lt (α := α) (p := fun i y => Q y ∧ ∀ j u, (f y)[j]? = some u → w.cell? (x.add (i * s + j)) = some u) hall
    refine ⟨some x, len, cap, (List.range len).map X, rfl, hl, hm, by simp, fun y hy => ?_, ?_⟩
    · obtain ⟨i, hi, rfl⟩ := List.mem_map.1 hy
      exact (hX i (List.mem_range.1 hi)).1
    · refine ⟨by rw [flat_length f s hf]; simp, some x, cap, rfl, hl, hm, fun j u hj => ?_⟩
      have hjl := (List.getElem?_eq_some_iff.1 hj).1
      rw [flat_length f s hf, List.length_map, List.length_range] at hjl
      have hi : j / s < len := Nat.div_lt_of_lt_mul (by rw [Nat.mul_comm]; exact hjl)
      have hr : j % s < s := Nat.mod_lt _ hs
      have hjj : j / s * s + j % s = j := by rw [Nat.mul_comm]; exact Nat.div_add_mod j s
      have hg : ((List.range len).map X)[j / s]? = some (X (j / s)) := by simp [hi]
      have h1 := flat_cell f s hf _ _ _ hg (j % s) hr
      rw [hjj, hj] at h1
      have h2 := (hX _ hi).2 (j % s) u h1.symm
      rw [hjj] at h2
      have hspot := hgs (Nat.lt_of_le_of_lt (Nat.zero_le _) hi)
      obtain ⟨b, off, sp⟩ := x
      simp at hspot
      subst hspot
      rw [Addr.add_lit] at h2
      exact ⟨b, off, rfl, World.block_lt_of_cell? _ _ h2, h2⟩

set_option maxRecDepth 100000 in
theorem slice_rows {α : Type} [Inhabited α] {t e : TypeId} {r : Reach} {b0 s : Nat} {v : Value} {d : DataW H} {p : List MemPlace} (f : α → List Value) (Q : α → Prop) (ht : Try.prog.underlying t = some (.slice e)) (hC : Try.prog.cellsOf e = s) (hs : 0 < s) (hf : ∀ x, (f x).length = s)
    (hopen : ∀ n cs y, cs.length = s → DataW.trod enc Try.prog w base spare held n e cs = some y → ∃ x, cs = f x ∧ Q x)
    (hv : Value.okWide Try.prog w r b0 t v) (h : DataW.Trod enc Try.prog w base spare held t v d p) :
    ∃ a len cap, ∃ l : List α, v = .slice a len cap ∧ len ≤ cap ∧ cap ≤ maxLen ∧ l.length = len ∧ (∀ x ∈ l, Q x) ∧ Reads w s (.slice a len cap) len (l.flatMap f) := by
  obtain ⟨a, len, cap, rfl⟩ := okWide_slice ht hv
  obtain ⟨fuel, hfu⟩ := h
  exact slice_rows_of f Q ht hC hs hf hopen hfu
end
end Go.Proofs.Ytbhapbioibhalaa
