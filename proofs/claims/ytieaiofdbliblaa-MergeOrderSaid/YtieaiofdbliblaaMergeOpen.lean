/- A slice of rows of texts that came in, by sizes. -/
import Derived.Test.YtieaiofdbliblaaMergeNew
import Derived.Test.YtieaiofdbliblaaSizedOpen
import Derived.Deep.Strs
import Derived.ProofKit
import Derived.Lib.SmallJoins
import Derived.ShutString
import Derived.ChangeOld
namespace Go.Proofs.Ytieaiofdbliblaa
open Go Go.RowKit Go.Joins Go.WideShapes Go.ChangeShapes Go.ChangeAt Go.Deep

section
variable {H : Type} {enc : TypeId × Value → H} {w : World} {base : Nat} {spare : Nat → Bool} {held : Bool}

theorem text_flat (l : List ByteArray) : (l.flatMap fun x => [Value.string x]) = scells l := by
  unfold scells
  rw [List.map_eq_flatMap]

theorem rrows_open {v : Value} {r : Reach} {b0 : Nat} {d : DataW H} {p : List MemPlace} (hv : Value.okWide Try.prog w r b0 22 v) (h : DataW.Trod enc Try.prog w base spare held 22 v d p) (hz : WOk 22 d) :
    ∃ a n cap ls, v = .slice a n cap ∧ RRows w (.slice a n cap) n ls ∧ ∀ l ∈ ls, l.length ≤ 8796093021952 ∧ ∀ x ∈ l, x.size ≤ maxLen := by
  have : Inhabited (Option Addr × Nat × List ByteArray) := ⟨(none, 0, [])⟩
  have : Inhabited ByteArray := ⟨⟨#[]⟩⟩
  obtain ⟨a, n, cap, rfl⟩ := okWide_slice Try.underlying22 hv
  obtain ⟨fuel, hf⟩ := h
  have kb : Try.prog.bytesOf 9 = 16 := by kernel_rfl
  obtain ⟨a', n', cap', l, hv', h1, h2, h3, h4, h5, _⟩ := slice_rows_sized (α := Option Addr × Nat × List ByteArray) (fun x => [.slice x.1 x.2.2.length x.2.1])
    (fun x => x.2.2.length * 16 ≤ 140737488351232 ∧ (∀ y ∈ x.2.2, y.size ≤ maxLen) ∧ Reads w 1 (.slice x.1 x.2.2.length x.2.1) x.2.2.length (scells x.2.2))
    Try.underlying22 (by kernel_rfl) (by decide) (fun _ => rfl) (fun m cs y hl ht hz => by
      obtain ⟨c, rfl⟩ : ∃ c, cs = [c] := by
        match cs, hl with
        | [c], _ => exact ⟨c, rfl⟩
      obtain ⟨a, len, cap, l, rfl, _, _, hn, hq, hr, hb⟩ := slice_rows_sized (fun x : ByteArray => [Value.string x]) (fun x => x.size ≤ maxLen) Try.underlying26 (by kernel_rfl) (by decide) (fun _ => rfl) (fun n cs y hl ht _ => by
        obtain ⟨c, rfl⟩ : ∃ c, cs = [c] := by
          match cs, hl with
          | [c], _ => exact ⟨c, rfl⟩
        obtain ⟨s, e, _, hs⟩ := DataW.trod_string Try.underlying9 ht
        simp only [List.cons.injEq, and_true] at e
        subst e
        exact ⟨s, rfl, hs⟩) ht hz
      subst hn
      rw [kb] at hb
      rw [text_flat] at hr
      exact ⟨(a, cap, l), rfl, hb, hq, hr⟩) hf hz
  cases hv'
  refine ⟨a, n, cap, l.map (·.2.2), rfl, ⟨a, cap, rfl, h1, h2, by rw [List.length_map]; exact h3, fun i x hx => ?_⟩, fun x hx => ?_⟩
  · rw [List.getElem?_map] at hx
    obtain ⟨y, hy, rfl⟩ := Option.map_eq_some_iff.1 hx
    obtain ⟨k1, k2, k3⟩ := h4 y (List.mem_of_getElem? hy)
    obtain ⟨g, off, ha, hg, hc⟩ := h5.at (j := i) (u := .slice y.1 y.2.2.length y.2.1) (by
      have := flat_cell (fun x : Option Addr × Nat × List ByteArray => [Value.slice x.1 x.2.2.length x.2.1]) 1 (fun _ => rfl) l i y hy 0 (by decide)
      simpa using this)
    exact ⟨g, off, y.1, y.2.1, ha, hg, hc, k3⟩
  · obtain ⟨y, hy, rfl⟩ := List.mem_map.1 hx
    have := (h4 y hy).1
    exact ⟨by show y.2.2.length ≤ _; omega, (h4 y hy).2.1⟩
end
end Go.Proofs.Ytieaiofdbliblaa
