/- Entries that came in. -/
import Derived.Test.YtekdcjbjjakhcaaSliceOpen
import Derived.Test.YtekdcjbjjakhcaaWalMath
import Derived.Test.YtekdcjbjjakhcaaOnes
namespace Go.Proofs.Ytekdcjbjjakhcaa
open Go Go.RowKit Go.Joins Go.WideShapes Go.ChangeShapes Go.ChangeAt Go.Deep

section
variable {H : Type} {enc : TypeId × Value → H} {w : World} {base : Nat} {spare : Nat → Bool} {held : Bool}

theorem ent_one {n : Nat} {cs : List Value} {y : DataW H × List MemPlace} (hl : cs.length = 3) (ht : DataW.trod enc Try.prog w base spare held n 48 cs = some y) : ∃ x : Ent, cs = ecell x ∧ x.key.size ≤ maxLen ∧ x.rev < 18446744073709551616 := by
  have k1 : Try.prog.cellsOf 23 = 1 := by kernel_rfl
  have kt : Try.prog.cellsOf 9 = 1 := by kernel_rfl
  have kb : Try.prog.cellsOf 4 = 1 := by kernel_rfl
  obtain ⟨y0, y1, y2, m, _, _, h0, h1, h2⟩ := trod_struct3 Try.underlying48 ht
  match cs, hl with
  | [d0, d1, d2], _ =>
    rw [kt] at h0
    rw [k1] at h1
    rw [kb] at h2
    simp at h0 h1 h2
    obtain ⟨s, rfl, hs⟩ := one_string h0
    obtain ⟨m, rfl, hm⟩ := one_u64 h1
    obtain ⟨b, rfl⟩ := one_bool h2
    exact ⟨⟨s, m, b⟩, rfl, hs, hm⟩

theorem ents_open {r : Reach} {b0 : Nat} {v : Value} {d : DataW H} {p : List MemPlace} (hv : Value.okWide Try.prog w r b0 22 v) (h : DataW.Trod enc Try.prog w base spare held 22 v d p) :
    ∃ a len cap, ∃ l : List Ent, v = .slice a len cap ∧ len ≤ cap ∧ cap ≤ maxLen ∧ l.length = len ∧ (∀ x ∈ l, x.key.size ≤ maxLen ∧ x.rev < 18446744073709551616) ∧ Reads w 3 (.slice a len cap) len (ecells l) := by
  have : Inhabited Ent := ⟨⟨⟨#[]⟩, 0, false⟩⟩
  exact slice_rows ecell (fun x => x.key.size ≤ maxLen ∧ x.rev < 18446744073709551616) Try.underlying22 (by kernel_rfl) (by decide) ecell_length (fun n cs y hl ht => ent_one hl ht) hv h
end
end Go.Proofs.Ytekdcjbjjakhcaa
