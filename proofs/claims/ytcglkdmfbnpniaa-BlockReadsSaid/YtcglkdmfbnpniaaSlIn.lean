/- Slices of bytes that came in. -/
import Derived.Test.YtcglkdmfbnpniaaSl
import Derived.Test.YtcglkdmfbnpniaaByteRows
namespace Go.Proofs.Ytcglkdmfbnpniaa
open Go Go.RowKit

theorem Sl.of_reads {w : World} {v : Value} {l : List UInt8} (h : Reads w 1 v l.length (bcells l)) (hn : 0 < l.length) : Sl w.heap.size w v l := by
  have h' := h
  obtain ⟨bb, off, cap, rfl, _, _, _, hc⟩ := h.head hn
  exact .inr ⟨bb, off, cap, rfl, fun _ => World.block_lt_of_cell? _ _ (hc 0 hn), fun _ => World.block_lt_of_cell? _ _ (hc 0 hn), h'⟩

/-- A slice of bytes that came in. -/
theorem IsRow.sl {w : World} {a : Option Addr} {len cap : Nat} {zs : List Int} (h : IsRow .u8 w a len cap zs) : ∃ l : List UInt8, l.length = len ∧ Sl w.heap.size w (.slice a len cap) l := by
  obtain ⟨l, hl, hr⟩ := h.reads
  refine ⟨l, hl, ?_⟩
  subst hl
  by_cases hn : 0 < l.length
  · exact Sl.of_reads hr hn
  · obtain rfl : l = [] := List.eq_nil_of_length_eq_zero (by omega)
    rcases h with ⟨rfl, _, rfl, _⟩ | ⟨x, rfl, h1, h2, h3, h4, h5⟩
    · exact .inl ⟨⟨_, rfl⟩, rfl⟩
    · by_cases hc : cap = 0
      · subst hc
        exact .inl ⟨⟨_, rfl⟩, rfl⟩
      · have hc0 := h4 0 (by omega)
        have hlt := World.block_lt_of_cell? _ _ hc0
        obtain ⟨b, o, s⟩ := x
        cases s with
        | none => exact .inr ⟨b, o, cap, rfl, fun _ => hlt, fun _ => hlt, hr⟩
        | some s => exact absurd (World.cell?_spot hc0) (by simp [Addr.add])
end Go.Proofs.Ytcglkdmfbnpniaa
