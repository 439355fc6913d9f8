import Derived.Test.YtbhapbioibhalaaBase
import Derived.Deep.Strs
namespace Go.Proofs.Ytbhapbioibhalaa
open Go Go.RowKit Go.Deep

/-- What a slice of strings that came in reads as. -/
theorem strs_reads {H : Type} {enc : TypeId × Value → H} {P : Program} {W : World} {base : Nat} {spare : Nat → Bool} {held : Bool} {t e : TypeId} {fuel : Nat} {a : Option Addr} {len cap : Nat} {x : DataW H × List MemPlace}
    (ht : P.underlying t = some (.slice e)) (he : P.underlying e = some .string) (hc : P.cellsOf e = 1) (h : DataW.trod enc P W base spare held fuel t (Value.slice a len cap).cells.toList = some x) :
    ∃ ks, Reads W 1 (.slice a len cap) len (scells ks) := by
  have e0 : (Value.slice a len cap).cells.toList = [.slice a len cap] := rfl
  rw [e0] at h
  rcases open_strs ht he hc h with ⟨hcs, _⟩ | ⟨ad, l, c, m, Sx, hcs, _, hl, hm, hmm, _, hcell⟩
  · simp at hcs
    obtain ⟨rfl, rfl, rfl⟩ := hcs
    exact ⟨[], by simp [scells], none, 0, rfl, Nat.le_refl _, Nat.zero_le _, fun j u h => by simp [scells] at h⟩
  · simp at hcs
    obtain ⟨rfl, rfl, rfl⟩ := hcs
    have hlm : len ≤ m := by rw [hmm]; split <;> omega
    refine ⟨(List.range len).map Sx, by simp [scells], some ad, cap, rfl, hl, hm, fun j u hj => ?_⟩
    obtain ⟨hjl, hju⟩ := List.getElem?_eq_some_iff.1 hj
    simp [scells] at hjl hju
    subst hju
    have hcj := (hcell j (by omega)).1
    obtain ⟨b, off, spot⟩ := ad
    have hspot : spot = none := by
      have h0 := (hcell 0 (by omega)).1
      simpa [Addr.add] using World.cell?_spot h0
    subst hspot
    rw [Addr.add_lit] at hcj
    exact ⟨b, off, rfl, World.block_lt_of_cell? _ _ hcj, hcj⟩
end Go.Proofs.Ytbhapbioibhalaa
