/- Rows of bytes that come in. -/
import Derived.Test.YtodjgdaaggajcaaDoorByteRows
import Derived.Deep.Slices
import Derived.ProofKit
import Derived.OpenShut
namespace Go.Proofs.YtodjgdaaggajcaaDoor
open Go Go.RowKit Go.Deep Go.ChangeShapes Go.WideShapes Go.ChangeAt

theorem bytes_of {w : World} {x : Addr} {len cap : Nat} {zs : List Int} (h1 : len ≤ cap) (h2 : cap ≤ maxLen) (h3 : len ≤ zs.length) (h4 : ∀ i, i < zs.length → w.cell? (x.add i) = some (.int .u8 (zs.getD i 0))) (h5 : ∀ n ∈ zs, (Lit.int .u8 n).wf = true) :
    ∃ l : List UInt8, l.length = len ∧ Reads w 1 (.slice (some x) len cap) len (bcells l) := by
  refine ⟨(zs.take len).map fun z => UInt8.ofNat z.toNat, by simp; omega, by simp [bcells]; omega, _, cap, rfl, h1, h2, fun j u hj => ?_⟩
  have hj' := (List.getElem?_eq_some_iff.1 hj).1
  simp [bcells] at hj'
  have hj1 : j < len := by omega
  have hj2 : j < zs.length := by omega
  have hw := h5 zs[j] (List.getElem_mem _)
  have hb : 0 ≤ zs[j] ∧ zs[j] ≤ 255 := by simpa [Lit.wf, IntKind.min, IntKind.max, IntKind.signed, IntKind.bits] using hw
  have hc := h4 j (by omega)
  obtain ⟨b, off, spot⟩ := x
  have hspot : spot = none := by
    have h0 := h4 0 (by omega)
    simpa [Addr.add] using World.cell?_spot h0
  subst hspot
  rw [Addr.add_lit] at hc
  refine ⟨b, off, rfl, World.block_lt_of_cell? _ _ hc, ?_⟩
  rw [hc]
  simp [bcells, hj1, hj2] at hj
  rw [← hj]
  simp [List.getD, hj2]
  omega

theorem bytes_in {H : Type} {enc : TypeId × Value → H} {W : World} {base : Nat} {spare : Nat → Bool} {held : Bool} {fuel : Nat} {u : Value} {x : DataW H × List MemPlace}
    (h : DataW.trod enc Tryd.prog W base spare held fuel 22 [u] = some x) : ∃ p : List UInt8, Reads W 1 u p.length (bcells p) := by
  rcases open_ints Tryd.underlying22 Tryd.underlying5 (by kernel_rfl) h with ⟨hcs, _⟩ | ⟨y, l, c, zs, hcs, _, hl, hm, hz, _, hcell, hwz⟩
  · simp at hcs
    subst hcs
    exact ⟨[], by simp [bcells], none, 0, rfl, Nat.le_refl _, Nat.zero_le _, fun j u h => by simp [bcells] at h⟩
  · simp at hcs
    subst hcs
    have hlm : l ≤ zs.length := by rw [hz]; split <;> omega
    obtain ⟨p, hp, hr⟩ := bytes_of hl hm hlm hcell hwz
    exact ⟨p, by rw [hp]; exact hr⟩

theorem rows_in {H : Type} {enc : TypeId × Value → H} {W : World} {base : Nat} {spare : Nat → Bool} {held : Bool} {fuel : Nat} {a : Option Addr} {len cap : Nat} {x : DataW H × List MemPlace}
    (h : DataW.trod enc Tryd.prog W base spare held fuel 31 (Value.slice a len cap).cells.toList = some x) : ∃ ps, RowsOf W (.slice a len cap) len ps := by
  have e0 : (Value.slice a len cap).cells.toList = [.slice a len cap] := rfl
  rw [e0] at h
  rcases open_slice1 Tryd.underlying31 (by kernel_rfl) h with ⟨hcs, _⟩ | ⟨ad, l, c, m, n, V, D, Pl, hcs, _, hl, hm, hmm, _, hx⟩
  · simp at hcs
    obtain ⟨rfl, rfl, rfl⟩ := hcs
    exact ⟨[], RowsOf.nil W _ rfl⟩
  · simp at hcs
    obtain ⟨rfl, rfl, rfl⟩ := hcs
    have hlm : len ≤ m := by rw [hmm]; split <;> omega
    obtain ⟨Q, hQ⟩ := choose_lt (n := len) (fun i hi => bytes_in (hx i (by omega)).2)
    refine ⟨(List.range len).map Q, (List.range len).map V, ⟨by simp, some ad, cap, rfl, hl, hm, fun j u hj => ?_⟩, by simp, fun i p hp => ?_⟩
    · obtain ⟨hjl, hju⟩ := List.getElem?_eq_some_iff.1 hj
      simp at hjl hju
      subst hju
      have hcj := (hx j (by omega)).1
      obtain ⟨b, off, spot⟩ := ad
      have hspot : spot = none := by
        have h0 := (hx 0 (by omega)).1
        simpa [Addr.add] using World.cell?_spot h0
      subst hspot
      rw [Addr.add_lit] at hcj
      exact ⟨b, off, rfl, World.block_lt_of_cell? _ _ hcj, hcj⟩
    · obtain ⟨hil, hip⟩ := List.getElem?_eq_some_iff.1 hp
      simp at hil hip
      subst hip
      exact ⟨V i, by simp [hil], hQ i hil⟩
end Go.Proofs.YtodjgdaaggajcaaDoor
