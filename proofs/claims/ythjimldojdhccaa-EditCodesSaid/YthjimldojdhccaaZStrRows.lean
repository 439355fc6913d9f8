/- Slices of strings, cut. -/
import Derived.Test.YthjimldojdhccaaMga
namespace Go.Proofs.Ythjimldojdhccaa
open Go Go.RowKit

theorem scells_length (l : List ByteArray) : (scells l).length = l.length := List.length_map ..
theorem scells_append (a b : List ByteArray) : scells (a ++ b) = scells a ++ scells b := List.map_append ..
theorem scells_one (l : List ByteArray) : ∀ u ∈ scells l, u.oneCell' = true := by
  intro u hu
  obtain ⟨_, _, rfl⟩ := List.mem_map.1 hu
  rfl

theorem info9 : (Try.prog.info? 9).map (fun i => (i.zero, i.size, i.bytes)) = some (some (.string ⟨#[]⟩), 1, 16) := by kernel_rfl

theorem Reads.stake {w : World} {a : Option Addr} {n cap : Nat} {l : List ByteArray} (h : Reads w 1 (.slice a n cap) n (scells l)) (k : Nat) (hk : k ≤ n) : Reads w 1 (.slice a k cap) k (scells (l.take k)) := by
  obtain ⟨hl, a', cap', hv, h1, h2, h3⟩ := h
  cases hv
  rw [scells_length] at hl
  refine ⟨by rw [scells_length, List.length_take]; omega, a, cap, rfl, by omega, h2, fun j u hj => h3 j u ?_⟩
  simp only [scells, List.map_take] at hj ⊢
  rw [List.getElem?_take] at hj
  split at hj
  · exact hj
  · cases hj

/-- The address behind the first k elements, as the model leaves it. -/
def behind (a : Option Addr) (k cap : Nat) : Option Addr := if cap = k then a else a.map fun x => x.add k

theorem Reads.sdrop {w : World} {a : Option Addr} {n cap : Nat} {l : List ByteArray} (h : Reads w 1 (.slice a n cap) n (scells l)) (k : Nat) (hk : k ≤ n) : Reads w 1 (.slice (behind a k cap) (n - k) (cap - k)) (n - k) (scells (l.drop k)) := by
  obtain ⟨hl, a', cap', hv, h1, h2, h3⟩ := h
  cases hv
  rw [scells_length] at hl
  refine ⟨by rw [scells_length, List.length_drop]; omega, _, _, rfl, by omega, by omega, fun j u hj => ?_⟩
  have hjl := (List.getElem?_eq_some_iff.1 hj).1
  rw [scells_length, List.length_drop] at hjl
  simp only [scells, List.map_drop] at hj h3
  rw [List.getElem?_drop] at hj
  obtain ⟨b, off, rfl, hb, hr⟩ := h3 _ _ hj
  unfold behind
  rw [if_neg (by omega)]
  exact ⟨b, off + k, by simp [Addr.add], hb, by rw [Nat.add_assoc]; exact hr⟩
end Go.Proofs.Ythjimldojdhccaa
