/- Rows of structs in a region that draws its order: appended to a row without room; cut in two. -/
import Derived.Test.YtbhapbioibhalaaDrawnUntilLast
import Derived.Test.YtbhapbioibhalaaAppendRows
namespace Go.Proofs.Ytbhapbioibhalaa
open Go Go.RowKit

/-- An append to a row without room goes into new memory. -/
theorem run_append_zero_s {P : Program} {w : World} (B : Nat) (t tx ty e : TypeId) (i : TypeInfo) (z : Value) (size bytes : Nat) (ht : P.underlying t = some (.slice e)) (hi : P.info? e = some i) (hz : i.zero = some z)
    (hsize : i.size = size) (hby : i.bytes = bytes) (hzs : z.cells.size = size)
    (g : Nat) (h0 : w.ownsRow B e size (.slice (some ⟨g, 0, none⟩) 0 0) 0 []) (x : Value) (m : Nat) (news : List Value) (hs : Src P size tx x m news w)
    (h63 : m ≤ maxLen) (hbytes : m * bytes ≤ 140737488355328) (hB : B ≤ w.heap.size) :
    ∃ v' w', (Builtin.append_ #[t, tx] ty #[.slice (some ⟨g, 0, none⟩) 0 0, x]).run P w = .ok v' w' ∧ w'.ownsRow B e size v' m news ∧ Below w.heap.size w w' := by
  subst hby
  subst hsize
  have hnl := hs.newsLen
  by_cases hm : m = 0
  · subst hm
    have hn : news = [] := List.eq_nil_of_length_eq_zero (by simpa using hnl)
    subst hn
    exact ⟨_, w, run_append_nothing (P := P) w t tx ty e i ht hi (some ⟨g, 0, none⟩) 0 0 (Nat.le_refl _) x hs, h0, Below.refl _ _⟩
  · have hold := (ownsRow.reads h0).firstCells (P := P) w.drew rfl
    have hsmall : 0 + m ≤ 9223372036854775807 := by simp only [maxLen] at h63; omega
    have hrun := run_append_grow_src (P := P) w t tx ty e i z ht hi hz (some ⟨g, 0, none⟩) 0 0 [] hold x m news hs (by omega) (by omega) (growslice_fits (by omega) (by rw [Nat.zero_add]; exact hbytes))
    have hge := grownCap_ge w (0 + m) 0 e
    have hcm := grownCap_le_maxLen w (0 + m) 0 e (by omega)
    rw [List.nil_append, Nat.zero_add] at hrun
    rw [Nat.zero_add] at hge hcm
    refine ⟨_, _, hrun, ⟨by simpa using hnl, .inr ⟨w.heap.size, _, _, rfl, hB, heap_alloc_new w.drew _, hge, hcm, ?_, ?_⟩⟩, ⟨rfl, rfl, rfl, by simp, fun k hk => Below.heap_alloc w.drew _ k hk⟩⟩
    · rw [Array.size_append, List.size_toArray, size_zeroCells, hzs, hnl, ← Nat.add_mul]
      congr 1
      omega
    · simp only [Array.toList_append]
      rw [← hnl]
      exact List.take_left

theorem Reads.rtake {w : World} {s : Nat} {a : Option Addr} {n cap : Nat} {xs : List Value} (h : Reads w s (.slice a n cap) n xs) (k : Nat) (hk : k ≤ n) : Reads w s (.slice a k cap) k (xs.take (k * s)) := by
  obtain ⟨hl, a', cap', hv, h1, h2, h3⟩ := h
  cases hv
  have := Nat.mul_le_mul_right s hk
  refine ⟨by rw [List.length_take]; omega, a, cap, rfl, by omega, h2, fun j u hj => h3 j u ?_⟩
  rw [List.getElem?_take] at hj
  split at hj
  · exact hj
  · cases hj

/-- The address behind the first k elements of s cells, as the model leaves it. -/
def behindS (a : Option Addr) (k cap s : Nat) : Option Addr := if cap = k then a else a.map fun x => x.add (k * s)

theorem Reads.rdrop {w : World} {s : Nat} {a : Option Addr} {n cap : Nat} {xs : List Value} (h : Reads w s (.slice a n cap) n xs) (k : Nat) (hk : k ≤ n) : Reads w s (.slice (behindS a k cap s) (n - k) (cap - k)) (n - k) (xs.drop (k * s)) := by
  obtain ⟨hl, a', cap', hv, h1, h2, h3⟩ := h
  cases hv
  have hm := Nat.mul_le_mul_right s hk
  refine ⟨by rw [List.length_drop, Nat.sub_mul]; omega, _, _, rfl, by omega, by omega, fun j u hj => ?_⟩
  have hjl := (List.getElem?_eq_some_iff.1 hj).1
  rw [List.length_drop] at hjl
  rw [List.getElem?_drop] at hj
  obtain ⟨b, off, rfl, hb, hr⟩ := h3 _ _ hj
  unfold behindS
  have hne : cap ≠ k := by
    intro e
    have : n = k := by omega
    subst this
    omega
  rw [if_neg hne]
  exact ⟨b, off + k * s, by simp [Addr.add], hb, by rw [Nat.add_assoc]; exact hr⟩

theorem owns_zero_s (w : World) (e : TypeId) (size : Nat) : (w.alloc (.cells #[] e)).ownsRow w.heap.size e size (.slice (some ⟨w.heap.size, 0, none⟩) 0 0) 0 [] := owns_zero w e size
end Go.Proofs.Ytbhapbioibhalaa
