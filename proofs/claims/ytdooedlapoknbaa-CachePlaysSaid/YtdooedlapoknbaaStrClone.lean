/- slices.Clone of texts, of any slice. -/
import Derived.Test.YtdooedlapoknbaaStrRows
import Derived.Test.YtdooedlapoknbaaOwns
import Derived.Lib.SliceRun
namespace Go.Proofs.Ytdooedlapoknbaa
open Go Go.RowKit

/-- A row of texts of one's own: in a new block, or nil. -/
def NewRow (B : Nat) (w : World) (v : Value) (l : List ByteArray) : Prop := ∃ a cap, v = .slice a l.length cap ∧ Reads w 1 v l.length (scells l) ∧ ∀ g, v.ownBlock = some g → B ≤ g ∧ ∃ cs, w.heap[g]? = some (Obj.cells cs 9 (0, 0)) ∧ ∃ cap, v = .slice (some ⟨g, 0, none⟩) l.length cap ∧ l.length ≤ cs.size

theorem newRow_owns {w : World} {B : Nat} {v : Value} {l : List ByteArray} (h : w.ownsRow B 9 1 v l.length (scells l)) : NewRow B w v l := by
  obtain ⟨a, cap, rfl, h1, h2⟩ := (ownsRow.reads h).le
  refine ⟨a, cap, rfl, ownsRow.reads h, fun g hg => ?_⟩
  rcases h.2 with ⟨h0, _⟩ | ⟨b, c, cur, hv, hB, hh, hc1, _, hc3, _⟩
  · rw [h0] at hg
    simp [Value.ownBlock] at hg
  · rw [hv] at hg
    simp [Value.ownBlock] at hg
    subst hg
    exact ⟨hB, _, hh, c, hv, by omega⟩

def ClonesPost (w : World) (l : List ByteArray) (e : Ending) (w' : World) : Prop := ∃ v, e = .returned v ∧ NewRow w.heap.size w' v l ∧ Below w.heap.size w w'

set_option maxRecDepth 100000 in
set_option maxHeartbeats 1000000 in
theorem clones_any (w : World) (x : Option Addr) (n cap : Nat) (l : List ByteArray) (h : Reads w 1 (.slice x n cap) n (scells l)) (hn : n ≤ 1000000) :
    Calls Try.prog 20 #[.slice x n cap] w (ClonesPost w l) := by
  obtain ⟨i0, hi, hz0, hz1, hz2⟩ := info_parts info9
  have hl : l.length = n := by have := h.1; rw [scells_length] at this; omega
  have Hl := Lib.hid hl
  cases x with
  | none =>
    have hl0 : l = [] := by
      obtain ⟨_, a, cap', hv, h1, h2, h3⟩ := h
      cases l with
      | nil => rfl
      | cons y l =>
        obtain ⟨b, off, e, _⟩ := h3 0 (.string y) rfl
        cases hv
        cases e
    subst hl0
    obtain ⟨_, _, hv, hle, _⟩ := h.le
    cases hv
    obtain rfl : n = 0 := by simpa using hl.symm
    have hnil := Lib.run_eql_slice_nil (P := Try.prog) w 26 9 none 0 cap 0 0 Try.underlying26
    clear h hl
    go_enter Try.func20, Try.ntmps20
    go_wp2
    go_ret
    exact ⟨_, rfl, newRow_owns ⟨by simp [scells], .inl ⟨rfl, rfl⟩⟩, Below.refl _ _⟩
  | some x =>
    have hsrc := Reads.src (P := Try.prog) (tx := 26) Try.underlying26 (h.alloc (.cells #[] 9)) (scells_one l)
    have hf0 : (w.alloc (.cells #[] 9)).ownsRow w.heap.size 9 1 (.slice (some ⟨w.heap.size, 0, none⟩) 0 0) 0 [] := World.ownsRow_lit w #[] 0 (Nat.le_refl _) (Nat.zero_le _) rfl
    clear h hl
    have hnil := Lib.run_eql_slice_nil (P := Try.prog) w 26 9 (some x) n cap 0 0 Try.underlying26
    go_enter Try.func20, Try.ntmps20
    go_wp2_with (at_builtin; go_must (refine wpList_append_owns rfl _ _ 26 26 rfl w.heap.size 9 i0 (.string ⟨#[]⟩) 1 16 Try.underlying26 hi hz0 hz1 hz2 rfl (.slice (some ⟨w.heap.size, 0, none⟩) 0 0) 0 [] rfl hf0 (.slice (some x) n cap) n (scells l) rfl hsrc ?_ ?_ ?_ ?_))
    · unfold maxLen; omega
    · omega
    · simp
    intro v2 w2 f2 g2 b2 m2
    have b3 : Below w.heap.size w w2 := ((Below.refl _ _).alloc (Nat.le_refl _) _).trans b2
    have hf : w2.ownsRow w.heap.size 9 1 v2 l.length (scells l) := by
      have := f2
      rw [Hl.out]
      simpa using this
    have HSt := Lib.hid (newRow_owns hf)
    clear f2 m2 hf
    go_wp2
    go_ret
    exact ⟨_, rfl, HSt.out, b3⟩
end Go.Proofs.Ytdooedlapoknbaa
