/- slices.Clone of texts. -/
import Derived.Test.YtieaiofdbliblaaMergeNext
import Derived.Lib.SliceRun
namespace Go.Proofs.Ytieaiofdbliblaa
open Go Go.RowKit

def noG (_ : Nat) : Prop := True

theorem strAt_owns {w : World} {B : Nat} {v : Value} {l : Row} (h : w.ownsRow B 9 1 v l.length (scells l)) : StrAt noG w v l := by
  obtain ⟨a, cap, rfl, h1, h2⟩ := (ownsRow.reads h).le
  refine ⟨a, cap, rfl, ownsRow.reads h, fun g hg => ?_⟩
  rcases h.2 with ⟨h0, _⟩ | ⟨b, c, cur, hv, _, hh, _⟩
  · rw [h0] at hg
    simp [Value.ownBlock] at hg
  · rw [hv] at hg
    simp [Value.ownBlock] at hg
    subst hg
    exact ⟨trivial, _, _, hh⟩

def ClonePost (w : World) (l : Row) (e : Ending) (w' : World) : Prop := ∃ (a : Option Addr) (cap : Nat), e = .returned (.slice a l.length cap) ∧ StrAt noG w' (.slice a l.length cap) l ∧ Below w.heap.size w w'

set_option maxRecDepth 100000 in
set_option maxHeartbeats 1000000 in
theorem sclone_any (w : World) (x : Addr) (n cap : Nat) (l : Row) (h : Reads w 1 (.slice (some x) n cap) n (scells l)) (hn : n ≤ 1000000) :
    Calls Try.prog 17 #[.slice (some x) n cap] w (ClonePost w l) := by
  obtain ⟨i0, hi, hz0, hz1, hz2⟩ := info_parts info9
  have hl : l.length = n := by have := h.1; rw [scells_length] at this; omega
  have Hl := Lib.hid hl
  have hsrc := Reads.src (P := Try.prog) (tx := 26) Try.underlying26 (h.alloc (.cells #[] 9)) (scells_one l)
  have hf0 : (w.alloc (.cells #[] 9)).ownsRow w.heap.size 9 1 (.slice (some ⟨w.heap.size, 0, none⟩) 0 0) 0 [] := World.ownsRow_lit w #[] 0 (Nat.le_refl _) (Nat.zero_le _) rfl
  clear h hl
  have hnil := Lib.run_eql_slice_nil (P := Try.prog) w 26 9 (some x) n cap 0 0 Try.underlying26
  go_enter Try.func17, Try.ntmps17
  go_wp2_with (at_builtin; go_must (refine wpList_append_owns rfl _ _ 26 26 rfl w.heap.size 9 i0 (.string ⟨#[]⟩) 1 16 Try.underlying26 hi hz0 hz1 hz2 rfl _ _ _ rfl hf0 _ _ _ rfl hsrc ?_ ?_ ?_ ?_))
  · unfold maxLen; omega
  · omega
  · simp
  intro v2 w2 f2 g2 b2 m2
  have b3 : Below w.heap.size w w2 := ((Below.refl _ _).alloc (Nat.le_refl _) _).trans b2
  have hf : w2.ownsRow w.heap.size 9 1 v2 l.length (scells l) := by
    have := f2
    rw [Hl.out]
    simpa using this
  have hst := strAt_owns hf
  obtain ⟨va, vcap, rfl, hr, ho⟩ := hst
  have HSt := Lib.hid (show StrAt noG w2 (.slice va l.length vcap) l from ⟨va, vcap, rfl, hr, ho⟩)
  clear f2 m2 hf hr ho
  go_wp2
  go_ret
  exact ⟨_, _, rfl, HSt.out, b3⟩
end Go.Proofs.Ytieaiofdbliblaa
