import Derived.Test.YtlibncefiibgaaaDoorTupleParseM
namespace Go.Proofs.YtlibncefiibgaaaDoor
open Go Go.RowKit

def Six.list (t : Six) : List ByteArray := [t.a, t.b, t.c, t.d, t.e, t.f]

def RefParts (w : World) (t : Six) (e : Ending) (w' : World) : Prop :=
  ∃ b, e = .returned (.slice (some ⟨b, 0, none⟩) 6 6) ∧ Reads w' 1 (.slice (some ⟨b, 0, none⟩) 6 6) 6 (scells t.list) ∧ Below w.heap.size w w'

theorem reads_new {w' : World} {b : Nat} {l : List ByteArray} {n : Nat} {e : TypeId} (hn : l.length = n) (h : w'.heap[b]? = some (.cells (scells l).toArray e (0, 0))) (hs : n ≤ maxLen) :
    Reads w' 1 (.slice (some ⟨b, 0, none⟩) n n) n (scells l) := by
  refine ⟨by simp [scells, hn], _, n, rfl, Nat.le_refl _, hs, fun j u hj => ⟨b, 0, rfl, (Array.getElem?_eq_some_iff.1 h).1, ?_⟩⟩
  rw [Nat.zero_add, Lib.cell_of_heap h j]
  simpa using hj

set_option maxRecDepth 100000 in
set_option maxHeartbeats 1000000 in
theorem refparts_any (w : World) (t : Six) : Calls Tryd.prog 13 #[t.val] w (RefParts w t) := by
  obtain ⟨a, b, c, d, e, f⟩ := t
  unfold Six.val
  go_enter Tryd.func13, Tryd.ntmps13
  go_wp2
  go_ret
  refine ⟨w.heap.size + 1, by simp, reads_new rfl (e := 9) ?_ (by decide), (Below.refl _ _).alloc (Nat.le_refl _) _ |>.alloc (by simp) _⟩
  have := heap_alloc_new (w.alloc (.cells #[.string a, .string b, .string c, .string d, .string e, .string f] 37)) (.cells #[.string a, .string b, .string c, .string d, .string e, .string f] 9)
  simpa [Six.list, scells] using this

def tightL (l : List ByteArray) : Bool := l.all fun s => decide (s.size ≤ 200)
def Six.tight (t : Six) : Bool := tightL t.list

theorem tight_short {t : Six} (h : t.tight = true) : t.short 200 := by
  simp [Six.tight, Six.list, tightL] at h
  exact h

/-- A row of tuples, one behind the other. -/
def TupsAt (w : World) (g : Nat) (ts : List Six) : Prop := ∀ j t, ts[j]? = some t → ∀ i s, t.list[i]? = some s → w.cell? ⟨g, j * 6 + i, none⟩ = some (.string s)

end Go.Proofs.YtlibncefiibgaaaDoor
