/- The reader's end. -/
import Derived.Test.YtdonibkkdhokpaaGreatZWireRs
namespace Go.Proofs.YtdonibkkdhokpaaGreat
open Go Go.RowKit

def EndedPost (w : World) (b : Bool) (e : Ending) (w' : World) : Prop := e = .returned (.bool b) ∧ w = w'

set_option maxRecDepth 100000 in
set_option maxHeartbeats 1000000 in
theorem ended_any (B : Nat) (w : World) (g : Nat) (l : List UInt8) (d : Int) (b : Bool) (h : RAt B w g l d b) :
    Calls Tryz.prog 49 #[.pointer (some ⟨g, 0, none⟩)] w (EndedPost w (!b && decide (l = []))) := by
  obtain ⟨v, hg, hs, hB⟩ := h
  have hlt : g < w.heap.size := (Array.getElem?_eq_some_iff.1 hg).1
  obtain ⟨a, cap, rfl, hc1, hc2⟩ := hs.reads.le
  have c0 := Lib.cell_of_heap hg 0
  have c2 := Lib.cell_of_heap hg 2
  simp at c0 c2
  have hl0 : ((l.length : Int) == 0) = decide (l = []) := by
    cases l with
    | nil => rfl
    | cons x r =>
      have h1 : (((x :: r).length : Int) == 0) = false := by
        rw [beq_eq_false_iff_ne]
        simp only [List.length_cons]
        omega
      rw [h1]
      simp
  generalize decide (l = []) = q at *
  generalize l.length = n at *
  clear hs hg
  cases b with
  | true =>
    show Calls _ _ _ _ (EndedPost w false)
    go_enter Tryz.func49, Tryz.ntmps49
    go_wp2
    go_ret
    exact ⟨rfl, rfl⟩
  | false =>
    show Calls _ _ _ _ (EndedPost w q)
    go_enter Tryz.func49, Tryz.ntmps49
    go_wp2
    go_ret
    exact ⟨rfl, rfl⟩
end Go.Proofs.YtdonibkkdhokpaaGreat
