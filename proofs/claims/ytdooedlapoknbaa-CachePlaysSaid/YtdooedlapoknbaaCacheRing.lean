/- leave and enter. -/
import Derived.Test.YtdooedlapoknbaaCacheM
import Derived.Deep.QuietTactic
import Derived.StillTailTactics
import Derived.BigQuiet
namespace Go.Proofs.Ytdooedlapoknbaa
open Go Go.RowKit

set_option maxRecDepth 100000 in
set_option maxHeartbeats 2000000 in
theorem leave_any (W : World) (n p q : Nat) (i ip iq : It) (pp pq qp qq : Nat)
    (hn : W.heap[n]? = some (.cells (ndCells i p q) 50 (0, 0))) (hp : W.heap[p]? = some (.cells (ndCells ip pp pq) 50 (0, 0))) (hq : W.heap[q]? = some (.cells (ndCells iq qp qq) 50 (0, 0))) :
    Calls Try.prog 23 #[.pointer (some ⟨n, 0, none⟩)] W fun e w' => e = .returned (.tuple #[]) ∧ ∃ k, w' = ((W.setCell ⟨p, 5, none⟩ (.pointer (some ⟨q, 0, none⟩))).setCell ⟨q, 4, none⟩ (.pointer (some ⟨p, 0, none⟩))).drewN k := by
  have c4 := Lib.cell_of_heap hn 4
  have c5 := Lib.cell_of_heap hn 5
  have d5 := Lib.cell_of_heap hp 5
  have d4 := Lib.cell_of_heap hq 4
  have fp := Lib.frozen_of_heap hp
  have fq := Lib.frozen_of_heap hq
  simp [ndCells] at c4 c5 d5 d4
  clear hn hp hq
  go_enter Try.func23, Try.ntmps23
  go_still_tail 16, (by kernel_rfl)
  go_wp2
  exact bodyPost_end (by simp [results, Try.results23]) rfl ⟨rfl, 1, rfl⟩

set_option maxRecDepth 100000 in
set_option maxHeartbeats 2000000 in
theorem enter_any (W : World) (c n r l : Nat) (i ir il : It) (P Q : Value) (_ : P.oneCell' = true) (_ : Q.oneCell' = true) (rn lp : Nat) (m : Option Nat) (room used : Int)
    (hc : W.heap[c]? = some (.cells #[.map m, .pointer (some ⟨r, 0, none⟩), .int .i64 room, .int .i64 used] 54 (0, 0)))
    (hn : W.heap[n]? = some (.cells #[.int .i64 i.f, .int .i64 i.b, i.kv, .int .i64 (i.sz : Int), P, Q] 50 (0, 0))) (hr : W.heap[r]? = some (.cells (ndCells ir l rn) 50 (0, 0))) (hl : W.heap[l]? = some (.cells (ndCells il lp r) 50 (0, 0))) (hnr : n ≠ r) (hnl : n ≠ l) :
    Calls Try.prog 22 #[.pointer (some ⟨c, 0, none⟩), .pointer (some ⟨n, 0, none⟩)] W fun e w' => e = .returned (.tuple #[]) ∧ ∃ k, w' = ((((W.setCell ⟨n, 4, none⟩ (.pointer (some ⟨l, 0, none⟩))).setCell ⟨n, 5, none⟩ (.pointer (some ⟨r, 0, none⟩))).setCell ⟨l, 5, none⟩ (.pointer (some ⟨n, 0, none⟩))).setCell ⟨r, 4, none⟩ (.pointer (some ⟨n, 0, none⟩))).drewN k := by
  have b1 := Lib.cell_of_heap hc 1
  have c4 := Lib.cell_of_heap hn 4
  have c5 := Lib.cell_of_heap hn 5
  have r4 := Lib.cell_of_heap hr 4
  have l5 := Lib.cell_of_heap hl 5
  have fn := Lib.frozen_of_heap hn
  have fr := Lib.frozen_of_heap hr
  have fl := Lib.frozen_of_heap hl
  simp [ndCells] at b1 c4 c5 r4 l5
  have HN := Lib.hid hn
  have HR := Lib.hid hr
  have HL := Lib.hid hl
  clear hc hn hr hl
  go_enter Try.func22, Try.ntmps22
  go_wp2
  go_region
  have hn2 : (((W.setCell ⟨n, 4, none⟩ (.pointer (some ⟨l, 0, none⟩))).setCell ⟨n, 5, none⟩ (.pointer (some ⟨r, 0, none⟩))).drew).heap[n]? = some (.cells (ndCells i l r) 50 (0, 0)) := by
    show ((W.setCell ⟨n, 4, none⟩ (.pointer (some ⟨l, 0, none⟩))).setCell ⟨n, 5, none⟩ (.pointer (some ⟨r, 0, none⟩))).heap[n]? = _
    rw [heap_setCell_same _ n 5 _ _ _ (heap_setCell_same _ n 4 _ _ _ HN.out)]
    simp [ndCells]
  have hr2 : (((W.setCell ⟨n, 4, none⟩ (.pointer (some ⟨l, 0, none⟩))).setCell ⟨n, 5, none⟩ (.pointer (some ⟨r, 0, none⟩))).drew).heap[r]? = some (.cells (ndCells ir l rn) 50 (0, 0)) :=
    (Below.heap_setCell _ _ _ _ (fun e => hnr e.symm)).trans ((Below.heap_setCell _ _ _ _ (fun e => hnr e.symm)).trans HR.out)
  have hl2 : (((W.setCell ⟨n, 4, none⟩ (.pointer (some ⟨l, 0, none⟩))).setCell ⟨n, 5, none⟩ (.pointer (some ⟨r, 0, none⟩))).drew).heap[l]? = some (.cells (ndCells il lp r) 50 (0, 0)) :=
    (Below.heap_setCell _ _ _ _ (fun e => hnl e.symm)).trans ((Below.heap_setCell _ _ _ _ (fun e => hnl e.symm)).trans HL.out)
  have hW : ∀ k, ((((((W.setCell ⟨n, 4, none⟩ (.pointer (some ⟨l, 0, none⟩))).setCell ⟨n, 5, none⟩ (.pointer (some ⟨r, 0, none⟩))).drew).setCell ⟨l, 5, none⟩ (.pointer (some ⟨n, 0, none⟩))).setCell ⟨r, 4, none⟩ (.pointer (some ⟨n, 0, none⟩))).drewN k) = ((((W.setCell ⟨n, 4, none⟩ (.pointer (some ⟨l, 0, none⟩))).setCell ⟨n, 5, none⟩ (.pointer (some ⟨r, 0, none⟩))).setCell ⟨l, 5, none⟩ (.pointer (some ⟨n, 0, none⟩))).setCell ⟨r, 4, none⟩ (.pointer (some ⟨n, 0, none⟩))).drewN (k + 1) := by
    intro k
    simp [World.drewN, World.setCell, World.drew]
    omega
  have HW := Lib.hid hW
  clear hW b1 c4 c5 r4 l5 fn fr fl HN HR HL
  generalize ((W.setCell ⟨n, 4, none⟩ (.pointer (some ⟨l, 0, none⟩))).setCell ⟨n, 5, none⟩ (.pointer (some ⟨r, 0, none⟩))).drew = w2 at *
  have c4 := Lib.cell_of_heap hn2 4
  have c5 := Lib.cell_of_heap hn2 5
  have r4 := Lib.cell_of_heap hr2 4
  have l5 := Lib.cell_of_heap hl2 5
  have fr := Lib.frozen_of_heap hr2
  have fl := Lib.frozen_of_heap hl2
  simp [ndCells] at c4 c5 r4 l5
  clear hn2 hr2 hl2
  go_wp2
  go_region
  go_wp2
  exact bodyPost_end (by simp [results, Try.results22]) rfl ⟨rfl, _, HW.out 1⟩
end Go.Proofs.Ytdooedlapoknbaa
