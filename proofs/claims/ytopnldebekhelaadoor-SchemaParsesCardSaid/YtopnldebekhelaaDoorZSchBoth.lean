/- The parser: both (written by gen_schboth.py). -/
import Derived.Test.YtopnldebekhelaaDoorZSchRowA
namespace Go.Proofs.YtopnldebekhelaaDoor
open Go Go.RowKit

set_option maxRecDepth 100000 in
set_option maxHeartbeats 2000000 in
theorem pboth_any (f : List ByteArray → Pr) (hok : StepOk f) (hlen : StepLen f) (d : Int)
    (hit : ∀ (W : World) (g : Nat) (T : List ByteArray), PAt W g T d false → wtT T ≤ 600000 → Calls Tryd.prog 71 #[.pointer (some ⟨g, 0, none⟩)] W (RuPost W g T d (f T)))
    (w : World) (g : Nat) (T : List ByteArray) (h : PAt w g T d false) (hT : wtT T ≤ 600000) :
    Calls Tryd.prog 62 #[.pointer (some ⟨g, 0, none⟩)] w (RuPost w g T d (bothOf f T)) := by
  obtain ⟨R, hR⟩ : ∃ R, bothOf f T = R := ⟨_, rfl⟩
  rw [hR]
  have hg := h.lt
  obtain ⟨w1, hw1⟩ : ∃ W, W = w.alloc (.cells #[.int .i64 0, .string ⟨#[]⟩, .string ⟨#[]⟩, .slice none 0 0] 42) := ⟨_, rfl⟩
  have s1 : w1.heap.size = w.heap.size + 1 := by rw [hw1]; simp
  have t1 : Touch w w1 [g] := by rw [hw1]; exact (Touch.refl w [g]).alloc _
  have n1 : w1.heap[w.heap.size]? = some (.cells #[.int .i64 0, .string ⟨#[]⟩, .string ⟨#[]⟩, .slice none 0 0] 42 (0, 0)) := by rw [hw1]; exact heap_alloc_new w _
  have p1 : PAt w1 g T d false := by rw [hw1]; exact h.below ((Below.refl _ _).alloc (Nat.le_refl _) _)
  have hC := rowA_any f hok hlen ⟨#[38]⟩ rfl 5 d hit w1 g T p1 hT
  rw [show rowF f ⟨#[38]⟩ 5 (T.length + 1) [] T = R from hR] at hC
  have HC := Lib.hid hC
  have HW1 := Lib.hid hw1
  have HT1 := Lib.hid t1
  have HN1 := Lib.hid n1
  clear hC hw1 t1 n1 p1 h hit hok hlen hR
  go_enter Tryd.func62, Tryd.ntmps62
  go_upto_region 1 with fail
  rw [← HW1.out]
  clear HW1
  go_wp2_with (go_at_call 61; go_must (refine HC.out.mono ?_))
  rintro e w2 ⟨x, rfl, hat, ht2, hp2⟩
  have hn2 := ht2.keep HN1.out (by simp; omega)
  have hat2 := ruE_keep.mono _ (fun b => w.heap.size + 1 ≤ b) _ _ (fun b _ hb => by omega) hat
  obtain ⟨hf1, hf2⟩ := row_ret (cs := _) rfl hn2 (HT1.out.same ht2) hg hat2 hp2 _ rfl
  have HF1 := Lib.hid hf1
  have HF2 := Lib.hid hf2
  have b0 := Lib.cell_of_heap hn2 0; have b1 := Lib.cell_of_heap hn2 1; have b2 := Lib.cell_of_heap hn2 2; have b3 := Lib.cell_of_heap hn2 3
  have fz := Lib.frozen_of_heap hn2
  simp at b0 b1 b2 b3
  clear hf1 hf2 hat2 hn2 hat ht2 hp2 HC
  go_wp2
  exact bodyPost_ret (ret_rule Tryd.results62 rfl HF1.out) rfl HF2.out
end Go.Proofs.YtopnldebekhelaaDoor
