import Derived.Test.YtoibhkmlebcepaaDoorFrameRef
namespace Go.Proofs.YtoibhkmlebcepaaDoor
open Go Go.RowKit

set_option maxRecDepth 100000 in
set_option maxHeartbeats 1000000 in
theorem refseal_any (w : World) (v : Value) (n : Nat) (l : List UInt8) (h : Reads w 1 v n (bcells l)) (hn : n ≤ 100000000) :
    Calls Tryd.prog 11 #[v] w (GivesBytes w (sealL l)) := by
  obtain ⟨i0, hi, hz0, hz1, hz2⟩ := info_parts info5
  obtain ⟨a, cap, rfl, h1, h2⟩ := h.le
  unfold maxLen at h2
  have hl : l.length = n := by have := h.1; simpa [bcells_length] using this
  have h9 : sealL l = be4 n ++ be4 (sumL l) ++ l := by rw [sealL, hl]
  have hsl := sealL_length l
  have hsum := sumL_lt l
  rw [hl] at hsl
  have Hsl := Lib.hid hsl
  have H9 := Lib.hid h9
  have HR := Lib.hid h
  clear h hl hsl h9
  go_enter Tryd.func11, Tryd.ntmps11
  go_wp2_with (go_at_call 24; go_must (refine (four_any w n (by omega)).mono ?_))
  rintro e w1 ⟨rfl, f1, b1⟩
  have r1 := HR.out.below' b1
  have bs1 := b1.size
  go_wp2_with (go_at_call 25; go_must (refine (refsum_any w1 _ n l r1).mono ?_))
  rintro e w2 ⟨rfl, rfl⟩
  go_wp2_with (go_at_call 24; go_must (refine (four_any w1 (sumL l) hsum).mono ?_))
  rintro e w3 ⟨rfl, f3, b3⟩
  have f13 := f1.grown (row := none) ⟨b3.os, b3.tape, b3.output, b3.size, fun k hk _ => b3.block k hk⟩ (.inr (by simp [Value.ownBlock]))
  have bs3 := b3.size
  have hsrc := Reads.src (P := Tryd.prog) (tx := 28) Tryd.underlying28 f3.1 (bcells_one (be4 (sumL l)))
  have b13 : Below w.heap.size w w3 := b1.trans (b3.mono bs1)
  clear f1 f3 r1 b1 b3
  go_wp2_with (at_builtin; go_must (refine wpList_append_fresh rfl _ _ 28 28 rfl w.heap.size 5 i0 (.int .u8 0) 1 1 Tryd.underlying28 hi hz0 hz1 hz2 rfl _ _ _ rfl f13 _ _ _ rfl hsrc ?_ ?_ ?_ ?_))
  · unfold maxLen; omega
  · omega
  · omega
  intro v4 w4 f4 g4 b4 m4
  rw [← bcells_append] at f4
  have b14 := b13.trans b4
  have r4 := HR.out.below' b14
  have hsrc2 := Reads.src (P := Tryd.prog) (tx := 28) Tryd.underlying28 r4 (bcells_one l)
  have bs4 := b4.size
  clear f13 hsrc r4 g4 m4 b13 b4
  go_wp2_with (at_builtin; go_must (refine wpList_append_fresh rfl _ _ 28 28 rfl w.heap.size 5 i0 (.int .u8 0) 1 1 Tryd.underlying28 hi hz0 hz1 hz2 rfl _ _ _ rfl f4 _ _ _ rfl hsrc2 ?_ ?_ ?_ ?_))
  · unfold maxLen; omega
  · omega
  · omega
  intro v5 w5 f5 g5 b5 m5
  rw [← bcells_append] at f5
  have b15 := b14.trans b5
  have F5 := Lib.hid f5
  clear f4 hsrc2 f5 g5 m5 b5 b14
  go_wp2
  go_ret
  refine ⟨_, rfl, ?_, b15⟩
  rw [Hsl.out, H9.out]
  exact F5.out
end Go.Proofs.YtoibhkmlebcepaaDoor
