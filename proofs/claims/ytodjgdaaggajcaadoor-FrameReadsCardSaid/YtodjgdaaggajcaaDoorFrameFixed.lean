import Derived.Test.YtodjgdaaggajcaaDoorFrameNext2
import Derived.Lib.SlBytesConst
import Derived.Lib.SmallJoins
namespace Go.Proofs.YtodjgdaaggajcaaDoor
open Go Go.RowKit

theorem next_seal {l : List UInt8} (h : l.length < 4294967296) (r : List UInt8) : nextL (sealL l ++ r) = (0, l) := by
  have e0 : sealL l ++ r = be4 l.length ++ (be4 (sumL l) ++ l ++ r) := by simp [sealL]
  have e1 : num4 (sealL l ++ r) = l.length := by rw [e0, num4_be4 h]
  have e2 : (sealL l ++ r).length = 8 + l.length + r.length := by rw [List.length_append, sealL_length]
  have e3 : (sealL l ++ r).drop 8 = l ++ r := by simp [sealL, be4]
  have e4 : (sealL l ++ r).drop 4 = be4 (sumL l) ++ (l ++ r) := by simp [sealL, be4]
  unfold nextL
  rw [e1, e2, if_neg (by omega), e3, e4, num4_be4 (sumL_lt l), List.take_left, if_pos rfl]

theorem nextN_seal {l : List UInt8} (h : l.length < 4294967296) (r : List UInt8) : nextN (sealL l ++ r) = 8 + l.length := by
  rw [nextN, next_seal h]; rfl

theorem sum_fixed : sumL [49, 50, 51, 52, 53, 54, 55, 56, 57] = 3421780262 := by decide +kernel

theorem lits_read (w : World) (l : List UInt8) (n : Nat) (fr : Nat × Nat) (hl : l.length = n) (hn : n ≤ maxLen) : Reads (w.alloc (.cells (bcells l).toArray 5 fr)) 1 (.slice (some ⟨w.heap.size, 0, none⟩) n n) n (bcells l) := by
  refine ⟨by rw [bcells_length]; omega, _, n, rfl, Nat.le_refl _, hn, fun j u hj => ⟨_, _, rfl, by simp, ?_⟩⟩
  rw [show (0 + j) = j by omega, World.cell?_alloc_mark w _ _ fr j]
  simpa using hj

set_option maxRecDepth 100000 in
set_option maxHeartbeats 1000000 in
theorem frame_fixed (w : World) (hst : Steps w) : Calls Tryd.prog 7 #[] w (SaysTrue w) := by
  have r0 := lits_read w [97, 98] 2 (2, 3) rfl (by decide)
  have b0 : Below w.heap.size w (w.alloc (.cells (bcells [97, 98]).toArray 5 (2, 3))) := (Below.refl _ _).alloc (Nat.le_refl _) _
  have st0 := hst.below b0
  rw [show (bcells [97, 98]).toArray = #[Value.int .u8 97, .int .u8 98] from rfl] at r0 b0 st0
  have hn := next_seal (l := [97, 98]) (by decide) []
  have hnn := nextN_seal (l := [97, 98]) (by decide) []
  rw [List.append_nil] at hn hnn
  have hns : nextL [] = (7, []) := by decide +kernel
  have hnns : nextN [] = 0 := by decide +kernel
  have R0 := Lib.hid r0
  have ST0 := Lib.hid st0
  have HN := Lib.hid hn
  have HNN := Lib.hid hnn
  have HNS := Lib.hid hns
  have HNNS := Lib.hid hnns
  clear r0 st0 hn hnn hns hnns
  have kc := fun (w : World) (C : Array Value) (n c : Nat) => Lib.run_convert_bytes_const (P := Tryd.prog) w 22 5 C n c Tryd.underlying22 Tryd.underlying5
  go_enter Tryd.func7, Tryd.ntmps7
  go_wp2_with (go_at_call 8; go_must (refine (seal_any _ _ 2 [97, 98] R0.out (by decide) ST0.out).mono ?_))
  rintro e w1 ⟨v1, rfl, f1, b1⟩
  have st1 := Lib.hid (ST0.out.below b1)
  have R1 := Lib.hid f1.1
  have b01 := b0.trans (b1.mono (by simp))
  clear f1 b1 b0
  go_wp2_with (go_at_call 9; go_must (refine (fnext_any w1 v1 _ (sealL [97, 98]) R1.out (by rw [sealL_length]; decide) st1.out).mono ?_))
  rintro e w2 ⟨v2, rfl, f2, b2⟩
  rw [HN.out] at f2 ⊢
  rw [HNN.out]
  have st2 := Lib.hid (st1.out.below b2)
  have b02 := b01.trans (b2.mono b01.size)
  clear b2 b01
  go_wp2_with (go_at_call 9; go_must (refine (fnext_any w2 _ 0 [] (fresh_none 0 w2 5 1).1 (by decide) st2.out).mono ?_))
  rintro e w3 ⟨v3, rfl, f3, b3⟩
  rw [HNS.out, HNNS.out]
  have st3 := st2.out.below b3
  have b03 := b02.trans (b3.mono b02.size)
  have r2 := (ownsRow.reads f2).below' b3
  have r4 := lits_read w3 [49, 50, 51, 52, 53, 54, 55, 56, 57] 9 (9, 10) rfl (by decide)
  have b4 : Below w3.heap.size w3 (w3.alloc (.cells (bcells [49, 50, 51, 52, 53, 54, 55, 56, 57]).toArray 5 (9, 10))) := (Below.refl _ _).alloc (Nat.le_refl _) _
  have st4 := st3.below b4
  have r24 := r2.below' b4
  have b05 := b03.trans (b4.mono b03.size)
  rw [show (bcells [49, 50, 51, 52, 53, 54, 55, 56, 57]).toArray = #[Value.int .u8 49, .int .u8 50, .int .u8 51, .int .u8 52, .int .u8 53, .int .u8 54, .int .u8 55, .int .u8 56, .int .u8 57] from rfl] at r4 b4 st4 r24 b05
  have hcv := Reads.conv (P := Tryd.prog) (src := 22) (e := 5) (dst := 9) Tryd.underlying22 Tryd.underlying5 Tryd.underlying9 r24
  have R4 := Lib.hid r4
  have ST4 := Lib.hid st4
  clear r4 b4 st4 r24 b03 st3 b3 f3 f2 r2 b02
  go_wp2_with (go_at_call 10; go_must (refine (sum_any _ _ 9 _ R4.out ST4.out).mono ?_))
  rintro e w5 ⟨rfl, rfl⟩
  rw [sum_fixed]
  go_wp2
  go_ret
  exact ⟨rfl, b05⟩
end Go.Proofs.YtodjgdaaggajcaaDoor
