import Derived.Test.YtepibaoniafolaaDoorTokenRefText
namespace Go.Proofs.YtepibaoniafolaaDoor
open Go Go.RowKit

set_option maxRecDepth 100000 in
set_option maxHeartbeats 1000000 in
theorem tokenMakes_walk (w : World) (id rev : Nat) (hid : id < 4294967296) (hrev : rev ≤ 18446744073709551615) (hst : Steps w) :
    Calls Tryd.prog 3 #[.int .u32 (id : Int), .int .u64 (rev : Int)] w (SaysTrue w) := by
  have hmk := fun w (h : Steps w) => mk_any w id rev hid hrev h
  have hrm := fun w => refmake_any w id rev hrev
  have hsz := textL_size (tokL id rev)
  have hrd := readR_text id rev hid hrev
  have ht : (⟨(textL (tokL id rev)).toArray⟩ : ByteArray).data.toList = textL (tokL id rev) := rfl
  rw [← ht] at hrd
  generalize (⟨(textL (tokL id rev)).toArray⟩ : ByteArray) = T at *
  clear ht
  have hr1 := fun w (h : Steps w) => readT_any w T (by rw [hsz]; decide) h
  have hv1 : readV T.data.toList = .tuple #[.int .u32 (id : Int), .int .u64 (rev : Int), .int .i64 0] := by unfold readV; rw [hrd]; rfl
  rw [hv1] at hr1
  have HM := Lib.hid hmk
  have HN := Lib.hid hrm
  have HR := Lib.hid hr1
  have ST := Lib.hid hst
  clear hmk hrm hr1 hst hrd hsz hv1 hid hrev
  go_enter Tryd.func3, Tryd.ntmps3
  go_wp2_with (go_at_call 7; go_must (refine (fixed_any _ ST.out).mono ?_))
  rintro e w1 ⟨rfl, b1⟩
  have HB1 := Lib.hid b1
  clear b1
  go_wp2_with (go_at_call 8; go_must (refine (HM.out _ (ST.out.below HB1.out)).mono ?_))
  rintro e w2 ⟨rfl, b2⟩
  have HB2 := Lib.hid (HB1.out.trans (b2.mono HB1.out.size))
  clear b2 HB1
  go_wp2_with (go_at_call 9; go_must (refine (HR.out _ (ST.out.below HB2.out)).mono ?_))
  rintro e w3 ⟨rfl, b3⟩
  have HB3 := Lib.hid (HB2.out.trans (b3.mono HB2.out.size))
  clear b3 HB2
  go_wp2_with (go_at_call 10; go_must (refine (HN.out _).mono ?_))
  rintro e w4 ⟨rfl, b4⟩
  have HB4 := Lib.hid (HB3.out.trans (b4.mono HB3.out.size))
  clear b4 HB3
  go_wp2
  go_ret
  exact ⟨rfl, HB4.out⟩
end Go.Proofs.YtepibaoniafolaaDoor
