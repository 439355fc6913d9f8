import Derived.Test.YtepibaoniafolaaDoorTokenTrip
namespace Go.Proofs.YtepibaoniafolaaDoor
open Go Go.RowKit

theorem readV_nil : readV [] = .tuple #[.int .u32 0, .int .u64 0, .int .i64 9] := rfl
theorem chooseV_nil : chooseV [] 1 1 0 7 = .tuple #[.int .u64 7, .int .i64 0] := rfl

set_option maxRecDepth 100000 in
set_option maxHeartbeats 1000000 in
theorem fixed_any (w : World) (hst : Steps w) : Calls Tryd.prog 7 #[] w (GivesVal w (.bool true)) := by
  have hmk := mk_any w 1 2 (by decide) (by decide) hst
  have hsz := textL_size (tokL 1 2)
  have hrd := readR_text 1 2 (by decide) (by decide)
  have ht : (⟨(textL (tokL 1 2)).toArray⟩ : ByteArray).data.toList = textL (tokL 1 2) := rfl
  rw [← ht] at hrd
  generalize (⟨(textL (tokL 1 2)).toArray⟩ : ByteArray) = T at *
  clear ht
  have hr1 := fun w (h : Steps w) => readT_any w T (by rw [hsz]; decide) h
  have hv1 : readV T.data.toList = .tuple #[.int .u32 1, .int .u64 2, .int .i64 0] := by unfold readV; rw [hrd]; rfl
  have hr2 := fun w (h : Steps w) => readT_any w ⟨#[]⟩ (by decide) h
  have hv2 : readV (⟨#[]⟩ : ByteArray).data.toList = .tuple #[.int .u32 0, .int .u64 0, .int .i64 9] := readV_nil
  have hc := fun w (h : Steps w) => choose_any w ⟨#[]⟩ 1 1 0 7 (by decide) h
  have hv3 : chooseV (⟨#[]⟩ : ByteArray).data.toList 1 1 0 7 = .tuple #[.int .u64 7, .int .i64 0] := chooseV_nil
  rw [hv1] at hr1
  rw [hv2] at hr2
  rw [hv3] at hc
  have hsz' : (T.size : Int) = 26 := by rw [hsz]; rfl
  have HM := Lib.hid hmk
  have H1 := Lib.hid hr1
  have H2 := Lib.hid hr2
  have H3 := Lib.hid hc
  have ST := Lib.hid hst
  clear hmk hr1 hr2 hc hst hv1 hv2 hv3 hrd hsz
  go_enter Tryd.func7, Tryd.ntmps7
  go_wp2_with (go_at_call 8; go_must (refine HM.out.mono ?_))
  rintro e w1 ⟨rfl, b1⟩
  have HB1 := Lib.hid b1
  clear b1
  go_wp2_with (go_at_call 9; go_must (refine (H1.out _ (ST.out.below HB1.out)).mono ?_))
  rintro e w2 ⟨rfl, b2⟩
  have HB2 := Lib.hid (HB1.out.trans (b2.mono HB1.out.size))
  clear b2 HB1
  go_wp2_with (go_at_call 9; go_must (refine (H2.out _ (ST.out.below HB2.out)).mono ?_))
  rintro e w3 ⟨rfl, b3⟩
  have HB3 := Lib.hid (HB2.out.trans (b3.mono HB2.out.size))
  clear b3 HB2
  go_wp2_with (go_at_call 12; go_must (refine (H3.out _ (ST.out.below HB3.out)).mono ?_))
  rintro e w4 ⟨rfl, b4⟩
  have HB4 := Lib.hid (HB3.out.trans (b4.mono HB3.out.size))
  clear b4 HB3
  go_wp2
  go_ret
  exact ⟨rfl, HB4.out⟩
end Go.Proofs.YtepibaoniafolaaDoor
