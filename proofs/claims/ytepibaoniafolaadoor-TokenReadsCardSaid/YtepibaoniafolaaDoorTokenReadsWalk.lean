import Derived.Test.YtepibaoniafolaaDoorTokenRefChoose
namespace Go.Proofs.YtepibaoniafolaaDoor
open Go Go.RowKit

theorem readV_form (s : List UInt8) : ∃ (I R e : Nat), readV s = .tuple #[.int .u32 (I : Int), .int .u64 (R : Int), .int .i64 (e : Int)] := ⟨_, _, _, rfl⟩
theorem chooseV_form (s : List UInt8) (id : Nat) (how : Int) (floor head : Nat) : ∃ (R e : Nat), chooseV s id how floor head = .tuple #[.int .u64 (R : Int), .int .i64 (e : Int)] := ⟨_, _, rfl⟩

set_option maxRecDepth 100000 in
set_option maxHeartbeats 1000000 in
theorem tokenReads_walk (w : World) (s : ByteArray) (id : Nat) (how : Int) (floor head : Nat) (hs : s.size ≤ maxLen) (hst : Steps w) :
    Calls Tryd.prog 4 #[.string s, .int .u32 (id : Int), .int .i64 how, .int .u64 (floor : Int), .int .u64 (head : Int)] w (SaysTrue w) := by
  unfold maxLen at hs
  have hr := fun w (h : Steps w) => readT_any w s (by omega) h
  have hrr := fun w => refread_any w s
  have hc := fun w (h : Steps w) => choose_any w s id how floor head (by omega) h
  have hrc := fun w => refchoose_any w s id how floor head
  obtain ⟨I, R, e, hv⟩ := readV_form s.data.toList
  obtain ⟨Q, f, hv2⟩ := chooseV_form s.data.toList id how floor head
  rw [hv] at hr hrr
  rw [hv2] at hc hrc
  have HR := Lib.hid hr
  have HRR := Lib.hid hrr
  have HC := Lib.hid hc
  have HRC := Lib.hid hrc
  have ST := Lib.hid hst
  clear hr hrr hc hrc hst hv hv2
  go_enter Tryd.func4, Tryd.ntmps4
  go_wp2_with (go_at_call 7; go_must (refine (fixed_any _ ST.out).mono ?_))
  rintro e1 w1 ⟨rfl, b1⟩
  have HB1 := Lib.hid b1
  clear b1
  by_cases h200 : 200 < s.size
  · have h200i : (200 : Int) < (s.size : Int) := by omega
    clear h200
    go_wp2
    go_ret
    exact ⟨rfl, HB1.out⟩
  · have h200i : (s.size : Int) ≤ 200 := by omega
    clear h200
    go_wp2_with (go_at_call 9; go_must (refine (HR.out _ (ST.out.below HB1.out)).mono ?_))
    rintro e2 w2 ⟨rfl, b2⟩
    have HB2 := Lib.hid (HB1.out.trans (b2.mono HB1.out.size))
    clear b2 HB1
    go_wp2_with (go_at_call 11; go_must (refine (HRR.out _).mono ?_))
    rintro e3 w3 ⟨rfl, b3⟩
    have HB3 := Lib.hid (HB2.out.trans (b3.mono HB2.out.size))
    clear b3 HB2
    go_wp2_with (go_at_call 12; go_must (refine (HC.out _ (ST.out.below HB3.out)).mono ?_))
    rintro e4 w4 ⟨rfl, b4⟩
    have HB4 := Lib.hid (HB3.out.trans (b4.mono HB3.out.size))
    clear b4 HB3
    go_wp2_with (go_at_call 13; go_must (refine (HRC.out _).mono ?_))
    rintro e5 w5 ⟨rfl, b5⟩
    have HB5 := Lib.hid (HB4.out.trans (b5.mono HB4.out.size))
    clear b5 HB4
    go_wp2
    go_ret
    exact ⟨rfl, HB5.out⟩
end Go.Proofs.YtepibaoniafolaaDoor
