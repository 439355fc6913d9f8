import Derived.Test.YtepibaoniafolaaDoorTokenFixed
namespace Go.Proofs.YtepibaoniafolaaDoor
open Go Go.RowKit

theorem chooseV_told {s : List UInt8} {I R : Nat} (h : readR s = (I, R, 0)) (id : Nat) (how : Int) (floor head : Nat) :
    chooseV s id how floor head = .tuple #[.int .u64 ((chooseR (I, R, 0) id how floor head).1 : Int), .int .i64 ((chooseR (I, R, 0) id how floor head).2 : Int)] := by
  unfold chooseV
  rw [h]

theorem least_of (I R floor head : Nat) : chooseR (I, R, 0) I 2 floor head = if head < R then (0, 12) else (head, 0) := by
  unfold chooseR
  rw [if_neg (by decide), if_pos (Or.inl rfl), if_pos rfl, if_pos rfl]
  by_cases h : head < R
  · rw [if_pos (Or.inl h), if_pos h]
  · rw [if_neg (fun h' => h'.elim h (fun h' => absurd h'.1 (by decide))), if_pos rfl, if_neg h]

theorem exact_of (I R floor head : Nat) : chooseR (I, R, 0) I 3 floor head = if head < R ∨ R < floor then (0, 12) else (R, 0) := by
  unfold chooseR
  rw [if_neg (by decide), if_pos (Or.inr rfl), if_pos rfl, if_pos rfl]
  by_cases h : head < R ∨ R < floor
  · rw [if_pos (h.imp id fun h => ⟨rfl, h⟩), if_pos h]
  · rw [if_neg (fun h' => h (h'.imp id fun h => h.2)), if_neg (by decide), if_neg h]

theorem other_of (I J R floor head : Nat) (hne : I ≠ J) : chooseR (I, R, 0) J 3 floor head = (0, 1) := by
  unfold chooseR
  rw [if_neg (by decide), if_pos (Or.inr rfl), if_pos rfl, if_neg hne]

set_option maxRecDepth 100000 in
set_option maxHeartbeats 1000000 in
theorem tokenChooses_walk (w : World) (id rev floor head : Nat) (hid : id < 4294967296) (hrev : rev ≤ 18446744073709551615) (hst : Steps w) :
    Calls Tryd.prog 6 #[.int .u32 (id : Int), .int .u64 (rev : Int), .int .u64 (floor : Int), .int .u64 (head : Int)] w (SaysTrue w) := by
  have hmk := fun w (h : Steps w) => mk_any w id rev hid hrev h
  have hsz := textL_size (tokL id rev)
  have hrd := readR_text id rev hid hrev
  have ht : (⟨(textL (tokL id rev)).toArray⟩ : ByteArray).data.toList = textL (tokL id rev) := rfl
  rw [← ht] at hrd
  generalize (⟨(textL (tokL id rev)).toArray⟩ : ByteArray) = T at *
  clear ht
  obtain ⟨J, hJ, hJv⟩ : ∃ J : Nat, id ≠ J ∧ IntKind.u32.wrap ((id : Int) + 1) = (J : Int) := by
    refine ⟨(id + 1) % 4294967296, by omega, ?_⟩
    rw [IntKind.wrap_u32]
    omega
  have hc1 := fun w (h : Steps w) => choose_any w T id 2 floor head (by rw [hsz]; decide) h
  have hc2 := fun w (h : Steps w) => choose_any w T id 3 floor head (by rw [hsz]; decide) h
  have hc3 := fun w (h : Steps w) => choose_any w T J 3 floor head (by rw [hsz]; decide) h
  rw [chooseV_told hrd, least_of] at hc1
  rw [chooseV_told hrd, exact_of] at hc2
  rw [chooseV_told hrd, other_of _ _ _ _ _ hJ] at hc3
  have HM := Lib.hid hmk
  have H3 := Lib.hid hc3
  have ST := Lib.hid hst
  have hJv' : ((id : Int) + 1) % 4294967296 = (J : Int) := by
    rw [IntKind.wrap_u32] at hJv
    exact hJv
  clear hmk hc3 hst hrd hsz hJ hJv hid hrev
  go_enter Tryd.func6, Tryd.ntmps6
  go_wp2_with (go_at_call 7; go_must (refine (fixed_any _ ST.out).mono ?_))
  rintro e w1 ⟨rfl, b1⟩
  have HB1 := Lib.hid b1
  clear b1
  by_cases hfh : head < floor
  · clear hc1 hc2
    have hfi : (head : Int) < (floor : Int) := by omega
    clear hfh
    go_wp2
    go_ret
    exact ⟨rfl, HB1.out⟩
  · have hfi : (floor : Int) ≤ (head : Int) := by omega
    by_cases hr : head < rev
    · rw [if_pos hr] at hc1
      rw [if_pos (Or.inl hr)] at hc2
      have hri : (head : Int) < (rev : Int) := by omega
      have H1 := Lib.hid hc1
      have H2 := Lib.hid hc2
      clear hc1 hc2 hr hfh
      go_wp2_with (go_at_call 8; go_must (refine (HM.out _ (ST.out.below HB1.out)).mono ?_))
      rintro e w2 ⟨rfl, b2⟩
      have HB2 := Lib.hid (HB1.out.trans (b2.mono HB1.out.size))
      clear b2 HB1
      go_wp2_with (go_at_call 12; go_must (refine (H1.out _ (ST.out.below HB2.out)).mono ?_))
      rintro e w3 ⟨rfl, b3⟩
      have HB3 := Lib.hid (HB2.out.trans (b3.mono HB2.out.size))
      clear b3 HB2
      go_wp2_with (go_at_call 12; go_must (refine (H2.out _ (ST.out.below HB3.out)).mono ?_))
      rintro e w4 ⟨rfl, b4⟩
      have HB4 := Lib.hid (HB3.out.trans (b4.mono HB3.out.size))
      clear b4 HB3
      go_wp2_with (go_at_call 12; go_must (refine (H3.out _ (ST.out.below HB4.out)).mono ?_))
      rintro e w5 ⟨rfl, b5⟩
      have HB5 := Lib.hid (HB4.out.trans (b5.mono HB4.out.size))
      clear b5 HB4
      go_wp2
      go_ret
      exact ⟨rfl, HB5.out⟩
    · rw [if_neg hr] at hc1
      have hri : (rev : Int) ≤ (head : Int) := by omega
      by_cases hf : rev < floor
      · rw [if_pos (Or.inr hf)] at hc2
        have hfl : (rev : Int) < (floor : Int) := by omega
        have H1 := Lib.hid hc1
        have H2 := Lib.hid hc2
        clear hc1 hc2 hr hfh hf
        go_wp2_with (go_at_call 8; go_must (refine (HM.out _ (ST.out.below HB1.out)).mono ?_))
        rintro e w2 ⟨rfl, b2⟩
        have HB2 := Lib.hid (HB1.out.trans (b2.mono HB1.out.size))
        clear b2 HB1
        go_wp2_with (go_at_call 12; go_must (refine (H1.out _ (ST.out.below HB2.out)).mono ?_))
        rintro e w3 ⟨rfl, b3⟩
        have HB3 := Lib.hid (HB2.out.trans (b3.mono HB2.out.size))
        clear b3 HB2
        go_wp2_with (go_at_call 12; go_must (refine (H2.out _ (ST.out.below HB3.out)).mono ?_))
        rintro e w4 ⟨rfl, b4⟩
        have HB4 := Lib.hid (HB3.out.trans (b4.mono HB3.out.size))
        clear b4 HB3
        go_wp2_with (go_at_call 12; go_must (refine (H3.out _ (ST.out.below HB4.out)).mono ?_))
        rintro e w5 ⟨rfl, b5⟩
        have HB5 := Lib.hid (HB4.out.trans (b5.mono HB4.out.size))
        clear b5 HB4
        go_wp2
        go_ret
        exact ⟨rfl, HB5.out⟩
      · rw [if_neg (by omega)] at hc2
        have hfl : (floor : Int) ≤ (rev : Int) := by omega
        have H1 := Lib.hid hc1
        have H2 := Lib.hid hc2
        clear hc1 hc2 hr hfh hf
        go_wp2_with (go_at_call 8; go_must (refine (HM.out _ (ST.out.below HB1.out)).mono ?_))
        rintro e w2 ⟨rfl, b2⟩
        have HB2 := Lib.hid (HB1.out.trans (b2.mono HB1.out.size))
        clear b2 HB1
        go_wp2_with (go_at_call 12; go_must (refine (H1.out _ (ST.out.below HB2.out)).mono ?_))
        rintro e w3 ⟨rfl, b3⟩
        have HB3 := Lib.hid (HB2.out.trans (b3.mono HB2.out.size))
        clear b3 HB2
        go_wp2_with (go_at_call 12; go_must (refine (H2.out _ (ST.out.below HB3.out)).mono ?_))
        rintro e w4 ⟨rfl, b4⟩
        have HB4 := Lib.hid (HB3.out.trans (b4.mono HB3.out.size))
        clear b4 HB3
        go_wp2_with (go_at_call 12; go_must (refine (H3.out _ (ST.out.below HB4.out)).mono ?_))
        rintro e w5 ⟨rfl, b5⟩
        have HB5 := Lib.hid (HB4.out.trans (b5.mono HB4.out.size))
        clear b5 HB4
        go_wp2
        go_ret
        exact ⟨rfl, HB5.out⟩
end Go.Proofs.YtepibaoniafolaaDoor
