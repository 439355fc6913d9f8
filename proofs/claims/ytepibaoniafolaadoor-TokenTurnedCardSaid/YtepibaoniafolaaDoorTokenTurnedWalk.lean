import Derived.Test.YtepibaoniafolaaDoorTokenTurnMath
import Derived.Test.YtepibaoniafolaaDoorTokenRefText
namespace Go.Proofs.YtepibaoniafolaaDoor
open Go Go.RowKit

def TurnRel (w : World) (B g M cp L k0 y : Nat) (pre P post : List UInt8) (t c : Value) (wr : World) : Prop :=
  ∃ i : Nat, c = .int .i64 (i : Int) ∧ i ≤ 32 ∧ t = .bool (turnAny L k0 y i) ∧ wr.ownsRow B 5 1 (.slice (some ⟨g, 0, none⟩) M cp) M (bcells (pre ++ flips P k0 y i ++ post)) ∧ Below w.heap.size w wr

theorem xor_bit (c : UInt8) (k : Nat) : bits BinOp.xor .u8 (c.toNat : Int) ((2 : Int) ^ (k % 8)) = ((UInt8.ofNat (c.toNat ^^^ 2 ^ (k % 8))).toNat : Int) := by
  have h2 : 2 ^ (k % 8) < 2 ^ 8 := Nat.pow_lt_pow_right (by decide) (Nat.mod_lt _ (by decide))
  have hc := c.toNat_lt
  have h3 := xor_byte_lt c k
  rw [show ((2 : Int) ^ (k % 8)) = ((2 ^ (k % 8) : Nat) : Int) from by simp]
  generalize 2 ^ (k % 8) = m at *
  rw [u8_xor_nat c.toNat m (by omega) (by omega)]
  simp only [UInt8.toNat_ofNat']
  rw [Nat.mod_eq_of_lt (by omega)]

theorem shr_odd (y i : Nat) : (((y : Int) / 2 ^ i).tmod 2 == 1) = y.testBit i := by
  rw [Int.tmod_eq_emod_of_nonneg (Int.ediv_nonneg (by omega) (Int.pow_nonneg (by decide)))]
  have e : ((y : Int) / 2 ^ i) % 2 = ((y / 2 ^ i % 2 : Nat) : Int) := by simp
  rw [e, Nat.testBit_eq_decide_div_mod_eq]
  rcases Nat.mod_two_eq_zero_or_one (y / 2 ^ i) with h | h <;> simp [h]

/-- The bytes between others, one bit turned. -/
theorem set_between {pre P post : List UInt8} {k : Nat} {z : Int} (hk : k / 8 < P.length) (hz : z = ((UInt8.ofNat ((P.getD (k / 8) 0).toNat ^^^ 2 ^ (k % 8))).toNat : Int)) :
    (bcells (pre ++ P ++ post)).set (pre.length + k / 8) (.int .u8 z) = bcells (pre ++ xorBit P k ++ post) := by
  subst hz
  unfold xorBit
  have e : (pre ++ P ++ post).set (pre.length + k / 8) (UInt8.ofNat ((P.getD (k / 8) 0).toNat ^^^ 2 ^ (k % 8))) = pre ++ P.set (k / 8) (UInt8.ofNat ((P.getD (k / 8) 0).toNat ^^^ 2 ^ (k % 8))) ++ post := by
    rw [List.append_assoc, List.set_append_right _ _ (by omega), Nat.add_sub_cancel_left, List.set_append_left _ _ hk, List.append_assoc]
  rw [← e]
  simp only [bcells, List.map_set]

theorem get_between {pre P post : List UInt8} {j : Nat} (hj : j < P.length) : (bcells (pre ++ P ++ post))[pre.length + j]? = some (.int .u8 ((P.getD j 0).toNat : Int)) := by
  have e : (pre ++ P ++ post)[pre.length + j]? = some (P.getD j 0) := by
    rw [List.append_assoc, List.getElem?_append_right (by omega), Nat.add_sub_cancel_left, List.getElem?_append_left hj, List.getElem?_eq_getElem hj]
    simp [List.getD, hj]
  simp only [bcells, List.getElem?_map, e, Option.map_some]

set_option maxRecDepth 100000 in
set_option maxHeartbeats 2000000 in
theorem tokenTurned_walk (w : World) (id rev at' y : Nat) (hrev : rev ≤ 18446744073709551615) (hat : at' < 256) (hst : Steps w) :
    Calls Tryd.prog 5 #[.int .u32 (id : Int), .int .u64 (rev : Int), .int .u8 (at' : Int), .int .u32 (y : Int)] w (SaysTrue w) := by
  have hby := fun w => bytes_own w id rev hrev
  have htl : tokL id rev = [] ++ tokP id rev ++ be4 (sumL (tokP id rev)) := rfl
  have hpl := tokP_length id rev
  obtain ⟨k0, hk0, hk0'⟩ : ∃ k0 : Nat, at' % 96 = k0 ∧ k0 ≤ 8 * 12 := ⟨_, rfl, by omega⟩
  have hk0i : (at' : Int).tmod 96 = (k0 : Int) := by
    rw [Int.tmod_eq_emod_of_nonneg (Int.natCast_nonneg _)]
    omega
  have hres := readR_turned id rev k0 y hk0'
  have hsz := textL_size (flips (tokP id rev) k0 y 32 ++ be4 (sumL (tokP id rev)))
  rw [htl] at hby
  generalize tokP id rev = TP at *
  generalize be4 (sumL TP) = PS at *
  have HBy := Lib.hid hby
  have HPL := Lib.hid hpl
  have HRes := Lib.hid hres
  have HSz := Lib.hid hsz
  have ST := Lib.hid hst
  have HK0 := Lib.hid hk0i
  have hk96 : k0 ≤ 96 := hk0'
  clear hby htl hpl hres hsz hst hk0 hk0' hk0i hrev
  go_enter Tryd.func5, Tryd.ntmps5
  go_wp2_with (go_at_call 7; go_must (refine (fixed_any _ ST.out).mono ?_))
  rintro e w1 ⟨rfl, b1⟩
  have HB1 := Lib.hid b1
  clear b1
  go_wp2_with (go_at_call 14; go_must (refine (HBy.out _).mono ?_))
  rintro e w2 ⟨g, cp, rfl, own2, b2⟩
  have HB2 := Lib.hid (HB1.out.trans (b2.mono HB1.out.size))
  have hgl := own2.lt g rfl
  have hs1 := HB1.out.size
  obtain ⟨_, _, hv, hcp1, hcp2⟩ := (ownsRow.reads own2).le
  cases hv
  unfold maxLen at hcp2
  have Own2 := Lib.hid own2
  clear own2 b2
  go_wp2
  go_loopw [10, 21] (fun t c wr => TurnRel w w1.heap.size g 16 cp 12 k0 y [] TP PS t c wr) (fun _ c _ => 32 - (intOf c).toNat)
  case atStart => exact ⟨0, rfl, by omega, rfl, Own2.out, HB2.out⟩
  case round =>
    obtain ⟨i, rfl, hi, rfl, hown, hb⟩ := hrel
    by_cases hi32 : i < 32
    · have hi32' : (i : Int) < 32 := by omega
      have hPl := flips_length TP k0 y i
      rw [HPL.out] at hPl
      have hts : turnAny 12 k0 y (i + 1) = if turnsAt 12 k0 y i then true else turnAny 12 k0 y i := rfl
      have hfs : flips TP k0 y (i + 1) = if turnsAt TP.length k0 y i then xorBit (flips TP k0 y i) (k0 + i) else flips TP k0 y i := rfl
      rw [HPL.out] at hfs
      have hta : turnsAt 12 k0 y i = (y.testBit i && decide (k0 + i < 8 * 12)) := rfl
      have hodd := shr_odd y i
      generalize flips TP k0 y i = G at *
      obtain ⟨kk, hkk⟩ : ∃ kk, k0 + i = kk := ⟨_, rfl⟩
      rw [hkk] at hfs hta
      have hkk' : (k0 : Int) + (i : Int) = (kk : Int) := by omega
      have hk0i := HK0.out
      have Hkk := Lib.hid hkk
      have Hts := Lib.hid hts
      have Hfs := Lib.hid hfs
      have Hta := Lib.hid hta
      clear hkk hts hfs hta
      cases hbit : y.testBit i with
      | false =>
        rw [hbit] at hodd
        have Hbit := Lib.hid hbit
        have Hown := Lib.hid hown
        clear hbit hown
        go_wp2
        have ht : turnsAt 12 k0 y i = false := by rw [Hta.out, Hbit.out]; rfl
        refine ⟨⟨i + 1, by go_num, by omega, ?_, ?_, hb⟩, by simp [intOf]; omega⟩
        · rw [Hts.out, ht]; rfl
        · rw [Hfs.out, ht]; exact Hown.out
      | true =>
        rw [hbit] at hodd
        have Hbit := Lib.hid hbit
        by_cases hlt : kk < 8 * 12
        · have hlt' : (kk : Int) < 96 := by omega
          have hp8' : (kk : Int) / 8 < 12 := by omega
          have hp8'' : ((kk : Int) / 8).toNat = kk / 8 := by omega
          have hp80 : (0 : Int) ≤ (kk : Int) / 8 := by omega
          have cp' := hown.cellAt (kk / 8) (by omega)
          have hgb := get_between (pre := []) (P := G) (post := PS) (j := kk / 8) (by omega)
          rw [List.length_nil, Nat.zero_add] at hgb
          rw [hgb] at cp'
          have fp := hown.frozenAt (kk / 8)
          have st := fun u => World.ownsRow.stored hown (kk / 8) u
          have hor := xor_bit (G.getD (kk / 8) 0) kk
          have hsb := fun z hz => set_between (pre := []) (P := G) (post := PS) (k := kk) (z := z) (by omega) hz
          rw [List.length_nil, Nat.zero_add] at hsb
          have hpw : (2 : Int) ^ (kk % 8) % 256 = 2 ^ (kk % 8) := by
            have h2 : 2 ^ (kk % 8) < 2 ^ 8 := Nat.pow_lt_pow_right (by decide) (Nat.mod_lt _ (by decide))
            have h3 : 2 ^ (kk % 8) % 256 = 2 ^ (kk % 8) := Nat.mod_eq_of_lt (by simpa using h2)
            exact_mod_cast h3
          generalize G.getD (kk / 8) 0 = c at *
          have Hor := Lib.hid hor
          have St := Lib.hid st
          have Hsb := Lib.hid hsb
          have Hpw := Lib.hid hpw
          clear hor st hsb hgb hbit hown hpw
          go_wp2
          rw [Hpw.out]
          have h1 := St.out (.int .u8 (bits BinOp.xor .u8 (c.toNat : Int) ((2 : Int) ^ (kk % 8))))
          rw [Hsb.out _ Hor.out] at h1
          have ht : turnsAt 12 k0 y i = true := by rw [Hta.out, Hbit.out, Bool.true_and]; exact decide_eq_true hlt
          have hbz := hb.size
          refine ⟨⟨i + 1, by go_num, by omega, ?_, ?_, hb.grown h1.2 hbz (fun k hk => by cases hk; omega)⟩, by simp [intOf]; omega⟩
          · rw [Hts.out, ht]; rfl
          · rw [Hfs.out, ht]; exact h1.1
        · have hlt' : (96 : Int) ≤ (kk : Int) := by omega
          have Hown := Lib.hid hown
          clear hbit hown
          go_wp2
          have ht : turnsAt 12 k0 y i = false := by rw [Hta.out, Hbit.out, Bool.true_and]; exact decide_eq_false hlt
          refine ⟨⟨i + 1, by go_num, by omega, ?_, ?_, hb⟩, by simp [intOf]; omega⟩
          · rw [Hts.out, ht]; rfl
          · rw [Hfs.out, ht]; exact Hown.out
    · obtain rfl : i = 32 := by omega
      have hfl := flips_length TP k0 y 32
      rw [HPL.out] at hfl
      have hrd : Reads wr 1 (.slice (some ⟨g, 0, none⟩) 16 cp) 16 (bcells (flips TP k0 y 32 ++ PS)) := ownsRow.reads hown
      have htx := reftext_any wr _ _ hrd
      have hres := HRes.out
      have hsz := HSz.out
      have hdt : (⟨(textL (flips TP k0 y 32 ++ PS)).toArray⟩ : ByteArray).data.toList = textL (flips TP k0 y 32 ++ PS) := rfl
      rw [← hdt] at hres
      generalize (⟨(textL (flips TP k0 y 32 ++ PS)).toArray⟩ : ByteArray) = T at *
      have hst := ST.out.below hb
      have hrt := fun w' (h : Steps w') => readT_any w' T (by rw [hsz]; decide) h
      unfold readV at hrt
      generalize readR T.data.toList = r at *
      obtain ⟨I, R, e⟩ := r
      try simp only at hrt hres
      have HTx := Lib.hid htx
      have HRt := Lib.hid hrt
      have HSt := Lib.hid hst
      clear hfl hrd htx hsz hdt hrt hst hown HRes HSz
      cases ht : turnAny 12 k0 y 32 with
      | true =>
        rw [ht] at hres
        subst hres
        clear ht
        go_wp2_with (first | (go_at_call 15; go_must (refine HTx.out.mono ?_)))
        rintro e w3 ⟨rfl, b3⟩
        have HB3 := Lib.hid (hb.trans (b3.mono hb.size))
        have HS3 := Lib.hid (HSt.out.below b3)
        clear b3 hb
        go_wp2_with (first | (go_at_call 9; go_must (refine (HRt.out _ HS3.out).mono ?_)))
        rintro e w4 ⟨rfl, b4⟩
        have HB4 := Lib.hid (HB3.out.trans (b4.mono HB3.out.size))
        clear b4
        go_wp2
        go_ret
        exact ⟨rfl, HB4.out⟩
      | false =>
        rw [ht] at hres
        subst hres
        clear ht
        go_wp2_with (first | (go_at_call 15; go_must (refine HTx.out.mono ?_)))
        rintro e w3 ⟨rfl, b3⟩
        have HB3 := Lib.hid (hb.trans (b3.mono hb.size))
        have HS3 := Lib.hid (HSt.out.below b3)
        clear b3 hb
        go_wp2_with (first | (go_at_call 9; go_must (refine (HRt.out _ HS3.out).mono ?_)))
        rintro e w4 ⟨rfl, b4⟩
        have HB4 := Lib.hid (HB3.out.trans (b4.mono HB3.out.size))
        clear b4
        go_wp2
        go_ret
        exact ⟨rfl, HB4.out⟩
end Go.Proofs.YtepibaoniafolaaDoor
