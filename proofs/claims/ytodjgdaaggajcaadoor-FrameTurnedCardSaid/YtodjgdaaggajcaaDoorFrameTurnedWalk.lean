import Derived.Test.YtodjgdaaggajcaaDoorFrameTurnMath
namespace Go.Proofs.YtodjgdaaggajcaaDoor
open Go Go.RowKit

def TurnRel (w : World) (B g M cp L k0 y : Nat) (pre P post : List UInt8) (t c : Value) (wr : World) : Prop :=
  ∃ i : Nat, c = .int .i64 (i : Int) ∧ i ≤ 32 ∧ t = .bool (turnAny L k0 y i) ∧ wr.ownsRow B 5 1 (.slice (some ⟨g, 0, none⟩) M cp) M (bcells (pre ++ flips P k0 y i ++ post)) ∧ Below w.heap.size w wr

theorem xor_bit (c : UInt8) (k : Nat) : bits BinOp.xor .u8 (c.toNat : Int) ((2 : Int) ^ (k % 8)) = ((UInt8.ofNat (c.toNat ^^^ 2 ^ (k % 8))).toNat : Int) := by
  have h2 : 2 ^ (k % 8) < 2 ^ 8 := Nat.pow_lt_pow_right (by decide) (Nat.mod_lt _ (by decide))
  have hc := c.toNat_lt
  have h3 := xor_byte_lt c k
  rw [show ((2 : Int) ^ (k % 8)) = ((2 ^ (k % 8) : Nat) : Int) from by simp]
  generalize 2 ^ (k % 8) = m at *
  rw [u8_xor_nat c.toNat m (by omega) (by omega)]
  simp only [UInt8.toNat_ofNat']
  rw [Nat.mod_eq_of_lt (by omega)]

theorem shr_odd (y i : Nat) : (((y : Int) / 2 ^ i).tmod 2 == 1) = y.testBit i := by
  rw [Int.tmod_eq_emod_of_nonneg (Int.ediv_nonneg (by omega) (Int.pow_nonneg (by decide)))]
  have e : ((y : Int) / 2 ^ i) % 2 = ((y / 2 ^ i % 2 : Nat) : Int) := by simp
  rw [e, Nat.testBit_eq_decide_div_mod_eq]
  rcases Nat.mod_two_eq_zero_or_one (y / 2 ^ i) with h | h <;> simp [h]

/-- The bytes between others, one bit turned. -/
theorem set_between {pre P post : List UInt8} {k : Nat} {z : Int} (hk : k / 8 < P.length) (hz : z = ((UInt8.ofNat ((P.getD (k / 8) 0).toNat ^^^ 2 ^ (k % 8))).toNat : Int)) :
    (bcells (pre ++ P ++ post)).set (pre.length + k / 8) (.int .u8 z) = bcells (pre ++ xorBit P k ++ post) := by
  subst hz
  unfold xorBit
  have e : (pre ++ P ++ post).set (pre.length + k / 8) (UInt8.ofNat ((P.getD (k / 8) 0).toNat ^^^ 2 ^ (k % 8))) = pre ++ P.set (k / 8) (UInt8.ofNat ((P.getD (k / 8) 0).toNat ^^^ 2 ^ (k % 8))) ++ post := by
    rw [List.append_assoc, List.set_append_right _ _ (by omega), Nat.add_sub_cancel_left, List.set_append_left _ _ hk, List.append_assoc]
  rw [← e]
  simp only [bcells, List.map_set]

theorem get_between {pre P post : List UInt8} {j : Nat} (hj : j < P.length) : (bcells (pre ++ P ++ post))[pre.length + j]? = some (.int .u8 ((P.getD j 0).toNat : Int)) := by
  have e : (pre ++ P ++ post)[pre.length + j]? = some (P.getD j 0) := by
    rw [List.append_assoc, List.getElem?_append_right (by omega), Nat.add_sub_cancel_left, List.getElem?_append_left hj, List.getElem?_eq_getElem hj]
    simp [List.getD, hj]
  simp only [bcells, List.getElem?_map, e, Option.map_some]

set_option maxRecDepth 100000 in
set_option maxHeartbeats 2000000 in
theorem frameTurned_walk (w : World) (a : Option Addr) (n cap : Nat) (l : List UInt8) (at' y : Nat) (sum : Bool) (h : Reads w 1 (.slice a n cap) n (bcells l)) (hat : at' < 65536) (_hy : y < 4294967296) (hst : Steps w) :
    Calls Tryd.prog 6 #[.slice a n cap, .int .u16 at', .int .u32 y, .bool sum] w (SaysTrue w) := by
  obtain ⟨_, _, hv, h1, h2⟩ := h.le
  cases hv
  unfold maxLen at h2
  have hl : l.length = n := by have := h.1; simpa [bcells_length] using this
  have Hl := Lib.hid hl
  have HR := Lib.hid h
  have ST := Lib.hid hst
  clear hl h hst
  by_cases hn : 1500 < n
  · have hn' : (1500 : Int) < n := by omega
    go_enter Tryd.func6, Tryd.ntmps6
    go_wp2_with (go_at_call 7; go_must (refine (frame_fixed w ST.out).mono ?_))
    rintro e w1 ⟨rfl, b1⟩
    go_wp2
    go_ret
    exact ⟨rfl, b1⟩
  · have hn' : ¬ (1500 : Int) < n := by omega
    by_cases hy0 : y = 0
    · have hy1 : (((y : Int)) == 0) = true := by simp [hy0]
      clear hy0
      go_enter Tryd.func6, Tryd.ntmps6
      go_wp2_with (go_at_call 7; go_must (refine (frame_fixed w ST.out).mono ?_))
      rintro e w1 ⟨rfl, b1⟩
      go_wp2
      go_ret
      exact ⟨rfl, b1⟩
    · have hy1 : (((y : Int)) == 0) = false := by simp; omega
      have hsl := sealL_length l
      rw [Hl.out] at hsl
      have Hsl := Lib.hid hsl
      clear hsl hy0
      cases sum with
      | true =>
        obtain ⟨k0, hk0, hk0'⟩ : ∃ k0 : Nat, (at' : Int) % 33 = (k0 : Int) ∧ k0 ≤ 8 * 4 := ⟨at' % 33, by omega, by omega⟩
        have Hk0 := Lib.hid hk0
        clear hk0
        go_enter Tryd.func6, Tryd.ntmps6
        go_wp2_with (go_at_call 7; go_must (refine (frame_fixed w ST.out).mono ?_))
        rintro e w1 ⟨rfl, b1⟩
        have r1 := HR.out.below' b1
        have st1 := ST.out.below b1
        have bs1 := b1.size
        go_wp2_with (go_at_call 8; go_must (refine (seal_own w1 _ n l r1 (by omega) st1).mono ?_))
        rintro e w2 ⟨g, cp, rfl, own2, b2⟩
        rw [Hsl.out] at own2 ⊢
        have b12 : Below w.heap.size w w2 := b1.trans (b2.mono bs1)
        have hgl := own2.lt g rfl
        have hcp := (ownsRow.reads own2).le
        obtain ⟨_, _, hv, hcp1, hcp2⟩ := hcp
        cases hv
        unfold maxLen at hcp2
        have hc4 : ¬ ((cp : Int) = 4) := by omega
        have hc8 : (8 : Int) ≤ cp := by omega
        have Own2 := Lib.hid own2
        have B12 := Lib.hid b12
        clear own2 r1 st1 b1 b2 b12
        by_cases hc8' : cp = 8
        · subst hc8'
          go_wp2
          go_loopw [11, 39] (fun t c wr => TurnRel w w1.heap.size g (8 + n) 8 4 k0 y (be4 n) (be4 (sumL l)) l t c wr) (fun _ c _ => 32 - (intOf c).toNat)
          case atStart =>
            refine ⟨0, rfl, by omega, rfl, ?_, B12.out⟩
            have e : be4 n ++ flips (be4 (sumL l)) k0 y 0 ++ l = sealL l := by rw [sealL, Hl.out]; simp [flips]
            rw [e]
            exact Own2.out
          case round =>
            obtain ⟨i, rfl, hi, rfl, hown, hb⟩ := hrel
            by_cases hi32 : i < 32
            · have hi32' : (i : Int) < 32 := by omega
              have hPl := flips_length (be4 (sumL l)) k0 y i
              have hP4 : (be4 (sumL l)).length = 4 := rfl
              rw [hP4] at hPl
              have hts : turnAny 4 k0 y (i + 1) = if turnsAt 4 k0 y i then true else turnAny 4 k0 y i := rfl
              have hfs : flips (be4 (sumL l)) k0 y (i + 1) = if turnsAt (be4 (sumL l)).length k0 y i then xorBit (flips (be4 (sumL l)) k0 y i) (k0 + i) else flips (be4 (sumL l)) k0 y i := rfl
              rw [hP4] at hfs
              have hta : turnsAt 4 k0 y i = (y.testBit i && decide (k0 + i < 8 * 4)) := rfl
              have hodd := shr_odd y i
              have hFP := Lib.hid (rfl : flips (be4 (sumL l)) k0 y i = flips (be4 (sumL l)) k0 y i)
              generalize flips (be4 (sumL l)) k0 y i = G at *
              clear hFP
              obtain ⟨kk, hkk⟩ : ∃ kk, k0 + i = kk := ⟨_, rfl⟩
              rw [hkk] at hfs hta
              have hkk' : (k0 : Int) + (i : Int) = (kk : Int) := by omega
              have hk0i := Hk0.out
              have Hkk := Lib.hid hkk
              have Hts := Lib.hid hts
              have Hfs := Lib.hid hfs
              have Hta := Lib.hid hta
              clear hkk hts hfs hta hP4
              cases hbit : y.testBit i with
              | false =>
                rw [hbit] at hodd
                have Hbit := Lib.hid hbit
                have Hown := Lib.hid hown
                clear hbit hown
                go_wp2
                have ht : turnsAt 4 k0 y i = false := by rw [Hta.out, Hbit.out]; rfl
                refine ⟨⟨i + 1, by go_num, by omega, ?_, ?_, hb⟩, by simp [intOf]; omega⟩
                · rw [Hts.out, ht]; rfl
                · rw [Hfs.out, ht]; exact Hown.out
              | true =>
                rw [hbit] at hodd
                have Hbit := Lib.hid hbit
                by_cases hlt : kk < 8 * 4
                · have hlt' : (kk : Int) < 8 * (4 : Int) := by omega
                  have hlt32 := hlt'
                  have hp8' : (kk : Int) / 8 < 4 := by omega
                  have hp8'' : ((kk : Int) / 8).toNat = kk / 8 := by omega
                  have hp80 : (0 : Int) ≤ (kk : Int) / 8 := by omega
                  have hbe : (be4 n).length = 4 := rfl
                  have cp' := hown.cellAt (4 + kk / 8) (by omega)
                  have hgb := get_between (pre := be4 n) (P := G) (post := l) (j := kk / 8) (by omega)
                  rw [hbe] at hgb
                  rw [hgb] at cp'
                  have fp := hown.frozenAt (4 + kk / 8)
                  have st := fun u => World.ownsRow.stored hown (4 + kk / 8) u
                  have hor := xor_bit (G.getD (kk / 8) 0) kk
                  have hsb := fun z hz => set_between (pre := be4 n) (P := G) (post := l) (k := kk) (z := z) (by omega) hz
                  rw [hbe] at hsb
                  have hpw : (2 : Int) ^ (kk % 8) % 256 = 2 ^ (kk % 8) := by
                    have h2 : 2 ^ (kk % 8) < 2 ^ 8 := Nat.pow_lt_pow_right (by decide) (Nat.mod_lt _ (by decide))
                    have h3 : 2 ^ (kk % 8) % 256 = 2 ^ (kk % 8) := Nat.mod_eq_of_lt (by simpa using h2)
                    exact_mod_cast h3
                  generalize G.getD (kk / 8) 0 = c at *
                  have Hor := Lib.hid hor
                  have St := Lib.hid st
                  have Hsb := Lib.hid hsb
                  have Hpw := Lib.hid hpw
                  clear hor st hsb hgb hbe hbit hown hpw
                  go_wp2
                  rw [Hpw.out]
                  have h1 := St.out (.int .u8 (bits BinOp.xor .u8 (c.toNat : Int) ((2 : Int) ^ (kk % 8))))
                  rw [Hsb.out _ Hor.out] at h1
                  have ht : turnsAt 4 k0 y i = true := by rw [Hta.out, Hbit.out, Bool.true_and]; exact decide_eq_true hlt
                  have hbz := hb.size
                  refine ⟨⟨i + 1, by go_num, by omega, ?_, ?_, hb.grown h1.2 hbz (fun k hk => by cases hk; omega)⟩, by simp [intOf]; omega⟩
                  · rw [Hts.out, ht]; rfl
                  · rw [Hfs.out, ht]; exact h1.1
                · have hlt' : ¬ (kk : Int) < 8 * (4 : Int) := by omega
                  have hlt32 := hlt'
                  have Hown := Lib.hid hown
                  clear hbit hown
                  go_wp2
                  have ht : turnsAt 4 k0 y i = false := by rw [Hta.out, Hbit.out, Bool.true_and]; exact decide_eq_false hlt
                  refine ⟨⟨i + 1, by go_num, by omega, ?_, ?_, hb⟩, by simp [intOf]; omega⟩
                  · rw [Hts.out, ht]; rfl
                  · rw [Hfs.out, ht]; exact Hown.out
            · obtain rfl : i = 32 := by omega
              have hres : (nextL (be4 n ++ flips (be4 (sumL l)) k0 y 32 ++ l)).1 = if turnAny 4 k0 y 32 then 8 else 0 := by
                have := turned_sumpart (l := l) (k := k0) (by' := y) (by rw [Hl.out]; omega)
                rw [Hl.out] at this
                exact this
              generalize be4 n ++ flips (be4 (sumL l)) k0 y 32 ++ l = FF at hres hown
              have Hres := Lib.hid hres
              have Hrd := Lib.hid (ownsRow.reads hown)
              have Hst := Lib.hid (ST.out.below hb)
              clear hres hown
              cases ht : turnAny 4 k0 y 32 with
              | true =>
                have hr := Hres.out
                rw [ht] at hr
                have Hr := Lib.hid hr
                clear hr ht
                go_wp2_with (go_at_call 9; go_must (refine (fnext_any wr _ (8 + n) _ Hrd.out (by omega) Hst.out).mono ?_))
                rintro e w3 ⟨v3, rfl, f3, b3⟩
                rw [Hr.out]
                have hb3 := hb.trans (b3.mono hb.size)
                clear f3 b3
                go_wp2
                go_ret
                exact ⟨rfl, hb3⟩
              | false =>
                have hr := Hres.out
                rw [ht] at hr
                have Hr := Lib.hid hr
                clear hr ht
                go_wp2_with (go_at_call 9; go_must (refine (fnext_any wr _ (8 + n) _ Hrd.out (by omega) Hst.out).mono ?_))
                rintro e w3 ⟨v3, rfl, f3, b3⟩
                rw [Hr.out]
                have hb3 := hb.trans (b3.mono hb.size)
                clear f3 b3
                go_wp2
                go_ret
                exact ⟨rfl, hb3⟩
        · have hc8'' : ¬ ((cp : Int) = 8) := by omega
          go_wp2
          go_loopw [11, 39] (fun t c wr => TurnRel w w1.heap.size g (8 + n) cp 4 k0 y (be4 n) (be4 (sumL l)) l t c wr) (fun _ c _ => 32 - (intOf c).toNat)
          case atStart =>
            refine ⟨0, rfl, by omega, rfl, ?_, B12.out⟩
            have e : be4 n ++ flips (be4 (sumL l)) k0 y 0 ++ l = sealL l := by rw [sealL, Hl.out]; simp [flips]
            rw [e]
            exact Own2.out
          case round =>
            obtain ⟨i, rfl, hi, rfl, hown, hb⟩ := hrel
            by_cases hi32 : i < 32
            · have hi32' : (i : Int) < 32 := by omega
              have hPl := flips_length (be4 (sumL l)) k0 y i
              have hP4 : (be4 (sumL l)).length = 4 := rfl
              rw [hP4] at hPl
              have hts : turnAny 4 k0 y (i + 1) = if turnsAt 4 k0 y i then true else turnAny 4 k0 y i := rfl
              have hfs : flips (be4 (sumL l)) k0 y (i + 1) = if turnsAt (be4 (sumL l)).length k0 y i then xorBit (flips (be4 (sumL l)) k0 y i) (k0 + i) else flips (be4 (sumL l)) k0 y i := rfl
              rw [hP4] at hfs
              have hta : turnsAt 4 k0 y i = (y.testBit i && decide (k0 + i < 8 * 4)) := rfl
              have hodd := shr_odd y i
              have hFP := Lib.hid (rfl : flips (be4 (sumL l)) k0 y i = flips (be4 (sumL l)) k0 y i)
              generalize flips (be4 (sumL l)) k0 y i = G at *
              clear hFP
              obtain ⟨kk, hkk⟩ : ∃ kk, k0 + i = kk := ⟨_, rfl⟩
              rw [hkk] at hfs hta
              have hkk' : (k0 : Int) + (i : Int) = (kk : Int) := by omega
              have hk0i := Hk0.out
              have Hkk := Lib.hid hkk
              have Hts := Lib.hid hts
              have Hfs := Lib.hid hfs
              have Hta := Lib.hid hta
              clear hkk hts hfs hta hP4
              cases hbit : y.testBit i with
              | false =>
                rw [hbit] at hodd
                have Hbit := Lib.hid hbit
                have Hown := Lib.hid hown
                clear hbit hown
                go_wp2
                have ht : turnsAt 4 k0 y i = false := by rw [Hta.out, Hbit.out]; rfl
                refine ⟨⟨i + 1, by go_num, by omega, ?_, ?_, hb⟩, by simp [intOf]; omega⟩
                · rw [Hts.out, ht]; rfl
                · rw [Hfs.out, ht]; exact Hown.out
              | true =>
                rw [hbit] at hodd
                have Hbit := Lib.hid hbit
                by_cases hlt : kk < 8 * 4
                · have hlt' : (kk : Int) < 8 * (4 : Int) := by omega
                  have hlt32 := hlt'
                  have hp8' : (kk : Int) / 8 < 4 := by omega
                  have hp8'' : ((kk : Int) / 8).toNat = kk / 8 := by omega
                  have hp80 : (0 : Int) ≤ (kk : Int) / 8 := by omega
                  have hbe : (be4 n).length = 4 := rfl
                  have cp' := hown.cellAt (4 + kk / 8) (by omega)
                  have hgb := get_between (pre := be4 n) (P := G) (post := l) (j := kk / 8) (by omega)
                  rw [hbe] at hgb
                  rw [hgb] at cp'
                  have fp := hown.frozenAt (4 + kk / 8)
                  have st := fun u => World.ownsRow.stored hown (4 + kk / 8) u
                  have hor := xor_bit (G.getD (kk / 8) 0) kk
                  have hsb := fun z hz => set_between (pre := be4 n) (P := G) (post := l) (k := kk) (z := z) (by omega) hz
                  rw [hbe] at hsb
                  have hpw : (2 : Int) ^ (kk % 8) % 256 = 2 ^ (kk % 8) := by
                    have h2 : 2 ^ (kk % 8) < 2 ^ 8 := Nat.pow_lt_pow_right (by decide) (Nat.mod_lt _ (by decide))
                    have h3 : 2 ^ (kk % 8) % 256 = 2 ^ (kk % 8) := Nat.mod_eq_of_lt (by simpa using h2)
                    exact_mod_cast h3
                  generalize G.getD (kk / 8) 0 = c at *
                  have Hor := Lib.hid hor
                  have St := Lib.hid st
                  have Hsb := Lib.hid hsb
                  have Hpw := Lib.hid hpw
                  clear hor st hsb hgb hbe hbit hown hpw
                  go_wp2
                  rw [Hpw.out]
                  have h1 := St.out (.int .u8 (bits BinOp.xor .u8 (c.toNat : Int) ((2 : Int) ^ (kk % 8))))
                  rw [Hsb.out _ Hor.out] at h1
                  have ht : turnsAt 4 k0 y i = true := by rw [Hta.out, Hbit.out, Bool.true_and]; exact decide_eq_true hlt
                  have hbz := hb.size
                  refine ⟨⟨i + 1, by go_num, by omega, ?_, ?_, hb.grown h1.2 hbz (fun k hk => by cases hk; omega)⟩, by simp [intOf]; omega⟩
                  · rw [Hts.out, ht]; rfl
                  · rw [Hfs.out, ht]; exact h1.1
                · have hlt' : ¬ (kk : Int) < 8 * (4 : Int) := by omega
                  have hlt32 := hlt'
                  have Hown := Lib.hid hown
                  clear hbit hown
                  go_wp2
                  have ht : turnsAt 4 k0 y i = false := by rw [Hta.out, Hbit.out, Bool.true_and]; exact decide_eq_false hlt
                  refine ⟨⟨i + 1, by go_num, by omega, ?_, ?_, hb⟩, by simp [intOf]; omega⟩
                  · rw [Hts.out, ht]; rfl
                  · rw [Hfs.out, ht]; exact Hown.out
            · obtain rfl : i = 32 := by omega
              have hres : (nextL (be4 n ++ flips (be4 (sumL l)) k0 y 32 ++ l)).1 = if turnAny 4 k0 y 32 then 8 else 0 := by
                have := turned_sumpart (l := l) (k := k0) (by' := y) (by rw [Hl.out]; omega)
                rw [Hl.out] at this
                exact this
              generalize be4 n ++ flips (be4 (sumL l)) k0 y 32 ++ l = FF at hres hown
              have Hres := Lib.hid hres
              have Hrd := Lib.hid (ownsRow.reads hown)
              have Hst := Lib.hid (ST.out.below hb)
              clear hres hown
              cases ht : turnAny 4 k0 y 32 with
              | true =>
                have hr := Hres.out
                rw [ht] at hr
                have Hr := Lib.hid hr
                clear hr ht
                go_wp2_with (go_at_call 9; go_must (refine (fnext_any wr _ (8 + n) _ Hrd.out (by omega) Hst.out).mono ?_))
                rintro e w3 ⟨v3, rfl, f3, b3⟩
                rw [Hr.out]
                have hb3 := hb.trans (b3.mono hb.size)
                clear f3 b3
                go_wp2
                go_ret
                exact ⟨rfl, hb3⟩
              | false =>
                have hr := Hres.out
                rw [ht] at hr
                have Hr := Lib.hid hr
                clear hr ht
                go_wp2_with (go_at_call 9; go_must (refine (fnext_any wr _ (8 + n) _ Hrd.out (by omega) Hst.out).mono ?_))
                rintro e w3 ⟨v3, rfl, f3, b3⟩
                rw [Hr.out]
                have hb3 := hb.trans (b3.mono hb.size)
                clear f3 b3
                go_wp2
                go_ret
                exact ⟨rfl, hb3⟩
      | false =>
        obtain ⟨k0, hk0, hk0'⟩ : ∃ k0 : Nat, (at' : Int) % (8 * (n : Int) + 1) = (k0 : Int) ∧ k0 ≤ 8 * n := ⟨at' % (8 * n + 1), by simp, by have := Nat.mod_lt at' (show 0 < 8 * n + 1 by omega); omega⟩
        have Hk0 := Lib.hid hk0
        clear hk0
        go_enter Tryd.func6, Tryd.ntmps6
        go_wp2_with (go_at_call 7; go_must (refine (frame_fixed w ST.out).mono ?_))
        rintro e w1 ⟨rfl, b1⟩
        have r1 := HR.out.below' b1
        have st1 := ST.out.below b1
        have bs1 := b1.size
        go_wp2_with (go_at_call 8; go_must (refine (seal_own w1 _ n l r1 (by omega) st1).mono ?_))
        rintro e w2 ⟨g, cp, rfl, own2, b2⟩
        rw [Hsl.out] at own2 ⊢
        have b12 : Below w.heap.size w w2 := b1.trans (b2.mono bs1)
        have hgl := own2.lt g rfl
        have hcp := (ownsRow.reads own2).le
        obtain ⟨_, _, hv, hcp1, hcp2⟩ := hcp
        cases hv
        unfold maxLen at hcp2
        have hc4 : ¬ ((cp : Int) = 4) := by omega
        have hc8 : (8 : Int) ≤ cp := by omega
        have Own2 := Lib.hid own2
        have B12 := Lib.hid b12
        clear own2 r1 st1 b1 b2 b12
        by_cases hc8' : cp = 8
        · have hn0 : n = 0 := by omega
          subst hc8'
          subst hn0
          obtain rfl : k0 = 0 := by omega
          go_wp2
          go_loopw [11, 39] (fun t c wr => TurnRel w w1.heap.size g (8 + 0) 8 0 0 y (be4 0 ++ be4 (sumL l)) (l) [] t c wr) (fun _ c _ => 32 - (intOf c).toNat)
          case atStart =>
            refine ⟨0, rfl, by omega, rfl, ?_, B12.out⟩
            have e : be4 0 ++ be4 (sumL l) ++ flips (l) 0 y 0 ++ [] = sealL l := by rw [sealL, Hl.out]; simp [flips]
            rw [e]
            exact Own2.out
          case round =>
            obtain ⟨i, rfl, hi, rfl, hown, hb⟩ := hrel
            by_cases hi32 : i < 32
            · have hi32' : (i : Int) < 32 := by omega
              have hPl := flips_length (l) 0 y i
              have hP4 : (l).length = 0 := Hl.out
              rw [hP4] at hPl
              have hts : turnAny 0 0 y (i + 1) = if turnsAt 0 0 y i then true else turnAny 0 0 y i := rfl
              have hfs : flips (l) 0 y (i + 1) = if turnsAt (l).length 0 y i then xorBit (flips (l) 0 y i) (0 + i) else flips (l) 0 y i := rfl
              rw [hP4] at hfs
              have hta : turnsAt 0 0 y i = (y.testBit i && decide (0 + i < 8 * 0)) := rfl
              have hodd := shr_odd y i
              have hFP := Lib.hid (rfl : flips (l) 0 y i = flips (l) 0 y i)
              generalize flips (l) 0 y i = G at *
              clear hFP
              obtain ⟨kk, hkk⟩ : ∃ kk, 0 + i = kk := ⟨_, rfl⟩
              rw [hkk] at hfs hta
              have hkk' : (0 : Int) + (i : Int) = (kk : Int) := by omega
              
              have Hkk := Lib.hid hkk
              have Hts := Lib.hid hts
              have Hfs := Lib.hid hfs
              have Hta := Lib.hid hta
              clear hkk hts hfs hta hP4
              cases hbit : y.testBit i with
              | false =>
                rw [hbit] at hodd
                have Hbit := Lib.hid hbit
                have Hown := Lib.hid hown
                clear hbit hown
                go_wp2
                have ht : turnsAt 0 0 y i = false := by rw [Hta.out, Hbit.out]; rfl
                refine ⟨⟨i + 1, by go_num, by omega, ?_, ?_, hb⟩, by simp [intOf]; omega⟩
                · rw [Hts.out, ht]; rfl
                · rw [Hfs.out, ht]; exact Hown.out
              | true =>
                rw [hbit] at hodd
                have Hbit := Lib.hid hbit
                by_cases hlt : kk < 8 * 0
                · omega
                · have hlt' : ¬ (kk : Int) < 8 * (0 : Int) := by omega
                  have hlt32 := hlt'
                  have Hown := Lib.hid hown
                  clear hbit hown
                  go_wp2
                  have ht : turnsAt 0 0 y i = false := by rw [Hta.out, Hbit.out, Bool.true_and]; exact decide_eq_false hlt
                  refine ⟨⟨i + 1, by go_num, by omega, ?_, ?_, hb⟩, by simp [intOf]; omega⟩
                  · rw [Hts.out, ht]; rfl
                  · rw [Hfs.out, ht]; exact Hown.out
            · obtain rfl : i = 32 := by omega
              have hres : (nextL (be4 0 ++ be4 (sumL l) ++ flips (l) 0 y 32 ++ [])).1 = if turnAny 0 0 y 32 then 8 else 0 := by
                have := turned_payload (l := l) (k := 0) (by' := y) (by rw [Hl.out]; omega) (by rw [Hl.out]; omega)
                rw [Hl.out] at this
                rw [List.append_nil]
                exact this
              generalize be4 0 ++ be4 (sumL l) ++ flips (l) 0 y 32 ++ [] = FF at hres hown
              have Hres := Lib.hid hres
              have Hrd := Lib.hid (ownsRow.reads hown)
              have Hst := Lib.hid (ST.out.below hb)
              clear hres hown
              cases ht : turnAny 0 0 y 32 with
              | true =>
                have hr := Hres.out
                rw [ht] at hr
                have Hr := Lib.hid hr
                clear hr ht
                go_wp2_with (go_at_call 9; go_must (refine (fnext_any wr _ (8 + 0) _ Hrd.out (by omega) Hst.out).mono ?_))
                rintro e w3 ⟨v3, rfl, f3, b3⟩
                rw [Hr.out]
                have hb3 := hb.trans (b3.mono hb.size)
                clear f3 b3
                go_wp2
                go_ret
                exact ⟨rfl, hb3⟩
              | false =>
                have hr := Hres.out
                rw [ht] at hr
                have Hr := Lib.hid hr
                clear hr ht
                go_wp2_with (go_at_call 9; go_must (refine (fnext_any wr _ (8 + 0) _ Hrd.out (by omega) Hst.out).mono ?_))
                rintro e w3 ⟨v3, rfl, f3, b3⟩
                rw [Hr.out]
                have hb3 := hb.trans (b3.mono hb.size)
                clear f3 b3
                go_wp2
                go_ret
                exact ⟨rfl, hb3⟩
        · have hc8'' : ¬ ((cp : Int) = 8) := by omega
          go_wp2
          go_loopw [11, 39] (fun t c wr => TurnRel w w1.heap.size g (8 + n) cp n k0 y (be4 n ++ be4 (sumL l)) (l) [] t c wr) (fun _ c _ => 32 - (intOf c).toNat)
          case atStart =>
            refine ⟨0, rfl, by omega, rfl, ?_, B12.out⟩
            have e : be4 n ++ be4 (sumL l) ++ flips (l) k0 y 0 ++ [] = sealL l := by rw [sealL, Hl.out]; simp [flips]
            rw [e]
            exact Own2.out
          case round =>
            obtain ⟨i, rfl, hi, rfl, hown, hb⟩ := hrel
            by_cases hi32 : i < 32
            · have hi32' : (i : Int) < 32 := by omega
              have hPl := flips_length (l) k0 y i
              have hP4 : (l).length = n := Hl.out
              rw [hP4] at hPl
              have hts : turnAny n k0 y (i + 1) = if turnsAt n k0 y i then true else turnAny n k0 y i := rfl
              have hfs : flips (l) k0 y (i + 1) = if turnsAt (l).length k0 y i then xorBit (flips (l) k0 y i) (k0 + i) else flips (l) k0 y i := rfl
              rw [hP4] at hfs
              have hta : turnsAt n k0 y i = (y.testBit i && decide (k0 + i < 8 * n)) := rfl
              have hodd := shr_odd y i
              have hFP := Lib.hid (rfl : flips (l) k0 y i = flips (l) k0 y i)
              generalize flips (l) k0 y i = G at *
              clear hFP
              obtain ⟨kk, hkk⟩ : ∃ kk, k0 + i = kk := ⟨_, rfl⟩
              rw [hkk] at hfs hta
              have hkk' : (k0 : Int) + (i : Int) = (kk : Int) := by omega
              have hk0i := Hk0.out
              have Hkk := Lib.hid hkk
              have Hts := Lib.hid hts
              have Hfs := Lib.hid hfs
              have Hta := Lib.hid hta
              clear hkk hts hfs hta hP4
              cases hbit : y.testBit i with
              | false =>
                rw [hbit] at hodd
                have Hbit := Lib.hid hbit
                have Hown := Lib.hid hown
                clear hbit hown
                go_wp2
                have ht : turnsAt n k0 y i = false := by rw [Hta.out, Hbit.out]; rfl
                refine ⟨⟨i + 1, by go_num, by omega, ?_, ?_, hb⟩, by simp [intOf]; omega⟩
                · rw [Hts.out, ht]; rfl
                · rw [Hfs.out, ht]; exact Hown.out
              | true =>
                rw [hbit] at hodd
                have Hbit := Lib.hid hbit
                by_cases hlt : kk < 8 * n
                · have hlt' : (kk : Int) < 8 * (n : Int) := by omega
                  have hlt32 := hlt'
                  have hp8' : (kk : Int) / 8 < n := by omega
                  have hp8'' : ((kk : Int) / 8).toNat = kk / 8 := by omega
                  have hp80 : (0 : Int) ≤ (kk : Int) / 8 := by omega
                  have hbe : (be4 n ++ be4 (sumL l)).length = 8 := rfl
                  have cp' := hown.cellAt (8 + kk / 8) (by omega)
                  have hgb := get_between (pre := be4 n ++ be4 (sumL l)) (P := G) (post := []) (j := kk / 8) (by omega)
                  rw [hbe] at hgb
                  rw [hgb] at cp'
                  have fp := hown.frozenAt (8 + kk / 8)
                  have st := fun u => World.ownsRow.stored hown (8 + kk / 8) u
                  have hor := xor_bit (G.getD (kk / 8) 0) kk
                  have hsb := fun z hz => set_between (pre := be4 n ++ be4 (sumL l)) (P := G) (post := []) (k := kk) (z := z) (by omega) hz
                  rw [hbe] at hsb
                  have hpw : (2 : Int) ^ (kk % 8) % 256 = 2 ^ (kk % 8) := by
                    have h2 : 2 ^ (kk % 8) < 2 ^ 8 := Nat.pow_lt_pow_right (by decide) (Nat.mod_lt _ (by decide))
                    have h3 : 2 ^ (kk % 8) % 256 = 2 ^ (kk % 8) := Nat.mod_eq_of_lt (by simpa using h2)
                    exact_mod_cast h3
                  generalize G.getD (kk / 8) 0 = c at *
                  have Hor := Lib.hid hor
                  have St := Lib.hid st
                  have Hsb := Lib.hid hsb
                  have Hpw := Lib.hid hpw
                  clear hor st hsb hgb hbe hbit hown hpw
                  go_wp2
                  rw [Hpw.out]
                  have h1 := St.out (.int .u8 (bits BinOp.xor .u8 (c.toNat : Int) ((2 : Int) ^ (kk % 8))))
                  rw [Hsb.out _ Hor.out] at h1
                  have ht : turnsAt n k0 y i = true := by rw [Hta.out, Hbit.out, Bool.true_and]; exact decide_eq_true hlt
                  have hbz := hb.size
                  refine ⟨⟨i + 1, by go_num, by omega, ?_, ?_, hb.grown h1.2 hbz (fun k hk => by cases hk; omega)⟩, by simp [intOf]; omega⟩
                  · rw [Hts.out, ht]; rfl
                  · rw [Hfs.out, ht]; exact h1.1
                · have hlt' : ¬ (kk : Int) < 8 * (n : Int) := by omega
                  have hlt32 := hlt'
                  have Hown := Lib.hid hown
                  clear hbit hown
                  go_wp2
                  have ht : turnsAt n k0 y i = false := by rw [Hta.out, Hbit.out, Bool.true_and]; exact decide_eq_false hlt
                  refine ⟨⟨i + 1, by go_num, by omega, ?_, ?_, hb⟩, by simp [intOf]; omega⟩
                  · rw [Hts.out, ht]; rfl
                  · rw [Hfs.out, ht]; exact Hown.out
            · obtain rfl : i = 32 := by omega
              have hres : (nextL (be4 n ++ be4 (sumL l) ++ flips (l) k0 y 32 ++ [])).1 = if turnAny n k0 y 32 then 8 else 0 := by
                have := turned_payload (l := l) (k := k0) (by' := y) (by rw [Hl.out]; omega) (by rw [Hl.out]; omega)
                rw [Hl.out] at this
                rw [List.append_nil]
                exact this
              generalize be4 n ++ be4 (sumL l) ++ flips (l) k0 y 32 ++ [] = FF at hres hown
              have Hres := Lib.hid hres
              have Hrd := Lib.hid (ownsRow.reads hown)
              have Hst := Lib.hid (ST.out.below hb)
              clear hres hown
              cases ht : turnAny n k0 y 32 with
              | true =>
                have hr := Hres.out
                rw [ht] at hr
                have Hr := Lib.hid hr
                clear hr ht
                go_wp2_with (go_at_call 9; go_must (refine (fnext_any wr _ (8 + n) _ Hrd.out (by omega) Hst.out).mono ?_))
                rintro e w3 ⟨v3, rfl, f3, b3⟩
                rw [Hr.out]
                have hb3 := hb.trans (b3.mono hb.size)
                clear f3 b3
                go_wp2
                go_ret
                exact ⟨rfl, hb3⟩
              | false =>
                have hr := Hres.out
                rw [ht] at hr
                have Hr := Lib.hid hr
                clear hr ht
                go_wp2_with (go_at_call 9; go_must (refine (fnext_any wr _ (8 + n) _ Hrd.out (by omega) Hst.out).mono ?_))
                rintro e w3 ⟨v3, rfl, f3, b3⟩
                rw [Hr.out]
                have hb3 := hb.trans (b3.mono hb.size)
                clear f3 b3
                go_wp2
                go_ret
                exact ⟨rfl, hb3⟩
end Go.Proofs.YtodjgdaaggajcaaDoor
