import Derived.Test.YtidnalihgihnaaaDoorTupleTextMath
import Derived.Test.YtidnalihgihnaaaDoorTupleUnkey
import Derived.Test.YtidnalihgihnaaaDoorTupleRefTells
namespace Go.Proofs.YtidnalihgihnaaaDoor
open Go Go.RowKit

/-- A tuple lies in block b. -/
def LiesAt (w : World) (b : Nat) (t : Six) : Prop := w.heap[b]? = some (.cells (scells t.list).toArray 28 (0, 0))

theorem LiesAt.below {w w' : World} {b : Nat} {t : Six} (h : LiesAt w b t) (hb : Below w.heap.size w w') : LiesAt w' b t := below_block hb h (Array.getElem?_eq_some_iff.1 h).1
theorem LiesAt.lt {w : World} {b : Nat} {t : Six} (h : LiesAt w b t) : b < w.heap.size := (Array.getElem?_eq_some_iff.1 h).1
theorem LiesAt.alloc {w : World} {b : Nat} {t : Six} (h : LiesAt w b t) (o : Obj) : LiesAt (w.alloc o) b t := (Below.heap_alloc w o b h.lt).trans h
theorem LiesAt.new (w : World) (t : Six) : LiesAt (w.alloc (.cells (scells t.list).toArray 28)) w.heap.size t := heap_alloc_new w _

theorem printed_ok {t : Six} (h : t.ok = true) : t.printed = t.text := by unfold Six.printed; rw [h, if_pos rfl]
theorem keyV_ok {t : Six} (h : t.ok = true) : keyV t = .tuple #[.string (keyB' t), .int .i64 0] := by unfold keyV; rw [h]; rfl
theorem printed_no {t : Six} (h : t.ok = false) : t.printed = ⟨#[]⟩ := by unfold Six.printed; rw [h]; rfl
theorem keyV_no {t : Six} (h : t.ok = false) : keyV t = .tuple #[.string ⟨#[]⟩, .int .i64 2] := by unfold keyV; rw [h]; rfl
theorem unkey_key {t : Six} (h : t.ok = true) : unkeyV (keyB' t) = .tuple #[t.val, .int .i64 0] := by
  unfold unkeyV isKey
  rw [(unk_key h).1, h]
  simp

set_option maxRecDepth 100000 in
set_option maxHeartbeats 1000000 in
theorem tupleTells_walk (w : World) (t : Six) (hm : MaxInt w) : Calls Tryd.prog 4 #[t.val] w (SaysTrue w) := by
  have up : t.short 200 → t.short 1000000 := fun ⟨h1, h2, h3, h4, h5, h6⟩ => ⟨by omega, by omega, by omega, by omega, by omega, by omega⟩
  have up9 : t.short 200 → t.short 1000000000 := fun ⟨h1, h2, h3, h4, h5, h6⟩ => ⟨by omega, by omega, by omega, by omega, by omega, by omega⟩
  have hc1 := fun h w => refcheck_any w t (up9 h)
  have hc2 := fun h w => check_any w t (up9 h)
  have hp1 := fun h w => print_any w t (up h)
  have hp2 := fun h w => refprint_any w t (up h)
  have hk1 := fun h w => key_any w t (up h)
  have hk2 := fun h w => refkey_any w t (up h)
  have hpa := fun (h : t.short 200) w => parse_any w t.text (by have := text_size h; omega)
  have huk := fun (h : t.short 200) w hm => unkey_any w (keyB' t) (by have := key_size h; omega) hm
  have hpo := fun (h : t.ok = true) => parse_text h
  have huo := fun (h : t.ok = true) => unkey_key h
  have hpr := fun (h : t.ok = true) => printed_ok h
  have hpn := fun (h : t.ok = false) => printed_no h
  have hkv := fun (h : t.ok = true) => keyV_ok h
  have hkn := fun (h : t.ok = false) => keyV_no h
  have hbk : bytesOf (keyL t.bytes) = keyB' t := rfl
  rw [hbk] at hk2
  generalize t.printed = pr at *
  generalize t.text = tx at *
  generalize keyB' t = ky at *
  generalize keyV t = kv at *
  generalize hok : t.ok = ok at *
  have hval : t.val = .agg #[.string t.a, .string t.b, .string t.c, .string t.d, .string t.e, .string t.f] := rfl
  simp only [hval] at hc1 hc2 hp1 hp2 hk1 hk2 hpo huo ⊢
  have HC1 := Lib.hid hc1
  have HC2 := Lib.hid hc2
  have HP1 := Lib.hid hp1
  have HP2 := Lib.hid hp2
  have HK1 := Lib.hid hk1
  have HK2 := Lib.hid hk2
  have HPa := Lib.hid hpa
  have HUk := Lib.hid huk
  have HPo := Lib.hid hpo
  have HUo := Lib.hid huo
  have HPr := Lib.hid hpr
  have HPn := Lib.hid hpn
  have HKv := Lib.hid hkv
  have HKn := Lib.hid hkn
  have hm0 : MaxInt (w.alloc (.cells (scells t.list).toArray 28)) := hm.below ((Below.refl _ w).alloc (Nat.le_refl _) _)
  have hb0 : Below w.heap.size w (w.alloc (.cells (scells t.list).toArray 28)) := (Below.refl _ w).alloc (Nat.le_refl _) _
  have ht0 := LiesAt.new w t
  have HM0 := Lib.hid hm0
  have HB0 := Lib.hid hb0
  have HT0 := Lib.hid ht0
  clear hc1 hc2 hp1 hp2 hk1 hk2 hpa huk hpo huo hpr hpn hkv hkn hbk up up9 hm hm0 hb0 ht0 hval
  go_enter Tryd.func4, Tryd.ntmps4
  go_wp2_with (go_at_call 5; go_must (refine (fixed_any _).mono ?_))
  rintro e w1 ⟨rfl, b1⟩
  have hm1 := HM0.out.below b1
  have hb1 := HB0.out.trans (b1.mono HB0.out.size)
  have ht1 := HT0.out.below b1
  obtain ⟨c0, c1, c2, c3, c4, c5⟩ := six_cells ht1
  have hnew := LiesAt.new w1 t
  have hfew := few_any (w1.alloc (.cells (scells t.list).toArray 28)) w1.heap.size 1 1 [t] rfl (by decide) (by decide) (by simp) (tups_one hnew)
  have HFew := Lib.hid hfew
  have HM1 := Lib.hid hm1
  have HB1 := Lib.hid hb1
  have HT1 := Lib.hid ht1
  clear hnew hfew hm1 hb1 ht1 b1 HM0 HB0 HT0
  go_wp2_with (go_at_call 12; go_must (refine HFew.out.mono ?_))
  rintro e w2 ⟨rfl, b2⟩
  have b12 : Below w1.heap.size w1 w2 := ((Below.refl _ w1).alloc (Nat.le_refl _) _).trans (b2.mono (by simp))
  have hm2 := HM1.out.below b12
  have hb2 := HB1.out.trans (b12.mono HB1.out.size)
  have ht2 := HT1.out.below b12
  clear c0 c1 c2 c3 c4 c5
  obtain ⟨c0, c1, c2, c3, c4, c5⟩ := six_cells ht2
  have HM2 := Lib.hid hm2
  have HB2 := Lib.hid hb2
  have HT2 := Lib.hid ht2
  clear hm2 hb2 ht2 b2 b12 HFew HM1 HB1 HT1
  cases hfew : [t].all Six.tight with
  | false =>
    go_wp2
    go_ret
    exact ⟨rfl, HB2.out⟩
  | true =>
    have hsh : t.short 200 := by
      simp at hfew
      exact tight_short hfew
    have HSh := Lib.hid hsh
    clear hfew hsh
    go_wp2_with (go_at_call 13; go_must (refine (HC1.out HSh.out _).mono ?_))
    rintro e w3 ⟨rfl, b3⟩
    have hm3 := HM2.out.below b3
    have hb3 := HB2.out.trans (b3.mono HB2.out.size)
    have ht3 := HT2.out.below b3
    clear c0 c1 c2 c3 c4 c5
    obtain ⟨c0, c1, c2, c3, c4, c5⟩ := six_cells ht3
    have HM3 := Lib.hid hm3
    have HB3 := Lib.hid hb3
    have HT3 := Lib.hid ht3
    clear hm3 hb3 ht3 b3 HM2 HB2 HT2
    go_wp2_with (go_at_call 14; go_must (refine (HP1.out HSh.out _).mono ?_))
    rintro e w4 ⟨rfl, b4⟩
    have hm4 := HM3.out.below b4
    have hb4 := HB3.out.trans (b4.mono HB3.out.size)
    have ht4 := HT3.out.below b4
    clear c0 c1 c2 c3 c4 c5
    obtain ⟨c0, c1, c2, c3, c4, c5⟩ := six_cells ht4
    have HM4 := Lib.hid hm4
    have HB4 := Lib.hid hb4
    have HT4 := Lib.hid ht4
    clear hm4 hb4 ht4 b4 HM3 HB3 HT3
    go_wp2_with (go_at_call 15; go_must (refine (HK1.out HSh.out _).mono ?_))
    rintro e w5 ⟨rfl, b5⟩
    have hm5 := HM4.out.below b5
    have hb5 := HB4.out.trans (b5.mono HB4.out.size)
    have ht5 := HT4.out.below b5
    clear c0 c1 c2 c3 c4 c5
    obtain ⟨c0, c1, c2, c3, c4, c5⟩ := six_cells ht5
    have HM5 := Lib.hid hm5
    have HB5 := Lib.hid hb5
    have HT5 := Lib.hid ht5
    clear hm5 hb5 ht5 b5 HM4 HB4 HT4
    unfold checkV at *
    cases ok with
    | false =>
      rw [HKn.out rfl]
      obtain rfl : pr = ⟨#[]⟩ := HPn.out rfl
      go_wp2_with (go_at_call 16; go_must (refine (HC2.out HSh.out _).mono ?_))
      rintro e w6 ⟨rfl, b6⟩
      have hb6 := HB5.out.trans (b6.mono HB5.out.size)
      have HB6 := Lib.hid hb6
      clear b6 hb6
      go_wp2
      go_ret
      exact ⟨rfl, HB6.out⟩
    | true =>
      rw [HKv.out rfl]
      obtain rfl : pr = tx := HPr.out rfl
      have hpa := HPa.out HSh.out
      rw [HPo.out rfl] at hpa
      have huk := HUk.out HSh.out
      rw [HUo.out rfl] at huk
      have HPa' := Lib.hid hpa
      have HUk' := Lib.hid huk
      clear hpa huk HPo HUo HPa HUk HPr HPn HKv HKn HC1 HP1 HK1
      go_wp2_with (go_at_call 16; go_must (refine (HC2.out HSh.out _).mono ?_))
      rintro e w6 ⟨rfl, b6⟩
      have hm6 := HM5.out.below b6
      have hb6 := HB5.out.trans (b6.mono HB5.out.size)
      have ht6 := HT5.out.below b6
      have HM6 := Lib.hid hm6
      have HB6 := Lib.hid hb6
      have HT6 := Lib.hid ht6
      clear hm6 hb6 ht6 b6 HM5 HB5 HT5 c0 c1 c2 c3 c4 c5
      go_wp2_with (go_at_call 6; go_must (refine (HPa'.out _).mono ?_))
      rintro e w7 ⟨rfl, b7⟩
      have hm7 := HM6.out.below b7
      have hb7 := HB6.out.trans (b7.mono HB6.out.size)
      have ht7 := HT6.out.below b7
      have hm8 : MaxInt (w7.alloc (.cells (scells t.list).toArray 28)) := hm7.below ((Below.refl _ w7).alloc (Nat.le_refl _) _)
      have hb8 : Below w.heap.size w (w7.alloc (.cells (scells t.list).toArray 28)) := hb7.alloc hb7.size _
      have ht8 : LiesAt (w7.alloc (.cells (scells t.list).toArray 28)) w.heap.size t := ht7.alloc _
      have hu8 := LiesAt.new w7 t
      have HM8 := Lib.hid hm8
      have HB8 := Lib.hid hb8
      have HT8 := Lib.hid ht8
      have HU8 := Lib.hid hu8
      clear hm7 hb7 ht7 b7 hm8 hb8 ht8 hu8 HM6 HB6 HT6
      go_wp2_with (go_at_call 8; go_must (refine (HUk'.out _ ?_).mono ?_))
      · exact HM8.out
      rintro e w9 ⟨rfl, b9⟩
      have hb9 := HB8.out.trans (b9.mono HB8.out.size)
      have ht9 := HT8.out.below b9
      have hu9 := HU8.out.below b9
      have hb10 : Below w.heap.size w (w9.alloc (.cells (scells t.list).toArray 28)) := hb9.alloc hb9.size _
      have ht10 : LiesAt (w9.alloc (.cells (scells t.list).toArray 28)) w.heap.size t := ht9.alloc _
      have hu10 : LiesAt (w9.alloc (.cells (scells t.list).toArray 28)) w7.heap.size t := hu9.alloc _
      have hv10 := LiesAt.new w9 t
      obtain ⟨c0, c1, c2, c3, c4, c5⟩ := six_cells ht9
      have hlt9 := ht9.lt
      have HB10 := Lib.hid hb10
      have HT10 := Lib.hid ht10
      have HU10 := Lib.hid hu10
      have HV10 := Lib.hid hv10
      clear hb9 ht9 hu9 b9 hb10 ht10 hu10 hv10 HM8 HB8 HT8 HU8
      go_wp2_with (go_at_call 17; go_must (refine (HP2.out HSh.out _).mono ?_))
      rintro e w11 ⟨rfl, b11⟩
      have hb11 := HB10.out.trans (b11.mono HB10.out.size)
      have ht11 := HT10.out.below b11
      have hu11 := HU10.out.below b11
      have hv11 := HV10.out.below b11
      clear c0 c1 c2 c3 c4 c5 hlt9
      obtain ⟨c0, c1, c2, c3, c4, c5⟩ := six_cells ht11
      have HB11 := Lib.hid hb11
      have HT11 := Lib.hid ht11
      have HU11 := Lib.hid hu11
      have HV11 := Lib.hid hv11
      clear hb11 ht11 hu11 hv11 b11 HB10 HT10 HU10 HV10
      go_wp2_with (go_at_call 18; go_must (refine (HK2.out HSh.out _).mono ?_))
      rintro e w12 ⟨rfl, b12⟩
      have hb12 := HB11.out.trans (b12.mono HB11.out.size)
      have ht12 := HT11.out.below b12
      have hu12 := HU11.out.below b12
      have hv12 := HV11.out.below b12
      clear c0 c1 c2 c3 c4 c5
      obtain ⟨c0, c1, c2, c3, c4, c5⟩ := six_cells ht12
      obtain ⟨d0, d1, d2, d3, d4, d5⟩ := six_cells hu12
      obtain ⟨e0, e1, e2, e3, e4, e5⟩ := six_cells hv12
      have HB12 := Lib.hid hb12
      clear hb12 ht12 hu12 hv12 b12 HB11 HT11 HU11 HV11
      go_wp2
      go_ret
      exact ⟨rfl, HB12.out⟩
end Go.Proofs.YtidnalihgihnaaaDoor
