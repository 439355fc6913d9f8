import Derived.Test.YtidnalihgihnaaaDoorTupleRefParse
import Derived.Test.YtidnalihgihnaaaDoorTupleTellsWalk
namespace Go.Proofs.YtidnalihgihnaaaDoor
open Go Go.RowKit

theorem parse_form (s : ByteArray) : ∃ (t : Six) (n : Int), parseV s = .tuple #[t.val, .int .i64 n] := by
  unfold parseV
  split
  · exact ⟨_, _, rfl⟩
  · exact ⟨_, _, rfl⟩

theorem unkey_form (s : ByteArray) : ∃ (t : Six) (n : Int), unkeyV s = .tuple #[t.val, .int .i64 n] := by
  unfold unkeyV
  split
  · exact ⟨_, _, rfl⟩
  · exact ⟨_, _, rfl⟩

set_option maxRecDepth 100000 in
set_option maxHeartbeats 1000000 in
theorem tupleReads_walk (w : World) (s : ByteArray) (hm : MaxInt w) (hs : s.size ≤ maxLen) : Calls Tryd.prog 3 #[.string s] w (SaysTrue w) := by
  obtain ⟨t, n, ht⟩ := parse_form s
  obtain ⟨u, k, hu⟩ := unkey_form s
  have hp1 := fun (h : s.size ≤ 500) w => parse_any w s (by omega)
  have hp2 := fun (h : s.size ≤ 500) w => refparse_any w s (by omega)
  have hu1 := fun (h : s.size ≤ 500) w hm => unkey_any w s (by omega) hm
  have hu2 := fun (h : s.size ≤ 500) w => refunkey_any w s (by omega)
  have hn1 := fun (h : s.size ≤ 500) w => name_any w s (by omega)
  have hn2 := fun (h : s.size ≤ 500) w => refname_any w s (by omega)
  have htv : t.val = .agg #[.string t.a, .string t.b, .string t.c, .string t.d, .string t.e, .string t.f] := rfl
  have huv : u.val = .agg #[.string u.a, .string u.b, .string u.c, .string u.d, .string u.e, .string u.f] := rfl
  rw [ht, htv] at hp1 hp2
  rw [hu, huv] at hu1 hu2
  generalize nameB s = nb at *
  have HP1 := Lib.hid hp1
  have HP2 := Lib.hid hp2
  have HU1 := Lib.hid hu1
  have HU2 := Lib.hid hu2
  have HN1 := Lib.hid hn1
  have HN2 := Lib.hid hn2
  have HM := Lib.hid hm
  unfold maxLen at hs
  clear hp1 hp2 hu1 hu2 hn1 hn2 ht hu htv huv hm
  go_enter Tryd.func3, Tryd.ntmps3
  go_wp2_with (go_at_call 5; go_must (refine (fixed_any _).mono ?_))
  rintro e w1 ⟨rfl, b1⟩
  have HM1 := Lib.hid (HM.out.below b1)
  have HB1 := Lib.hid b1
  clear b1
  by_cases h500 : s.size ≤ 500
  · have H5 := Lib.hid h500
    go_wp2_with (go_at_call 6; go_must (refine (HP1.out H5.out _).mono ?_))
    rintro e w2 ⟨rfl, b2⟩
    have hl2 := LiesAt.new w2 t
    have hb3 : Below w.heap.size w (w2.alloc (.cells (scells t.list).toArray 28)) := (HB1.out.trans (b2.mono HB1.out.size)).alloc (by have := HB1.out.size; have := b2.size; omega) _
    have hm3 : MaxInt (w2.alloc (.cells (scells t.list).toArray 28)) := (HM1.out.below b2).below ((Below.refl _ w2).alloc (Nat.le_refl _) _)
    have HL2 := Lib.hid hl2
    have HB2 := Lib.hid hb3
    have HM2 := Lib.hid hm3
    clear b2 hl2 hb3 hm3 HB1 HM1
    go_wp2_with (go_at_call 7; go_must (refine (HP2.out H5.out _).mono ?_))
    rintro e w3 ⟨rfl, b3⟩
    have ht3 := (HL2.out.below b3).alloc (.cells (scells t.list).toArray 28)
    have hl3 := LiesAt.new w3 t
    have hb3 := (HB2.out.trans (b3.mono HB2.out.size)).alloc (Nat.le_trans HB2.out.size b3.size) (.cells (scells t.list).toArray 28)
    have hm3 : MaxInt (w3.alloc (.cells (scells t.list).toArray 28)) := (HM2.out.below b3).below ((Below.refl _ w3).alloc (Nat.le_refl _) _)
    have HT3 := Lib.hid ht3
    have HL3 := Lib.hid hl3
    have HB3 := Lib.hid hb3
    have HM3 := Lib.hid hm3
    clear b3 ht3 hl3 hb3 hm3 HL2 HB2 HM2
    go_wp2_with (go_at_call 8; go_must (refine (HU1.out H5.out _ ?_).mono ?_))
    · exact HM3.out
    rintro e w4 ⟨rfl, b4⟩
    have ht4 := (HT3.out.below b4).alloc (.cells (scells u.list).toArray 28)
    have hl4 := (HL3.out.below b4).alloc (.cells (scells u.list).toArray 28)
    have hu4 := LiesAt.new w4 u
    have hb4 := (HB3.out.trans (b4.mono HB3.out.size)).alloc (Nat.le_trans HB3.out.size b4.size) (.cells (scells u.list).toArray 28)
    have HT4 := Lib.hid ht4
    have HL4 := Lib.hid hl4
    have HU4 := Lib.hid hu4
    have HB4 := Lib.hid hb4
    clear b4 ht4 hl4 hu4 hb4 HT3 HL3 HB3 HM3
    go_wp2_with (go_at_call 9; go_must (refine (HU2.out H5.out _).mono ?_))
    rintro e w5 ⟨rfl, b5⟩
    have hb5 := (HB4.out.trans (b5.mono HB4.out.size)).alloc (Nat.le_trans HB4.out.size b5.size) (.cells (scells u.list).toArray 28)
    have ht5 := HT4.out.below b5
    have hl5 := HL4.out.below b5
    have hu5 := HU4.out.below b5
    obtain ⟨c0, c1, c2, c3, c4, c5⟩ := six_cells ht5
    obtain ⟨d0, d1, d2, d3, d4, d5⟩ := six_cells hl5
    obtain ⟨e0, e1, e2, e3, e4, e5⟩ := six_cells hu5
    have l0 := ht5.lt
    have l1 := hl5.lt
    have l2 := hu5.lt
    have HB5 := Lib.hid hb5
    clear b5 hb5 ht5 hl5 hu5 HT4 HL4 HU4 HB4
    go_wp2_with (first | (go_at_call 10; go_must (refine (HN1.out H5.out _).mono ?_)) | (go_at_call 11; go_must (refine (HN2.out H5.out _).mono ?_)))
    rintro e w6 ⟨rfl, b6⟩
    have HB6 := Lib.hid (HB5.out.trans (b6.mono HB5.out.size))
    clear b6 c0 c1 c2 c3 c4 c5 d0 d1 d2 d3 d4 d5 e0 e1 e2 e3 e4 e5 HB5
    go_wp2_with (first | (go_at_call 11; go_must (refine (HN2.out H5.out _).mono ?_)))
    rintro e w7 ⟨rfl, rfl⟩
    cases nb
    all_goals
      go_wp2
      go_ret
      exact ⟨rfl, HB6.out⟩
  · have h500' : 500 < s.size := by omega
    clear h500
    go_wp2
    go_ret
    exact ⟨rfl, HB1.out⟩
end Go.Proofs.YtidnalihgihnaaaDoor
