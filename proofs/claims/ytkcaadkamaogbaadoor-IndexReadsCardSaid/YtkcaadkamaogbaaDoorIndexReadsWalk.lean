import Derived.Test.YtkcaadkamaogbaaDoorIndexRefTuple
import Derived.Test.YtkcaadkamaogbaaDoorIndexKeysWalk
namespace Go.Proofs.YtkcaadkamaogbaaDoor
open Go Go.RowKit

set_option maxRecDepth 100000 in
set_option maxHeartbeats 1000000 in
theorem indexReads_walk (w : World) (s : ByteArray) (hm : MaxInt w) (hs : s.size ≤ maxLen) : Calls Tryd.prog 4 #[.string s] w (SaysTrue w) := by
  obtain ⟨t, b, n, ht⟩ := tup_form s
  have hu1 := fun (h : s.size ≤ 500) w hm => ituple_any w s (by omega) hm
  have hu2 := fun (h : s.size ≤ 500) w => reftuple_any w s (by omega)
  have htv : t.val = .agg #[.string t.a, .string t.b, .string t.c, .string t.d, .string t.e, .string t.f] := rfl
  rw [ht, htv] at hu1 hu2
  have HU1 := Lib.hid hu1
  have HU2 := Lib.hid hu2
  have HM := Lib.hid hm
  unfold maxLen at hs
  clear hu1 hu2 ht htv hm
  go_enter Tryd.func4, Tryd.ntmps4
  go_wp2_with (go_at_call 7; go_must (refine (ifixed_any _ HM.out).mono ?_))
  rintro e w1 ⟨rfl, b1⟩
  have HM1 := Lib.hid (HM.out.below b1)
  have HB1 := Lib.hid b1
  clear b1
  by_cases h500 : s.size ≤ 500
  · have H5 := Lib.hid h500
    go_wp2_with (go_at_call 12; go_must (refine (HU1.out H5.out _ HM1.out).mono ?_))
    rintro e w2 ⟨rfl, b2⟩
    have HT := Lib.hid (LiesAt.new w2 t)
    have HB2 := Lib.hid ((HB1.out.trans (b2.mono HB1.out.size)).alloc (by have := HB1.out.size; have := b2.size; omega) (.cells (scells t.list).toArray 27))
    clear b2 HB1 HM1
    go_wp2_with (go_at_call 13; go_must (refine (HU2.out H5.out _).mono ?_))
    rintro e w3 ⟨rfl, b3⟩
    have ht3 := HT.out.below b3
    have HB3 := Lib.hid ((HB2.out.trans (b3.mono HB2.out.size)).alloc (Nat.le_trans HB2.out.size b3.size) (.cells (scells t.list).toArray 27))
    obtain ⟨c0, c1, c2, c3, c4, c5⟩ := six_cells ht3
    have l0 := ht3.lt
    clear b3 ht3 HT HB2
    cases b
    all_goals
      go_wp2
      go_ret
      exact ⟨rfl, HB3.out⟩
  · have h500' : 500 < s.size := by omega
    clear h500
    go_wp2
    go_ret
    exact ⟨rfl, HB1.out⟩
end Go.Proofs.YtkcaadkamaogbaaDoor
