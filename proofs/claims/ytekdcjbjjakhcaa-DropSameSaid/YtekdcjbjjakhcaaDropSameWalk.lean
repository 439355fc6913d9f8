/- DropSame: the walk. -/
import Derived.Test.YtekdcjbjjakhcaaDropRows
namespace Go.Proofs.Ytekdcjbjjakhcaa
open Go Go.RowKit

set_option maxRecDepth 100000 in
set_option maxHeartbeats 4000000 in
theorem dropSame_walk (w : World) (a : Option Addr) (n cap : Nat) (es : List Ent) (f ab : Nat) (b : Bool) (h : Reads w 3 (.slice a n cap) n (ecells es)) (hl : es.length = n) (hks : ∀ x ∈ es, x.key.size ≤ maxLen ∧ x.rev < 18446744073709551616) (hab : ab < 65536) :
    Calls Try.prog 5 #[.slice a n cap, .int .u64 (f : Int), .int .u16 (ab : Int), .bool b] w (SaysTrue w) := by
  obtain ⟨_, _, hv, hc1, hc2⟩ := h.le
  cases hv
  unfold maxLen at hc2
  have HR := Lib.hid h
  have HL := Lib.hid hl
  have HK := Lib.hid hks
  clear h hl hks
  go_enter Try.func5, Try.ntmps5
  go_wp2_with (go_at_call 11; go_must (refine (fixed18_any w).mono ?_))
  rintro e w1 ⟨rfl, b1⟩
  have HR1 := Lib.hid (HR.out.below' b1)
  have HB1 := Lib.hid b1
  have hfw := few18_any w1 a n cap es HR1.out HL.out (fun x hx => (HK.out x hx).1)
  have HFw := Lib.hid hfw
  clear b1 hfw HR
  go_wp2_with (go_at_call 12; go_must (refine HFw.out.mono ?_))
  rintro e w2 ⟨rfl, b2⟩
  have HR2 := Lib.hid (HR1.out.below' b2)
  have HB2 := Lib.hid (HB1.out.trans (b2.mono HB1.out.size))
  clear b2 HR1 HB1 HFw
  cases hfew : few18 es with
  | false =>
    clear hfew
    go_wp2
    go_ret
    exact ⟨rfl, HB2.out⟩
  | true =>
    by_cases hf : 1152921504606846976 < f
    · have hfI : (1152921504606846976 : Int) < f := by omega
      clear hfew
      go_wp2
      go_ret
      exact ⟨rfl, HB2.out⟩
    · have hfI : ¬ ((1152921504606846976 : Int) < f) := by omega
      have hlow : (∀ x ∈ es, x.key.size ≤ 100) ∧ es.length ≤ 100 := by
        unfold few18 low18 at hfew
        simpa [List.all_eq_true] using hfew
      have hv : ∀ x ∈ es, x.key.size ≤ 100 ∧ x.rev < 18446744073709551616 := fun x hx => ⟨hlow.1 x hx, (HK.out x hx).2⟩
      have hn100 : n ≤ 100 := by rw [← HL.out]; exact hlow.2
      have hdf := drop_facts hv (show f ≤ f + ab by omega) b
      have hKl : (rowsL es).length ≤ 100 := Nat.le_trans (rowsL_all es).2.1 hlow.2
      have hKs := rowsL_size (es := es) hlow.1
      have hrw := rows18_any w2 a n cap es HR2.out HL.out (by omega) hv
      have HRw := Lib.hid hrw
      have HD := Lib.hid hdf
      have HKs := Lib.hid hKs
      have hfw64 : IntKind.u64.wrap ((f : Int) + (ab : Int)) = ((f + ab : Nat) : Int) := by rw [IntKind.wrap_u64]; omega
      have hcv : IntKind.u64.wrap (ab : Int) = (ab : Int) := by rw [IntKind.wrap_u64]; omega
      clear hfew hlow hv hdf hKs hrw HK HL
      go_wp2_with (go_at_call 13; go_must (refine HRw.out.mono ?_))
      rintro e w3 ⟨a3, cap3, rfl, r3, b3⟩
      have HB3 := Lib.hid (HB2.out.trans (b3.mono HB2.out.size))
      have HR3 := Lib.hid r3
      clear b3 r3 HRw HB2 HR2
      generalize rowsL es = K at *
      obtain ⟨_, _, hv3, hd1, hd2⟩ := HR3.out.le
      cases hv3
      unfold maxLen at hd2
      have hAl : (keepOut f b K).length ≤ 1000 := Nat.le_trans HD.out.short (by omega)
      have hk4 := keep_any w3 a3 _ cap3 K f b HR3.out HKs.out (by omega)
      have HC4 := Lib.hid hk4
      clear hk4
      go_wp2_with (go_at_call 14; go_must (refine HC4.out.mono ?_))
      rintro e w4 ⟨a4, cap4, rfl, r4, b4⟩
      rw [HD.out.err]
      have HB4 := Lib.hid (HB3.out.trans (b4.mono HB3.out.size))
      have HR4 := Lib.hid r4
      replace HR3 := Lib.hid (HR3.out.below' b4)
      clear b4 r4 HC4 HB3
      have hk5 := at_any18 w4 a3 _ cap3 K (f + ab) HR3.out HKs.out (by omega)
      have HC5 := Lib.hid hk5
      clear hk5
      go_wp2_with (go_at_call 15; go_must (refine HC5.out.mono ?_))
      rintro e w5 ⟨a5, cap5, rfl, r5, b5⟩
      rw [HD.out.err]
      have HB5 := Lib.hid (HB4.out.trans (b5.mono HB4.out.size))
      have HR5 := Lib.hid r5
      replace HR4 := Lib.hid (HR4.out.below' b5)
      clear b5 r5 HC5 HB4
      have hk6 := at_any18 w5 a4 _ cap4 (keepOut f b K) (f + ab) HR4.out HD.out.size hAl
      have HC6 := Lib.hid hk6
      clear hk6
      go_wp2_with (go_at_call 15; go_must (refine HC6.out.mono ?_))
      rintro e w6 ⟨a6, cap6, rfl, r6, b6⟩
      rw [HD.out.errA, HD.out.tell]
      have HB6 := Lib.hid (HB5.out.trans (b6.mono HB5.out.size))
      have HR6 := Lib.hid r6
      replace HR5 := Lib.hid (HR5.out.below' b6)
      clear b6 r6 HC6 HB5
      rw [HD.out.tell] at HR6
      have hs1 := sames_any w6 a5 a6 _ _ cap5 cap6 _ _ HR5.out HR6.out
      have HS1 := Lib.hid hs1
      clear hs1 HD HKs
      generalize (atOut (f + ab) K).length = lA at *
      go_wp2_with (go_at_call 17; go_must (refine HS1.out.mono ?_))
      rintro e w8 ⟨rfl, b8⟩
      have HB8 := Lib.hid (HB6.out.trans (b8.mono HB6.out.size))
      clear b8 HS1
      go_wp2
      go_ret
      exact ⟨by simp, HB8.out⟩
end Go.Proofs.Ytekdcjbjjakhcaa
