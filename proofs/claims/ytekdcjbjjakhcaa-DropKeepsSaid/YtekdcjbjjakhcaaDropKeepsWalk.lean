/- DropKeeps: the walk. -/
import Derived.Test.YtekdcjbjjakhcaaDropRows
import Derived.Test.YtekdcjbjjakhcaaDropRef2
namespace Go.Proofs.Ytekdcjbjjakhcaa
open Go Go.RowKit

structure KeepsFacts (f r : Nat) (b : Bool) (K : List ByteArray) (E : List Ent) : Prop where
  dec : decs K = some E
  err : errOf K = 0
  keep : keepOut f b K = (gRef true b f [] (K.zip E)).map (·.1)
  at_ : atOut r K = (gRef false true r [] (K.zip E)).map (·.2.key)
  new : newOut K = newestOf E

theorem keeps_facts {es : List Ent} (hv : ∀ x ∈ es, x.key.size ≤ 100 ∧ x.rev < 18446744073709551616) (f r : Nat) (b : Bool) : ∃ E, KeepsFacts f r b (rowsL es) E := by
  obtain ⟨xs, e1, hok, _⟩ := rows_ok hv
  rw [e1]
  refine ⟨xs.map (·.2), hok.told.1, hok.err, ?_, ?_, ?_⟩
  · rw [hok.keep, zip_parts, gRef_eq]
  · rw [hok.at_, zip_parts, gRef_eq]
    rfl
  · unfold newOut
    rw [hok.told.1]
    show (if rises _ then _ else _) = _
    rw [if_pos hok.up]

set_option maxRecDepth 100000 in
set_option maxHeartbeats 4000000 in
theorem dropKeeps_walk (w : World) (a : Option Addr) (n cap : Nat) (es : List Ent) (f r : Nat) (b : Bool) (h : Reads w 3 (.slice a n cap) n (ecells es)) (hl : es.length = n) (hks : ∀ x ∈ es, x.key.size ≤ maxLen ∧ x.rev < 18446744073709551616) :
    Calls Try.prog 3 #[.slice a n cap, .int .u64 (f : Int), .int .u64 (r : Int), .bool b] w (SaysTrue w) := by
  obtain ⟨_, _, hv, hc1, hc2⟩ := h.le
  cases hv
  unfold maxLen at hc2
  have HR := Lib.hid h
  have HL := Lib.hid hl
  have HK := Lib.hid hks
  clear h hl hks
  go_enter Try.func3, Try.ntmps3
  go_wp2_with (go_at_call 11; go_must (refine (fixed18_any w).mono ?_))
  rintro e w1 ⟨rfl, b1⟩
  have HR1 := Lib.hid (HR.out.below' b1)
  have HB1 := Lib.hid b1
  have hfw := few18_any w1 a n cap es HR1.out HL.out (fun x hx => (HK.out x hx).1)
  have HFw := Lib.hid hfw
  clear b1 hfw HR
  go_wp2_with (go_at_call 12; go_must (refine HFw.out.mono ?_))
  rintro e w2 ⟨rfl, b2⟩
  have HR2 := Lib.hid (HR1.out.below' b2)
  have HB2 := Lib.hid (HB1.out.trans (b2.mono HB1.out.size))
  clear b2 HR1 HB1 HFw
  cases hfew : few18 es with
  | false =>
    clear hfew
    go_wp2
    go_ret
    exact ⟨rfl, HB2.out⟩
  | true =>
    have hlow : (∀ x ∈ es, x.key.size ≤ 100) ∧ es.length ≤ 100 := by
      unfold few18 low18 at hfew
      simpa [List.all_eq_true] using hfew
    have hv : ∀ x ∈ es, x.key.size ≤ 100 ∧ x.rev < 18446744073709551616 := fun x hx => ⟨hlow.1 x hx, (HK.out x hx).2⟩
    have hn100 : n ≤ 100 := by rw [← HL.out]; exact hlow.2
    obtain ⟨E, hdf⟩ := keeps_facts hv f r b
    have hKl : (rowsL es).length ≤ 100 := Nat.le_trans (rowsL_all es).2.1 hlow.2
    have hKs := rowsL_size (es := es) hlow.1
    have hrw := rows18_any w2 a n cap es HR2.out HL.out (by omega) hv
    have HRw := Lib.hid hrw
    have HD := Lib.hid hdf
    have HKs := Lib.hid hKs
    clear hfew hlow hv hdf hKs hrw HK HL
    go_wp2_with (go_at_call 13; go_must (refine HRw.out.mono ?_))
    rintro e w3 ⟨a3, cap3, rfl, r3, b3⟩
    have HB3 := Lib.hid (HB2.out.trans (b3.mono HB2.out.size))
    have HR3 := Lib.hid r3
    clear b3 r3 HRw HB2 HR2
    generalize rowsL es = K at *
    obtain ⟨_, _, hv3, hd1, hd2⟩ := HR3.out.le
    cases hv3
    unfold maxLen at hd2
    have hk4 := keep_any w3 a3 _ cap3 K f b HR3.out HKs.out (by omega)
    have HC4 := Lib.hid hk4
    clear hk4
    go_wp2_with (go_at_call 14; go_must (refine HC4.out.mono ?_))
    rintro e w4 ⟨a4, cap4, rfl, r4, b4⟩
    rw [HD.out.err]
    have HB4 := Lib.hid (HB3.out.trans (b4.mono HB3.out.size))
    have HR4 := Lib.hid r4
    replace HR3 := Lib.hid (HR3.out.below' b4)
    clear b4 r4 HC4 HB3
    have hk5 := at_any18 w4 a3 _ cap3 K r HR3.out HKs.out (by omega)
    have HC5 := Lib.hid hk5
    clear hk5
    go_wp2_with (go_at_call 15; go_must (refine HC5.out.mono ?_))
    rintro e w5 ⟨a5, cap5, rfl, r5, b5⟩
    rw [HD.out.err]
    have HB5 := Lib.hid (HB4.out.trans (b5.mono HB4.out.size))
    have HR5 := Lib.hid r5
    replace HR3 := Lib.hid (HR3.out.below' b5)
    replace HR4 := Lib.hid (HR4.out.below' b5)
    clear b5 r5 HC5 HB4
    have hk6 := newest_any w5 a3 _ cap3 K HR3.out HKs.out (by omega)
    have HC6 := Lib.hid hk6
    clear hk6
    go_wp2_with (go_at_call 16; go_must (refine HC6.out.mono ?_))
    rintro e w6 ⟨rfl, b6⟩
    rw [HD.out.err, HD.out.new]
    have HB6 := Lib.hid (HB5.out.trans (b6.mono HB5.out.size))
    replace HR3 := Lib.hid (HR3.out.below' b6)
    replace HR4 := Lib.hid (HR4.out.below' b6)
    replace HR5 := Lib.hid (HR5.out.below' b6)
    clear b6 HC6 HB5
    have hk7 := refkeep_any w6 a3 _ cap3 K E f b HR3.out HD.out.dec (by omega) HKs.out
    rw [← HD.out.keep] at hk7
    have HC7 := Lib.hid hk7
    clear hk7
    go_wp2_with (go_at_call 18; go_must (refine HC7.out.mono ?_))
    rintro e w7 ⟨a7, cap7, rfl, r7, b7⟩
    have HB7 := Lib.hid (HB6.out.trans (b7.mono HB6.out.size))
    replace HR3 := Lib.hid (HR3.out.below' b7)
    replace HR4 := Lib.hid (HR4.out.below' b7)
    replace HR5 := Lib.hid (HR5.out.below' b7)
    have hs8 := sames_any w7 a4 a7 _ _ cap4 cap7 _ _ HR4.out r7
    have HS8 := Lib.hid hs8
    clear b7 r7 HC7 HB6 hs8
    go_wp2_with (go_at_call 17; go_must (refine HS8.out.mono ?_))
    rintro e w8 ⟨rfl, b8⟩
    have HB8 := Lib.hid (HB7.out.trans (b8.mono HB7.out.size))
    replace HR3 := Lib.hid (HR3.out.below' b8)
    replace HR5 := Lib.hid (HR5.out.below' b8)
    have hk9 := refat_any w8 a3 _ cap3 K E r HR3.out HD.out.dec (by omega) HKs.out
    rw [← HD.out.at_] at hk9
    have HC9 := Lib.hid hk9
    clear hk9 b8 HS8 HB7 HR4
    go_wp2_with (go_at_call 19; go_must (refine HC9.out.mono ?_))
    rintro e w9 ⟨a9, cap9, rfl, r9, b9⟩
    have HB9 := Lib.hid (HB8.out.trans (b9.mono HB8.out.size))
    replace HR3 := Lib.hid (HR3.out.below' b9)
    replace HR5 := Lib.hid (HR5.out.below' b9)
    have hs10 := sames_any w9 a5 a9 _ _ cap5 cap9 _ _ HR5.out r9
    have HS10 := Lib.hid hs10
    clear b9 r9 HC9 HB8 hs10
    go_wp2_with (go_at_call 17; go_must (refine HS10.out.mono ?_))
    rintro e w10 ⟨rfl, b10⟩
    have HB10 := Lib.hid (HB9.out.trans (b10.mono HB9.out.size))
    replace HR3 := Lib.hid (HR3.out.below' b10)
    have hk11 := refnewest_any w10 a3 _ cap3 K E HR3.out HD.out.dec (by omega) HKs.out
    have HC11 := Lib.hid hk11
    clear hk11 b10 HS10 HB9 HR5
    go_wp2_with (go_at_call 20; go_must (refine HC11.out.mono ?_))
    rintro e w11 ⟨rfl, b11⟩
    have HB11 := Lib.hid (HB10.out.trans (b11.mono HB10.out.size))
    clear b11 HC11 HB10
    go_wp2
    go_ret
    exact ⟨by simp, HB11.out⟩
end Go.Proofs.Ytekdcjbjjakhcaa
