/- DropRefuses: the walk. -/
import Derived.Test.YtekdcjbjjakhcaaDropRows
import Derived.Test.YtekdcjbjjakhcaaDropRef2
import Derived.Test.YtekdcjbjjakhcaaStrs
namespace Go.Proofs.Ytekdcjbjjakhcaa
open Go Go.RowKit

theorem err_none {ks : List ByteArray} (h : ¬ errOf ks = 0) (f r : Nat) (b : Bool) : keepOut f b ks = [] ∧ atOut r ks = [] ∧ newOut ks = 0 := by
  have hc : decs ks = none ∨ ¬ rises ks := by
    cases hd : decs ks with
    | none => exact .inl rfl
    | some es =>
      right
      intro hr
      exact h (by rw [errOf_some hd, if_pos hr])
  refine ⟨keepOut_none hc, atOut_none hc, ?_⟩
  unfold newOut
  rcases hc with hc | hc
  · rw [hc]
  · cases decs ks with
    | none => rfl
    | some es => show (if rises ks then _ else _) = _; rw [if_neg hc]

def RefuRel (w : World) (ks : List ByteArray) (i : Value) (wr : World) : Prop := ∃ k : Nat, i = .int .i64 (k : Int) ∧ k ≤ ks.length ∧ (∀ (j : Nat) (x : ByteArray), j < k → ks[j]? = some x → x.size ≤ 200) ∧ wr = w

set_option maxRecDepth 100000 in
set_option maxHeartbeats 4000000 in
theorem dropRefuses_walk (w : World) (a : Option Addr) (n cap : Nat) (ks : List ByteArray) (f : Nat) (h : Reads w 1 (.slice a n cap) n (scells ks)) :
    Calls Try.prog 4 #[.slice a n cap, .int .u64 (f : Int)] w (SaysTrue w) := by
  have hll : ks.length = n := by have := h.1; rw [scells_length] at this; omega
  obtain ⟨_, _, hv, hc1, hc2⟩ := h.le
  cases hv
  unfold maxLen at hc2
  have HR := Lib.hid h
  have HL := Lib.hid hll
  clear h hll
  by_cases hn : 100 < n
  · have hnI : (100 : Int) < n := by omega
    go_enter Try.func4, Try.ntmps4
    go_wp2_with (go_at_call 11; go_must (refine (fixed18_any w).mono ?_))
    rintro e w1 ⟨rfl, b1⟩
    go_wp2
    go_ret
    exact ⟨rfl, b1⟩
  · have hnI : ¬ ((100 : Int) < n) := by omega
    go_enter Try.func4, Try.ntmps4
    go_wp2_with (go_at_call 11; go_must (refine (fixed18_any w).mono ?_))
    rintro e w1 ⟨rfl, b1⟩
    have HR1 := Lib.hid (HR.out.below' b1)
    have HB1 := Lib.hid b1
    clear b1 HR
    go_wp2
    go_loopw [21] (fun v wr => RefuRel w1 ks v wr) (fun v _ => n - (intOf v).toNat)
    case atStart => exact ⟨0, rfl, Nat.zero_le _, fun j x hj => by omega, rfl⟩
    case round =>
      obtain ⟨i, rfl, hil, hlow, rfl⟩ := hrel
      rw [HL.out] at hil
      have HLo := Lib.hid hlow
      clear hlow
      by_cases hin : i < n
      · have hinI : (i : Int) < n := by omega
        obtain ⟨b, off, x, rfl, hx, hbx, hcx⟩ := HR1.out.scell i hin
        by_cases hxs : x.size ≤ 200
        · have hxI : ¬ ((200 : Int) < x.size) := by omega
          have HX := Lib.hid hx
          clear hx
          go_wp2
          refine ⟨⟨i + 1, by go_num, by rw [HL.out]; omega, fun j y hj hy => ?_, rfl⟩, by simp [intOf]; omega⟩
          by_cases hji : j < i
          · exact HLo.out j y hji hy
          · obtain rfl : j = i := by omega
            rw [HX.out] at hy
            cases hy
            exact hxs
        · have hxI : (200 : Int) < x.size := by omega
          clear hx
          go_wp2
          go_ret
          exact ⟨rfl, HB1.out⟩
      · have hinI : ¬ ((i : Int) < n) := by omega
        have hsz : ∀ k ∈ ks, k.size ≤ 1000000 := fun k hk => by
          obtain ⟨j, hj⟩ := List.getElem?_of_mem hk
          have := HLo.out j k (by have := (List.getElem?_eq_some_iff.1 hj).1; rw [HL.out] at this; omega) hj
          omega
        have HSz := Lib.hid hsz
        have hno := fun h => err_none (ks := ks) h f f true
        have HNo := Lib.hid hno
        have hk2 := check18_any wr a n cap ks HR1.out hsz
        have HC2 := Lib.hid hk2
        clear hsz hno hk2 HLo
        go_wp2_with (go_at_call 21; go_must (refine HC2.out.mono ?_))
        rintro e w2 ⟨rfl, b2⟩
        have HB2 := Lib.hid (HB1.out.trans (b2.mono HB1.out.size))
        have HR2 := Lib.hid (HR1.out.below' b2)
        have hk3 := keep_any w2 a n cap ks f true HR2.out HSz.out (by omega)
        have HC3 := Lib.hid hk3
        clear b2 hk3 HC2 HB1 HR1
        go_wp2_with (go_at_call 14; go_must (refine HC3.out.mono ?_))
        rintro e w3 ⟨a3, cap3, rfl, _, b3⟩
        have HB3 := Lib.hid (HB2.out.trans (b3.mono HB2.out.size))
        have HR3 := Lib.hid (HR2.out.below' b3)
        have hk4 := at_any18 w3 a n cap ks f HR3.out HSz.out (by omega)
        have HC4 := Lib.hid hk4
        clear b3 hk4 HC3 HB2 HR2
        go_wp2_with (go_at_call 15; go_must (refine HC4.out.mono ?_))
        rintro e w4 ⟨a4, cap4, rfl, _, b4⟩
        have HB4 := Lib.hid (HB3.out.trans (b4.mono HB3.out.size))
        have HR4 := Lib.hid (HR3.out.below' b4)
        have hk5 := newest_any w4 a n cap ks HR4.out HSz.out (by omega)
        have HC5 := Lib.hid hk5
        clear b4 hk5 HC4 HB3 HR3
        go_wp2_with (go_at_call 16; go_must (refine HC5.out.mono ?_))
        rintro e w5 ⟨rfl, b5⟩
        have HB5 := Lib.hid (HB4.out.trans (b5.mono HB4.out.size))
        clear b5 HC5 HB4 HR4 HSz
        by_cases he : errOf ks = 0
        · rw [he]
          clear HNo
          generalize (keepOut f true ks).length = l1 at *
          generalize (atOut f ks).length = l2 at *
          generalize newOut ks = m at *
          go_wp2
          go_ret
          exact ⟨rfl, HB5.out⟩
        · obtain ⟨h1, h2, h3⟩ := HNo.out he
          rw [h1, h2, h3]
          clear HNo h1 h2 h3
          have heI : ((errOf ks : Int) == 0) = false := by simp; omega
          generalize errOf ks = er at *
          go_wp2
          go_ret
          exact ⟨rfl, HB5.out⟩
end Go.Proofs.Ytekdcjbjjakhcaa
