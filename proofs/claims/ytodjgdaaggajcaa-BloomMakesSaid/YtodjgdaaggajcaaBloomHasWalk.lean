import Derived.Test.YtodjgdaaggajcaaBloomFixed
namespace Go.Proofs.Ytodjgdaaggajcaa
open Go Go.RowKit

theorem fewL_true {ks : List ByteArray} (h : fewL ks = true) : ks.length ≤ 200 ∧ ∀ k ∈ ks, k.size ≤ 300 := by
  simp [fewL] at h
  exact ⟨h.2, h.1⟩

def HasRel (w3 : World) (n : Nat) (c : Value) (wr : World) : Prop := ∃ j : Nat, c = .int .i64 (j : Int) ∧ j ≤ n ∧ Below w3.heap.size w3 wr

set_option maxRecDepth 100000 in
set_option maxHeartbeats 1000000 in
theorem bloomHas_walk (w : World) (a : Option Addr) (n cap : Nat) (ks : List ByteArray) (B : Int) (h : Reads w 1 (.slice a n cap) n (scells ks)) (hB : -9223372036854775808 ≤ B ∧ B ≤ 9223372036854775807) :
    Calls Try.prog 3 #[.slice a n cap, .int .i64 B] w (SaysTrue w) := by
  obtain ⟨_, _, hv, h1, h2⟩ := h.le
  cases hv
  unfold maxLen at h2
  have hl : ks.length = n := by have := h.1; simpa [scells] using this
  cases hfew : fewL ks with
  | false =>
    have Hf := Lib.hid hfew
    clear hfew hl
    go_enter Try.func3, Try.ntmps3
    go_wp2_with (go_at_call 7; go_must (refine (bloom_fixed w).mono ?_))
    rintro e w1 ⟨rfl, b1⟩
    go_wp2_with (go_at_call 8; go_must (refine (few_any w1 _ n ks (h.below' b1)).mono ?_))
    rintro e w2 ⟨rfl, rfl⟩
    rw [Hf.out]
    go_wp2
    go_ret
    exact ⟨rfl, b1⟩
  | true =>
    obtain ⟨hn, hk⟩ := fewL_true hfew
    have Hf := Lib.hid hfew
    have Hl := Lib.hid hl
    have Hk := Lib.hid hk
    rw [hl] at hn
    clear hfew hl hk
    go_enter Try.func3, Try.ntmps3
    go_wp2_with (go_at_call 7; go_must (refine (bloom_fixed w).mono ?_))
    rintro e w1 ⟨rfl, b1⟩
    have r1 := h.below' b1
    go_wp2_with (go_at_call 8; go_must (refine (few_any w1 _ n ks r1).mono ?_))
    rintro e w2 ⟨rfl, rfl⟩
    rw [Hf.out]
    go_wp2_with (go_at_call 9; go_must (refine (make_any w1 _ n ks B r1 (by omega) (fun k hk => by have := Hk.out k hk; omega) hB).mono ?_))
    rintro e w3 ⟨g, rfl, own3, b3⟩
    have rf := ownsRow.reads own3
    have hml := makeL_length (ks.map fun k => k.data.toList) B
    have hsz := sizeOf'_le (ks.map fun k => k.data.toList).length B
    rw [List.length_map, Hl.out] at hml hsz
    have hM : (makeL (ks.map fun k => k.data.toList) B).length ≤ 1000000 := by omega
    have b13 : Below w.heap.size w w3 := b1.trans (b3.mono b1.size)
    generalize hmk : makeL (ks.map fun k => k.data.toList) B = f at *
    have Hmk := Lib.hid hmk
    have HM := Lib.hid hM
    have RF := Lib.hid rf
    have HR := Lib.hid (h.below' b13)
    have B13 := Lib.hid b13
    clear hmk hM rf b13 hml hsz own3 b3 b1 r1 h
    generalize f.length = m at *
    go_wp2
    go_loopw [18] (fun c wr => HasRel w3 n c wr) (fun c _ => n - (intOf c).toNat)
    case atStart => exact ⟨0, rfl, Nat.zero_le _, Below.refl _ _⟩
    case round =>
      obtain ⟨j, rfl, hj, hb⟩ := hrel
      by_cases hlt : j < n
      · have hlt' : (j : Int) < n := by omega
        obtain ⟨b, off, s, rfl, hs, hbs, hcs⟩ := (HR.out.below' hb).scell j hlt
        have hmem := List.mem_of_getElem? hs
        have hss := Hk.out s hmem
        have hmay : mayL f s.data.toList = true := by
          rw [← Hmk.out]
          exact may_make (List.mem_map.2 ⟨s, hmem, rfl⟩)
        have Hmay := Lib.hid hmay
        have HB := Lib.hid hb
        clear hs hmem hmay hb
        go_wp2_with (go_at_call 10; go_must (refine (may_any wr _ m f s (RF.out.below' HB.out) HM.out (by omega)).mono ?_))
        rintro e w5 ⟨rfl, b5⟩
        rw [Hmay.out]
        have hb5 := HB.out.trans (b5.mono HB.out.size)
        go_wp2
        exact ⟨⟨j + 1, by go_num, by omega, hb5⟩, by simp [intOf]; omega⟩
      · obtain rfl : j = n := by omega
        have hlt' : ¬ ((j : Int) < j) := by omega
        have hb9 : Below w.heap.size w wr := B13.out.trans (hb.mono B13.out.size)
        have HB9 := Lib.hid hb9
        clear hb hb9
        go_wp2
        go_ret
        exact ⟨rfl, HB9.out⟩
end Go.Proofs.Ytodjgdaaggajcaa
