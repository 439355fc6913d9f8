import Derived.Test.YtodjgdaaggajcaaBloomHasWalk
namespace Go.Proofs.Ytodjgdaaggajcaa
open Go Go.RowKit

def MoreRel (w : World) (B g m : Nat) (f mo : List UInt8) (c : Value) (wr : World) : Prop :=
  ∃ i : Nat, c = .int .i64 (i : Int) ∧ i ≤ mo.length ∧ i + 1 ≤ m ∧ wr.ownsRow B 5 1 (.slice (some ⟨g, 0, none⟩) m m) m (bcells (orL f mo i)) ∧ Below w.heap.size w wr

theorem set_at {f : List UInt8} {c : UInt8} {j : Nat} {z : Int} (hz : z = (c.toNat : Int)) : (bcells f).set j (.int .u8 z) = bcells (f.set j c) := by
  subst hz
  simp only [bcells, List.map_set]

theorem bcells_get {f : List UInt8} {j : Nat} (h : j < f.length) : (bcells f)[j]? = some (.int .u8 ((f.getD j 0).toNat : Int)) := by
  simp only [bcells, List.getElem?_map, List.getElem?_eq_getElem h, Option.map_some, List.getD, Option.getD_some]

theorem or_bytes (c d : UInt8) : bits BinOp.or .u8 (c.toNat : Int) (d.toNat : Int) = ((UInt8.ofNat (c.toNat ||| d.toNat)).toNat : Int) := by
  have h := or_ofNat c d
  rw [h, u8_or_nat _ _ c.toNat_lt d.toNat_lt]

set_option maxRecDepth 100000 in
set_option maxHeartbeats 1000000 in
theorem bloomMore_walk (w : World) (a : Option Addr) (n cap : Nat) (ks : List ByteArray) (B : Int) (a2 : Option Addr) (n2 cap2 : Nat) (mo : List UInt8) (ask : ByteArray) (h : Reads w 1 (.slice a n cap) n (scells ks)) (hB : -9223372036854775808 ≤ B ∧ B ≤ 9223372036854775807)
    (hm : Reads w 1 (.slice a2 n2 cap2) n2 (bcells mo)) :
    Calls Try.prog 4 #[.slice a n cap, .int .i64 B, .slice a2 n2 cap2, .string ask] w (SaysTrue w) := by
  obtain ⟨_, _, hv, h1, h2⟩ := h.le
  cases hv
  unfold maxLen at h2
  obtain ⟨_, _, hv, h12, h22⟩ := hm.le
  cases hv
  unfold maxLen at h22
  have hl : ks.length = n := by have := h.1; simpa [scells] using this
  have hml0 : mo.length = n2 := by have := hm.1; simpa [bcells_length] using this
  cases hfew : fewL ks with
  | false =>
    have Hf := Lib.hid hfew
    clear hfew hl hml0
    go_enter Try.func4, Try.ntmps4
    go_wp2_with (go_at_call 7; go_must (refine (bloom_fixed w).mono ?_))
    rintro e w1 ⟨rfl, b1⟩
    go_wp2_with (go_at_call 8; go_must (refine (few_any w1 _ n ks (h.below' b1)).mono ?_))
    rintro e w2 ⟨rfl, rfl⟩
    rw [Hf.out]
    go_wp2
    go_ret
    exact ⟨rfl, b1⟩
  | true =>
    obtain ⟨hn, hk⟩ := fewL_true hfew
    have Hf := Lib.hid hfew
    have Hl := Lib.hid hl
    have Hk := Lib.hid hk
    have Hml0 := Lib.hid hml0
    rw [hl] at hn
    clear hfew hl hk hml0
    by_cases hq : 300 < ask.size
    · have hq' : (300 : Int) < ask.size := by omega
      go_enter Try.func4, Try.ntmps4
      go_wp2_with (go_at_call 7; go_must (refine (bloom_fixed w).mono ?_))
      rintro e w1 ⟨rfl, b1⟩
      go_wp2_with (go_at_call 8; go_must (refine (few_any w1 _ n ks (h.below' b1)).mono ?_))
      rintro e w2 ⟨rfl, rfl⟩
      rw [Hf.out]
      go_wp2
      go_ret
      exact ⟨rfl, b1⟩
    · have hq' : ¬ (300 : Int) < ask.size := by omega
      by_cases hq2 : 3000 < n2
      · have hq2' : (3000 : Int) < n2 := by omega
        go_enter Try.func4, Try.ntmps4
        go_wp2_with (go_at_call 7; go_must (refine (bloom_fixed w).mono ?_))
        rintro e w1 ⟨rfl, b1⟩
        go_wp2_with (go_at_call 8; go_must (refine (few_any w1 _ n ks (h.below' b1)).mono ?_))
        rintro e w2 ⟨rfl, rfl⟩
        rw [Hf.out]
        go_wp2
        go_ret
        exact ⟨rfl, b1⟩
      · have hq2' : ¬ (3000 : Int) < n2 := by omega
        go_enter Try.func4, Try.ntmps4
        go_wp2_with (go_at_call 7; go_must (refine (bloom_fixed w).mono ?_))
        rintro e w1 ⟨rfl, b1⟩
        have r1 := h.below' b1
        have hm1 := hm.below' b1
        go_wp2_with (go_at_call 8; go_must (refine (few_any w1 _ n ks r1).mono ?_))
        rintro e w2 ⟨rfl, rfl⟩
        rw [Hf.out]
        go_wp2_with (go_at_call 9; go_must (refine (make_any w1 _ n ks B r1 (by omega) (fun k hk => by have := Hk.out k hk; omega) hB).mono ?_))
        rintro e w3 ⟨g, rfl, own3, b3⟩
        have hml := makeL_length (ks.map fun k => k.data.toList) B
        have hsz := sizeOf'_le (ks.map fun k => k.data.toList).length B
        have hsg := sizeOf'_ge (ks.map fun k => k.data.toList).length B
        rw [List.length_map, Hl.out] at hml hsz hsg
        have hM : (makeL (ks.map fun k => k.data.toList) B).length ≤ 1000000 := by omega
        have hM9 : 9 ≤ (makeL (ks.map fun k => k.data.toList) B).length := by omega
        have b13 : Below w.heap.size w w3 := b1.trans (b3.mono b1.size)
        have hgw := own3.lt g rfl
        have b1s := b1.size
        generalize hmk : makeL (ks.map fun k => k.data.toList) B = f at *
        have HMo := Lib.hid hm
        have B13 := Lib.hid b13
        clear hmk b13 hml hsz hsg b3 b1 r1 h hm hm1
        generalize hfl : f.length = m at *
        have Hfl := Lib.hid hfl
        have Own3 := Lib.hid own3
        have HM := Lib.hid hM
        clear hfl own3
        go_wp2_with (go_at_call 10; go_must (refine (may_any w3 _ m f ask (ownsRow.reads Own3.out) HM.out (by omega)).mono ?_))
        rintro e w4 ⟨rfl, b4⟩
        have own4 : w4.ownsRow w1.heap.size 5 1 (.slice (some ⟨g, 0, none⟩) m m) m (bcells f) := Own3.out.kept (row := none) ⟨b4.os, b4.tape, b4.output, b4.size, fun k hk _ => b4.block k hk⟩ (.inr (by simp [Value.ownBlock]))
        have B14 := Lib.hid (B13.out.trans (b4.mono B13.out.size))
        have Own4 := Lib.hid own4
        have hs4 := b4.size
        clear own4 b4
        go_wp2
        go_loopw [11] (fun c wr => MoreRel w w1.heap.size g m f mo c wr) (fun c _ => n2 - (intOf c).toNat)
        case atStart => exact ⟨0, rfl, Nat.zero_le _, by omega, Own4.out, B14.out⟩
        case round =>
          obtain ⟨i, rfl, hi, him, hown, hb⟩ := hrel
          rw [Hml0.out] at hi
          have hln : (orL f mo i).length = m := by rw [orL_length, Hfl.out]
          have Hln := Lib.hid hln
          clear hln
          by_cases hlt : i < n2 ∧ i + 1 < m
          · obtain ⟨hlt1, hlt2⟩ := hlt
            have hlt1' : (i : Int) < n2 := by omega
            have hlt2' : (i : Int) + 1 < m := by omega
            have hmr := HMo.out.below' hb
            obtain ⟨b, off, cap', hv, _, _, _, hcm⟩ := hmr.head (by omega)
            cases hv
            have cm := hcm i hlt1
            have ci := hown.cellAt i (by omega)
            rw [bcells_get (by rw [Hln.out]; omega)] at ci
            have fi := hown.frozenAt i
            have hor := or_bytes ((orL f mo i).getD i 0) (mo.getD i 0)
            have hsucc : orL f mo (i + 1) = (orL f mo i).set i (UInt8.ofNat (((orL f mo i).getD i 0).toNat ||| (mo.getD i 0).toNat)) := rfl
            generalize orL f mo i = G at *
            generalize G.getD i 0 = c at *
            generalize mo.getD i 0 = d at *
            have Hor := Lib.hid hor
            have Hsucc := Lib.hid hsucc
            have Hown := Lib.hid hown
            have Hb := Lib.hid hb
            clear hor hsucc hown hb hmr hcm
            go_wp2_with fail
            go_region
            go_wp2
            obtain ⟨o1, g1⟩ := World.ownsRow.stored Hown.out i (.int .u8 (bits BinOp.or .u8 (c.toNat : Int) (d.toNat : Int)))
            rw [set_at Hor.out, ← Hsucc.out] at o1
            have hsb := Hb.out.size
            exact ⟨⟨i + 1, by go_num, by rw [Hml0.out]; omega, by omega, o1, (Hb.out.grown g1 (by omega) (fun k hk => by cases hk; omega)).drew⟩, by simp [intOf]; omega⟩
          · have hrd := ownsRow.reads hown
            have Hrd := Lib.hid hrd
            have Hb := Lib.hid hb
            clear hown hb hrd
            cases hmy : mayL f ask.data.toList with
            | false =>
              have Hmy := Lib.hid hmy
              clear hmy
              rcases (show ¬ ((i : Int) < n2) ∨ ((i : Int) < n2 ∧ ¬ ((i : Int) + 1 < m)) from by omega) with hc | ⟨hc, hc'⟩
              all_goals
                go_wp2
                go_ret
                exact ⟨rfl, Hb.out⟩
            | true =>
              have hmm := may_more (more := mo) (i := i) (by rw [Hfl.out]; omega) hmy
              have Hmm := Lib.hid hmm
              have Hmy := Lib.hid hmy
              clear hmm hmy
              rcases (show ¬ ((i : Int) < n2) ∨ ((i : Int) < n2 ∧ ¬ ((i : Int) + 1 < m)) from by omega) with hc | ⟨hc, hc'⟩
              all_goals
                go_wp2_with (go_at_call 10; go_must (refine (may_any wr _ m (orL f mo i) ask Hrd.out HM.out (by omega)).mono ?_))
                rintro e w6 ⟨rfl, b6⟩
                rw [Hmm.out]
                have hb6 : Below w.heap.size w w6 := Hb.out.trans (b6.mono Hb.out.size)
                go_wp2
                go_ret
                exact ⟨rfl, hb6⟩
end Go.Proofs.Ytodjgdaaggajcaa
