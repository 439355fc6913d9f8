/- The law SkipWalks. -/
import Derived.Test.YthficboolhellaaSkipLaws
namespace Go.Proofs.Ythficboolhellaa
open Go Go.RowKit

def WPutRel (w0 : World) (L : Nat) (ks : List ByteArray) (iv : Value) (wr : World) : Prop :=
  ∃ k : Nat, iv = .int .i64 (k : Int) ∧ k ≤ ks.length ∧ LOwn w0.heap.size w0 L (putsOf (ks.take k)) wr

def tellV : Option ByteArray → Value × Value
  | none => (.string ⟨#[]⟩, .bool false)
  | some x => (.string x, .bool true)

def WTellRel (w0 : World) (L : Nat) (K : List ByteArray) (kv ov iv : Value) (wr : World) : Prop :=
  ∃ i : Nat, iv = .int .i64 (i : Int) ∧ i ≤ K.length ∧ kv = (tellV K[i]?).1 ∧ ov = (tellV K[i]?).2 ∧ LOwn w0.heap.size w0 L K wr

set_option maxRecDepth 100000 in
set_option maxHeartbeats 4000000 in
theorem skipWalks_walk (w : World) (a b : Option Addr) (n cap m bcap : Nat) (ds : List UInt8) (ks : List ByteArray) (h : Reads w 1 (.slice a n cap) n (bcells ds)) (h2 : Reads w 1 (.slice b m bcap) m (scells ks)) :
    Calls Try.prog 5 #[.slice a n cap, .slice b m bcap] w (SaysTrue w) := by
  have hkl : ks.length = m := by have := h2.1; rw [scells_length] at this; omega
  have HD := Lib.hid h
  have HK := Lib.hid h2
  obtain ⟨_, _, hv, hc1, hc2⟩ := h.le
  cases hv
  obtain ⟨_, _, hv, hd1, hd2⟩ := h2.le
  cases hv
  unfold maxLen at hc2 hd2
  have HF := Lib.hid (fixed11_any w)
  clear h h2
  go_enter Try.func5, Try.ntmps5
  go_wp2_with (go_at_call 7; go_must (refine HF.out.mono ?_))
  rintro e w1 ⟨rfl, b1⟩
  have HB1 := Lib.hid b1
  have HK1 := Lib.hid (HK.out.below' b1)
  have HD1 := Lib.hid (HD.out.below' b1)
  have HW := Lib.hid (few11_any w1 b m bcap ks (HK.out.below' b1))
  clear b1 HF
  go_wp2_with (go_at_call 8; go_must (refine HW.out.mono ?_))
  rintro e w1 ⟨rfl, rfl⟩
  cases hf : few11 ks with
  | false =>
    go_wp2
    go_ret
    exact ⟨rfl, HB1.out⟩
  | true =>
    obtain ⟨hlow, hlen⟩ := few11_low hf
    clear hf
    by_cases hn : n ≤ 1000
    · have hnI : ¬ (1000 : Int) < n := by omega
      have HNe := Lib.hid (new_any w1 a n cap ds HD1.out hn)
      have HLow := Lib.hid hlow
      clear hlow
      go_wp2_with (go_at_call 9; go_must (refine HNe.out.mono ?_))
      rintro e w2 ⟨L, kf, ht, rfl, hs2, b2, hL⟩
      have HO2 := Lib.hid (show LOwn w1.heap.size w1 L [] w2 from ⟨[], kf, ht, hs2, fun x hx => by simp at hx; subst hx; exact hL, b2⟩)
      clear hs2 b2 hL HNe
      go_wp2
      go_loopw [27] (fun iv wr => WPutRel w1 L ks iv wr) (fun iv _ => m - (intOf iv).toNat)
      case atStart => exact ⟨0, rfl, Nat.zero_le _, HO2.out⟩
      case round =>
        obtain ⟨k, rfl, hk, ns, kf, ht, hs, hg, hb⟩ := hrel
        have hsm := putsOf_small ks HLow.out k
        have hbs := hb.size
        by_cases hlt : k < m
        · have hkI : (k : Int) < m := by omega
          obtain ⟨g, off, x, rfl, hx, hbb, hcc⟩ := (HK1.out.below' hb).scell k hlt
          have hxs := HLow.out x (List.mem_of_getElem? hx)
          have HSn := Lib.hid (putsOf_snoc hx)
          have HP := Lib.hid (skput_any wr L ns kf ht _ x hs (by omega) (by omega))
          have HG := Lib.hid hg
          have HB := Lib.hid hb
          clear hx hs hg hb hsm
          generalize putsOf (ks.take k) = P at *
          go_wp2_with (go_at_call 11; go_must (refine HP.out.mono ?_))
          rintro e w3 hp
          obtain ⟨rfl, ho⟩ := LOwn.put HG.out HB.out hbs hp
          have HO := Lib.hid ho
          clear hp ho
          go_wp2
          exact ⟨⟨k + 1, by go_num, by omega, by rw [HSn.out]; exact HO.out⟩, by simp [intOf]; omega⟩
        · obtain rfl : k = m := by omega
          have hkI : ¬ ((k : Int) < k) := by omega
          rw [List.take_of_length_le (by omega)] at hs hsm
          generalize putsOf ks = K at *
          have HAl := Lib.hid (all_any wr L ns kf ht K hs (by omega))
          have HO3 := Lib.hid (show LOwn w1.heap.size w1 L K wr from ⟨ns, kf, ht, hs, hg, hb⟩)
          have HUp := Lib.hid hs.up
          have HSz := Lib.hid hbs
          clear hs hg hb HO2
          go_wp2_with (go_at_call 20; go_must (refine HAl.out.mono ?_))
          rintro e w4 ⟨v4, rfl, o4, b4⟩
          have ho4 := HO3.out.below b4 hbs
          have hr4 := ownsRow.reads o4
          obtain ⟨va, vcap, rfl, hv1, hv2⟩ := hr4.le
          unfold maxLen at hv2
          have hz4 := Nat.le_trans hbs b4.size
          obtain ⟨ns4, kf4, ht4, hs4, hg4, hb4⟩ := ho4
          have hse := seek_any w4 L ns4 kf4 ht4 K ⟨#[]⟩ hs4
          rw [seek_first] at hse
          have HSe := Lib.hid hse
          have HO4 := Lib.hid (show LOwn w1.heap.size w1 L K w4 from ⟨ns4, kf4, ht4, hs4, hg4, hb4⟩)
          have HR4 := Lib.hid hr4
          clear o4 b4 hr4 hs4 hg4 hb4 hse HAl HO3
          go_wp2_with (go_at_call 14; go_must (refine HSe.out.mono ?_))
          rintro e w5 ⟨rfl, b5⟩
          have HO5 := Lib.hid (HO4.out.below b5 hz4)
          have HR5 := Lib.hid (HR4.out.below' b5)
          have hz5 := Nat.le_trans hz4 b5.size
          have htv : sk11V K[0]? = .tuple #[(tellV K[0]?).1, (tellV K[0]?).2] := by cases K[0]? <;> rfl
          rw [htv]
          clear b5 HSe HO4 HR4 htv
          go_wp2
          go_loopw [9, 10, 44] (fun kv ov iv wr => WTellRel w1 L K kv ov iv wr ∧ Below w5.heap.size w5 wr) (fun _ _ iv _ => K.length - (intOf iv).toNat)
          case atStart => exact ⟨⟨0, rfl, Nat.zero_le _, rfl, rfl, HO5.out⟩, Below.refl _ _⟩
          case round =>
            obtain ⟨⟨i, rfl, hi, rfl, rfl, ho⟩, hbw⟩ := hrel
            obtain ⟨nr, kr, hr, hs, hg, hb⟩ := ho
            by_cases hil : i < K.length
            · have hiI : (i : Int) < K.length := by omega
              obtain ⟨g, off, x, rfl, hx, hbb, hcc⟩ := (HR5.out.below' hbw).scell i hil
              have haf := after_any wr L nr kr hr K x hs
              rw [after_at HUp.out hx] at haf
              have HAf := Lib.hid haf
              have htx : tellV K[i]? = (.string x, .bool true) := by rw [hx]; rfl
              rw [htx]
              have HO := Lib.hid (show LOwn w1.heap.size w1 L K wr from ⟨nr, kr, hr, hs, hg, hb⟩)
              have hzr := Nat.le_trans hz5 hbw.size
              have HBw := Lib.hid hbw
              have htv : sk11V K[i + 1]? = .tuple #[(tellV K[i + 1]?).1, (tellV K[i + 1]?).2] := by cases K[i + 1]? <;> rfl
              have HTv := Lib.hid htv
              clear hs hg hb haf hx htx hbw htv
              dsimp only
              go_wp2_with (go_at_call 16; go_must (refine HAf.out.mono ?_))
              rintro e w6 ⟨rfl, b6⟩
              rw [HTv.out]
              have HO6 := Lib.hid (HO.out.below b6 hzr)
              have HB6 := Lib.hid (HBw.out.trans (b6.mono HBw.out.size))
              clear b6
              go_wp2
              exact ⟨⟨⟨i + 1, by go_num, by omega, rfl, rfl, HO6.out⟩, HB6.out⟩, by simp [intOf]; omega⟩
            · obtain rfl : i = K.length := by omega
              have hiI : ¬ ((K.length : Int) < K.length) := by omega
              have htx : tellV K[K.length]? = (.string ⟨#[]⟩, .bool false) := by rw [List.getElem?_eq_none (Nat.le_refl _)]; rfl
              rw [htx]
              have HLn := Lib.hid (len_any wr L _ hs.len)
              have HB := Lib.hid (HB1.out.trans (hb.mono HB1.out.size))
              clear hs hg hb htx hbw
              dsimp only
              go_wp2_with (go_at_call 12; go_must (refine HLn.out.mono ?_))
              go_ret
              exact ⟨rfl, HB.out⟩
    · have hnI : (1000 : Int) < n := by omega
      go_wp2
      go_ret
      exact ⟨rfl, HB1.out⟩
end Go.Proofs.Ythficboolhellaa
