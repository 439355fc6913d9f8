/- What the proof stands on, part 19. -/
import Derived.Test.YtfhdonidgegebaaDoorMg18
import Derived.ProofKit
import Derived.LaidMore
import Derived.OpenShut
import Derived.Stop.Joined
import Derived.Deep.Slices
import Derived.Deep.Fields
import Derived.ShutString
import Derived.ChangeOld
import Derived.Lib.SmallJoins
import Derived.Deep.Strs
/- The law TableTells' walk. -/
namespace Go.Proofs.YtfhdonidgegebaaDoor
open Go Go.RowKit

def TTRel (wo : World) (m : Nat) (v : Value) (wr : World) : Prop := ∃ i : Nat, v = .int .i64 (i : Int) ∧ i ≤ m ∧ Below wo.heap.size wo wr

set_option maxRecDepth 100000 in
set_option maxHeartbeats 4000000 in
theorem tableTells_walk (w : World) (a : Option Addr) (n cap : Nat) (es : List Ent) (sp bi : Nat) (a2 : Option Addr) (n2 cap2 : Nat) (asks : List ByteArray) (h : Reads w 3 (.slice a n cap) n (ecells es)) (hl : es.length = n) (hn : n ≤ 5000000000000) (hks : ∀ x ∈ es, x.key.size ≤ maxLen ∧ x.rev < 18446744073709551616)
    (h1 : sp ≤ 65535) (h2 : bi ≤ 255) (h3 : Reads w 1 (.slice a2 n2 cap2) n2 (scells asks)) (hst : Steps w) :
    Calls Tryd.prog 4 #[.slice a n cap, .int .u16 (sp : Int), .int .u8 (bi : Int), .slice a2 n2 cap2] w (SaysTrue w) := by
  obtain ⟨i0, hi, hz0, hz1, hz2⟩ := info_parts info9
  have hal : asks.length = n2 := by have := h3.1; rw [scells_length] at this; omega
  have HF := Lib.hid (fixed_any w hst)
  have HSt := Lib.hid hst
  have HR := Lib.hid h
  have HL := Lib.hid hl
  have HK := Lib.hid hks
  have HA := Lib.hid h3
  have HAl := Lib.hid hal
  obtain ⟨_, _, hv, hc1, hc2⟩ := h.le
  cases hv
  obtain ⟨_, _, hv, hd1, hd2⟩ := h3.le
  cases hv
  unfold maxLen at hc2 hd2
  clear hst h hl hks h3 hal
  go_enter Tryd.func4, Tryd.ntmps4
  go_wp2_with (go_at_call 8; go_must (refine HF.out.mono ?_))
  rintro e w1 ⟨rfl, b1⟩
  have HB1 := Lib.hid b1
  have HKy := Lib.hid (keys14_any w1 a n cap es (HR.out.below' b1) HL.out hn HK.out)
  clear b1 HF
  go_wp2_with (go_at_call 11; go_must (refine HKy.out.mono ?_))
  rintro e w2 ⟨b2, hp⟩
  have HB2 := Lib.hid (HB1.out.trans (b2.mono HB1.out.size))
  clear b2 HKy
  rcases hp with ⟨hlow, v, rfl, ho⟩ | ⟨_, rfl⟩
  case inr =>
    go_wp2
    go_ret
    exact ⟨rfl, HB2.out⟩
  obtain ⟨ka, kcap, rfl, hk1, hk2⟩ := (ownsRow.reads ho).le
  unfold maxLen at hk2
  have hgood := fun h100 h0 => good_rows hlow h100 h0
  have hchk := fun h0 (split : Int) hs => check_rows (fun x hx => (HK.out x hx).2) h0 (split := split) hs
  have HO := Lib.hid (ownsRow.reads ho)
  have hl100 : (rowsL es).length ≤ es.length := (rowsL_all es).2.1
  clear ho hlow
  rw [HL.out] at hgood hl100 ⊢
  by_cases h100 : n ≤ 100
  case neg =>
    rw [decide_eq_false h100]
    go_wp2
    go_ret
    exact ⟨rfl, HB2.out⟩
  rw [decide_eq_true h100]
  by_cases h0 : rowsL es = []
  case pos =>
    have hz : (rowsL es).length = 0 := by rw [h0]; rfl
    have hzI : ((rowsL es).length : Int) = 0 := by omega
    go_wp2
    go_ret
    exact ⟨rfl, HB2.out⟩
  have HG := Lib.hid (hgood h100 h0)
  have HC := Lib.hid (hchk h0 (1 + (sp : Int)) (by omega))
  have hz : 0 < (rowsL es).length := List.length_pos_iff.2 h0
  clear hgood hchk h0 HK HR
  generalize rowsL es = ks at *
  have hzB : ((ks.length : Int) == 0) = false := by
    rw [beq_eq_false_iff_ne]
    omega
  by_cases hsk : n2 ≤ 40
  case neg =>
    have hskI : (40 : Int) < n2 := by omega
    go_wp2
    go_ret
    exact ⟨rfl, HB2.out⟩
  have hskI : ¬ (40 : Int) < n2 := by omega
  have HBu := Lib.hid (tbuild_any w2 ka ks.length kcap ks (1 + (sp : Int)) (bi : Int) HO.out (by omega) HG.out.size (by omega) (HSt.out.below HB2.out))
  go_wp2_with (go_at_call 9; go_must (refine HBu.out.mono ?_))
  rintro e w3 hp
  rcases hp with ⟨hno, _⟩ | ⟨_, v3, rfl, o3, b3⟩
  case inl => exact absurd HC.out hno
  have HB3 := Lib.hid (HB2.out.trans (b3.mono HB2.out.size))
  have HO3 := Lib.hid (HO.out.below' b3)
  have HV3 := Lib.hid o3
  have HBr := Lib.hid (refbuild14_any w3 ka ks.length kcap ks (1 + (sp : Int)) (bi : Int) HO3.out (by omega) HG.out.size (by omega))
  clear b3 o3 HBu HO HB2
  go_wp2_with (go_at_call 10; go_must (refine HBr.out.mono ?_))
  rintro e w4 hp
  rcases hp with ⟨hno, _⟩ | ⟨_, v4, rfl, o4, b4⟩
  case inl => exact absurd HC.out hno
  have HB4 := Lib.hid (HB3.out.trans (b4.mono HB3.out.size))
  have HO4 := Lib.hid (HO3.out.below' b4)
  have HV4 := Lib.hid (owns_below HV3.out b4)
  have HW4 := Lib.hid o4
  have htl := HG.out.tablen (1 + (sp : Int)) (bi : Int) (by omega) (by omega)
  have HOp := Lib.hid (open_any w4 v3 _ (Sl.up (own_sl (owns_below HV3.out b4)) (Nat.le_refl _)) htl (HSt.out.below HB4.out))
  have HOpe := Lib.hid (HG.out.opens (1 + (sp : Int)) (bi : Int))
  clear b4 o4 htl HBr HC HO3 HV3 HB3
  go_wp2_with (go_at_call 12; go_must (refine HOp.out.mono ?_))
  rintro e w5 ⟨b5, hm⟩
  rw [HOpe.out] at hm
  obtain ⟨g, rfl, ht5⟩ := hm
  have HB5 := Lib.hid (HB4.out.trans (b5.mono HB4.out.size))
  have HO5 := Lib.hid (HO4.out.below' b5)
  have HT5 := Lib.hid ht5
  have hc1 := Reads.conv (P := Tryd.prog) (w := w5) (src := 24) (e := 5) (dst := 9) Tryd.underlying24 Tryd.underlying5 Tryd.underlying9 (ownsRow.reads (owns_below HV4.out b5))
  have hc2 := Reads.conv (P := Tryd.prog) (w := w5) (src := 24) (e := 5) (dst := 9) Tryd.underlying24 Tryd.underlying5 Tryd.underlying9 (ownsRow.reads (owns_below HW4.out b5))
  obtain ⟨va, vc, rfl, _, _⟩ := (ownsRow.reads HV4.out).le
  obtain ⟨ua, uc, rfl, _, _⟩ := (ownsRow.reads HW4.out).le
  generalize tabL (blocksL (1 + (sp : Int)) ks) (stemsB ks) ks.length (bi : Int) = TL at *
  generalize (ByteArray.mk TL.toArray) = ts at *
  have hss : (ts.toList == ts.toList) = true := by simp
  have HLn := Lib.hid (tlen_any w5 g _ HT5.out)
  have hlen1 : (bt ks (1 + (sp : Int)) (bi : Int)).len = (ks.length : Int) := rfl
  rw [hlen1] at HLn
  clear b5 ht5 hlen1 HOp HOpe HV4 HW4 HO4 HB4
  go_wp2_with (go_at_call 13; go_must (refine HLn.out.mono ?_))
  rintro e w6 ⟨rfl, rfl⟩
  have HCu := Lib.hid (refcut_any w5 ka ks.length kcap ks (1 + (sp : Int)) HO5.out (by omega) HG.out.size)
  clear hc1 hc2 HLn
  go_wp2_with (go_at_call 14; go_must (refine HCu.out.mono ?_))
  rintro e w6 ⟨b6, bv, rfl, hA6⟩
  have HB6 := Lib.hid (HB5.out.trans (b6.mono HB5.out.size))
  have HO6 := Lib.hid (HO5.out.below' b6)
  have HT6 := Lib.hid (HT5.out.below b6)
  have HA6 := Lib.hid hA6
  have HBk := Lib.hid (blocks_any w6 g _ HT6.out)
  have hspl : (bt ks (1 + (sp : Int)) (bi : Int)).sp.length = (blocksL (1 + (sp : Int)) ks).length := by
    show (spansF 0 (blocksL (1 + (sp : Int)) ks)).length = _
    rw [spansF_length]
  rw [hspl] at HBk
  have hbl := HG.out.blen (1 + (sp : Int))
  have HBt := Lib.hid (fun W (i : Int) ht hs => bt_block HG.out (1 + (sp : Int)) (bi : Int) W g i ht hs)
  obtain ⟨bs, hbs⟩ : ∃ bs, blocksL (1 + (sp : Int)) ks = bs := ⟨_, rfl⟩
  rw [hbs] at HA6 HBk HBt hbl
  obtain ⟨ba, bcap, rfl, hbc1, hbc2⟩ := HA6.out.row
  unfold maxLen at hbc2
  clear b6 hA6 hspl hbs HCu HO5 HT5 HB5
  go_wp2_with (go_at_call 15; go_must (refine HBk.out.mono ?_))
  rintro e w7 ⟨rfl, rfl⟩
  go_wp2
  go_loopw [113] (fun iv wr => TTRel w6 bs.length iv wr) (fun iv _ => bs.length - (intOf iv).toNat)
  case atStart => exact ⟨0, rfl, Nat.zero_le _, Below.refl _ _⟩
  case round =>
    obtain ⟨i, rfl, hib, hb⟩ := hrel
    have HB := Lib.hid hb
    have HBw := Lib.hid (HB6.out.trans (hb.mono HB6.out.size))
    have HT := Lib.hid (HT6.out.below hb)
    have HAr := Lib.hid (HA6.out.below hb)
    clear hb HBk
    by_cases hlt : i < bs.length
    · have hltI : (i : Int) < bs.length := by omega
      obtain ⟨l, hli⟩ : ∃ l, bs[i]? = some l := ⟨bs[i], List.getElem?_eq_getElem hlt⟩
      obtain ⟨g2, off, la, lcap, rfl, hg2, hcx, hrow⟩ := HAr.out.at hli
      have HLi := Lib.hid hli
      have HRow := Lib.hid hrow
      have HBi := Lib.hid (HBt.out wr (i : Int) HT.out (HSt.out.below HBw.out))
      clear hli hrow
      go_wp2_with (go_at_call 16; go_must (refine HBi.out.mono ?_))
      rintro e w8 ⟨b8, hp⟩
      rcases hp with ⟨k, l', hk, hl', v8, rfl, o8⟩ | ⟨hno, _⟩
      case inr => exact absurd hno (by omega)
      obtain rfl : k = i := by omega
      rw [HLi.out] at hl'
      cases hl'
      obtain ⟨p8, c8, rfl, _, _⟩ := (ownsRow.reads o8).le
      have HSm := Lib.hid (sames_any w8 p8 la l.length l.length c8 lcap l l (ownsRow.reads o8) (ownsRow.reads (owns_below HRow.out b8)))
      rw [decide_eq_true rfl] at HSm
      have HB8 := Lib.hid (HB.out.trans (b8.mono HB.out.size))
      clear b8 o8 HBi HRow HLi
      go_wp2_with (go_at_call 17; go_must (refine HSm.out.mono ?_))
      rintro e w9 ⟨rfl, b9⟩
      have HB9 := Lib.hid (HB8.out.trans (b9.mono HB8.out.size))
      clear b9
      go_wp2
      exact ⟨⟨k + 1, by go_num, by omega, HB9.out⟩, by simp [intOf]; omega⟩
    · obtain rfl : i = bs.length := by omega
      have hltI : ¬ (bs.length : Int) < bs.length := by omega
      have HO7 := Lib.hid (HO6.out.below' HB.out)
      have HA7 := Lib.hid (HA.out.below' HBw.out)
      clear HT6 HO6 HA6 HB6 HB HA
      obtain ⟨w7, rfl⟩ : ∃ w7 : World, w7 = wr := ⟨_, rfl⟩
      have hsrc := Reads.src (P := Tryd.prog) (tx := 22) Tryd.underlying22 (HA7.out.alloc (.cells #[] 9)) (scells_one asks)
      have hf0 : (w7.alloc (.cells #[] 9)).ownsRow w7.heap.size 9 1 (.slice (some ⟨w7.heap.size, 0, none⟩) 0 0) 0 [] := World.ownsRow_lit w7 #[] 0 (Nat.le_refl _) (Nat.zero_le _) rfl
      go_wp2_with (at_builtin; go_must (refine wpList_append_owns rfl _ _ 22 22 rfl w7.heap.size 9 i0 (.string ⟨#[]⟩) 1 16 Tryd.underlying22 hi hz0 hz1 hz2 rfl _ _ _ rfl hf0 _ _ _ rfl hsrc ?_ ?_ ?_ ?_))
      · unfold maxLen; omega
      · omega
      intro v8 w8 o8 g8 b8 m8
      have b78 : Below w7.heap.size w7 w8 := ((Below.refl _ _).alloc (Nat.le_refl _) _).trans b8
      have o8' : w8.ownsRow w7.heap.size 9 1 v8 n2 (scells asks) := by simpa using o8
      have hsrc2 := Reads.src (P := Tryd.prog) (tx := 22) Tryd.underlying22 (HO7.out.below' b78) (scells_one ks)
      have HB78 := Lib.hid b78
      have hle8 := b78.size
      clear hsrc hf0 o8 g8 b8 m8 b78
      go_wp2_with (at_builtin; go_must (refine wpList_append_owns rfl _ _ 22 22 rfl w7.heap.size 9 i0 (.string ⟨#[]⟩) 1 16 Tryd.underlying22 hi hz0 hz1 hz2 rfl _ _ _ rfl o8' _ _ _ rfl hsrc2 ?_ ?_ ?_ ?_))
      · unfold maxLen; omega
      · omega
      · exact hle8
      intro v9 w9 o9 g9 b9 m9
      have b79 := HB78.out.trans b9
      have r9 := ownsRow.reads o9
      have HT9 := Lib.hid (HT.out.below b79)
      have HO9 := Lib.hid (HO7.out.below' b79)
      have HB9 := Lib.hid (HBw.out.trans (b79.mono HBw.out.size))
      rw [← scells_append] at r9
      have HR9 := Lib.hid r9
      obtain ⟨vd, vdcap, rfl, _, _⟩ := r9.le
      clear o9 r9 g9 b9 m9 b79 hsrc2 o8' HB78 HT HO7 HA7 HBw hle8 HAr
      generalize asks ++ ks = al at *
      obtain ⟨N, hN⟩ : ∃ N, n2 + ks.length = N := ⟨_, rfl⟩
      have hN4 : N ≤ 400 := by omega
      rw [hN] at HR9 ⊢
      have HSk := Lib.hid (fun W key ht hs => bt_seek HG.out (1 + (sp : Int)) (bi : Int) W g key ht hs)
      have HSq := Lib.hid (fun W key hr => seek11_any W ka ks.length kcap ks key false hr)
      clear hN
      go_wp2
      go_loopw [139] (fun iv wr => TTRel w9 N iv wr) (fun iv _ => N - (intOf iv).toNat)
      case atStart => exact ⟨0, rfl, Nat.zero_le _, Below.refl _ _⟩
      case round =>
        obtain ⟨k, rfl, hk, hb⟩ := hrel
        have HB := Lib.hid hb
        have HBw := Lib.hid (HB9.out.trans (hb.mono HB9.out.size))
        have HT := Lib.hid (HT9.out.below hb)
        clear hb
        by_cases hlt2 : k < N
        · have hkI : (k : Int) < N := by omega
          obtain ⟨b, off, x, rfl, hx, hbk, hc⟩ := (HR9.out.below' HB.out).scell k hlt2
          clear hx
          by_cases hx3 : x.size ≤ 300
          case neg =>
            have hxI : (300 : Int) < x.size := by omega
            go_wp2
            go_ret
            exact ⟨rfl, HBw.out⟩
          have hxI : ¬ (300 : Int) < x.size := by omega
          have HS := Lib.hid (HSk.out wr x HT.out (HSt.out.below HBw.out))
          have HQ := Lib.hid (fun W (b : Below wr.heap.size wr W) => HSq.out W x (HO9.out.below' (HB.out.trans (b.mono HB.out.size))))
          obtain ⟨o, ho⟩ : ∃ o, sk11 ks x false = o := ⟨_, rfl⟩
          rw [ho] at HS
          have HOo := Lib.hid ho
          clear ho
          go_wp2_with (go_at_call 18; go_must (refine HS.out.mono ?_))
          rintro e w10 ⟨rfl, b10⟩
          have HB10 := Lib.hid (HB.out.trans (b10.mono HB.out.size))
          have HQ8 := HQ.out w10 b10
          rw [HOo.out] at HQ8
          have HQ9 := Lib.hid HQ8
          clear b10 HQ8 HQ
          cases o with
          | none =>
            unfold tellS
            go_wp2_with (go_at_call 19; go_must (refine HQ9.out.mono ?_))
            rintro e w11 ⟨rfl, rfl⟩
            unfold sk11V
            go_wp2
            exact ⟨⟨k + 1, by go_num, by omega, HB10.out⟩, by simp [intOf]; omega⟩
          | some y =>
            unfold tellS
            have e4 : (y.toList == y.toList) = true := by simp
            go_wp2_with (go_at_call 19; go_must (refine HQ9.out.mono ?_))
            rintro e w11 ⟨rfl, rfl⟩
            unfold sk11V
            go_wp2
            exact ⟨⟨k + 1, by go_num, by omega, HB10.out⟩, by simp [intOf]; omega⟩
        · obtain rfl : k = N := by omega
          have hkI : ¬ ((k : Int) < k) := by omega
          have HO10 := Lib.hid (HO9.out.below' HB.out)
          clear HT9 HO9 HB9 HB HR9 HSq HSk
          obtain ⟨w10, rfl⟩ : ∃ w10 : World, w10 = wr := ⟨_, rfl⟩
          go_wp2
          go_loopw [174] (fun iv wr => TTRel w10 ks.length iv wr) (fun iv _ => ks.length - (intOf iv).toNat)
          case atStart => exact ⟨0, rfl, Nat.zero_le _, Below.refl _ _⟩
          case round =>
            obtain ⟨j, rfl, hj, hb⟩ := hrel
            have HB := Lib.hid hb
            have HBv := Lib.hid (HBw.out.trans (hb.mono HBw.out.size))
            have HTr := Lib.hid (HT.out.below hb)
            clear hb
            by_cases hlt3 : j < ks.length
            · have hjI : (j : Int) < ks.length := by omega
              obtain ⟨b, off, x, rfl, hx, hbk, hc⟩ := (HO10.out.below' HB.out).scell j hlt3
              have hxs : x.size ≤ 211 := HG.out.small x (List.mem_of_getElem? hx)
              have hmayt := bt_may (1 + (sp : Int)) (bi : Int) (List.mem_of_getElem? hx)
              have hsts : (stemB x).size ≤ 1000000 := by
                unfold stemB
                rw [ByteArray.size_extract]
                omega
              have hfl : (bt ks (1 + (sp : Int)) (bi : Int)).filter.length ≤ 1000000 := by
                show (makeL ((stemsB ks).map fun k => k.data.toList) (bi : Int)).length ≤ 1000000
                have h3 := makeL_length ((stemsB ks).map fun k => k.data.toList) (bi : Int)
                have h4 := sizeOf'_le ((stemsB ks).map fun k => k.data.toList).length (bi : Int)
                have h5 := stemsB_len ks
                rw [List.length_map] at h3 h4
                omega
              have hmy := tmay_any wr g _ (stemB x) HTr.out hsts hfl
              rw [hmayt] at hmy
              have HMy := Lib.hid hmy
              have HRs := Lib.hid (fun W => refstem_any W x (by omega))
              have HSs := Lib.hid (fun W => stem_any W x (by omega))
              clear hx hmayt hsts hfl hmy
              obtain ⟨s, hs⟩ : ∃ s, stemB x = s := ⟨_, rfl⟩
              rw [hs] at HRs HSs HMy
              have e5 : (s.toList == s.toList) = true := by simp
              clear hs
              go_wp2_with (go_at_call 21; go_must (refine (HRs.out _).mono ?_))
              rintro e w11 ⟨rfl, rfl⟩
              go_wp2_with (go_at_call 20; go_must (refine HMy.out.mono ?_))
              rintro e w11 ⟨rfl, b11⟩
              have HB11 := Lib.hid (HB.out.trans (b11.mono HB.out.size))
              clear b11
              go_wp2_with (go_at_call 22; go_must (refine (HSs.out _).mono ?_))
              rintro e w12 ⟨rfl, rfl⟩
              go_wp2_with (go_at_call 21; go_must (refine (HRs.out _).mono ?_))
              rintro e w12 ⟨rfl, rfl⟩
              go_wp2
              exact ⟨⟨j + 1, by go_num, by omega, HB11.out⟩, by simp [intOf]; omega⟩
            · obtain rfl : j = ks.length := by omega
              have hjI : ¬ ((ks.length : Int) < ks.length) := by omega
              have HO11 := Lib.hid (HO10.out.below' HB.out)
              have HA8 := Lib.hid (bt_all HG.out (1 + (sp : Int)) (bi : Int) wr g HTr.out (HSt.out.below HBv.out))
              clear HT HO10 HBw HB
              go_wp2_with (go_at_call 23; go_must (refine HA8.out.mono ?_))
              rintro e w11 ⟨b11, v11, rfl, o11⟩
              have HB11 := Lib.hid (HBv.out.trans (b11.mono HBv.out.size))
              have HT11 := Lib.hid (HTr.out.below b11)
              have HO12 := Lib.hid (HO11.out.below' b11)
              have HV11 := Lib.hid (ownsRow.reads o11)
              have HBi := Lib.hid (HBt.out w11 (bs.length : Int) HT11.out (HSt.out.below HB11.out))
              clear b11 o11 HA8 HTr HO11 HBv
              go_wp2_with (go_at_call 16; go_must (refine HBi.out.mono ?_))
              rintro e w12 ⟨b12, hp⟩
              rcases hp with ⟨k', l', hk', hl', _⟩ | ⟨_, rfl⟩
              case inl =>
                have := (List.getElem?_eq_some_iff.1 hl').1
                omega
              have HB12 := Lib.hid (HB11.out.trans (b12.mono HB11.out.size))
              obtain ⟨pa, pc, rfl, _, _⟩ := HV11.out.le
              have HSm := Lib.hid (sames_any w12 pa ka ks.length ks.length pc kcap ks ks (HV11.out.below' b12) (HO12.out.below' b12))
              rw [decide_eq_true rfl] at HSm
              clear b12 HV11 HO12 HBi HT11 HB11
              go_wp2_with (go_at_call 17; go_must (refine HSm.out.mono ?_))
              rintro e w13 ⟨rfl, b13⟩
              have HB13 := Lib.hid (HB12.out.trans (b13.mono HB12.out.size))
              clear b13
              go_wp2
              go_ret
              exact ⟨rfl, HB13.out⟩
end Go.Proofs.YtfhdonidgegebaaDoor

/- What the listed table of steps gives the walks. -/
namespace Go.Proofs.YtfhdonidgegebaaDoor
open Go Go.ChangeShapes Go.WideShapes Go.ChangeAt Go.WideMaps Go.WideElems Go.RowKit

noncomputable def laidL : List (String × DataW Unit) := [("sentry/frame.steps", Rows.laid_sentry_frame_steps)]

theorem gSteps : Tryd.prog.globalNamed "sentry/frame.steps" = some 0 := by kernel_rfl
theorem tSteps : (Tryd.prog.globals[0]?).map (·.type) = some 125 := by kernel_rfl

theorem steps_door_met (os : Os) (args : Array Value) : laidMetH Tryd.prog laidL ((World.doorLaid Tryd.prog 100 os).forCall (fun _ _ => 0) ⟨#[], args, []⟩).memory :=
  laidMetH_of_parts3 (fuel := 8) (laidMet_of_run' 8 (by kernel_rfl) (by kernel_rfl)) (by kernel_rfl) (by kernel_rfl)

theorem laid_at {H : Type} (l : List (DataW H)) (h : (Rows.laid_sentry_frame_steps : DataW H) = .agg l) (i : Nat) (hi : i < 16) : l[i]? = some (.lit (.int .u32 (stepsT.getD i 0 : Int))) := by
  unfold Rows.laid_sentry_frame_steps at h
  cases h
  have hc : i = 0 ∨ i = 1 ∨ i = 2 ∨ i = 3 ∨ i = 4 ∨ i = 5 ∨ i = 6 ∨ i = 7 ∨ i = 8 ∨ i = 9 ∨ i = 10 ∨ i = 11 ∨ i = 12 ∨ i = 13 ∨ i = 14 ∨ i = 15 := by omega
  rcases hc with rfl | rfl | rfl | rfl | rfl | rfl | rfl | rfl | rfl | rfl | rfl | rfl | rfl | rfl | rfl | rfl <;> rfl

theorem steps_of_laid {W : World} (h : laidMetH Tryd.prog laidL W) : Steps W := by
  rw [MakeChecks.laidMetH_plain _ _ _ (by kernel_rfl)] at h
  obtain ⟨ps, ⟨g0, t0, cs0, f0, p0, q0, hg0, ht0, hv0, hd0, _, _⟩, _⟩ := h
  obtain rfl := Option.some.inj (gSteps.symm.trans hg0)
  obtain rfl := Option.some.inj (tSteps.symm.trans ht0)
  obtain ⟨xs, m1, rfl, hx1, hlen, hn, hel⟩ := DataW.trod_array Tryd.underlying125 hd0
  have c1 : Tryd.prog.cellsOf 97 = 1 := by kernel_rfl
  have c16 : Tryd.prog.cellsOf 125 = 16 := by kernel_rfl
  rw [c16] at hlen
  simp only [Prod.mk.injEq] at hx1
  have hcell : ∀ i, i < 16 → W.cell? ⟨0, i, none⟩ = some (.int .u32 (stepsT.getD i 0 : Int)) := by
    intro i hi
    have h1 := hel i hi
    rw [c1, Nat.mul_one] at h1
    have hxi : xs[i]? = some (xs[i]'(by omega)) := List.getElem?_eq_getElem (by omega)
    rw [hxi] at h1
    have hci : (cs0.toList.drop i).take 1 = [cs0.toList[i]'(by omega)] := by
      rw [List.drop_eq_getElem_cons (by omega)]
      rfl
    rw [hci] at h1
    obtain ⟨k, e1, e2, _⟩ := DataW.trod_int Tryd.underlying97 h1
    have h2 := laid_at (xs.map (·.1)) hx1.1 i hi
    rw [List.getElem?_map, hxi, Option.map_some, e2] at h2
    have hk : k = (stepsT.getD i 0 : Int) := by simpa using h2
    have h3 := World.var?_cell hg0 hv0 i
    rw [h3]
    have h4 : cs0[i]? = some (cs0.toList[i]'(by omega)) := by
      rw [← Array.getElem?_toList, List.getElem?_eq_getElem (by omega)]
    rw [h4]
    simp only [List.cons.injEq, and_true] at e1
    rw [e1, hk]
  exact ⟨World.block_lt_of_cell? _ _ (hcell 0 (by decide)), hcell⟩
end Go.Proofs.YtfhdonidgegebaaDoor

/- A slice that came in, whatever its elements: each is opened by its own theorem. -/
namespace Go.Proofs.YtfhdonidgegebaaDoor
open Go Go.RowKit Go.ChangeShapes Go.WideShapes Go.Deep

section
variable {H : Type} {enc : TypeId × Value → H} {w : World} {base : Nat} {spare : Nat → Bool} {held : Bool}

theorem slice_rows_of {α : Type} [Inhabited α] {t e : TypeId} {s fuel : Nat} {v : Value} {y : DataW H × List MemPlace} (f : α → List Value) (Q : α → Prop) (ht : Tryd.prog.underlying t = some (.slice e)) (hC : Tryd.prog.cellsOf e = s) (hs : 0 < s) (hf : ∀ x, (f x).length = s)
    (hopen : ∀ n cs y, cs.length = s → DataW.trod enc Tryd.prog w base spare held n e cs = some y → ∃ x, cs = f x ∧ Q x)
    (hfu : DataW.trod enc Tryd.prog w base spare held fuel t [v] = some y) :
    ∃ a len cap, ∃ l : List α, v = .slice a len cap ∧ len ≤ cap ∧ cap ≤ maxLen ∧ l.length = len ∧ (∀ x ∈ l, Q x) ∧ Reads w s (.slice a len cap) len (l.flatMap f) := by
  rcases open_slice ht hfu with ⟨hcs, _⟩ | ⟨x, len, cap, m, n, D, Pl, hcs, _, hl, hm, hmm, _, hx⟩
  · simp at hcs
    subst hcs
    exact ⟨none, 0, 0, [], rfl, Nat.le_refl _, Nat.zero_le _, rfl, fun x hx => (by simp at hx), ⟨by simp, none, 0, rfl, Nat.le_refl _, Nat.zero_le _, fun j u hj => by simp at hj⟩⟩
  · simp at hcs
    subst hcs
    have hlm : len ≤ m := by
      rw [hmm]
      split <;> omega
    have hgs : 0 < len → x.spot = none := by
      intro h0
      obtain ⟨cs0, hc0, _⟩ := hx 0 (by omega)
      rw [hC] at hc0
      obtain ⟨_, hl0, ha0⟩ := World.cells?_some hc0
      have h1 := ha0 0 hs
      rw [List.getElem?_eq_getElem (by omega)] at h1
      have h2 : w.cell? x = some (cs0[0]'(by omega)) := by simpa [Addr.add] using h1
      exact World.cell?_spot h2
    have hall : ∀ i, i < len → ∃ y : α, Q y ∧ ∀ j u, (f y)[j]? = some u → w.cell? (x.add (i * s + j)) = some u := by
      intro i hi
      obtain ⟨cs, hc, htr⟩ := hx i (by omega)
      rw [hC] at hc
      obtain ⟨_, hlen, hat⟩ := World.cells?_some hc
      obtain ⟨y, rfl, hq⟩ := hopen _ _ _ hlen htr
      refine ⟨y, hq, fun j u hj => ?_⟩
      have hjs : j < s := by
        have := (List.getElem?_eq_some_iff.1 hj).1
        rw [hf] at this
        exact this
      have h1 := hat j hjs
      rw [hj] at h1
      rw [← h1]
      have hsp := hgs (by omega)
      obtain ⟨b, off, sp⟩ := x
      simp at hsp
      subst hsp
      rw [Addr.add_lit, Addr.add_lit, Addr.add_lit, Nat.add_assoc]
    obtain ⟨X, hX⟩ := choose_lt (α := α) (p := fun i y => Q y ∧ ∀ j u, (f y)[j]? = some u → w.cell? (x.add (i * s + j)) = some u) hall
    refine ⟨some x, len, cap, (List.range len).map X, rfl, hl, hm, by simp, fun y hy => ?_, ?_⟩
    · obtain ⟨i, hi, rfl⟩ := List.mem_map.1 hy
      exact (hX i (List.mem_range.1 hi)).1
    · refine ⟨by rw [flat_length f s hf]; simp, some x, cap, rfl, hl, hm, fun j u hj => ?_⟩
      have hjl := (List.getElem?_eq_some_iff.1 hj).1
      rw [flat_length f s hf, List.length_map, List.length_range] at hjl
      have hi : j / s < len := Nat.div_lt_of_lt_mul (by rw [Nat.mul_comm]; exact hjl)
      have hr : j % s < s := Nat.mod_lt _ hs
      have hjj : j / s * s + j % s = j := by rw [Nat.mul_comm]; exact Nat.div_add_mod j s
      have hg : ((List.range len).map X)[j / s]? = some (X (j / s)) := by simp [hi]
      have h1 := flat_cell f s hf _ _ _ hg (j % s) hr
      rw [hjj, hj] at h1
      have h2 := (hX _ hi).2 (j % s) u h1.symm
      rw [hjj] at h2
      have hspot := hgs (Nat.lt_of_le_of_lt (Nat.zero_le _) hi)
      obtain ⟨b, off, sp⟩ := x
      simp at hspot
      subst hspot
      rw [Addr.add_lit] at h2
      exact ⟨b, off, rfl, World.block_lt_of_cell? _ _ h2, h2⟩

set_option maxRecDepth 100000 in
theorem slice_rows {α : Type} [Inhabited α] {t e : TypeId} {r : Reach} {b0 s : Nat} {v : Value} {d : DataW H} {p : List MemPlace} (f : α → List Value) (Q : α → Prop) (ht : Tryd.prog.underlying t = some (.slice e)) (hC : Tryd.prog.cellsOf e = s) (hs : 0 < s) (hf : ∀ x, (f x).length = s)
    (hopen : ∀ n cs y, cs.length = s → DataW.trod enc Tryd.prog w base spare held n e cs = some y → ∃ x, cs = f x ∧ Q x)
    (hv : Value.okWide Tryd.prog w r b0 t v) (h : DataW.Trod enc Tryd.prog w base spare held t v d p) :
    ∃ a len cap, ∃ l : List α, v = .slice a len cap ∧ len ≤ cap ∧ cap ≤ maxLen ∧ l.length = len ∧ (∀ x ∈ l, Q x) ∧ Reads w s (.slice a len cap) len (l.flatMap f) := by
  obtain ⟨a, len, cap, rfl⟩ := okWide_slice ht hv
  obtain ⟨fuel, hfu⟩ := h
  exact slice_rows_of f Q ht hC hs hf hopen hfu
end
end Go.Proofs.YtfhdonidgegebaaDoor

/- A slice that came in, with what the form's reach says of its elements' sizes. -/
namespace Go.Proofs.YtfhdonidgegebaaDoor
open Go Go.RowKit Go.ChangeShapes Go.WideShapes Go.Deep

section
variable {H : Type} {enc : TypeId × Value → H} {w : World} {base : Nat} {spare : Nat → Bool} {held : Bool}

/-- No weight of a datum is beyond the reach. -/
def WOk (t : TypeId) (d : DataW H) : Prop := (d.weights Tryd.prog t).all (· ≤ reachBytes) = true

theorem wok_all {e : TypeId} : ∀ (l : List (DataW H)), (DataW.weightsAll Tryd.prog e l).all (· ≤ reachBytes) = true → ∀ d ∈ l, WOk e d
  | [], _, d, hd => by cases hd
  | x :: r, h, d, hd => by
    rw [DataW.weightsAll, List.all_append, Bool.and_eq_true] at h
    rcases List.mem_cons.1 hd with rfl | hd
    · exact h.1
    · exact wok_all r h.2 d hd

theorem wok_slice {t e : TypeId} {elems rest : List (DataW H)} (ht : Tryd.prog.underlying t = some (.slice e)) (h : WOk t (DataW.slice elems rest)) :
    (elems.length + rest.length) * Tryd.prog.bytesOf e ≤ reachBytes ∧ ∀ d ∈ elems, WOk e d := by
  unfold WOk at h
  rw [DataW.weights, ht] at h
  simp only [List.all_cons, List.all_append, Bool.and_eq_true, decide_eq_true_eq] at h
  exact ⟨h.1, wok_all _ h.2.1⟩

theorem wok_arg : ∀ (ts : List TypeId) (ds : List (DataW H)) (j : Nat) (t : TypeId) (d : DataW H), (DataW.weightsEach Tryd.prog ts ds).all (· ≤ reachBytes) = true → ts[j]? = some t → ds[j]? = some d → WOk t d
  | [], _, j, _, _, _, h, _ => by simp at h
  | _ :: _, [], j, _, _, _, _, h => by simp at h
  | t0 :: ts, d0 :: ds, 0, t, d, h, ht, hd => by
    rw [DataW.weightsEach, List.all_append, Bool.and_eq_true] at h
    simp at ht hd
    subst ht
    subst hd
    exact h.1
  | t0 :: ts, d0 :: ds, j + 1, t, d, h, ht, hd => by
    rw [DataW.weightsEach, List.all_append, Bool.and_eq_true] at h
    exact wok_arg ts ds j t d h.2 (by simpa using ht) (by simpa using hd)

theorem slice_rows_sized {α : Type} [Inhabited α] {t e : TypeId} {s fuel : Nat} {v : Value} {y : DataW H × List MemPlace} (f : α → List Value) (Q : α → Prop) (ht : Tryd.prog.underlying t = some (.slice e)) (hC : Tryd.prog.cellsOf e = s) (hs : 0 < s) (hf : ∀ x, (f x).length = s)
    (hopen : ∀ n cs y, cs.length = s → DataW.trod enc Tryd.prog w base spare held n e cs = some y → WOk e y.1 → ∃ x, cs = f x ∧ Q x)
    (hfu : DataW.trod enc Tryd.prog w base spare held fuel t [v] = some y) (hz : WOk t y.1) :
    ∃ a len cap, ∃ l : List α, v = .slice a len cap ∧ len ≤ cap ∧ cap ≤ maxLen ∧ l.length = len ∧ (∀ x ∈ l, Q x) ∧ Reads w s (.slice a len cap) len (l.flatMap f) ∧ len * Tryd.prog.bytesOf e ≤ reachBytes := by
  rcases open_slice ht hfu with ⟨hcs, _⟩ | ⟨x, len, cap, m, n, D, Pl, hcs, _, hl, hm, hmm, hy, hx⟩
  · simp at hcs
    subst hcs
    exact ⟨none, 0, 0, [], rfl, Nat.le_refl _, Nat.zero_le _, rfl, fun x hx => (by simp at hx), ⟨by simp, none, 0, rfl, Nat.le_refl _, Nat.zero_le _, fun j u hj => by simp at hj⟩, by simp⟩
  · simp at hcs
    subst hcs
    rw [hy] at hz
    obtain ⟨hz1, hz2⟩ := wok_slice ht hz
    have hlm : len ≤ m := by
      rw [hmm]
      split <;> omega
    have hgs : 0 < len → x.spot = none := by
      intro h0
      obtain ⟨cs0, hc0, _⟩ := hx 0 (by omega)
      rw [hC] at hc0
      obtain ⟨_, hl0, ha0⟩ := World.cells?_some hc0
      have h1 := ha0 0 hs
      rw [List.getElem?_eq_getElem (by omega)] at h1
      have h2 : w.cell? x = some (cs0[0]'(by omega)) := by simpa [Addr.add] using h1
      exact World.cell?_spot h2
    have hall : ∀ i, i < len → ∃ y : α, Q y ∧ ∀ j u, (f y)[j]? = some u → w.cell? (x.add (i * s + j)) = some u := by
      intro i hi
      obtain ⟨cs, hc, htr⟩ := hx i (by omega)
      rw [hC] at hc
      obtain ⟨_, hlen, hat⟩ := World.cells?_some hc
      obtain ⟨y, rfl, hq⟩ := hopen _ _ _ hlen htr (hz2 _ (List.mem_map.2 ⟨i, List.mem_range.2 hi, rfl⟩))
      refine ⟨y, hq, fun j u hj => ?_⟩
      have hjs : j < s := by
        have := (List.getElem?_eq_some_iff.1 hj).1
        rw [hf] at this
        exact this
      have h1 := hat j hjs
      rw [hj] at h1
      rw [← h1]
      have hsp := hgs (by omega)
      obtain ⟨b, off, sp⟩ := x
      simp at hsp
      subst hsp
      rw [Addr.add_lit, Addr.add_lit, Addr.add_lit, Nat.add_assoc]
    obtain ⟨X, hX⟩ := choose_lt (α := α) (p := fun i y => Q y ∧ ∀ j u, (f y)[j]? = some u → w.cell? (x.add (i * s + j)) = some u) hall
    refine ⟨some x, len, cap, (List.range len).map X, rfl, hl, hm, by simp, fun y hy => ?_, ?_, ?_⟩
    · obtain ⟨i, hi, rfl⟩ := List.mem_map.1 hy
      exact (hX i (List.mem_range.1 hi)).1
    · refine ⟨by rw [flat_length f s hf]; simp, some x, cap, rfl, hl, hm, fun j u hj => ?_⟩
      have hjl := (List.getElem?_eq_some_iff.1 hj).1
      rw [flat_length f s hf, List.length_map, List.length_range] at hjl
      have hi : j / s < len := Nat.div_lt_of_lt_mul (by rw [Nat.mul_comm]; exact hjl)
      have hr : j % s < s := Nat.mod_lt _ hs
      have hjj : j / s * s + j % s = j := by rw [Nat.mul_comm]; exact Nat.div_add_mod j s
      have hg : ((List.range len).map X)[j / s]? = some (X (j / s)) := by simp [hi]
      have h1 := flat_cell f s hf _ _ _ hg (j % s) hr
      rw [hjj, hj] at h1
      have h2 := (hX _ hi).2 (j % s) u h1.symm
      rw [hjj] at h2
      have hspot := hgs (Nat.lt_of_le_of_lt (Nat.zero_le _) hi)
      obtain ⟨b, off, sp⟩ := x
      simp at hspot
      subst hspot
      rw [Addr.add_lit] at h2
      exact ⟨b, off, rfl, World.block_lt_of_cell? _ _ h2, h2⟩
    · simp only [List.length_map, List.length_range] at hz1
      exact Nat.le_trans (Nat.mul_le_mul_right _ (Nat.le_add_right _ _)) hz1
end
end Go.Proofs.YtfhdonidgegebaaDoor

/- Single cells that came in. -/
namespace Go.Proofs.YtfhdonidgegebaaDoor
open Go Go.RowKit Go.Joins Go.WideShapes Go.ChangeShapes Go.ChangeAt Go.Deep

section
variable {H : Type} {enc : TypeId × Value → H} {w : World} {base : Nat} {spare : Nat → Bool} {held : Bool}

theorem one_string {n : Nat} {c : Value} {y : DataW H × List MemPlace} (h : DataW.trod enc Tryd.prog w base spare held n 9 [c] = some y) : ∃ s : ByteArray, c = .string s ∧ s.size ≤ maxLen := by
  obtain ⟨s, e, _, hs⟩ := DataW.trod_string Tryd.underlying9 h
  simp only [List.cons.injEq, and_true] at e
  exact ⟨s, e, hs⟩

theorem one_bool {n : Nat} {c : Value} {y : DataW H × List MemPlace} (h : DataW.trod enc Tryd.prog w base spare held n 4 [c] = some y) : ∃ b : Bool, c = .bool b := by
  obtain ⟨b, e, _⟩ := DataW.trod_bool Tryd.underlying4 h
  simp only [List.cons.injEq, and_true] at e
  exact ⟨b, e⟩

theorem one_u64 {n : Nat} {c : Value} {y : DataW H × List MemPlace} (h : DataW.trod enc Tryd.prog w base spare held n 55 [c] = some y) : ∃ m : Nat, c = .int .u64 (m : Int) ∧ m < 18446744073709551616 := by
  obtain ⟨k, e, _, hw⟩ := DataW.trod_int Tryd.underlying55 h
  simp only [List.cons.injEq, and_true] at e
  have bd : 0 ≤ k ∧ k ≤ 18446744073709551615 := by simpa [Lit.wf, IntKind.min, IntKind.max, IntKind.signed, IntKind.bits] using hw
  obtain ⟨m, rfl⟩ := Int.eq_ofNat_of_zero_le bd.1
  exact ⟨m, e, by omega⟩
end
end Go.Proofs.YtfhdonidgegebaaDoor

/- Entries that came in. -/
namespace Go.Proofs.YtfhdonidgegebaaDoor
open Go Go.RowKit Go.Joins Go.WideShapes Go.ChangeShapes Go.ChangeAt Go.Deep

section
variable {H : Type} {enc : TypeId × Value → H} {w : World} {base : Nat} {spare : Nat → Bool} {held : Bool}

set_option maxRecDepth 100000 in
theorem ent_one {n : Nat} {cs : List Value} {y : DataW H × List MemPlace} (hl : cs.length = 3) (ht : DataW.trod enc Tryd.prog w base spare held n 57 cs = some y) : ∃ x : Ent, cs = ecell x ∧ x.key.size ≤ maxLen ∧ x.rev < 18446744073709551616 := by
  have k1 : Tryd.prog.cellsOf 55 = 1 := by kernel_rfl
  have kt : Tryd.prog.cellsOf 9 = 1 := by kernel_rfl
  have kb : Tryd.prog.cellsOf 4 = 1 := by kernel_rfl
  obtain ⟨y0, y1, y2, m, _, _, h0, h1, h2⟩ := trod_struct3 Tryd.underlying57 ht
  match cs, hl with
  | [d0, d1, d2], _ =>
    rw [kt] at h0
    rw [k1] at h1
    rw [kb] at h2
    simp at h0 h1 h2
    obtain ⟨s, rfl, hs⟩ := one_string h0
    obtain ⟨m, rfl, hm⟩ := one_u64 h1
    obtain ⟨b, rfl⟩ := one_bool h2
    exact ⟨⟨s, m, b⟩, rfl, hs, hm⟩

set_option maxRecDepth 100000 in
theorem ents_open {r : Reach} {b0 : Nat} {v : Value} {d : DataW H} {p : List MemPlace} (hv : Value.okWide Tryd.prog w r b0 29 v) (h : DataW.Trod enc Tryd.prog w base spare held 29 v d p) :
    ∃ a len cap, ∃ l : List Ent, v = .slice a len cap ∧ len ≤ cap ∧ cap ≤ maxLen ∧ l.length = len ∧ (∀ x ∈ l, x.key.size ≤ maxLen ∧ x.rev < 18446744073709551616) ∧ Reads w 3 (.slice a len cap) len (ecells l) := by
  have : Inhabited Ent := ⟨⟨⟨#[]⟩, 0, false⟩⟩
  exact slice_rows ecell (fun x => x.key.size ≤ maxLen ∧ x.rev < 18446744073709551616) Tryd.underlying29 (by kernel_rfl) (by decide) ecell_length (fun n cs y hl ht => ent_one hl ht) hv h
end
end Go.Proofs.YtfhdonidgegebaaDoor

/- Entries that came in, with the bound of their sizes. -/
namespace Go.Proofs.YtfhdonidgegebaaDoor
open Go Go.RowKit Go.Joins Go.WideShapes Go.ChangeShapes Go.ChangeAt Go.Deep

section
variable {H : Type} {enc : TypeId × Value → H} {w : World} {base : Nat} {spare : Nat → Bool} {held : Bool}

set_option maxRecDepth 100000 in
theorem ents_open_sized {r : Reach} {b0 : Nat} {v : Value} {d : DataW H} {p : List MemPlace} (hv : Value.okWide Tryd.prog w r b0 29 v) (h : DataW.Trod enc Tryd.prog w base spare held 29 v d p) (hz : WOk 29 d) :
    ∃ a len cap, ∃ l : List Ent, v = .slice a len cap ∧ l.length = len ∧ len ≤ 5000000000000 ∧ (∀ x ∈ l, x.key.size ≤ maxLen ∧ x.rev < 18446744073709551616) ∧ Reads w 3 (.slice a len cap) len (ecells l) := by
  have : Inhabited Ent := ⟨⟨⟨#[]⟩, 0, false⟩⟩
  have kb : Tryd.prog.bytesOf 57 = 32 := by kernel_rfl
  obtain ⟨a', len', cap', rfl⟩ := okWide_slice Tryd.underlying29 hv
  obtain ⟨fuel, hf⟩ := h
  obtain ⟨a, len, cap, l, hv', _, _, hn, hq, hr, hb⟩ := slice_rows_sized (y := (d, p)) ecell (fun x => x.key.size ≤ maxLen ∧ x.rev < 18446744073709551616) Tryd.underlying29 (by kernel_rfl) (by decide) ecell_length (fun n cs y hl ht _ => ent_one hl ht) hf hz
  rw [kb] at hb
  have h32 : len * 32 ≤ 140737488355328 := Nat.le_trans hb (by decide)
  cases hv'
  exact ⟨_, _, _, l, rfl, hn, by omega, hq, hr⟩
end
end Go.Proofs.YtfhdonidgegebaaDoor

namespace Go.Proofs.YtfhdonidgegebaaDoor
open Go Go.RowKit Go.Deep

/-- What a slice of strings that came in reads as. -/
theorem strs_reads {H : Type} {enc : TypeId × Value → H} {P : Program} {W : World} {base : Nat} {spare : Nat → Bool} {held : Bool} {t e : TypeId} {fuel : Nat} {a : Option Addr} {len cap : Nat} {x : DataW H × List MemPlace}
    (ht : P.underlying t = some (.slice e)) (he : P.underlying e = some .string) (hc : P.cellsOf e = 1) (h : DataW.trod enc P W base spare held fuel t (Value.slice a len cap).cells.toList = some x) :
    ∃ ks, Reads W 1 (.slice a len cap) len (scells ks) := by
  have e0 : (Value.slice a len cap).cells.toList = [.slice a len cap] := rfl
  rw [e0] at h
  rcases open_strs ht he hc h with ⟨hcs, _⟩ | ⟨ad, l, c, m, Sx, hcs, _, hl, hm, hmm, _, hcell⟩
  · simp at hcs
    obtain ⟨rfl, rfl, rfl⟩ := hcs
    exact ⟨[], by simp [scells], none, 0, rfl, Nat.le_refl _, Nat.zero_le _, fun j u h => by simp [scells] at h⟩
  · simp at hcs
    obtain ⟨rfl, rfl, rfl⟩ := hcs
    have hlm : len ≤ m := by rw [hmm]; split <;> omega
    refine ⟨(List.range len).map Sx, by simp [scells], some ad, cap, rfl, hl, hm, fun j u hj => ?_⟩
    obtain ⟨hjl, hju⟩ := List.getElem?_eq_some_iff.1 hj
    simp [scells] at hjl hju
    subst hju
    have hcj := (hcell j (by omega)).1
    obtain ⟨b, off, spot⟩ := ad
    have hspot : spot = none := by
      have h0 := (hcell 0 (by omega)).1
      simpa [Addr.add] using World.cell?_spot h0
    subst hspot
    rw [Addr.add_lit] at hcj
    exact ⟨b, off, rfl, World.block_lt_of_cell? _ _ hcj, hcj⟩
end Go.Proofs.YtfhdonidgegebaaDoor
