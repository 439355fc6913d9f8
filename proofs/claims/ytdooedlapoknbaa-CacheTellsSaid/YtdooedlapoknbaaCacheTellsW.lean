/- The law CacheTells. -/
import Derived.Test.YtdooedlapoknbaaCacheTellsM
namespace Go.Proofs.Ytdooedlapoknbaa
open Go Go.RowKit Go.Maps

set_option maxRecDepth 100000 in
set_option maxHeartbeats 1500000 in
theorem cacheTells_walk (w : World) (room : Nat) (a : Option Addr) (len cap : Nat) (l : List CAct) (hroom : room < 65536) (h : CActsAt w a len cap l) (hl : len ≤ maxLen) :
    Calls Try.prog 4 #[.int .u16 (room : Int), .slice a len cap] w (SaysTrue w) := by
  have hfewc := fun w' (hb : Below w.heap.size w w') => few_any w' a len cap l (h.below hb) hl
  have hlen := h.1
  have HF := Lib.hid hfewc
  have HA := Lib.hid h
  have HL := Lib.hid hlen
  clear hfewc h hlen
  go_enter Try.func4, Try.ntmps4
  go_wp2_with (go_at_call 6; go_must (refine (fixed_any _).mono ?_))
  rintro e w1 ⟨rfl, b1⟩
  have B1 := Lib.hid b1
  clear b1
  go_wp2_with (go_at_call 12; go_must (refine (HF.out _ B1.out).mono ?_))
  rintro e w2 ⟨rfl, b2⟩
  have B2 := Lib.hid (B1.out.trans (b2.mono B1.out.size))
  clear b2 B1 HF
  by_cases hfew : fewC l = true
  case neg =>
    rw [Bool.not_eq_true] at hfew
    rw [hfew]
    go_wp2
    go_ret
    exact ⟨rfl, B2.out⟩
  rw [hfew]
  have hlen := (fewC_of hfew).1
  rw [HL.out] at hlen
  clear hl
  go_wp2_with (go_at_call 13; go_must (refine (cnew_any _ (room : Int)).mono ?_))
  rintro e w3 ⟨c, rfl, hca, b3⟩
  have hca := hca anyG
  rw [show ((room : Int)).toNat = room by omega] at hca
  have HCA := Lib.hid hca
  have HBlo : Hid (w.heap.size ≤ w2.heap.size) := Lib.hid B2.out.size
  have B3 := Lib.hid (B2.out.trans (b3.mono B2.out.size))
  clear hca b3 B2
  obtain ⟨B, hB⟩ : ∃ B, B = w2.heap.size := ⟨_, rfl⟩
  rw [← hB] at HCA HBlo
  clear hB
  go_wp2
  go_loopw [22] (fun i wr => TellsRel w l B c room i wr) (fun i _ => len - (intOf i).toNat)
  case atStart => exact ⟨0, [], rfl, Nat.zero_le _, HCA.out, ⟨fun p hp => by simp at hp, Nat.zero_le _⟩, B3.out⟩
  case round =>
    obtain ⟨k, E, rfl, hk, hca, hinv, hbl⟩ := hrel
    rw [HL.out] at hk
    clear HCA B3
    by_cases hlt : k < len
    · obtain ⟨x, hx⟩ : ∃ x, l[k]? = some x := ⟨_, List.getElem?_eq_getElem (by rw [HL.out]; exact hlt)⟩
      obtain ⟨hfit, g, off, rfl, hg, c0, c1, c2, c3⟩ := (HA.out.below hbl).at hx
      have hxf := (fewC_of hfew).2 x (List.mem_of_getElem? hx)
      have HFit := Lib.hid hfit
      have hkx : x.k < 256 := hfit.1
      have ba := (Below.refl wr.heap.size wr).alloc (Nat.le_refl _) (.cells #[.int .u8 (x.k : Int), .int .i64 x.f, .int .i64 x.b, .slice x.a x.ks.length x.cap] 36)
      have HAct := Lib.hid (heap_alloc_new wr (.cells #[.int .u8 (x.k : Int), .int .i64 x.f, .int .i64 x.b, .slice x.a x.ks.length x.cap] 36))
      have HB1 := Lib.hid (hbl.trans (ba.mono hbl.size))
      have HCA0 := Lib.hid (hca.fresh ba)
      have hkI : (k : Int) < len := by omega
      by_cases hp : x.k % 3 = 0
      · have hpI : ((x.k : Int) % 3 == 0) = true := by simp; omega
        have HInv := Lib.hid (hinv.put hx hp)
        have hfw := hinv.few hfew hroom
        have HPut := Lib.hid (put_any _ B c room E x.f x.b x.a x.ks.length x.cap x.ks hfit.2.1 hfit.2.2.1 (hfit.2.2.2.2.below' ba) HCA0.out (by omega) (by omega) hfw.2.1)
        clear hfw hinv hca hbl ba hx hfit hp HCA0
        go_wp2_with (go_at_call 7; go_must (refine HPut.out.mono ?_))
        rintro e w4 ⟨rfl, hca, hcf⟩
        have HCA := Lib.hid (hca.weak (G' := anyG) (fun _ _ => trivial))
        have HAct := Lib.hid (hcf.keep _ _ _ _ HAct.out (by decide) (by decide))
        have HB1 := Lib.hid (HB1.out.trans (hcf.below.mono HBlo.out))
        clear hca hcf HPut c0 c1 c2 c3 hg
        generalize wr.heap.size = g7 at *
        generalize putE room E x.f x.b x.ks = E1 at *
        obtain ⟨w1, hw1⟩ : ∃ W, W = w4 := ⟨_, rfl⟩
        subst hw1
        have HU : Hid (Calls Try.prog 11 #[.pointer (some ⟨c, 0, none⟩)] w1 (SameEnd w1 (.int .i64 (usedE E1 : Int)))) := Lib.hid ((used_any w1 B c room E1 HCA.out).mono fun _ _ h => ⟨h.1, h.2.symm⟩)
        have hfw := HInv.out.few hfew hroom
        have HG := Lib.hid (get_any w1 B c room E1 x.f x.b HFit.out.2.1 HFit.out.2.2.1 HCA.out hfw.2.2)
        have hle : ¬ ((room : Int) < (usedE E1 : Int)) := by have := HInv.out.2; omega
        have d1 := Lib.cell_of_heap HAct.out 1
        have d2 := Lib.cell_of_heap HAct.out 2
        simp at d1 d2
        have hglt : g7 < w1.heap.size := (Array.getElem?_eq_some_iff.1 HAct.out).1
        clear hfw
        go_wp2_with (go_at_call 11; go_must (refine HU.out.mono ?_))
        rintro e w2 ⟨rfl, rfl⟩
        go_wp2_with (go_at_call 9; go_must (refine HG.out.mono ?_))
        rintro e w2 hg
        rcases hg with ⟨ks, v, hm, rfl, hv, hca, hcf⟩ | ⟨_, rfl, rfl⟩
        case inr =>
          clear HU HG
          go_wp2
          exact ⟨⟨k + 1, E1, by go_num, by rw [HL.out]; omega, HCA.out, HInv.out, HB1.out⟩, by simp [intOf]; omega⟩
        have HInv2 := Lib.hid (HInv.out.got hm)
        have hlast := HInv.out.1 _ hm
        have HCA2 := Lib.hid hca
        obtain ⟨va, vcap, rfl, hvr, _⟩ := hv
        have hact2 := hcf.keep g7 _ _ _ HAct.out (by decide) (by decide)
        have d1 := Lib.cell_of_heap hact2 1
        have d2 := Lib.cell_of_heap hact2 2
        simp at d1 d2
        have hglt : g7 < w2.heap.size := (Array.getElem?_eq_some_iff.1 hact2).1
        have HB2 := Lib.hid (HB1.out.trans (hcf.below.mono HBlo.out))
        have HVr := Lib.hid hvr
        have HLast := Lib.hid hlast
        have HAct2 := Lib.hid hact2
        clear hm hca hcf hvr hlast hact2 HU HG HCA HInv HB1 hle
        go_wp2
        go_loopw [10, 11] (fun t n wi => BackRel w2 l (k + 1) x.f x.b ks t n wi) (fun t n _ => (intOf n + 1).toNat)
        case atStart => exact ⟨false, k + 1, rfl, by simp, Nat.le_refl _, fun _ => HLast.out, Below.refl _ _⟩
        case round =>
          obtain ⟨t, m, rfl, rfl, hm, hlp, hbi⟩ := hrel
          have HBi := Lib.hid hbi
          have HLp := Lib.hid hlp
          have hacti := (hbi.block g7 hglt).trans HAct2.out
          have e1 := Lib.cell_of_heap hacti 1
          have e2 := Lib.cell_of_heap hacti 2
          simp at e1 e2
          have hgi : g7 < wr.heap.size := (Array.getElem?_eq_some_iff.1 hacti).1
          clear hbi hlp hacti d1 d2 hglt
          have hmI : (m : Int) ≤ k + 1 := by omega
          cases t with
          | true =>
            by_cases h0 : 0 ≤ (m : Int) - 1
            · go_wp2
              exact ⟨⟨k + 1, _, by go_num, by rw [HL.out]; omega, HCA2.out.fresh HBi.out, HInv2.out, HB2.out.trans (HBi.out.mono HB2.out.size)⟩, by simp [intOf]; omega⟩
            · go_wp2
              exact ⟨⟨k + 1, _, by go_num, by rw [HL.out]; omega, HCA2.out.fresh HBi.out, HInv2.out, HB2.out.trans (HBi.out.mono HB2.out.size)⟩, by simp [intOf]; omega⟩
          | false =>
            cases m with
            | zero => exact absurd (HLp.out rfl) (by simp [lastPut])
            | succ m =>
              obtain ⟨y, hy⟩ : ∃ y, l[m]? = some y := ⟨_, List.getElem?_eq_getElem (by rw [HL.out]; omega)⟩
              have hlp := HLp.out rfl
              rw [lastPut_succ hy] at hlp
              have hba := HB2.out.trans (HBi.out.mono HB2.out.size)
              obtain ⟨hyf, g2, off2, hga, hg2, y0, y1, y2, y3⟩ := (HA.out.below hba).at hy
              cases hga
              have hmm : ((m + 1 : Nat) : Int) - 1 = (m : Int) := by omega
              have hmlt : (m : Int) < len := by omega
              have hky : y.k < 256 := hyf.1
              have HLp2 := Lib.hid hlp
              have HYr := Lib.hid hyf.2.2.2.2
              have HBa := Lib.hid hba
              rw [hmm]
              clear hlp HLp hyf hba hmI
              by_cases hk0 : y.k % 3 = 0
              · have hk0I : ((y.k : Int) % 3 == 0) = true := by simp; omega
                by_cases hf0 : y.f = x.f
                · have hf0I : (y.f == x.f) = true := by simp [hf0]
                  by_cases hb0 : y.b = x.b
                  · have hb0I : (y.b == x.b) = true := by simp [hb0]
                    have hks : y.ks = ks := by
                      have := HLp2.out
                      rw [show hits x.f x.b y = true by unfold hits; simp [hk0, hf0, hb0]] at this
                      simpa using this
                    go_wp2
                    go_quiet (fail)
                    have hbq : Below wr.heap.size wr (wr.drewN nq) := below_quiet (Below.refl _ _) nq
                    have hsm := sames_any (wr.drewN nq) y.a va y.ks.length ks.length y.cap vcap y.ks ks (HYr.out.below' hbq) ((HVr.out.below' HBi.out).below' hbq)
                    rw [decide_eq_true hks] at hsm
                    have HSm := Lib.hid hsm
                    have HBq := Lib.hid hbq
                    have y5 : (wr.drewN nq).cell? ⟨g, off + m * 4 + 3, none⟩ = some (.slice y.a y.ks.length y.cap) := y3
                    have hg5 : g < (wr.drewN nq).heap.size := hg2
                    clear hsm hbq hks
                    generalize wr.drewN nq = w5 at *
                    go_wp2_with (go_at_call 14; go_must (refine HSm.out.mono ?_))
                    rintro e w6 ⟨rfl, b6⟩
                    have hs1 : w2.heap.size ≤ wr.heap.size := HBi.out.size
                    have hs2 : w2.heap.size ≤ w5.heap.size := Nat.le_trans hs1 HBq.out.size
                    have hb5 : Below w2.heap.size wr w5 := HBq.out.mono hs1
                    have hb6 : Below w2.heap.size w5 w6 := b6.mono hs2
                    have HB6 := Lib.hid (HBi.out.trans (hb5.trans hb6))
                    clear b6 hb5 hb6 hs1 hs2
                    go_wp2
                    exact ⟨⟨true, m, rfl, rfl, by omega, fun h => (by cases h), HB6.out⟩, by simp [intOf]⟩
                  · have hb0I : (y.b == x.b) = false := by simp [hb0]
                    have hno : hits x.f x.b y = false := by unfold hits; simp [hb0]
                    rw [hno] at HLp2
                    clear hno
                    go_wp2
                    go_quiet (fail)
                    go_wp2
                    exact ⟨⟨false, m, rfl, rfl, by omega, fun _ => HLp2.out, below_quiet HBi.out nq⟩, by simp [intOf]⟩
                · have hf0I : (y.f == x.f) = false := by simp [hf0]
                  have hno : hits x.f x.b y = false := by unfold hits; simp [hf0]
                  rw [hno] at HLp2
                  clear hno
                  go_wp2
                  go_quiet (fail)
                  go_wp2
                  exact ⟨⟨false, m, rfl, rfl, by omega, fun _ => HLp2.out, below_quiet HBi.out nq⟩, by simp [intOf]⟩
              · have hk0I : ((y.k : Int) % 3 == 0) = false := by simp; omega
                have hno : hits x.f x.b y = false := by unfold hits; simp [hk0]
                rw [hno] at HLp2
                clear hno
                go_wp2
                go_quiet (fail)
                go_wp2
                exact ⟨⟨false, m, rfl, rfl, by omega, fun _ => HLp2.out, below_quiet HBi.out nq⟩, by simp [intOf]⟩
      · have hpI : ((x.k : Int) % 3 == 0) = false := by simp; omega
        have HInv := Lib.hid (hinv.skip hx hp)
        have HCA := HCA0
        clear hinv hca hbl ba hx hfit hp HCA0
        go_upto_region 11 with fail
        clear c0 c1 c2 c3 hg
        obtain ⟨E1, hE1⟩ : ∃ E1, E1 = E := ⟨_, rfl⟩
        rw [← hE1] at HInv HCA
        clear hE1
        generalize wr.alloc (.cells #[.int .u8 (x.k : Int), .int .i64 x.f, .int .i64 x.b, .slice x.a x.ks.length x.cap] 36) = w1 at *
        generalize wr.heap.size = g7 at *
        have HU : Hid (Calls Try.prog 11 #[.pointer (some ⟨c, 0, none⟩)] w1 (SameEnd w1 (.int .i64 (usedE E1 : Int)))) := Lib.hid ((used_any w1 B c room E1 HCA.out).mono fun _ _ h => ⟨h.1, h.2.symm⟩)
        have hfw := HInv.out.few hfew hroom
        have HG := Lib.hid (get_any w1 B c room E1 x.f x.b HFit.out.2.1 HFit.out.2.2.1 HCA.out hfw.2.2)
        have hle : ¬ ((room : Int) < (usedE E1 : Int)) := by have := HInv.out.2; omega
        have d1 := Lib.cell_of_heap HAct.out 1
        have d2 := Lib.cell_of_heap HAct.out 2
        simp at d1 d2
        have hglt : g7 < w1.heap.size := (Array.getElem?_eq_some_iff.1 HAct.out).1
        clear hfw
        go_wp2_with (go_at_call 11; go_must (refine HU.out.mono ?_))
        rintro e w2 ⟨rfl, rfl⟩
        go_wp2_with (go_at_call 9; go_must (refine HG.out.mono ?_))
        rintro e w2 hg
        rcases hg with ⟨ks, v, hm, rfl, hv, hca, hcf⟩ | ⟨_, rfl, rfl⟩
        case inr =>
          clear HU HG
          go_wp2
          exact ⟨⟨k + 1, E1, by go_num, by rw [HL.out]; omega, HCA.out, HInv.out, HB1.out⟩, by simp [intOf]; omega⟩
        have HInv2 := Lib.hid (HInv.out.got hm)
        have hlast := HInv.out.1 _ hm
        have HCA2 := Lib.hid hca
        obtain ⟨va, vcap, rfl, hvr, _⟩ := hv
        have hact2 := hcf.keep g7 _ _ _ HAct.out (by decide) (by decide)
        have d1 := Lib.cell_of_heap hact2 1
        have d2 := Lib.cell_of_heap hact2 2
        simp at d1 d2
        have hglt : g7 < w2.heap.size := (Array.getElem?_eq_some_iff.1 hact2).1
        have HB2 := Lib.hid (HB1.out.trans (hcf.below.mono HBlo.out))
        have HVr := Lib.hid hvr
        have HLast := Lib.hid hlast
        have HAct2 := Lib.hid hact2
        clear hm hca hcf hvr hlast hact2 HU HG HCA HInv HB1 hle
        go_wp2
        go_loopw [10, 11] (fun t n wi => BackRel w2 l (k + 1) x.f x.b ks t n wi) (fun t n _ => (intOf n + 1).toNat)
        case atStart => exact ⟨false, k + 1, rfl, by simp, Nat.le_refl _, fun _ => HLast.out, Below.refl _ _⟩
        case round =>
          obtain ⟨t, m, rfl, rfl, hm, hlp, hbi⟩ := hrel
          have HBi := Lib.hid hbi
          have HLp := Lib.hid hlp
          have hacti := (hbi.block g7 hglt).trans HAct2.out
          have e1 := Lib.cell_of_heap hacti 1
          have e2 := Lib.cell_of_heap hacti 2
          simp at e1 e2
          have hgi : g7 < wr.heap.size := (Array.getElem?_eq_some_iff.1 hacti).1
          clear hbi hlp hacti d1 d2 hglt
          have hmI : (m : Int) ≤ k + 1 := by omega
          cases t with
          | true =>
            by_cases h0 : 0 ≤ (m : Int) - 1
            · go_wp2
              exact ⟨⟨k + 1, _, by go_num, by rw [HL.out]; omega, HCA2.out.fresh HBi.out, HInv2.out, HB2.out.trans (HBi.out.mono HB2.out.size)⟩, by simp [intOf]; omega⟩
            · go_wp2
              exact ⟨⟨k + 1, _, by go_num, by rw [HL.out]; omega, HCA2.out.fresh HBi.out, HInv2.out, HB2.out.trans (HBi.out.mono HB2.out.size)⟩, by simp [intOf]; omega⟩
          | false =>
            cases m with
            | zero => exact absurd (HLp.out rfl) (by simp [lastPut])
            | succ m =>
              obtain ⟨y, hy⟩ : ∃ y, l[m]? = some y := ⟨_, List.getElem?_eq_getElem (by rw [HL.out]; omega)⟩
              have hlp := HLp.out rfl
              rw [lastPut_succ hy] at hlp
              have hba := HB2.out.trans (HBi.out.mono HB2.out.size)
              obtain ⟨hyf, g2, off2, hga, hg2, y0, y1, y2, y3⟩ := (HA.out.below hba).at hy
              cases hga
              have hmm : ((m + 1 : Nat) : Int) - 1 = (m : Int) := by omega
              have hmlt : (m : Int) < len := by omega
              have hky : y.k < 256 := hyf.1
              have HLp2 := Lib.hid hlp
              have HYr := Lib.hid hyf.2.2.2.2
              have HBa := Lib.hid hba
              rw [hmm]
              clear hlp HLp hyf hba hmI
              by_cases hk0 : y.k % 3 = 0
              · have hk0I : ((y.k : Int) % 3 == 0) = true := by simp; omega
                by_cases hf0 : y.f = x.f
                · have hf0I : (y.f == x.f) = true := by simp [hf0]
                  by_cases hb0 : y.b = x.b
                  · have hb0I : (y.b == x.b) = true := by simp [hb0]
                    have hks : y.ks = ks := by
                      have := HLp2.out
                      rw [show hits x.f x.b y = true by unfold hits; simp [hk0, hf0, hb0]] at this
                      simpa using this
                    go_wp2
                    go_quiet (fail)
                    have hbq : Below wr.heap.size wr (wr.drewN nq) := below_quiet (Below.refl _ _) nq
                    have hsm := sames_any (wr.drewN nq) y.a va y.ks.length ks.length y.cap vcap y.ks ks (HYr.out.below' hbq) ((HVr.out.below' HBi.out).below' hbq)
                    rw [decide_eq_true hks] at hsm
                    have HSm := Lib.hid hsm
                    have HBq := Lib.hid hbq
                    have y5 : (wr.drewN nq).cell? ⟨g, off + m * 4 + 3, none⟩ = some (.slice y.a y.ks.length y.cap) := y3
                    have hg5 : g < (wr.drewN nq).heap.size := hg2
                    clear hsm hbq hks
                    generalize wr.drewN nq = w5 at *
                    go_wp2_with (go_at_call 14; go_must (refine HSm.out.mono ?_))
                    rintro e w6 ⟨rfl, b6⟩
                    have hs1 : w2.heap.size ≤ wr.heap.size := HBi.out.size
                    have hs2 : w2.heap.size ≤ w5.heap.size := Nat.le_trans hs1 HBq.out.size
                    have hb5 : Below w2.heap.size wr w5 := HBq.out.mono hs1
                    have hb6 : Below w2.heap.size w5 w6 := b6.mono hs2
                    have HB6 := Lib.hid (HBi.out.trans (hb5.trans hb6))
                    clear b6 hb5 hb6 hs1 hs2
                    go_wp2
                    exact ⟨⟨true, m, rfl, rfl, by omega, fun h => (by cases h), HB6.out⟩, by simp [intOf]⟩
                  · have hb0I : (y.b == x.b) = false := by simp [hb0]
                    have hno : hits x.f x.b y = false := by unfold hits; simp [hb0]
                    rw [hno] at HLp2
                    clear hno
                    go_wp2
                    go_quiet (fail)
                    go_wp2
                    exact ⟨⟨false, m, rfl, rfl, by omega, fun _ => HLp2.out, below_quiet HBi.out nq⟩, by simp [intOf]⟩
                · have hf0I : (y.f == x.f) = false := by simp [hf0]
                  have hno : hits x.f x.b y = false := by unfold hits; simp [hf0]
                  rw [hno] at HLp2
                  clear hno
                  go_wp2
                  go_quiet (fail)
                  go_wp2
                  exact ⟨⟨false, m, rfl, rfl, by omega, fun _ => HLp2.out, below_quiet HBi.out nq⟩, by simp [intOf]⟩
              · have hk0I : ((y.k : Int) % 3 == 0) = false := by simp; omega
                have hno : hits x.f x.b y = false := by unfold hits; simp [hk0]
                rw [hno] at HLp2
                clear hno
                go_wp2
                go_quiet (fail)
                go_wp2
                exact ⟨⟨false, m, rfl, rfl, by omega, fun _ => HLp2.out, below_quiet HBi.out nq⟩, by simp [intOf]⟩
    · obtain rfl : k = len := by omega
      have HBl := Lib.hid hbl
      clear hca hinv hbl
      go_wp2
      go_ret
      exact ⟨rfl, HBl.out⟩
end Go.Proofs.Ytdooedlapoknbaa
