/- The reference's tick. -/
import Derived.Test.YtionejpiieemeaaQuotaRefM
import Derived.BigQuiet
namespace Go.Proofs.Ytionejpiieemeaa
open Go Go.RowKit

set_option maxRecDepth 100000 in
set_option maxHeartbeats 2000000 in
theorem rtick_walk (w : World) (B b now : Nat) (R : RQ) (hr : RAt w B b R) (hok : R.ok) (hn : now ≤ 18446744073709551615) :
    Calls Try.prog 17 #[.pointer (some ⟨b, 0, none⟩), .int .u64 (now : Int)] w fun e w' => e = .returned (.tuple #[]) ∧ RAt w' B b (R.tick now) ∧ RF B b w w' := by
  obtain ⟨v, hb, hBb, hown⟩ := hr
  have hlt : b < w.heap.size := (Array.getElem?_eq_some_iff.1 hb).1
  have c2 := Lib.cell_of_heap hb 2
  have c3 := Lib.cell_of_heap hb 3
  have f2 := Lib.frozen_of_heap hb
  simp at c2 c3
  have HO := Lib.hid hown
  have HB := Lib.hid hb
  have HK := Lib.hid hok
  by_cases hle : now ≤ R.now
  · have hleI : (now : Int) ≤ (R.now : Int) := by omega
    have ht : R.tick now = R := by unfold RQ.tick; rw [if_pos hle]
    have HT := Lib.hid ht
    clear hown hb hok ht hle
    go_enter Try.func17, Try.ntmps17
    go_wp2
    exact bodyPost_ret (v := .tuple #[]) (by simp [results, Try.results17, go_sem]) rfl ⟨rfl, by rw [HT.out]; exact ⟨v, HB.out, hBb, HO.out⟩, RF.refl _ _ _ (by omega)⟩
  · have hleI : ¬ ((now : Int) ≤ (R.now : Int)) := by omega
    have ht : R.tick now = { R with now := now, cs := R.cs.map (R.up now) } := by unfold RQ.tick; rw [if_neg hle]
    have HT := Lib.hid ht
    obtain ⟨a, cap, hva, hcl, hcm⟩ := (ownsRow.reads hown).le
    subst hva
    have e1 : IntKind.u64.wrap ((now : Int) - (R.now : Int)) = ((now - R.now : Nat) : Int) := by
      rw [IntWalk.u64_in _ (by omega)]; omega
    obtain ⟨o1, o2, o3, o4⟩ := hok
    have hcz : R.cs.length ≤ maxLen := Nat.le_trans hcl hcm
    unfold maxLen at hcz
    have hs2 : RF B b w (w.setCell ⟨b, 2, none⟩ (.int .u64 (now : Int))) := (RF.refl B b w (by omega)).set hBb (.inl rfl) _
    have hb2 : (w.setCell ⟨b, 2, none⟩ (.int .u64 (now : Int))).heap[b]? = some (.cells #[.int .u64 (R.rate : Int), .int .u64 (R.most : Int), .int .u64 (now : Int), .slice a R.cs.length cap] 38 (0, 0)) := by
      rw [heap_setCell_same _ b 2 _ _ _ hb]; rfl
    have hown2 : (w.setCell ⟨b, 2, none⟩ (.int .u64 (now : Int))).ownsRow B 40 2 (.slice a R.cs.length cap) R.cs.length (ccells R.cs) := ownsRow_setCell_other hown (owns_other hown hb (by decide)) _
    have HS2 := Lib.hid hs2
    have HB2 := Lib.hid hb2
    have HO2 := Lib.hid hown2
    have O4 := Lib.hid o4
    clear hown hb ht hle hs2 hb2 hown2 o4 HO HB
    go_enter Try.func17, Try.ntmps17
    go_wp2
    generalize w.setCell ⟨b, 2, none⟩ (.int .u64 (now : Int)) = w2 at *
    have d3 := Lib.cell_of_heap HB2.out 3
    have hlt2 : b < w2.heap.size := (Array.getElem?_eq_some_iff.1 HB2.out).1
    simp at d3
    go_wp2
    go_loopw [28] (fun i wr => TickRel w B b now R.cs.length R (.slice a R.cs.length cap) i wr) (fun i _ => R.cs.length - (intOf i).toNat)
    case atStart => exact ⟨0, R.cs, rfl, Nat.zero_le _, rfl, fun j hj => by simp, HB2.out, HO2.out, HS2.out⟩
    case round =>
      obtain ⟨k, l, rfl, hk, hll, hl, hbr, hor, hfr⟩ := hrel
      clear HB2 HO2 HS2 d3 hlt2 c2 c3 f2
      by_cases hkn : k < R.cs.length
      · obtain ⟨p, hp⟩ : ∃ p, R.cs[k]? = some p := ⟨_, List.getElem?_eq_getElem hkn⟩
        have hlk : l[k]? = some p := by rw [hl k hkn, if_neg (by omega), hp]
        have hpm : p.2 ≤ R.most := O4.out p (List.mem_of_getElem? hp)
        obtain ⟨c, h⟩ := p
        simp only at hpm
        have hg : ∃ g, a = some ⟨g, 0, none⟩ ∧ B ≤ g ∧ ∃ cs, wr.heap[g]? = some (.cells cs 40 (0, 0)) := by
          rcases hor.2 with ⟨h0, h1⟩ | ⟨g, cap', cur, hv, hB, hg, _⟩
          · omega
          · cases hv
            exact ⟨g, rfl, hB, _, hg⟩
        obtain ⟨g, rfl, hBg, gcs, hgc⟩ := hg
        have hc1 : (ccells l)[k * 2 + 1]? = some (.int .u64 (h : Int)) := flat_cell ccell 2 ccell_len l k (c, h) hlk 1 (by decide)
        obtain ⟨g', off', hgo, hgl, hcell⟩ := (ownsRow.reads hor).at hc1
        cases hgo
        have hmore := R.more_le now
        have hne : b ≠ g := fun e => by
          rw [e, hgc] at hbr
          injection hbr with hbr
          injection hbr with _ hbr _
          exact absurd hbr (by decide)
        have hnew : ∀ (W : World) (u : Int), (W = wr ∨ ∃ n, W = wr.drewN n) → u = ((min R.most (h + R.more now) : Nat) : Int) → TickRel w B b now R.cs.length R (.slice (some ⟨g, 0, none⟩) R.cs.length cap) (.int .i64 ((k : Int) + 1)) ((W.setCell ⟨g, k * 2 + 1, none⟩ (.int .u64 u)).drew) := by
          intro W u hW hu
          subst hu
          have hbr' : W.heap[b]? = wr.heap[b]? := by rcases hW with rfl | ⟨n, rfl⟩ <;> rfl
          have hor' : W.ownsRow B 40 2 (.slice (some ⟨g, 0, none⟩) R.cs.length cap) R.cs.length (ccells l) := by
            rcases hW with rfl | ⟨n, rfl⟩ <;> exact hor
          have hfr' : RF B b w W := by
            rcases hW with rfl | ⟨n, rfl⟩
            · exact hfr
            · exact hfr.drewN n
          have hgc' : W.heap[g]? = some (.cells gcs 40 (0, 0)) := by
            rcases hW with rfl | ⟨n, rfl⟩ <;> exact hgc
          refine ⟨k + 1, l.set k (c, min R.most (h + R.more now)), by go_num, by omega, by simpa using hll, fun j hj => ?_, ?_, ?_, ?_⟩
          · rw [List.getElem?_set]
            by_cases hjk : k = j
            · subst hjk
              rw [if_pos rfl, if_pos (by omega), if_pos (by omega), hp]
              rfl
            · rw [if_neg hjk, hl j hj]
              by_cases h1 : j < k
              · rw [if_pos h1, if_pos (by omega)]
              · rw [if_neg h1, if_neg (by omega)]
          · exact (Below.heap_setCell _ _ _ _ hne).trans (hbr'.trans hbr)
          · rw [ccells_set l k c h _ hlk]
            exact own_set2 hor' _
          · exact (hfr'.set hBg (.inr ⟨gcs, _, hgc'⟩) _).drew
        have HN := Lib.hid hnew
        have HBR := Lib.hid hbr
        have d0 := Lib.cell_of_heap hbr 0
        have d1 := Lib.cell_of_heap hbr 1
        have d3 := Lib.cell_of_heap hbr 3
        have g1 := Lib.frozen_of_heap hgc
        simp at d0 d1 d3
        have hkI : (k : Int) < R.cs.length := by omega
        have hblt : b < wr.heap.size := (Array.getElem?_eq_some_iff.1 hbr).1
        have hm1 : R.more now = if R.rate = 0 then 0 else if now - R.now ≤ R.most / R.rate then (now - R.now) * R.rate else R.most := rfl
        clear hbr hor hfr hc1 hgc hnew hl hlk hp
        rw [Nat.zero_add] at hcell
        generalize R.more now = M at *
        have w4 : IntKind.u64.wrap ((h : Int) + (M : Int)) = ((h + M : Nat) : Int) := by
          rw [← Int.natCast_add, IntWalk.u64_in _ (by omega)]
        by_cases h0 : R.rate = 0
        · rw [if_pos h0] at hm1
          have h0I : (R.rate : Int) = 0 := by omega
          rw [h0I] at d0
          subst hm1
          clear h0
          go_wp2
          go_still_tail 22, (by kernel_rfl)
          go_wp2
          exact ⟨HN.out _ _ (.inl rfl) (by omega), by simp [intOf]; omega⟩
        · rw [if_neg h0] at hm1
          have h0I : ((R.rate : Int) == 0) = false := by simpa using h0
          have h0J : ¬ ((R.rate : Int) = 0) := by omega
          have e3 : IntKind.u64.wrap ((R.most : Int) / (R.rate : Int)) = ((R.most / R.rate : Nat) : Int) := by
            have h1 : (0 : Int) ≤ (R.most : Int) / (R.rate : Int) := Int.ediv_nonneg (by omega) (by omega)
            have h2 : (R.most : Int) / (R.rate : Int) ≤ (R.most : Int) := Int.ediv_le_self _ (by omega)
            rw [IntWalk.u64_in _ (by omega)]; rfl
          by_cases hgo : now - R.now ≤ R.most / R.rate
          · rw [if_pos hgo] at hm1
            have e5 : IntKind.u64.wrap (((now - R.now : Nat) : Int) * (R.rate : Int)) = (M : Int) := by
              rw [← Int.natCast_mul, ← hm1, IntWalk.u64_in _ (by omega)]
            have hgoI : ((now - R.now : Nat) : Int) ≤ ((R.most / R.rate : Nat) : Int) := by omega
            have hpos : (0 : Int) < R.rate := by omega
            clear hm1 hgo h0
            generalize R.most / R.rate = q at *
            generalize now - R.now = t at *
            generalize R.rate = r at *
            go_wp2
            go_quiet (fail)
            go_wp2
            have hW : wr.drewN nq = wr ∨ ∃ n, wr.drewN nq = wr.drewN n := .inr ⟨_, rfl⟩
            have x0 : (wr.drewN nq).cell? ⟨b, 0, none⟩ = some (.int .u64 (r : Int)) := d0
            have x1 : (wr.drewN nq).cell? ⟨b, 1, none⟩ = some (.int .u64 (R.most : Int)) := d1
            have x3 : (wr.drewN nq).cell? ⟨b, 3, none⟩ = some (.slice (some ⟨g, 0, none⟩) R.cs.length cap) := d3
            have xc : (wr.drewN nq).cell? ⟨g, k * 2 + 1, none⟩ = some (.int .u64 (h : Int)) := hcell
            have xf : ∀ j, (wr.drewN nq).frozen? ⟨g, j, none⟩ = false := g1
            have xl : b < (wr.drewN nq).heap.size := hblt
            have xg : g < (wr.drewN nq).heap.size := hgl
            generalize wr.drewN nq = wq at *
            clear d0 d1 d3 hcell g1 hblt hgl
            go_still_tail 22, (by kernel_rfl)
            go_wp2
            exact ⟨HN.out _ _ hW (by omega), by simp [intOf]; omega⟩
          · rw [if_neg hgo] at hm1
            have hgoI : ¬ ((now - R.now : Nat) : Int) ≤ ((R.most / R.rate : Nat) : Int) := by omega
            have hpos : (0 : Int) < R.rate := by omega
            clear hgo h0
            generalize R.most / R.rate = q at *
            generalize now - R.now = t at *
            generalize R.rate = r at *
            go_wp2
            go_quiet (fail)
            go_wp2
            have hW : wr.drewN nq = wr ∨ ∃ n, wr.drewN nq = wr.drewN n := .inr ⟨_, rfl⟩
            have x0 : (wr.drewN nq).cell? ⟨b, 0, none⟩ = some (.int .u64 (r : Int)) := d0
            have x1 : (wr.drewN nq).cell? ⟨b, 1, none⟩ = some (.int .u64 (R.most : Int)) := d1
            have x3 : (wr.drewN nq).cell? ⟨b, 3, none⟩ = some (.slice (some ⟨g, 0, none⟩) R.cs.length cap) := d3
            have xc : (wr.drewN nq).cell? ⟨g, k * 2 + 1, none⟩ = some (.int .u64 (h : Int)) := hcell
            have xf : ∀ j, (wr.drewN nq).frozen? ⟨g, j, none⟩ = false := g1
            have xl : b < (wr.drewN nq).heap.size := hblt
            have xg : g < (wr.drewN nq).heap.size := hgl
            generalize wr.drewN nq = wq at *
            clear d0 d1 d3 hcell g1 hblt hgl
            go_still_tail 22, (by kernel_rfl)
            go_wp2
            exact ⟨HN.out _ _ hW (by omega), by simp [intOf]; omega⟩
      · obtain rfl : k = R.cs.length := by omega
        have hfin : l = R.cs.map (R.up now) := by
          apply List.ext_getElem?
          intro j
          rw [List.getElem?_map]
          by_cases hj : j < R.cs.length
          · rw [hl j hj, if_pos hj]
          · rw [List.getElem?_eq_none (by omega), List.getElem?_eq_none (by omega)]
            rfl
        subst hfin
        have HBR := Lib.hid hbr
        have HOR := Lib.hid hor
        have HFR := Lib.hid hfr
        clear hbr hor hfr hl hkn
        go_wp2
        exact bodyPost_end (by simp [results, Try.results17]) rfl ⟨rfl, by rw [HT.out]; exact ⟨_, HBR.out, hBb, by simpa using HOR.out⟩, HFR.out⟩
end Go.Proofs.Ytionejpiieemeaa
