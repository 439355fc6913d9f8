/- The writer: a rule (written by gen_schwrule.py). -/
import Derived.Test.YtopnldebekhelaaDoorZSchWUn
import Derived.StillTailTactics
import Derived.Laws.Concat
namespace Go.Proofs.YtopnldebekhelaaDoor
open Go Go.RowKit

theorem WF.undrew {B b : Nat} {w w' : World} (h : WF B b w.drew w') : WF B b w w' := ⟨h.os, h.tape, h.output, h.size, h.low, h.typ⟩
theorem cat3 (a b : ByteArray) : (a ++ ⟨#[45, 62]⟩ ++ b).data.toList = a.data.toList ++ arrowS ++ b.data.toList := by
  rw [ByteArray.data_append, ByteArray.data_append, Array.toList_append, Array.toList_append]
  rfl

set_option maxRecDepth 100000 in
set_option maxHeartbeats 8000000 in
theorem wrule_step (n0 : Nat) (ih : RuleW n0) : RuleW (n0 + 1) := by
  intro h ps hdep w B b l d bad above a cap hcap hmax ht hw hB hl hd8
  rw [Tr.depth_mk] at hdep
  have hps : ∀ p ∈ ps, p.depth ≤ n0 := (Tr.depthL_le ps).1 (by omega)
  obtain ⟨k, ha, hb⟩ := h
  rw [wt_mk] at hl ⊢
  dsimp only at hl ⊢
  obtain ⟨n, hnE⟩ : ∃ n, ps.length = n := ⟨_, rfl⟩
  obtain ⟨w1, hw1⟩ : ∃ W, W = w.alloc (.cells #[.int .i64 k, .string ha, .string hb, .slice a n cap] 42) := ⟨_, rfl⟩
  have hb1 : Below w.heap.size w w1 := by rw [hw1]; exact (Below.refl _ _).alloc (Nat.le_refl _) _
  have HX1 := Lib.hid (show w1.heap[w.heap.size]? = some (.cells #[.int .i64 k, .string ha, .string hb, .slice a n cap] 42 (0, 0)) by rw [hw1]; exact heap_alloc_new w _)
  have HF1 := Lib.hid (WF.of_below (b := b) hb1 hB)
  have HW1 := Lib.hid (hw.below hb1)
  have HTr := Lib.hid (TrsAt.keep (Keeps.of_below (hb1.mono hB)) (ruHd_keep (Keeps.of_below (hb1.mono hB))) ps ht)
  have hlt1 : w.heap.size < w1.heap.size := by rw [hw1]; simp
  have hB1 : B ≤ w1.heap.size := by omega
  rw [hnE]
  have HA := Lib.hid hw1
  have HFt := Lib.hid (fits_any w1 above ⟨k, ha, hb⟩ a n cap (by show ha.size ≤ _; omega) (by show hb.size ≤ _; omega))
  have hbw : b < w.heap.size := hw.lt
  have HD8 := Lib.hid hd8
  clear hd8
  have x0 := Lib.cell_of_heap HX1.out 0; have x1 := Lib.cell_of_heap HX1.out 1; have x2 := Lib.cell_of_heap HX1.out 2; have x3 := Lib.cell_of_heap HX1.out 3
  simp at x0 x1 x2 x3
  clear hw1 hb1 hw ht hdep
  go_enter Tryd.func28, Tryd.ntmps28
  go_upto_region 1 with fail
  rw [← HA.out]
  clear HA
  by_cases k4 : k = 4
  · subst k4
    by_cases hn2 : 2 ≤ n
    · have hnI : (2 : Int) ≤ n := by omega
      cases bad with
      | true =>
        obtain ⟨hBb, _, c3, fz⟩ := HW1.out.cells
        have HW4 := Lib.hid (HW1.out.bad true)
        have HF4 := Lib.hid (HF1.out.trans (WF.set hBb 3 (.bool true)))
        go_wp2
        refine bodyPost_end (by simp [results, Tryd.results28]) rfl ⟨rfl, ?_, HF4.out⟩
        exact ⟨l, by omega, HW4.out⟩
      | false =>
        obtain ⟨hBb, _, c3, fz⟩ := HW1.out.cells
        go_wp2_with (go_at_call 49; go_must (refine HFt.out.mono ?_))
        rintro e w2 ⟨rfl, hb2⟩
        have HF2 := Lib.hid (HF1.out.trans (WF.of_below (b := b) hb2 hB1))
        have HW2 := Lib.hid (HW1.out.below hb2)
        have hx2 := (hb2.block _ hlt1).trans HX1.out
        have HTr2 := Lib.hid (TrsAt.keep (Keeps.of_below (hb2.mono hB1)) (ruHd_keep (Keeps.of_below (hb2.mono hB1))) ps HTr.out)
        have hB2 : B ≤ w2.heap.size := Nat.le_trans hB1 hb2.size
        have hlt2 : w.heap.size < w2.heap.size := Nat.lt_of_lt_of_le hlt1 hb2.size
        clear hb2 c3 fz x0 x1 x2 x3 HFt
        have x0 := Lib.cell_of_heap hx2 0; have x1 := Lib.cell_of_heap hx2 1; have x2 := Lib.cell_of_heap hx2 2; have x3 := Lib.cell_of_heap hx2 3
        simp at x0 x1 x2 x3
        clear hx2
        cases hft : fitsB above ⟨4, ha, hb⟩ with
        | false =>
          obtain ⟨_, _, c3, fz⟩ := HW2.out.cells
          have HW4 := Lib.hid (HW2.out.bad true)
          have HF4 := Lib.hid (HF2.out.trans (WF.set hBb 3 (.bool true)))
          have hno : textF above d (.mk ⟨4, ha, hb⟩ ps) = none := by
            rw [textF_mk, if_neg (by rw [okR_eq, hft, Bool.and_false]; decide)]
          have HNo := Lib.hid hno
          clear hft hno
          go_wp2
          refine bodyPost_end (by simp [results, Tryd.results28]) rfl ⟨rfl, ?_, HF4.out⟩
          rw [show orBad false (textF above d (.mk ⟨4, ha, hb⟩ ps)) = none from HNo.out]
          exact ⟨l, by omega, HW4.out⟩
        | true =>
          have hok : okR above ⟨4, ha, hb⟩ ps.length = true := by
            rw [okR_eq, hft, Bool.and_true, show groupB ⟨4, ha, hb⟩ = true from rfl, if_pos rfl, decide_eq_true (by omega)]
          have hyes := textF_mk above d ⟨4, ha, hb⟩ ps
          rw [if_pos hok] at hyes
          have HYes := Lib.hid hyes
          have HOk := Lib.hid hok
          obtain ⟨_, _, c3, fz⟩ := HW2.out.cells
          clear hft hyes hok
          have hd := HD8.out (by first | rfl | trivial)
          have HC := Lib.hid (wunion_any n0 ih ha hb ps hps w2 B b l d above a cap hcap hmax HTr2.out HW2.out hB2 (by omega) hd)
          rw [hnE] at HC
          clear c3 fz
          go_wp2_with (go_at_call 50; go_must (refine HC.out.mono ?_))
          rintro e w5 ⟨rfl, hr5, hf5⟩
          have HF5 := Lib.hid (HF2.out.trans hf5)
          have HRes := Lib.hid (WrRes.more hr5 (show wtL ps + 2 ≤ ha.size + hb.size + 8 + wtL ps - 3 by omega))
          clear hf5 hr5
          go_wp2
          refine bodyPost_end (by simp [results, Tryd.results28]) rfl ⟨rfl, ?_, HF5.out⟩
          rw [show orBad false (textF above d (.mk ⟨4, ha, hb⟩ ps)) = unT above d ps from HYes.out]
          exact HRes.out
    · have hnI : ¬ (2 : Int) ≤ n := by omega
      have HNo := Lib.hid (show orBad bad (textF above d (.mk ⟨4, ha, hb⟩ ps)) = none by
        rw [textF_mk, if_neg (by rw [okR_eq, show groupB ⟨4, ha, hb⟩ = true from rfl, if_pos rfl, decide_eq_false (by omega)]; simp)]
        unfold orBad
        split <;> rfl)
      obtain ⟨hBb, _, _, fz⟩ := HW1.out.cells
      have HW3 := Lib.hid (HW1.out.bad true)
      have HF3 := Lib.hid (HF1.out.trans (WF.set hBb 3 (.bool true)))
      go_upto_region 4 with fail
      generalize w1.setCell ⟨b, 3, none⟩ (.bool true) = w3 at *
      obtain ⟨_, _, c3, fz3⟩ := HW3.out.cells
      have HW4 := Lib.hid (HW3.out.bad true)
      have HF4 := Lib.hid (HF3.out.trans (WF.set hBb 3 (.bool true)))
      clear x0 x1 x2 x3 fz HW1 HF1
      go_wp2
      refine bodyPost_end (by simp [results, Tryd.results28]) rfl ⟨rfl, ?_, HF4.out⟩
      rw [show orBad bad (textF above d (.mk ⟨4, ha, hb⟩ ps)) = none from HNo.out]
      exact ⟨l, by omega, HW4.out⟩
  · have n4 : (k == 4) = false := by simp [k4]
    by_cases k5 : k = 5
    · subst k5
      clear k4 n4
      by_cases hn2 : 2 ≤ n
      · have hnI : (2 : Int) ≤ n := by omega
        cases bad with
        | true =>
          obtain ⟨hBb, _, c3, fz⟩ := HW1.out.cells
          have HW4 := Lib.hid (HW1.out.bad true)
          have HF4 := Lib.hid (HF1.out.trans (WF.set hBb 3 (.bool true)))
          go_wp2
          refine bodyPost_end (by simp [results, Tryd.results28]) rfl ⟨rfl, ?_, HF4.out⟩
          exact ⟨l, by omega, HW4.out⟩
        | false =>
          obtain ⟨hBb, _, c3, fz⟩ := HW1.out.cells
          go_wp2_with (go_at_call 49; go_must (refine HFt.out.mono ?_))
          rintro e w2 ⟨rfl, hb2⟩
          have HF2 := Lib.hid (HF1.out.trans (WF.of_below (b := b) hb2 hB1))
          have HW2 := Lib.hid (HW1.out.below hb2)
          have hx2 := (hb2.block _ hlt1).trans HX1.out
          have HTr2 := Lib.hid (TrsAt.keep (Keeps.of_below (hb2.mono hB1)) (ruHd_keep (Keeps.of_below (hb2.mono hB1))) ps HTr.out)
          have hB2 : B ≤ w2.heap.size := Nat.le_trans hB1 hb2.size
          have hlt2 : w.heap.size < w2.heap.size := Nat.lt_of_lt_of_le hlt1 hb2.size
          clear hb2 c3 fz x0 x1 x2 x3 HFt
          have x0 := Lib.cell_of_heap hx2 0; have x1 := Lib.cell_of_heap hx2 1; have x2 := Lib.cell_of_heap hx2 2; have x3 := Lib.cell_of_heap hx2 3
          simp at x0 x1 x2 x3
          clear hx2
          cases hft : fitsB above ⟨5, ha, hb⟩ with
          | false =>
            obtain ⟨_, _, c3, fz⟩ := HW2.out.cells
            have HW4 := Lib.hid (HW2.out.bad true)
            have HF4 := Lib.hid (HF2.out.trans (WF.set hBb 3 (.bool true)))
            have hno : textF above d (.mk ⟨5, ha, hb⟩ ps) = none := by
              rw [textF_mk, if_neg (by rw [okR_eq, hft, Bool.and_false]; decide)]
            have HNo := Lib.hid hno
            clear hft hno
            go_wp2
            refine bodyPost_end (by simp [results, Tryd.results28]) rfl ⟨rfl, ?_, HF4.out⟩
            rw [show orBad false (textF above d (.mk ⟨5, ha, hb⟩ ps)) = none from HNo.out]
            exact ⟨l, by omega, HW4.out⟩
          | true =>
            have hok : okR above ⟨5, ha, hb⟩ ps.length = true := by
              rw [okR_eq, hft, Bool.and_true, show groupB ⟨5, ha, hb⟩ = true from rfl, if_pos rfl, decide_eq_true (by omega)]
            have hyes := textF_mk above d ⟨5, ha, hb⟩ ps
            rw [if_pos hok] at hyes
            have HYes := Lib.hid hyes
            have HOk := Lib.hid hok
            obtain ⟨_, _, c3, fz⟩ := HW2.out.cells
            clear hft hyes hok
            have hd := HD8.out (by first | rfl | trivial)
            have HC := Lib.hid (wrow_any n0 ih ⟨5, ha, hb⟩ ps hps w2 B b l d false ⟨#[32, 38, 32]⟩ rfl a cap hcap hmax HTr2.out HW2.out hB2 (by omega) (fun _ => hd))
            rw [hnE] at HC
            clear c3 fz
            go_wp2_with (go_at_call 51; go_must (refine HC.out.mono ?_))
            rintro e w5 ⟨rfl, hr5, hf5⟩
            have HF5 := Lib.hid (HF2.out.trans hf5)
            have HRes := Lib.hid (WrRes.more hr5 (show wtL ps ≤ ha.size + hb.size + 8 + wtL ps - 3 by omega))
            clear hf5 hr5
            go_wp2
            refine bodyPost_end (by simp [results, Tryd.results28]) rfl ⟨rfl, ?_, HF5.out⟩
            rw [show orBad false (textF above d (.mk ⟨5, ha, hb⟩ ps)) = goT 5 d ampS true ps from HYes.out]
            exact HRes.out
      · have hnI : ¬ (2 : Int) ≤ n := by omega
        have HNo := Lib.hid (show orBad bad (textF above d (.mk ⟨5, ha, hb⟩ ps)) = none by
          rw [textF_mk, if_neg (by rw [okR_eq, show groupB ⟨5, ha, hb⟩ = true from rfl, if_pos rfl, decide_eq_false (by omega)]; simp)]
          unfold orBad
          split <;> rfl)
        obtain ⟨hBb, _, _, fz⟩ := HW1.out.cells
        have HW3 := Lib.hid (HW1.out.bad true)
        have HF3 := Lib.hid (HF1.out.trans (WF.set hBb 3 (.bool true)))
        go_upto_region 4 with fail
        generalize w1.setCell ⟨b, 3, none⟩ (.bool true) = w3 at *
        obtain ⟨_, _, c3, fz3⟩ := HW3.out.cells
        have HW4 := Lib.hid (HW3.out.bad true)
        have HF4 := Lib.hid (HF3.out.trans (WF.set hBb 3 (.bool true)))
        clear x0 x1 x2 x3 fz HW1 HF1
        go_wp2
        refine bodyPost_end (by simp [results, Tryd.results28]) rfl ⟨rfl, ?_, HF4.out⟩
        rw [show orBad bad (textF above d (.mk ⟨5, ha, hb⟩ ps)) = none from HNo.out]
        exact ⟨l, by omega, HW4.out⟩
    · have n5 : (k == 5) = false := by simp [k5]
      by_cases hn0 : n = 0
      · subst hn0
        by_cases k1 : k = 1
        · subst k1
          clear k4 k5 n4 n5
          cases bad with
          | true =>
            obtain ⟨hBb, _, c3, fz⟩ := HW1.out.cells
            have HW4 := Lib.hid (HW1.out.bad true)
            have HF4 := Lib.hid (HF1.out.trans (WF.set hBb 3 (.bool true)))
            go_wp2
            refine bodyPost_end (by simp [results, Tryd.results28]) rfl ⟨rfl, ?_, HF4.out⟩
            exact ⟨l, by omega, HW4.out⟩
          | false =>
            obtain ⟨hBb, _, c3, fz⟩ := HW1.out.cells
            go_wp2_with (go_at_call 49; go_must (refine HFt.out.mono ?_))
            rintro e w2 ⟨rfl, hb2⟩
            have HF2 := Lib.hid (HF1.out.trans (WF.of_below (b := b) hb2 hB1))
            have HW2 := Lib.hid (HW1.out.below hb2)
            have hx2 := (hb2.block _ hlt1).trans HX1.out
            have HTr2 := Lib.hid (TrsAt.keep (Keeps.of_below (hb2.mono hB1)) (ruHd_keep (Keeps.of_below (hb2.mono hB1))) ps HTr.out)
            have hB2 : B ≤ w2.heap.size := Nat.le_trans hB1 hb2.size
            have hlt2 : w.heap.size < w2.heap.size := Nat.lt_of_lt_of_le hlt1 hb2.size
            clear hb2 c3 fz x0 x1 x2 x3 HFt
            have x0 := Lib.cell_of_heap hx2 0; have x1 := Lib.cell_of_heap hx2 1; have x2 := Lib.cell_of_heap hx2 2; have x3 := Lib.cell_of_heap hx2 3
            simp at x0 x1 x2 x3
            clear hx2
            cases hft : fitsB above ⟨1, ha, hb⟩ with
            | false =>
              obtain ⟨_, _, c3, fz⟩ := HW2.out.cells
              have HW4 := Lib.hid (HW2.out.bad true)
              have HF4 := Lib.hid (HF2.out.trans (WF.set hBb 3 (.bool true)))
              have hno : textF above d (.mk ⟨1, ha, hb⟩ ps) = none := by
                rw [textF_mk, if_neg (by rw [okR_eq, hft, Bool.and_false]; decide)]
              have HNo := Lib.hid hno
              clear hft hno
              go_wp2
              refine bodyPost_end (by simp [results, Tryd.results28]) rfl ⟨rfl, ?_, HF4.out⟩
              rw [show orBad false (textF above d (.mk ⟨1, ha, hb⟩ ps)) = none from HNo.out]
              exact ⟨l, by omega, HW4.out⟩
            | true =>
              have hok : okR above ⟨1, ha, hb⟩ ps.length = true := by
                rw [okR_eq, hft, Bool.and_true, if_neg (by unfold groupB; simp <;> omega), decide_eq_true (by omega)]
              have hyes := textF_mk above d ⟨1, ha, hb⟩ ps
              rw [if_pos hok] at hyes
              have HYes := Lib.hid hyes
              have HOk := Lib.hid hok
              obtain ⟨_, _, c3, fz⟩ := HW2.out.cells
              clear hft hyes hok
              have hd := HD8.out (by first | rfl | trivial)
              have HC := Lib.hid (wstr_any w2 B b l d false ⟨#[116, 104, 105, 115]⟩ HW2.out (by show l.length + 4 ≤ _; omega) hB2)
              clear c3 fz
              go_wp2_with (go_at_call 26; go_must (refine HC.out.mono ?_))
              rintro e w5 ⟨rfl, hw5, hf5⟩
              have HF5 := Lib.hid (HF2.out.trans hf5)
              have HW5 := Lib.hid hw5
              clear hf5 hw5
              go_wp2
              refine bodyPost_end (by simp [results, Tryd.results28]) rfl ⟨rfl, ?_, HF5.out⟩
              rw [show orBad false (textF above d (.mk ⟨1, ha, hb⟩ ps)) = some (thisS) from HYes.out]
              exact HW5.out
        · by_cases k2 : k = 2
          · subst k2
            clear k4 k5 n4 n5 k1
            cases bad with
            | true =>
              obtain ⟨hBb, _, c3, fz⟩ := HW1.out.cells
              have HW4 := Lib.hid (HW1.out.bad true)
              have HF4 := Lib.hid (HF1.out.trans (WF.set hBb 3 (.bool true)))
              go_wp2
              refine bodyPost_end (by simp [results, Tryd.results28]) rfl ⟨rfl, ?_, HF4.out⟩
              exact ⟨l, by omega, HW4.out⟩
            | false =>
              obtain ⟨hBb, _, c3, fz⟩ := HW1.out.cells
              go_wp2_with (go_at_call 49; go_must (refine HFt.out.mono ?_))
              rintro e w2 ⟨rfl, hb2⟩
              have HF2 := Lib.hid (HF1.out.trans (WF.of_below (b := b) hb2 hB1))
              have HW2 := Lib.hid (HW1.out.below hb2)
              have hx2 := (hb2.block _ hlt1).trans HX1.out
              have HTr2 := Lib.hid (TrsAt.keep (Keeps.of_below (hb2.mono hB1)) (ruHd_keep (Keeps.of_below (hb2.mono hB1))) ps HTr.out)
              have hB2 : B ≤ w2.heap.size := Nat.le_trans hB1 hb2.size
              have hlt2 : w.heap.size < w2.heap.size := Nat.lt_of_lt_of_le hlt1 hb2.size
              clear hb2 c3 fz x0 x1 x2 x3 HFt
              have x0 := Lib.cell_of_heap hx2 0; have x1 := Lib.cell_of_heap hx2 1; have x2 := Lib.cell_of_heap hx2 2; have x3 := Lib.cell_of_heap hx2 3
              simp at x0 x1 x2 x3
              clear hx2
              cases hft : fitsB above ⟨2, ha, hb⟩ with
              | false =>
                obtain ⟨_, _, c3, fz⟩ := HW2.out.cells
                have HW4 := Lib.hid (HW2.out.bad true)
                have HF4 := Lib.hid (HF2.out.trans (WF.set hBb 3 (.bool true)))
                have hno : textF above d (.mk ⟨2, ha, hb⟩ ps) = none := by
                  rw [textF_mk, if_neg (by rw [okR_eq, hft, Bool.and_false]; decide)]
                have HNo := Lib.hid hno
                clear hft hno
                go_wp2
                refine bodyPost_end (by simp [results, Tryd.results28]) rfl ⟨rfl, ?_, HF4.out⟩
                rw [show orBad false (textF above d (.mk ⟨2, ha, hb⟩ ps)) = none from HNo.out]
                exact ⟨l, by omega, HW4.out⟩
              | true =>
                have hok : okR above ⟨2, ha, hb⟩ ps.length = true := by
                  rw [okR_eq, hft, Bool.and_true, if_neg (by unfold groupB; simp <;> omega), decide_eq_true (by omega)]
                have hyes := textF_mk above d ⟨2, ha, hb⟩ ps
                rw [if_pos hok] at hyes
                have HYes := Lib.hid hyes
                have HOk := Lib.hid hok
                obtain ⟨_, _, c3, fz⟩ := HW2.out.cells
                clear hft hyes hok
                have hd := HD8.out (by first | rfl | trivial)
                have HC := Lib.hid (wstr_any w2.drew B b l d false ha HW2.out (by omega) hB2)
                clear c3 fz
                go_wp2_with fail
                go_still_tail 5, (by kernel_rfl)
                show wpList _ _ _ _ _ w2.drew
                go_wp2_with (go_at_call 26; go_must (refine HC.out.mono ?_))
                rintro e w5 ⟨rfl, hw5, hf5d⟩
                have hf5 := hf5d.undrew
                have HF5 := Lib.hid (HF2.out.trans hf5)
                have HW5 := Lib.hid hw5
                clear hf5 hw5
                go_wp2
                refine bodyPost_end (by simp [results, Tryd.results28]) rfl ⟨rfl, ?_, HF5.out⟩
                rw [show orBad false (textF above d (.mk ⟨2, ha, hb⟩ ps)) = some (ha.data.toList) from HYes.out]
                exact HW5.out
          · by_cases k3 : k = 3
            · subst k3
              clear k4 k5 n4 n5 k1 k2
              cases bad with
              | true =>
                obtain ⟨hBb, _, c3, fz⟩ := HW1.out.cells
                have HW4 := Lib.hid (HW1.out.bad true)
                have HF4 := Lib.hid (HF1.out.trans (WF.set hBb 3 (.bool true)))
                go_wp2
                refine bodyPost_end (by simp [results, Tryd.results28]) rfl ⟨rfl, ?_, HF4.out⟩
                exact ⟨l, by omega, HW4.out⟩
              | false =>
                obtain ⟨hBb, _, c3, fz⟩ := HW1.out.cells
                go_wp2_with (go_at_call 49; go_must (refine HFt.out.mono ?_))
                rintro e w2 ⟨rfl, hb2⟩
                have HF2 := Lib.hid (HF1.out.trans (WF.of_below (b := b) hb2 hB1))
                have HW2 := Lib.hid (HW1.out.below hb2)
                have hx2 := (hb2.block _ hlt1).trans HX1.out
                have HTr2 := Lib.hid (TrsAt.keep (Keeps.of_below (hb2.mono hB1)) (ruHd_keep (Keeps.of_below (hb2.mono hB1))) ps HTr.out)
                have hB2 : B ≤ w2.heap.size := Nat.le_trans hB1 hb2.size
                have hlt2 : w.heap.size < w2.heap.size := Nat.lt_of_lt_of_le hlt1 hb2.size
                clear hb2 c3 fz x0 x1 x2 x3 HFt
                have x0 := Lib.cell_of_heap hx2 0; have x1 := Lib.cell_of_heap hx2 1; have x2 := Lib.cell_of_heap hx2 2; have x3 := Lib.cell_of_heap hx2 3
                simp at x0 x1 x2 x3
                clear hx2
                cases hft : fitsB above ⟨3, ha, hb⟩ with
                | false =>
                  obtain ⟨_, _, c3, fz⟩ := HW2.out.cells
                  have HW4 := Lib.hid (HW2.out.bad true)
                  have HF4 := Lib.hid (HF2.out.trans (WF.set hBb 3 (.bool true)))
                  have hno : textF above d (.mk ⟨3, ha, hb⟩ ps) = none := by
                    rw [textF_mk, if_neg (by rw [okR_eq, hft, Bool.and_false]; decide)]
                  have HNo := Lib.hid hno
                  clear hft hno
                  go_wp2
                  refine bodyPost_end (by simp [results, Tryd.results28]) rfl ⟨rfl, ?_, HF4.out⟩
                  rw [show orBad false (textF above d (.mk ⟨3, ha, hb⟩ ps)) = none from HNo.out]
                  exact ⟨l, by omega, HW4.out⟩
                | true =>
                  have hok : okR above ⟨3, ha, hb⟩ ps.length = true := by
                    rw [okR_eq, hft, Bool.and_true, if_neg (by unfold groupB; simp <;> omega), decide_eq_true (by omega)]
                  have hyes := textF_mk above d ⟨3, ha, hb⟩ ps
                  rw [if_pos hok] at hyes
                  have HYes := Lib.hid hyes
                  have HOk := Lib.hid hok
                  obtain ⟨_, _, c3, fz⟩ := HW2.out.cells
                  clear hft hyes hok
                  have hd := HD8.out (by first | rfl | trivial)
                  have HC := Lib.hid (wstr_any w2.drew B b l d false (ha ++ ⟨#[45, 62]⟩ ++ hb) HW2.out (by rw [ByteArray.size_append, ByteArray.size_append]; show l.length + (ha.size + 2 + hb.size) ≤ _; omega) hB2)
                  have sa1 : ∀ W, (Op.stringOp .add ha ⟨#[45, 62]⟩).run Tryd.prog W = .ok (.string (ha ++ ⟨#[45, 62]⟩)) W := fun W => run_string_add_sum W _ _ (by show ha.size + 2 ≤ _; omega)
                  have sa2 : ∀ W, (Op.stringOp .add (ha ++ ⟨#[45, 62]⟩) hb).run Tryd.prog W = .ok (.string (ha ++ ⟨#[45, 62]⟩ ++ hb)) W := fun W => run_string_add_sum W _ _ (by rw [ByteArray.size_append]; show ha.size + 2 + hb.size ≤ _; omega)
                  clear c3 fz
                  go_wp2_with fail
                  go_still_tail 9, (by kernel_rfl)
                  show wpList _ _ _ _ _ w2.drew
                  go_wp2_with (go_at_call 26; go_must (refine HC.out.mono ?_))
                  rintro e w5 ⟨rfl, hw5, hf5d⟩
                  have hf5 := hf5d.undrew
                  have HF5 := Lib.hid (HF2.out.trans hf5)
                  have HW5 := Lib.hid hw5
                  clear hf5 hw5
                  go_wp2
                  refine bodyPost_end (by simp [results, Tryd.results28]) rfl ⟨rfl, ?_, HF5.out⟩
                  rw [show orBad false (textF above d (.mk ⟨3, ha, hb⟩ ps)) = some (ha.data.toList ++ arrowS ++ hb.data.toList) from HYes.out]
                  exact (by have h := HW5.out; rw [cat3] at h; exact h)
            · 
              cases bad with
              | true =>
                obtain ⟨hBb, _, c3, fz⟩ := HW1.out.cells
                have HW4 := Lib.hid (HW1.out.bad true)
                have HF4 := Lib.hid (HF1.out.trans (WF.set hBb 3 (.bool true)))
                go_wp2
                refine bodyPost_end (by simp [results, Tryd.results28]) rfl ⟨rfl, ?_, HF4.out⟩
                exact ⟨l, by omega, HW4.out⟩
              | false =>
                obtain ⟨hBb, _, c3, fz⟩ := HW1.out.cells
                go_wp2_with (go_at_call 49; go_must (refine HFt.out.mono ?_))
                rintro e w2 ⟨rfl, hb2⟩
                have HF2 := Lib.hid (HF1.out.trans (WF.of_below (b := b) hb2 hB1))
                have HW2 := Lib.hid (HW1.out.below hb2)
                have hx2 := (hb2.block _ hlt1).trans HX1.out
                have HTr2 := Lib.hid (TrsAt.keep (Keeps.of_below (hb2.mono hB1)) (ruHd_keep (Keeps.of_below (hb2.mono hB1))) ps HTr.out)
                have hB2 : B ≤ w2.heap.size := Nat.le_trans hB1 hb2.size
                have hlt2 : w.heap.size < w2.heap.size := Nat.lt_of_lt_of_le hlt1 hb2.size
                clear hb2 c3 fz x0 x1 x2 x3 HFt
                have x0 := Lib.cell_of_heap hx2 0; have x1 := Lib.cell_of_heap hx2 1; have x2 := Lib.cell_of_heap hx2 2; have x3 := Lib.cell_of_heap hx2 3
                simp at x0 x1 x2 x3
                clear hx2
                cases hft : fitsB above ⟨k, ha, hb⟩ with
                | false =>
                  obtain ⟨_, _, c3, fz⟩ := HW2.out.cells
                  have HW4 := Lib.hid (HW2.out.bad true)
                  have HF4 := Lib.hid (HF2.out.trans (WF.set hBb 3 (.bool true)))
                  have hno : textF above d (.mk ⟨k, ha, hb⟩ ps) = none := by
                    rw [textF_mk, if_neg (by rw [okR_eq, hft, Bool.and_false]; decide)]
                  have HNo := Lib.hid hno
                  clear hft hno
                  go_wp2
                  refine bodyPost_end (by simp [results, Tryd.results28]) rfl ⟨rfl, ?_, HF4.out⟩
                  rw [show orBad false (textF above d (.mk ⟨k, ha, hb⟩ ps)) = none from HNo.out]
                  exact ⟨l, by omega, HW4.out⟩
                | true =>
                  have hok : okR above ⟨k, ha, hb⟩ ps.length = true := by
                    rw [okR_eq, hft, Bool.and_true, if_neg (by unfold groupB; simp <;> omega), decide_eq_true (by omega)]
                  have hyes := textF_mk above d ⟨k, ha, hb⟩ ps
                  rw [if_pos hok] at hyes
                  have HYes := Lib.hid hyes
                  have HOk := Lib.hid hok
                  obtain ⟨_, _, c3, fz⟩ := HW2.out.cells
                  clear hft hyes hok
                  exfalso
                  have hf : fitsB above ⟨k, ha, hb⟩ = false := by
                    unfold fitsB
                    rw [if_neg k2, if_neg k3, if_neg k1, if_neg (fun h => h.elim k4 k5)]
                  have hk := HOk.out
                  rw [okR_eq, hf, Bool.and_false] at hk
                  cases hk
      · by_cases hn2 : 2 ≤ n
        · have hnI : (2 : Int) ≤ n := by omega
          have HNo := Lib.hid (show orBad bad (textF above d (.mk ⟨k, ha, hb⟩ ps)) = none by
            rw [textF_mk, if_neg (by rw [okR_eq, if_neg (by unfold groupB; simp <;> omega), decide_eq_false (by omega)]; simp)]
            unfold orBad
            split <;> rfl)
          obtain ⟨hBb, _, _, fz⟩ := HW1.out.cells
          have HW3 := Lib.hid (HW1.out.bad true)
          have HF3 := Lib.hid (HF1.out.trans (WF.set hBb 3 (.bool true)))
          go_upto_region 4 with fail
          generalize w1.setCell ⟨b, 3, none⟩ (.bool true) = w3 at *
          obtain ⟨_, _, c3, fz3⟩ := HW3.out.cells
          have HW4 := Lib.hid (HW3.out.bad true)
          have HF4 := Lib.hid (HF3.out.trans (WF.set hBb 3 (.bool true)))
          clear x0 x1 x2 x3 fz HW1 HF1
          go_wp2
          refine bodyPost_end (by simp [results, Tryd.results28]) rfl ⟨rfl, ?_, HF4.out⟩
          rw [show orBad bad (textF above d (.mk ⟨k, ha, hb⟩ ps)) = none from HNo.out]
          exact ⟨l, by omega, HW4.out⟩
        · have hnI : ¬ (2 : Int) ≤ n := by omega
          have hnP : (0 : Int) < n := by omega
          have HNo := Lib.hid (show orBad bad (textF above d (.mk ⟨k, ha, hb⟩ ps)) = none by
            rw [textF_mk, if_neg (by rw [okR_eq, if_neg (by unfold groupB; simp <;> omega), decide_eq_false (by omega)]; simp)]
            unfold orBad
            split <;> rfl)
          obtain ⟨hBb, _, _, fz⟩ := HW1.out.cells
          have HW3 := Lib.hid (HW1.out.bad true)
          have HF3 := Lib.hid (HF1.out.trans (WF.set hBb 3 (.bool true)))
          go_upto_region 4 with fail
          generalize w1.setCell ⟨b, 3, none⟩ (.bool true) = w3 at *
          obtain ⟨_, _, c3, fz3⟩ := HW3.out.cells
          have HW4 := Lib.hid (HW3.out.bad true)
          have HF4 := Lib.hid (HF3.out.trans (WF.set hBb 3 (.bool true)))
          clear x0 x1 x2 x3 fz HW1 HF1
          go_wp2
          refine bodyPost_end (by simp [results, Tryd.results28]) rfl ⟨rfl, ?_, HF4.out⟩
          rw [show orBad bad (textF above d (.mk ⟨k, ha, hb⟩ ps)) = none from HNo.out]
          exact ⟨l, by omega, HW4.out⟩

theorem wrule_all : ∀ n, RuleW n
  | 0 => fun h ps hd => by rw [Tr.depth_mk] at hd; omega
  | n + 1 => wrule_step n (wrule_all n)
end Go.Proofs.YtopnldebekhelaaDoor
