/- The writer: a Union. -/
import Derived.Test.YtopnldebekhelaaDoorZSchWRow
namespace Go.Proofs.YtopnldebekhelaaDoor
open Go Go.RowKit

def unT (above : Int) (d : Nat) (ps : List (Tr RuH)) : Option (List UInt8) :=
  if above = 5 then (if d < 8 then (goT 4 (d + 1) barS true ps).map (fun s => 40 :: (s ++ [41])) else none) else goT 4 d barS true ps

theorem WrRes.more {w' : World} {B b : Nat} {l : List UInt8} {d : Int} {m m' : Nat} {r : Option (List UInt8)} (h : WrRes w' B b l d m r) (hm : m ≤ m') : WrRes w' B b l d m' r := by
  cases r with
  | some s => exact h
  | none =>
    obtain ⟨l', h1, h2⟩ := h
    exact ⟨l', by omega, h2⟩

theorem un_wrap {d : Nat} (h : d ≤ 8) : wrap64 ((d : Int) + 1) = (d : Int) + 1 ∧ wrap64 ((d : Int) + 1 - 1) = d ∧ wrap64 (d : Int) = d := by unfold wrap64; omega

set_option maxRecDepth 100000 in
set_option maxHeartbeats 4000000 in
theorem wunion_any (n0 : Nat) (ih : RuleW n0) (ha hb : ByteArray) (ps : List (Tr RuH)) (hd : ∀ p ∈ ps, p.depth ≤ n0) (w : World) (B b : Nat) (l : List UInt8) (d : Nat) (above : Int) (a : Option Addr) (cap : Nat) (hcap : ps.length ≤ cap) (hmax : cap ≤ maxLen)
    (ht : TrsAt ruHd (· < B) 4 w a 0 ps) (hw : WAt w B b l d false) (hB : B ≤ w.heap.size) (hl : l.length + wtL ps + 2 ≤ 900000000) (hd8 : d ≤ 8) :
    Calls Tryd.prog 50 #[.pointer (some ⟨b, 0, none⟩), .agg #[.int .i64 4, .string ha, .string hb, .slice a ps.length cap], .int .i64 above] w (WPost w B b l d (wtL ps + 2) (unT above d ps)) := by
  obtain ⟨R, hR⟩ : ∃ R, unT above d ps = R := ⟨_, rfl⟩
  rw [hR]
  obtain ⟨n, hn⟩ : ∃ n, ps.length = n := ⟨_, rfl⟩
  obtain ⟨w1, hw1⟩ : ∃ W, W = w.alloc (.cells #[.int .i64 4, .string ha, .string hb, .slice a n cap] 42) := ⟨_, rfl⟩
  have hb1 : Below w.heap.size w w1 := by rw [hw1]; exact (Below.refl _ _).alloc (Nat.le_refl _) _
  have HX1 := Lib.hid (show w1.heap[w.heap.size]? = some (.cells #[.int .i64 4, .string ha, .string hb, .slice a n cap] 42 (0, 0)) by rw [hw1]; exact heap_alloc_new w _)
  have HWF1 := Lib.hid (WF.of_below (b := b) hb1 hB)
  have hW1 := hw.below hb1
  have hTr := TrsAt.keep (Keeps.of_below (hb1.mono hB)) (ruHd_keep (Keeps.of_below (hb1.mono hB))) ps ht
  have hs1 : w1.heap.size = w.heap.size + 1 := by rw [hw1]; simp
  have hRow := fun (W : World) (l2 : List UInt8) (d2 : Nat) (bd2 : Bool) (h1 : WAt W B b l2 d2 bd2) (h2 : TrsAt ruHd (· < B) 4 W a 0 ps) (h3 : B ≤ W.heap.size) (h4 : l2.length + wtL ps ≤ 900000000) (h5 : bd2 = false → d2 ≤ 8) => wrow_any n0 ih ⟨4, ha, hb⟩ ps hd W B b l2 d2 bd2 ⟨#[32, 124, 32]⟩ rfl a cap hcap hmax h2 h1 h3 h4 h5
  rw [hn] at hcap ⊢
  rw [hn] at hRow
  have hbw : b < w.heap.size := hw.lt
  have HA := Lib.hid hw1
  have HRow := Lib.hid hRow
  clear hw1 hb1 hw ht hn hd hRow ih hcap hmax
  go_enter Tryd.func50, Tryd.ntmps50
  go_upto_region 1 with fail
  rw [← HA.out]
  clear HA
  have hlt1 : w.heap.size < w1.heap.size := by omega
  by_cases h5 : above = 5
  · subst h5
    unfold unT at hR
    rw [if_pos rfl] at hR
    have HRR := Lib.hid hR
    obtain ⟨hBb, c2, c3, fz⟩ := hW1.cells
    have hwr := un_wrap hd8
    obtain ⟨u1, u2, u3⟩ := hwr
    obtain ⟨bd, hbd⟩ : ∃ x, decide ((8 : Int) < (d : Int) + 1) = x := ⟨_, rfl⟩
    have hW2 := hW1.depth ((d : Int) + 1)
    have hF2 := HWF1.out.trans (WF.set hBb 2 (.int .i64 ((d : Int) + 1)))
    have hX2 : (w1.setCell ⟨b, 2, none⟩ (.int .i64 ((d : Int) + 1))).heap[w.heap.size]? = _ := (Below.heap_setCell _ _ _ _ (fun e => by have e : w.heap.size = b := e; omega)).trans HX1.out
    have HTr0 := Lib.hid hTr
    have HW2 := Lib.hid hW2
    have HF2 := Lib.hid hF2
    have HX2 := Lib.hid hX2
    have HW1 := Lib.hid hW1
    clear hW2 hF2 hX2 hR hTr hW1
    go_upto_region 4 with fail
    have hk2 : Keeps (· < B) w1 (w1.setCell ⟨b, 2, none⟩ (.int .i64 ((d : Int) + 1))) := ⟨by simp [World.setCell], fun k hk _ => Below.heap_setCell _ _ _ _ (fun e => by have e : k = b := e; omega)⟩
    have HTr2 := Lib.hid (TrsAt.keep hk2 (ruHd_keep hk2) ps HTr0.out)
    have hs2 : w.heap.size < (w1.setCell ⟨b, 2, none⟩ (.int .i64 ((d : Int) + 1))).heap.size := Nat.lt_of_lt_of_le hlt1 hk2.size
    clear hk2 HTr0 c2 c3 fz HX1 HWF1 HW1
    generalize w1.setCell ⟨b, 2, none⟩ (.int .i64 ((d : Int) + 1)) = w2 at *
    obtain ⟨_, c2, c3, fz⟩ := HW2.out.cells
    have HW3 := Lib.hid (HW2.out.bad bd)
    have HF3 := Lib.hid (HF2.out.trans (WF.set hBb 3 (.bool bd)))
    have HX3 := Lib.hid (show (w2.setCell ⟨b, 3, none⟩ (.bool bd)).heap[w.heap.size]? = _ from (Below.heap_setCell _ _ _ _ (fun e => by have e : w.heap.size = b := e; omega)).trans HX2.out)
    have hk3 : Keeps (· < B) w2 (w2.setCell ⟨b, 3, none⟩ (.bool bd)) := ⟨by simp [World.setCell], fun k hk _ => Below.heap_setCell _ _ _ _ (fun e => by have e : k = b := e; omega)⟩
    have HTr3 := Lib.hid (TrsAt.keep hk3 (ruHd_keep hk3) ps HTr2.out)
    have hs3 : w.heap.size < (w2.setCell ⟨b, 3, none⟩ (.bool bd)).heap.size := Nat.lt_of_lt_of_le hs2 hk3.size
    clear hk3
    go_upto_region 5 with fail
    generalize w2.setCell ⟨b, 3, none⟩ (.bool bd) = w3 at *
    have HBd := Lib.hid hbd
    have HWs := Lib.hid (wstr_any w3 B b l ((d : Int) + 1) bd ⟨#[40]⟩ HW3.out (by show l.length + 1 ≤ _; omega) (by omega))
    clear c2 c3 fz hbd HW2 HF2 HX2 HTr2
    go_wp2_with (go_at_call 26; go_must (refine HWs.out.mono ?_))
    rintro e w4 ⟨rfl, hw4, hf4⟩
    have hx4 := hf4.typ _ _ _ _ HX3.out (by decide) (by omega)
    have HF4 := Lib.hid (HF3.out.trans hf4)
    have hB4 : B ≤ w4.heap.size := Nat.le_trans (by omega) hf4.size
    have HC := Lib.hid (HRow.out w4 (l ++ [40]) (d + 1) bd hw4 (TrsAt.keep (Keeps.of_below hf4.below) (ruHd_keep (Keeps.of_below hf4.below)) ps HTr3.out) hB4 (by simp; omega) (fun hb => by have h := HBd.out; rw [hb] at h; have := of_decide_eq_false h; omega))
    have y0 := Lib.cell_of_heap hx4 0; have y1 := Lib.cell_of_heap hx4 1; have y2 := Lib.cell_of_heap hx4 2; have y3 := Lib.cell_of_heap hx4 3
    simp at y0 y1 y2 y3
    have hl4 : w.heap.size < w4.heap.size := Nat.lt_of_lt_of_le hs3 hf4.size
    clear hx4 hw4 hf4 HWs HX3 HTr3 HRow
    go_wp2_with (go_at_call 51; go_must (refine HC.out.mono ?_))
    rintro e w5 ⟨rfl, hr5, hf5⟩
    have HF5 := Lib.hid (HF4.out.trans hf5)
    obtain ⟨l5, bd5, hw5, hl5, hc5⟩ : ∃ l5 bd5, WAt w5 B b l5 ((d + 1 : Nat) : Int) bd5 ∧ l5.length ≤ l.length + 1 + wtL ps ∧ ((bd5 = false ∧ ∃ s, orBad bd (goT 4 (d + 1) barS true ps) = some s ∧ l5 = l ++ [40] ++ s) ∨ (bd5 = true ∧ orBad bd (goT 4 (d + 1) barS true ps) = none)) := by
      cases ho : orBad bd (goT 4 (d + 1) barS true ps) with
      | none =>
        have hr5' : WrRes w5 B b (l ++ [40]) ((d + 1 : Nat) : Int) (wtL ps) none := by rw [← ho]; exact hr5
        obtain ⟨l', e1, e2⟩ := hr5'
        exact ⟨l', true, e2, by simpa using e1, .inr ⟨rfl, rfl⟩⟩
      | some s =>
        have hr5' : WrRes w5 B b (l ++ [40]) ((d + 1 : Nat) : Int) (wtL ps) (some s) := by rw [← ho]; exact hr5
        have hg : goT 4 (d + 1) barS true ps = some s := by
          unfold orBad at ho
          split at ho
          · cases ho
          · exact ho
        have := goT_wt 4 (d + 1) barS rfl true ps s hg
        exact ⟨_, false, hr5', by simp; omega, .inl ⟨rfl, s, rfl, rfl⟩⟩
    have hB5 : B ≤ w5.heap.size := Nat.le_trans hB4 hf5.size
    have HWs := Lib.hid (wstr_any w5 B b l5 ((d + 1 : Nat) : Int) bd5 ⟨#[41]⟩ hw5 (by show l5.length + 1 ≤ _; omega) hB5)
    have HL5 := Lib.hid hl5
    have HC5 := Lib.hid hc5
    clear hr5 hf5 hw5 hl5 hc5 HC y0 y1 y2 y3
    go_wp2_with (go_at_call 26; go_must (refine HWs.out.mono ?_))
    rintro e w6 ⟨rfl, hw6, hf6⟩
    obtain ⟨_, c2, _, fz⟩ := hw6.cells
    have hc2' : w6.cell? ⟨b, 2, none⟩ = some (.int .i64 ((d : Int) + 1)) := c2
    have HW7 := Lib.hid (hw6.depth (d : Int))
    have HF7 := Lib.hid ((HF5.out.trans hf6).trans (WF.set hBb 2 (.int .i64 (d : Int))))
    have hres : WrRes (w6.setCell ⟨b, 2, none⟩ (.int .i64 (d : Int))) B b l d (wtL ps + 2) R := by
      rw [← HRR.out]
      have hbd := HBd.out
      rcases HC5.out with ⟨rfl, s, h1, h2⟩ | ⟨rfl, h1⟩
      · have hb0 : bd = false := by
          cases bd with
          | false => rfl
          | true => cases h1
        rw [hb0] at h1 hbd
        have := of_decide_eq_false hbd
        rw [if_pos (by omega), show goT 4 (d + 1) barS true ps = some s from h1]
        have h3 := HW7.out
        rw [h2] at h3
        have e : l ++ [40] ++ s ++ (⟨#[41]⟩ : ByteArray).data.toList = l ++ (40 :: (s ++ [41])) := by simp
        rw [e] at h3
        exact h3
      · have hn : (if d < 8 then (goT 4 (d + 1) barS true ps).map (fun s => 40 :: (s ++ [41])) else none) = none := by
          split
          · have hb0 : bd = false := by rw [← hbd]; exact decide_eq_false (by omega)
            rw [hb0] at h1
            rw [show goT 4 (d + 1) barS true ps = none from h1]; rfl
          · rfl
        rw [hn]
        refine ⟨_, ?_, HW7.out⟩
        have h4 := HL5.out
        rw [List.length_append]
        show l5.length + 1 ≤ _
        omega
    have HRes := Lib.hid hres
    clear hres hw6 hf6 HWs c2 HBd HC5 HL5 HRR
    go_wp2
    exact bodyPost_end (by simp [results, Tryd.results50]) rfl ⟨rfl, HRes.out, HF7.out⟩
  · have hne : (above == 5) = false := by simp [h5]
    unfold unT at hR
    rw [if_neg h5] at hR
    have HC := Lib.hid (HRow.out w1 l d false hW1 hTr (by omega) (by omega) (fun _ => hd8))
    have HRR := Lib.hid hR
    have y0 := Lib.cell_of_heap HX1.out 0; have y1 := Lib.cell_of_heap HX1.out 1; have y2 := Lib.cell_of_heap HX1.out 2; have y3 := Lib.cell_of_heap HX1.out 3
    simp at y0 y1 y2 y3
    clear hR h5 hW1 hTr HRow
    go_wp2_with (go_at_call 51; go_must (refine HC.out.mono ?_))
    rintro e w5 ⟨rfl, hr5, hf5⟩
    have HF5 := Lib.hid (HWF1.out.trans hf5)
    have HRes := Lib.hid (show WrRes w5 B b l d (wtL ps + 2) R by rw [← HRR.out]; exact WrRes.more hr5 (by omega))
    clear hr5 hf5 HC
    go_wp2
    exact bodyPost_end (by simp [results, Tryd.results50]) rfl ⟨rfl, HRes.out, HF5.out⟩
end Go.Proofs.YtopnldebekhelaaDoor
