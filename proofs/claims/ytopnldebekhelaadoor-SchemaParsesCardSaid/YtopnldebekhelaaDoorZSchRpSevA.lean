/- sentryref05.several, parts joined by & (written by gen_schrpsev.py). -/
import Derived.Test.YtopnldebekhelaaDoorZSchRpS
namespace Go.Proofs.YtopnldebekhelaaDoor
open Go Go.RowKit

set_option maxRecDepth 100000 in
set_option maxHeartbeats 8000000 in
theorem sevA_any (f : List ByteArray → Pr) (hok : StepOk f) (hlen : StepLen f) (d : Int)
    (hit : ∀ (W : World) (B : Nat) (a : Option Addr) (m c : Nat) (T : List ByteArray), B ≤ W.heap.size → Seg B W a m c T → wtT T ≤ 600000 → Calls Tryd.prog 63 #[.slice a m c, .int .i64 d] W (SvPost B W (f T)))
    (w : World) (B : Nat) (a0 : Option Addr) (m0 c0 : Nat) (T0 : List ByteArray) (hBw : B ≤ w.heap.size) (hr0 : Seg B w a0 m0 c0 T0) (hT0 : wtT T0 ≤ 600000) :
    Calls Tryd.prog 46 #[.slice a0 m0 c0, .int .i64 d, .string ⟨#[38]⟩, .int .i64 5] w (SvPost B w (sevF f cAmp 5 T0)) := by
  obtain ⟨j0, hj, hy0, hy1, hy2⟩ := info_parts infoE_Ru
  obtain ⟨R, hR⟩ : ∃ R, sevF f cAmp 5 T0 = R := ⟨_, rfl⟩
  rw [hR]
  obtain ⟨N, hN⟩ : ∃ N, w.heap.size = N := ⟨_, rfl⟩
  obtain ⟨W0, hW0⟩ : ∃ W, W = w.alloc (.cells #[.int .i64 0, .string ⟨#[]⟩, .string ⟨#[]⟩, .slice none 0 0] 42) := ⟨_, rfl⟩
  have b0 : Below w.heap.size w W0 := by rw [hW0]; exact (Below.refl _ _).alloc (Nat.le_refl _) _
  have n0 : W0.heap[w.heap.size]? = some (.cells #[.int .i64 0, .string ⟨#[]⟩, .string ⟨#[]⟩, .slice none 0 0] 42 (0, 0)) := by rw [hW0]; exact heap_alloc_new w _
  have HSt := Lib.hid (show RvRel B w f cAmp 5 T0 R (.slice a0 m0 c0) (.slice none 0 0) W0 from
    ⟨T0, T0.length + 1, [], a0, m0, c0, rfl, hr0.keep (b0.mono hBw), EOwn.nil _, n0, b0, Nat.lt_succ_self _, hR.symm, by rw [List.map_nil, wtL_nil]; omega⟩)
  have HW0 := Lib.hid hW0
  have HIt := Lib.hid hit
  have HN := Lib.hid hN
  have HOk := Lib.hid hok
  have HLen := Lib.hid hlen
  have hwN : w.heap.size ≤ N := Nat.le_of_eq hN
  have hNw : N ≤ w.heap.size := Nat.le_of_eq hN.symm
  clear hR hit hW0 b0 n0 hr0 hN
  go_enter Tryd.func46, Tryd.ntmps46
  go_upto_region 1 with fail
  rw [← HW0.out]
  try rw [HN.out]
  clear HW0
  go_wp2
  go_loopw [0, 11] (fun lv pv wr => RvRel B w f cAmp 5 T0 R lv pv wr) (fun lv _ _ => slen lv)
  case atStart => exact HSt.out
  case round =>
    obtain ⟨T, n, es, a, m, c, rfl, hrd, hO, hNb, hb, hn, hRr, hw⟩ := hrel
    have HRd := Lib.hid hrd
    have HO := Lib.hid hO
    have HNb := Lib.hid hNb
    have HB := Lib.hid hb
    have HNn := Lib.hid hn
    have HR := Lib.hid hRr
    have HWt := Lib.hid hw
    have hmc := hrd.le
    have hcm := hrd.cap
    have hbsz := hb.size
    have hNlt : N < wr.heap.size := by rw [← HN.out]; exact (Array.getElem?_eq_some_iff.1 hNb).1
    have hwT : wtT T ≤ 600000 := by omega
    have hel : 8 * es.length ≤ 600000 := by
      have := wtL_len (es.map RuE.tree)
      rw [List.length_map] at this
      omega
    obtain ⟨pa, pcap, rfl, hp1, hp2⟩ := (ownsRow.reads hO.1).le
    unfold maxLen at hp2 hcm
    obtain ⟨M, hM⟩ : ∃ M, wr.heap.size = M := ⟨_, rfl⟩
    obtain ⟨w1, hw1⟩ : ∃ W, W = wr.alloc (.cells #[.int .i64 0, .string ⟨#[]⟩, .string ⟨#[]⟩, .slice none 0 0] 42) := ⟨_, rfl⟩
    have hb1 : Below wr.heap.size wr w1 := by rw [hw1]; exact (Below.refl _ _).alloc (Nat.le_refl _) _
    have hn1 : w1.heap[M]? = some (.cells #[.int .i64 0, .string ⟨#[]⟩, .string ⟨#[]⟩, .slice none 0 0] 42 (0, 0)) := by rw [hw1, ← hM]; exact heap_alloc_new wr _
    have hs1 : w1.heap.size = M + 1 := by rw [hw1, ← hM]; simp
    have HC := Lib.hid (HIt.out w1 B a m c T (by omega) (hrd.keep (hb1.mono (by omega))) hwT)
    have HB1 := Lib.hid hb1
    have HN1 := Lib.hid hn1
    have HW1 := Lib.hid hw1
    have HM := Lib.hid hM
    have hwM : wr.heap.size ≤ M := Nat.le_of_eq hM
    have hMw : M ≤ wr.heap.size := Nat.le_of_eq hM.symm
    have hs1a : M + 1 ≤ w1.heap.size := Nat.le_of_eq hs1.symm
    have HS1 := Lib.hid hs1
    clear hrd hO hNb hb hn hRr hw hw1 hb1 hn1 HSt HIt hM hs1
    go_upto_region 3 with fail
    rw [← HW1.out]
    try rw [HM.out]
    clear HW1
    have z0 := Lib.cell_of_heap HN1.out 0; have z1 := Lib.cell_of_heap HN1.out 1; have z2 := Lib.cell_of_heap HN1.out 2; have z3 := Lib.cell_of_heap HN1.out 3
    have zf := Lib.frozen_of_heap HN1.out
    simp at z0 z1 z2 z3
    clear z0 z1 z2 z3 zf
    go_upto_region 6 with fail
    go_wp2_with (go_at_call 63; go_must (refine HC.out.mono ?_))
    rintro e w2 ⟨x, ra, rm, rc, ok, rfl, hb2, hrc1, hrc2, hres⟩
    have hn2 := (hb2.block M (by omega)).trans HN1.out
    have z0 := Lib.cell_of_heap hn2 0; have z1 := Lib.cell_of_heap hn2 1; have z2 := Lib.cell_of_heap hn2 2; have z3 := Lib.cell_of_heap hn2 3
    have zf := Lib.frozen_of_heap hn2
    simp at z0 z1 z2 z3
    have hs2 : M < w2.heap.size := Nat.lt_of_lt_of_le (by omega) hb2.size
    obtain ⟨w3, hw3⟩ : ∃ W, W = set4 w2 M (.int .i64 x.h.kind) (.string x.h.a) (.string x.h.b) (.slice x.a x.ps.length x.cap) := ⟨_, rfl⟩
    have hn3 : w3.heap[M]? = some (.cells #[.int .i64 x.h.kind, .string x.h.a, .string x.h.b, .slice x.a x.ps.length x.cap] 42 (0, 0)) := by rw [hw3]; exact set4_at rfl hn2 _ _ _ _
    have hs3 : w3.heap.size = w2.heap.size := by rw [hw3]; exact set4_size _ _ _ _ _ _
    have hb3 : Below M wr w3 := by
      rw [hw3]
      refine set4_below ?_ (Nat.le_refl _) _ _ _ _
      have h1 := HB1.out
      rw [HM.out] at h1
      exact h1.trans (hb2.mono (by omega))
    have HB3 := Lib.hid (HB.out.trans (hb3.mono (by rw [← HM.out]; exact hbsz)))
    have HK3 := Lib.hid hb3
    have HN3 := Lib.hid hn3
    have hNb' := HNb.out
    rw [HN.out] at hNb'
    have HNb3 := Lib.hid ((hb3.block N (by rw [← HM.out]; exact hNlt)).trans hNb')
    clear hNb'
    have HO3 := Lib.hid (show EOwn RuE.cells ruEAt 42 4 (w.heap.size + 1) w3 (.slice pa es.length pcap) es from by
      have h := hb3
      rw [← HM.out] at h
      exact HO.out.touch ruE_keep (Touch.of_below h [N, N]) (by rw [HN.out]; omega) (by rw [HN.out]; omega))
    have hs3M : M < w3.heap.size := by omega
    have hres3 : (ok = false ∧ f T = none) ∨ (ok = true ∧ ∃ U, f T = some (x.tree, U) ∧ ruEAt (fun b => M + 1 ≤ b) w3 x ∧ Seg B w3 ra rm rc U) := by
      rcases hres with h | ⟨h1, U, h2, h3, h4⟩
      · exact .inl h
      · refine .inr ⟨h1, U, h2, ?_, h4.keep ?_⟩
        · rw [HS1.out] at h3
          rw [hw3]
          exact ruE_keep.keep _ _ _ _ (set4_keeps _ _ _ _ _ _) h3
        · rw [hw3]
          exact set4_below (Below.refl _ _) (by omega) _ _ _ _
    have HRes := Lib.hid hres3
    have HW3 := Lib.hid hw3
    clear hb2 hres hn2 hn3 hb3 hw3 hres3 hs3 HC HB1 HN1
    go_upto_region 7 with fail
    generalize hgo : (((w2.setCell ⟨M, 0, none⟩ (.int .i64 x.h.kind)).setCell ⟨M, 1, none⟩ (.string x.h.a)).setCell ⟨M, 2, none⟩ (.string x.h.b)).setCell ⟨M, 3, none⟩ (.slice x.a x.ps.length x.cap) = w3' at *
    obtain rfl : w3' = w3 := hgo.symm.trans HW3.out.symm
    clear hgo HW3 z0 z1 z2 z3 zf
    have x0 := Lib.cell_of_heap HN3.out 0; have x1 := Lib.cell_of_heap HN3.out 1; have x2 := Lib.cell_of_heap HN3.out 2; have x3 := Lib.cell_of_heap HN3.out 3
    simp at x0 x1 x2 x3
    have hNM : N < w3'.heap.size := by omega
    cases ok with
    | false =>
      have hno : f T = none := by
        rcases HRes.out with h | h
        · exact h.2
        · cases h.1
      have HNo := Lib.hid (rv_none HNn.out HR.out hno)
      have k0 := Lib.cell_of_heap HNb3.out 0; have k1 := Lib.cell_of_heap HNb3.out 1; have k2 := Lib.cell_of_heap HNb3.out 2; have k3 := Lib.cell_of_heap HNb3.out 3
      have kf := Lib.frozen_of_heap HNb3.out
      simp at k0 k1 k2 k3
      have HX4 := Lib.hid (set4_at rfl HNb3.out (.int .i64 x.h.kind) (.string x.h.a) (.string x.h.b) (.slice x.a x.ps.length x.cap))
      have HB4 := Lib.hid (set4_below HB3.out (show w.heap.size ≤ N by omega) (.int .i64 x.h.kind) (.string x.h.a) (.string x.h.b) (.slice x.a x.ps.length x.cap))
      clear hno
      go_wp2
      exact bodyPost_ret (ret_ru3 Tryd.results46 rfl HX4.out) rfl (sv_no HNo.out HB4.out hrc1 hrc2 ⟨rfl, rfl, rfl, rfl, rfl, rfl⟩)
    | true =>
      obtain ⟨U, hfU, hat, hseg⟩ : ∃ U, f T = some (x.tree, U) ∧ ruEAt (fun b => M + 1 ≤ b) w3' x ∧ Seg B w3' ra rm rc U := by
        rcases HRes.out with h | h
        · cases h.1
        · exact h.2
      obtain ⟨hxw, hsum, hUT, hgo, hstop⟩ := rv_step HOk.out HLen.out HNn.out HR.out HWt.out hfU
      have HGo := Lib.hid hgo
      have HStop := Lib.hid hstop
      have HSum := Lib.hid hsum
      have HSeg := Lib.hid hseg
      have HAtM := Lib.hid hat
      have hvl : ∀ c, (Value.slice pa es.length pcap).ownBlock = some c → c < M + 1 := fun c hc => by have := (HO.out.1.lt c hc).2; omega
      have hxl : 8 * x.ps.length ≤ 600000 := by
        have h1 := wt_parts x.tree
        have h2 := wtL_len x.tree.parts
        have h3 : x.tree.parts = x.ps := rfl
        rw [h3] at h1 h2
        omega
      have HVl := Lib.hid hvl
      clear hfU hat hseg hgo hstop hsum hUT HRes hvl HO
      by_cases hk : x.h.kind = 5
      · have hke : (x.h.kind == 5) = true := by simp [hk]
        obtain ⟨fs, hf1, hf2, hf3⟩ := ruE_rows HAtM.out
        have hfl : fs.length = x.ps.length := by rw [← hf1, List.length_map]
        have hown := HO3.out.1
        have hsrc := Reads.src (P := Tryd.prog) (tx := 40) Tryd.underlying40 hf3 (ruE_one fs)
        have HF1 := Lib.hid hf1
        have HF2 := Lib.hid hf2
        have HFl := Lib.hid hfl
        clear hf1 hf2 hf3 hfl
        go_wp2_with (at_builtin; go_must (refine wpList_append_owns rfl _ _ 40 40 rfl (w.heap.size + 1) 42 j0 _ 4 64 Tryd.underlying40 hj hy0 hy1 hy2 rfl _ _ _ rfl hown _ _ _ rfl hsrc ?_ ?_ ?_ ?_))
        · unfold maxLen; omega
        · omega
        · omega
        intro v6 w6 o6 g6 b6 m6
        obtain ⟨es2, hes2⟩ : ∃ l, l = es ++ fs := ⟨_, rfl⟩
        have HO6 := Lib.hid (show EOwn RuE.cells ruEAt 42 4 (w.heap.size + 1) w6 v6 es2 from by rw [hes2]; exact EOwn.pushes ruE_keep HO3.out HF2.out (by omega) HVl.out (by rw [HFl.out]; exact o6) g6 m6)
        have HE6 := Lib.hid (show es2.map RuE.tree = addP 5 (es.map RuE.tree) x.tree by rw [hes2, List.map_append, HF1.out]; unfold addP; rw [if_pos (show x.tree.head.kind = 5 from hk)]; rfl)
        clear hes2 HF1 HF2 HFl hown hsrc hke o6 g6 m6
        have HB6 := Lib.hid (HB3.out.trans (b6.mono (by omega)))
        have HNb6 := Lib.hid ((b6.block N (by omega)).trans HNb3.out)
        have HSeg6 := Lib.hid (HSeg.out.keep (b6.mono (by omega)))
        have hN6 : N < w6.heap.size := Nat.lt_of_lt_of_le hNM b6.size
        have hel2 : 8 * es2.length ≤ 600000 := by
          have h1 := wtL_len (es2.map RuE.tree)
          rw [List.length_map] at h1
          have h2 := HSum.out
          rw [← HE6.out] at h2
          omega
        clear b6 x0 x1 x2 x3 HN3 HK3 HO3 HNb3 HSeg HB3 HAtM HVl
        cases U with
        | nil =>
          have hrm : rm = 0 := HSeg6.out.len
          subst hrm
          have HStop2 := Lib.hid (HStop.out (hd_none (by decide)))
          have k0 := Lib.cell_of_heap HNb6.out 0; have k1 := Lib.cell_of_heap HNb6.out 1; have k2 := Lib.cell_of_heap HNb6.out 2; have k3 := Lib.cell_of_heap HNb6.out 3
          have kf := Lib.frozen_of_heap HNb6.out
          simp at k0 k1 k2 k3
          obtain ⟨qa, qcap, rfl, hq1, hq2⟩ := (ownsRow.reads HO6.out.1).le
          unfold maxLen at hq2
          by_cases h1 : es2.length = 1
          · obtain ⟨y, rfl⟩ : ∃ y, es2 = [y] := by
              match es2, h1 with
              | [y], _ => exact ⟨y, rfl⟩
            have hyat := ruE_keep.mono _ (fun b => w.heap.size + 1 ≤ b) _ _ (fun b _ hb => hb.1) (HO6.out.2 y (by simp))
            obtain ⟨yb, yoff, rfl, hyb, hycs⟩ := rows_at RuE.cells 4 (fun _ => rfl) (ownsRow.reads HO6.out.1) (i := 0) (x := y) rfl (by decide)
            have y0 := hycs 0 _ rfl; have y1 := hycs 1 _ rfl; have y2 := hycs 2 _ rfl; have y3 := hycs 3 _ rfl
            simp only [Nat.zero_mul, Nat.add_zero] at y0 y1 y2 y3
            have hX4 := set4_at rfl HNb6.out (.int .i64 y.h.kind) (.string y.h.a) (.string y.h.b) (.slice y.a y.ps.length y.cap)
            have hB4 := set4_below HB6.out (show w.heap.size ≤ N by omega) (.int .i64 y.h.kind) (.string y.h.a) (.string y.h.b) (.slice y.a y.ps.length y.cap)
            have hat4 := ruE_keep.keep _ _ _ _ (by rw [HN.out]; exact set4_keeps w6 N (.int .i64 y.h.kind) (.string y.h.a) (.string y.h.b) (.slice y.a y.ps.length y.cap)) hyat
            have hseg4 := HSeg6.out.keep (set4_below (Below.refl B w6) (show B ≤ N by omega) (.int .i64 y.h.kind) (.string y.h.a) (.string y.h.b) (.slice y.a y.ps.length y.cap))
            have hRy : R = some (y.tree, []) := by have h := HStop2.out; rw [← HE6.out] at h; exact h
            have HX4 := Lib.hid hX4
            have HPost := Lib.hid (sv_yes hRy hB4 (ruE_keep.mono _ _ _ _ (fun b _ hb => (by have : w.heap.size + 1 ≤ b := hb; show w.heap.size ≤ b; omega)) hat4) hseg4)
            clear hX4 hB4 hat4 hseg4 hRy hyat hycs HSeg6 HO6
            go_wp2
            exact bodyPost_ret (ret_ru3 Tryd.results46 rfl HX4.out) rfl HPost.out
          · have hne : ((es2.length : Int) == 1) = false := by simp; omega
            obtain ⟨a2, c2, hv2, hl1, hl2, htr⟩ := HO6.out.trs RuE.tree (show 0 < 4 by decide) (fun _ => rfl) (fun _ _ h => RuE.at h) ruE_keep
            cases hv2
            have hel : (es2.map RuE.tree).length = es2.length := List.length_map _
            have hat : ruEAt (fun b => w.heap.size + 1 ≤ b) w6 (⟨⟨5, ⟨#[]⟩, ⟨#[]⟩⟩, es2.map RuE.tree, qa, qcap⟩ : RuE) := ⟨by rw [hel]; exact hl1, hl2, htr⟩
            have hX4 := set4_at rfl HNb6.out (.int .i64 5) (.string ⟨#[]⟩) (.string ⟨#[]⟩) (.slice qa es2.length qcap)
            have hB4 := set4_below HB6.out (show w.heap.size ≤ N by omega) (.int .i64 5) (.string ⟨#[]⟩) (.string ⟨#[]⟩) (.slice qa es2.length qcap)
            have hat4 := ruE_keep.keep _ _ _ _ (by rw [HN.out]; exact set4_keeps w6 N (.int .i64 5) (.string ⟨#[]⟩) (.string ⟨#[]⟩) (.slice qa es2.length qcap)) hat
            have hseg4 := HSeg6.out.keep (set4_below (Below.refl B w6) (show B ≤ N by omega) (.int .i64 5) (.string ⟨#[]⟩) (.string ⟨#[]⟩) (.slice qa es2.length qcap))
            have hRy : R = some ((⟨⟨5, ⟨#[]⟩, ⟨#[]⟩⟩, es2.map RuE.tree, qa, qcap⟩ : RuE).tree, []) := by
              have h := HStop2.out
              rw [← HE6.out] at h
              unfold mkRow at h
              rw [if_neg (by rw [hel]; exact h1)] at h
              exact h
            have HX4 := Lib.hid hX4
            have hPost := sv_yes hRy hB4 (ruE_keep.mono _ _ _ _ (fun b _ hb => (by have : w.heap.size + 1 ≤ b := hb; show w.heap.size ≤ b; omega)) hat4) hseg4
            simp only [hel] at hPost
            have HPost := Lib.hid hPost
            clear hX4 hB4 hat4 hseg4 hRy hat htr hel hPost HSeg6 HO6
            go_wp2
            exact bodyPost_ret (ret_ru3 Tryd.results46 rfl HX4.out) rfl HPost.out
        | cons sg U' =>
          have HRm := Lib.hid (show rm = U'.length + 1 from HSeg6.out.len)
          have hrmp : 1 ≤ rm := by rw [HRm.out]; omega
          obtain ⟨b, off, rfl, hbB, hbl, kc⟩ := HSeg6.out.head
          have hrm1 : (1 : Int) ≤ rm := by omega
          have hrm0 : (0 : Int) < rm := by omega
          have hrmn : ((rm : Int) == 0) = false := by simp; omega
          have hEq := streq sg [38]
          by_cases hop : sg = cAmp
          · have hqe : (sg.toList == [38]) = true := by rw [hEq]; exact decide_eq_true (show sg = tk [38] from hop)
            have hqn : (sg.toList != [38]) = false := by rw [bne, hEq, decide_eq_true (show sg = tk [38] from hop)]; rfl
            obtain ⟨hl1, hl2, hR2, hw2⟩ := HGo.out hop
            have HR2 := Lib.hid hR2
            have HW2 := Lib.hid hw2
            have HL1 := Lib.hid hl1
            have hcutA := HSeg6.out.cut 1 (by omega) (off + 1) (fun _ => rfl)
            have hlt2 : rm - 1 < m := by
              have h1 := HRd.out.len
              have h2 := HRm.out
              rw [List.tail_cons] at hl2
              omega
            clear hR2 hw2 hl1 hl2 hEq hop HGo HStop
            by_cases hrc : rc = 1
            · have hcutB := HSeg6.out.cut 1 (by omega) off (fun h => absurd hrc h)
              subst hrc
              have hr1 : rm = 1 := by omega
              subst hr1
              have HCut := Lib.hid hcutB
              clear hcutA hcutB
              go_wp2
              refine ⟨⟨U', n - 1, es2, _, _, _, rfl, ?_, HO6.out, ?_, HB6.out, HL1.out, by rw [HE6.out]; exact HR2.out, by rw [HE6.out]; exact HW2.out⟩, ?_⟩
              · exact HCut.out
              · rw [HN.out]; exact HNb6.out
              · exact hlt2
            · have HCut := Lib.hid hcutA
              clear hcutA
              go_wp2
              refine ⟨⟨U', n - 1, es2, _, _, _, rfl, ?_, HO6.out, ?_, HB6.out, HL1.out, by rw [HE6.out]; exact HR2.out, by rw [HE6.out]; exact HW2.out⟩, ?_⟩
              · exact HCut.out
              · rw [HN.out]; exact HNb6.out
              · exact hlt2
          · have hqe : (sg.toList == [38]) = false := by rw [hEq]; exact decide_eq_false (show ¬ sg = tk [38] from hop)
            have hqn : (sg.toList != [38]) = true := by rw [bne, hEq, decide_eq_false (show ¬ sg = tk [38] from hop)]; rfl
            have HStop2 := Lib.hid (HStop.out hop)
            clear hEq hop HGo HStop
            have k0 := Lib.cell_of_heap HNb6.out 0; have k1 := Lib.cell_of_heap HNb6.out 1; have k2 := Lib.cell_of_heap HNb6.out 2; have k3 := Lib.cell_of_heap HNb6.out 3
            have kf := Lib.frozen_of_heap HNb6.out
            simp at k0 k1 k2 k3
            obtain ⟨qa, qcap, rfl, hq1, hq2⟩ := (ownsRow.reads HO6.out.1).le
            unfold maxLen at hq2
            by_cases h1 : es2.length = 1
            · obtain ⟨y, rfl⟩ : ∃ y, es2 = [y] := by
                match es2, h1 with
                | [y], _ => exact ⟨y, rfl⟩
              have hyat := ruE_keep.mono _ (fun b => w.heap.size + 1 ≤ b) _ _ (fun b _ hb => hb.1) (HO6.out.2 y (by simp))
              obtain ⟨yb, yoff, rfl, hyb, hycs⟩ := rows_at RuE.cells 4 (fun _ => rfl) (ownsRow.reads HO6.out.1) (i := 0) (x := y) rfl (by decide)
              have y0 := hycs 0 _ rfl; have y1 := hycs 1 _ rfl; have y2 := hycs 2 _ rfl; have y3 := hycs 3 _ rfl
              simp only [Nat.zero_mul, Nat.add_zero] at y0 y1 y2 y3
              have hX4 := set4_at rfl HNb6.out (.int .i64 y.h.kind) (.string y.h.a) (.string y.h.b) (.slice y.a y.ps.length y.cap)
              have hB4 := set4_below HB6.out (show w.heap.size ≤ N by omega) (.int .i64 y.h.kind) (.string y.h.a) (.string y.h.b) (.slice y.a y.ps.length y.cap)
              have hat4 := ruE_keep.keep _ _ _ _ (by rw [HN.out]; exact set4_keeps w6 N (.int .i64 y.h.kind) (.string y.h.a) (.string y.h.b) (.slice y.a y.ps.length y.cap)) hyat
              have hseg4 := HSeg6.out.keep (set4_below (Below.refl B w6) (show B ≤ N by omega) (.int .i64 y.h.kind) (.string y.h.a) (.string y.h.b) (.slice y.a y.ps.length y.cap))
              have hRy : R = some (y.tree, sg :: U') := by have h := HStop2.out; rw [← HE6.out] at h; exact h
              have HX4 := Lib.hid hX4
              have HPost := Lib.hid (sv_yes hRy hB4 (ruE_keep.mono _ _ _ _ (fun b _ hb => (by have : w.heap.size + 1 ≤ b := hb; show w.heap.size ≤ b; omega)) hat4) hseg4)
              clear hX4 hB4 hat4 hseg4 hRy hyat hycs HSeg6 HO6
              go_wp2
              exact bodyPost_ret (ret_ru3 Tryd.results46 rfl HX4.out) rfl HPost.out
            · have hne : ((es2.length : Int) == 1) = false := by simp; omega
              obtain ⟨a2, c2, hv2, hl1, hl2, htr⟩ := HO6.out.trs RuE.tree (show 0 < 4 by decide) (fun _ => rfl) (fun _ _ h => RuE.at h) ruE_keep
              cases hv2
              have hel : (es2.map RuE.tree).length = es2.length := List.length_map _
              have hat : ruEAt (fun b => w.heap.size + 1 ≤ b) w6 (⟨⟨5, ⟨#[]⟩, ⟨#[]⟩⟩, es2.map RuE.tree, qa, qcap⟩ : RuE) := ⟨by rw [hel]; exact hl1, hl2, htr⟩
              have hX4 := set4_at rfl HNb6.out (.int .i64 5) (.string ⟨#[]⟩) (.string ⟨#[]⟩) (.slice qa es2.length qcap)
              have hB4 := set4_below HB6.out (show w.heap.size ≤ N by omega) (.int .i64 5) (.string ⟨#[]⟩) (.string ⟨#[]⟩) (.slice qa es2.length qcap)
              have hat4 := ruE_keep.keep _ _ _ _ (by rw [HN.out]; exact set4_keeps w6 N (.int .i64 5) (.string ⟨#[]⟩) (.string ⟨#[]⟩) (.slice qa es2.length qcap)) hat
              have hseg4 := HSeg6.out.keep (set4_below (Below.refl B w6) (show B ≤ N by omega) (.int .i64 5) (.string ⟨#[]⟩) (.string ⟨#[]⟩) (.slice qa es2.length qcap))
              have hRy : R = some ((⟨⟨5, ⟨#[]⟩, ⟨#[]⟩⟩, es2.map RuE.tree, qa, qcap⟩ : RuE).tree, sg :: U') := by
                have h := HStop2.out
                rw [← HE6.out] at h
                unfold mkRow at h
                rw [if_neg (by rw [hel]; exact h1)] at h
                exact h
              have HX4 := Lib.hid hX4
              have hPost := sv_yes hRy hB4 (ruE_keep.mono _ _ _ _ (fun b _ hb => (by have : w.heap.size + 1 ≤ b := hb; show w.heap.size ≤ b; omega)) hat4) hseg4
              simp only [hel] at hPost
              have HPost := Lib.hid hPost
              clear hX4 hB4 hat4 hseg4 hRy hat htr hel hPost HSeg6 HO6
              go_wp2
              exact bodyPost_ret (ret_ru3 Tryd.results46 rfl HX4.out) rfl HPost.out
      · have hke : (x.h.kind == 5) = false := by simp [hk]
        have hown := HO3.out.1
        go_wp2_with (at_builtin; go_must (refine wpList_append_rows_own (w0 := w3') rfl _ _ 40 rfl (w.heap.size + 1) 42 j0 _ 4 64 Tryd.underlying40 hj hy0 hy1 hy2 rfl (RuE.cells x) 1 rfl hown rfl rfl ?_ ?_ ?_ ?_ ?_))
        · intro u hu
          simp [RuE.cells] at hu
          rcases hu with rfl | rfl | rfl | rfl <;> rfl
        · unfold maxLen; omega
        · omega
        try omega
        intro v6 w6 o6 g6 b6 m6
        obtain ⟨es2, hes2⟩ : ∃ l, l = es ++ [x] := ⟨_, rfl⟩
        have HO6 := Lib.hid (show EOwn RuE.cells ruEAt 42 4 (w.heap.size + 1) w6 v6 es2 from by rw [hes2]; exact EOwn.push ruE_keep HO3.out HAtM.out (by omega) HVl.out o6 g6 m6)
        have HE6 := Lib.hid (show es2.map RuE.tree = addP 5 (es.map RuE.tree) x.tree by rw [hes2, List.map_append]; unfold addP; rw [if_neg (show ¬ x.tree.head.kind = 5 from hk)]; rfl)
        clear hes2 hown hke o6 g6 m6
        have HB6 := Lib.hid (HB3.out.trans (b6.mono (by omega)))
        have HNb6 := Lib.hid ((b6.block N (by omega)).trans HNb3.out)
        have HSeg6 := Lib.hid (HSeg.out.keep (b6.mono (by omega)))
        have hN6 : N < w6.heap.size := Nat.lt_of_lt_of_le hNM b6.size
        have hel2 : 8 * es2.length ≤ 600000 := by
          have h1 := wtL_len (es2.map RuE.tree)
          rw [List.length_map] at h1
          have h2 := HSum.out
          rw [← HE6.out] at h2
          omega
        clear b6 x0 x1 x2 x3 HN3 HK3 HO3 HNb3 HSeg HB3 HAtM HVl
        cases U with
        | nil =>
          have hrm : rm = 0 := HSeg6.out.len
          subst hrm
          have HStop2 := Lib.hid (HStop.out (hd_none (by decide)))
          have k0 := Lib.cell_of_heap HNb6.out 0; have k1 := Lib.cell_of_heap HNb6.out 1; have k2 := Lib.cell_of_heap HNb6.out 2; have k3 := Lib.cell_of_heap HNb6.out 3
          have kf := Lib.frozen_of_heap HNb6.out
          simp at k0 k1 k2 k3
          obtain ⟨qa, qcap, rfl, hq1, hq2⟩ := (ownsRow.reads HO6.out.1).le
          unfold maxLen at hq2
          by_cases h1 : es2.length = 1
          · obtain ⟨y, rfl⟩ : ∃ y, es2 = [y] := by
              match es2, h1 with
              | [y], _ => exact ⟨y, rfl⟩
            have hyat := ruE_keep.mono _ (fun b => w.heap.size + 1 ≤ b) _ _ (fun b _ hb => hb.1) (HO6.out.2 y (by simp))
            obtain ⟨yb, yoff, rfl, hyb, hycs⟩ := rows_at RuE.cells 4 (fun _ => rfl) (ownsRow.reads HO6.out.1) (i := 0) (x := y) rfl (by decide)
            have y0 := hycs 0 _ rfl; have y1 := hycs 1 _ rfl; have y2 := hycs 2 _ rfl; have y3 := hycs 3 _ rfl
            simp only [Nat.zero_mul, Nat.add_zero] at y0 y1 y2 y3
            have hX4 := set4_at rfl HNb6.out (.int .i64 y.h.kind) (.string y.h.a) (.string y.h.b) (.slice y.a y.ps.length y.cap)
            have hB4 := set4_below HB6.out (show w.heap.size ≤ N by omega) (.int .i64 y.h.kind) (.string y.h.a) (.string y.h.b) (.slice y.a y.ps.length y.cap)
            have hat4 := ruE_keep.keep _ _ _ _ (by rw [HN.out]; exact set4_keeps w6 N (.int .i64 y.h.kind) (.string y.h.a) (.string y.h.b) (.slice y.a y.ps.length y.cap)) hyat
            have hseg4 := HSeg6.out.keep (set4_below (Below.refl B w6) (show B ≤ N by omega) (.int .i64 y.h.kind) (.string y.h.a) (.string y.h.b) (.slice y.a y.ps.length y.cap))
            have hRy : R = some (y.tree, []) := by have h := HStop2.out; rw [← HE6.out] at h; exact h
            have HX4 := Lib.hid hX4
            have HPost := Lib.hid (sv_yes hRy hB4 (ruE_keep.mono _ _ _ _ (fun b _ hb => (by have : w.heap.size + 1 ≤ b := hb; show w.heap.size ≤ b; omega)) hat4) hseg4)
            clear hX4 hB4 hat4 hseg4 hRy hyat hycs HSeg6 HO6
            go_wp2
            exact bodyPost_ret (ret_ru3 Tryd.results46 rfl HX4.out) rfl HPost.out
          · have hne : ((es2.length : Int) == 1) = false := by simp; omega
            obtain ⟨a2, c2, hv2, hl1, hl2, htr⟩ := HO6.out.trs RuE.tree (show 0 < 4 by decide) (fun _ => rfl) (fun _ _ h => RuE.at h) ruE_keep
            cases hv2
            have hel : (es2.map RuE.tree).length = es2.length := List.length_map _
            have hat : ruEAt (fun b => w.heap.size + 1 ≤ b) w6 (⟨⟨5, ⟨#[]⟩, ⟨#[]⟩⟩, es2.map RuE.tree, qa, qcap⟩ : RuE) := ⟨by rw [hel]; exact hl1, hl2, htr⟩
            have hX4 := set4_at rfl HNb6.out (.int .i64 5) (.string ⟨#[]⟩) (.string ⟨#[]⟩) (.slice qa es2.length qcap)
            have hB4 := set4_below HB6.out (show w.heap.size ≤ N by omega) (.int .i64 5) (.string ⟨#[]⟩) (.string ⟨#[]⟩) (.slice qa es2.length qcap)
            have hat4 := ruE_keep.keep _ _ _ _ (by rw [HN.out]; exact set4_keeps w6 N (.int .i64 5) (.string ⟨#[]⟩) (.string ⟨#[]⟩) (.slice qa es2.length qcap)) hat
            have hseg4 := HSeg6.out.keep (set4_below (Below.refl B w6) (show B ≤ N by omega) (.int .i64 5) (.string ⟨#[]⟩) (.string ⟨#[]⟩) (.slice qa es2.length qcap))
            have hRy : R = some ((⟨⟨5, ⟨#[]⟩, ⟨#[]⟩⟩, es2.map RuE.tree, qa, qcap⟩ : RuE).tree, []) := by
              have h := HStop2.out
              rw [← HE6.out] at h
              unfold mkRow at h
              rw [if_neg (by rw [hel]; exact h1)] at h
              exact h
            have HX4 := Lib.hid hX4
            have hPost := sv_yes hRy hB4 (ruE_keep.mono _ _ _ _ (fun b _ hb => (by have : w.heap.size + 1 ≤ b := hb; show w.heap.size ≤ b; omega)) hat4) hseg4
            simp only [hel] at hPost
            have HPost := Lib.hid hPost
            clear hX4 hB4 hat4 hseg4 hRy hat htr hel hPost HSeg6 HO6
            go_wp2
            exact bodyPost_ret (ret_ru3 Tryd.results46 rfl HX4.out) rfl HPost.out
        | cons sg U' =>
          have HRm := Lib.hid (show rm = U'.length + 1 from HSeg6.out.len)
          have hrmp : 1 ≤ rm := by rw [HRm.out]; omega
          obtain ⟨b, off, rfl, hbB, hbl, kc⟩ := HSeg6.out.head
          have hrm1 : (1 : Int) ≤ rm := by omega
          have hrm0 : (0 : Int) < rm := by omega
          have hrmn : ((rm : Int) == 0) = false := by simp; omega
          have hEq := streq sg [38]
          by_cases hop : sg = cAmp
          · have hqe : (sg.toList == [38]) = true := by rw [hEq]; exact decide_eq_true (show sg = tk [38] from hop)
            have hqn : (sg.toList != [38]) = false := by rw [bne, hEq, decide_eq_true (show sg = tk [38] from hop)]; rfl
            obtain ⟨hl1, hl2, hR2, hw2⟩ := HGo.out hop
            have HR2 := Lib.hid hR2
            have HW2 := Lib.hid hw2
            have HL1 := Lib.hid hl1
            have hcutA := HSeg6.out.cut 1 (by omega) (off + 1) (fun _ => rfl)
            have hlt2 : rm - 1 < m := by
              have h1 := HRd.out.len
              have h2 := HRm.out
              rw [List.tail_cons] at hl2
              omega
            clear hR2 hw2 hl1 hl2 hEq hop HGo HStop
            by_cases hrc : rc = 1
            · have hcutB := HSeg6.out.cut 1 (by omega) off (fun h => absurd hrc h)
              subst hrc
              have hr1 : rm = 1 := by omega
              subst hr1
              have HCut := Lib.hid hcutB
              clear hcutA hcutB
              go_wp2
              refine ⟨⟨U', n - 1, es2, _, _, _, rfl, ?_, HO6.out, ?_, HB6.out, HL1.out, by rw [HE6.out]; exact HR2.out, by rw [HE6.out]; exact HW2.out⟩, ?_⟩
              · exact HCut.out
              · rw [HN.out]; exact HNb6.out
              · exact hlt2
            · have HCut := Lib.hid hcutA
              clear hcutA
              go_wp2
              refine ⟨⟨U', n - 1, es2, _, _, _, rfl, ?_, HO6.out, ?_, HB6.out, HL1.out, by rw [HE6.out]; exact HR2.out, by rw [HE6.out]; exact HW2.out⟩, ?_⟩
              · exact HCut.out
              · rw [HN.out]; exact HNb6.out
              · exact hlt2
          · have hqe : (sg.toList == [38]) = false := by rw [hEq]; exact decide_eq_false (show ¬ sg = tk [38] from hop)
            have hqn : (sg.toList != [38]) = true := by rw [bne, hEq, decide_eq_false (show ¬ sg = tk [38] from hop)]; rfl
            have HStop2 := Lib.hid (HStop.out hop)
            clear hEq hop HGo HStop
            have k0 := Lib.cell_of_heap HNb6.out 0; have k1 := Lib.cell_of_heap HNb6.out 1; have k2 := Lib.cell_of_heap HNb6.out 2; have k3 := Lib.cell_of_heap HNb6.out 3
            have kf := Lib.frozen_of_heap HNb6.out
            simp at k0 k1 k2 k3
            obtain ⟨qa, qcap, rfl, hq1, hq2⟩ := (ownsRow.reads HO6.out.1).le
            unfold maxLen at hq2
            by_cases h1 : es2.length = 1
            · obtain ⟨y, rfl⟩ : ∃ y, es2 = [y] := by
                match es2, h1 with
                | [y], _ => exact ⟨y, rfl⟩
              have hyat := ruE_keep.mono _ (fun b => w.heap.size + 1 ≤ b) _ _ (fun b _ hb => hb.1) (HO6.out.2 y (by simp))
              obtain ⟨yb, yoff, rfl, hyb, hycs⟩ := rows_at RuE.cells 4 (fun _ => rfl) (ownsRow.reads HO6.out.1) (i := 0) (x := y) rfl (by decide)
              have y0 := hycs 0 _ rfl; have y1 := hycs 1 _ rfl; have y2 := hycs 2 _ rfl; have y3 := hycs 3 _ rfl
              simp only [Nat.zero_mul, Nat.add_zero] at y0 y1 y2 y3
              have hX4 := set4_at rfl HNb6.out (.int .i64 y.h.kind) (.string y.h.a) (.string y.h.b) (.slice y.a y.ps.length y.cap)
              have hB4 := set4_below HB6.out (show w.heap.size ≤ N by omega) (.int .i64 y.h.kind) (.string y.h.a) (.string y.h.b) (.slice y.a y.ps.length y.cap)
              have hat4 := ruE_keep.keep _ _ _ _ (by rw [HN.out]; exact set4_keeps w6 N (.int .i64 y.h.kind) (.string y.h.a) (.string y.h.b) (.slice y.a y.ps.length y.cap)) hyat
              have hseg4 := HSeg6.out.keep (set4_below (Below.refl B w6) (show B ≤ N by omega) (.int .i64 y.h.kind) (.string y.h.a) (.string y.h.b) (.slice y.a y.ps.length y.cap))
              have hRy : R = some (y.tree, sg :: U') := by have h := HStop2.out; rw [← HE6.out] at h; exact h
              have HX4 := Lib.hid hX4
              have HPost := Lib.hid (sv_yes hRy hB4 (ruE_keep.mono _ _ _ _ (fun b _ hb => (by have : w.heap.size + 1 ≤ b := hb; show w.heap.size ≤ b; omega)) hat4) hseg4)
              clear hX4 hB4 hat4 hseg4 hRy hyat hycs HSeg6 HO6
              go_wp2
              exact bodyPost_ret (ret_ru3 Tryd.results46 rfl HX4.out) rfl HPost.out
            · have hne : ((es2.length : Int) == 1) = false := by simp; omega
              obtain ⟨a2, c2, hv2, hl1, hl2, htr⟩ := HO6.out.trs RuE.tree (show 0 < 4 by decide) (fun _ => rfl) (fun _ _ h => RuE.at h) ruE_keep
              cases hv2
              have hel : (es2.map RuE.tree).length = es2.length := List.length_map _
              have hat : ruEAt (fun b => w.heap.size + 1 ≤ b) w6 (⟨⟨5, ⟨#[]⟩, ⟨#[]⟩⟩, es2.map RuE.tree, qa, qcap⟩ : RuE) := ⟨by rw [hel]; exact hl1, hl2, htr⟩
              have hX4 := set4_at rfl HNb6.out (.int .i64 5) (.string ⟨#[]⟩) (.string ⟨#[]⟩) (.slice qa es2.length qcap)
              have hB4 := set4_below HB6.out (show w.heap.size ≤ N by omega) (.int .i64 5) (.string ⟨#[]⟩) (.string ⟨#[]⟩) (.slice qa es2.length qcap)
              have hat4 := ruE_keep.keep _ _ _ _ (by rw [HN.out]; exact set4_keeps w6 N (.int .i64 5) (.string ⟨#[]⟩) (.string ⟨#[]⟩) (.slice qa es2.length qcap)) hat
              have hseg4 := HSeg6.out.keep (set4_below (Below.refl B w6) (show B ≤ N by omega) (.int .i64 5) (.string ⟨#[]⟩) (.string ⟨#[]⟩) (.slice qa es2.length qcap))
              have hRy : R = some ((⟨⟨5, ⟨#[]⟩, ⟨#[]⟩⟩, es2.map RuE.tree, qa, qcap⟩ : RuE).tree, sg :: U') := by
                have h := HStop2.out
                rw [← HE6.out] at h
                unfold mkRow at h
                rw [if_neg (by rw [hel]; exact h1)] at h
                exact h
              have HX4 := Lib.hid hX4
              have hPost := sv_yes hRy hB4 (ruE_keep.mono _ _ _ _ (fun b _ hb => (by have : w.heap.size + 1 ≤ b := hb; show w.heap.size ≤ b; omega)) hat4) hseg4
              simp only [hel] at hPost
              have HPost := Lib.hid hPost
              clear hX4 hB4 hat4 hseg4 hRy hat htr hel hPost HSeg6 HO6
              go_wp2
              exact bodyPost_ret (ret_ru3 Tryd.results46 rfl HX4.out) rfl HPost.out
end Go.Proofs.YtopnldebekhelaaDoor
