/- The parser: a row of what stands between signs (written by gen_schrow.py). -/
import Derived.Test.YtopnldebekhelaaDoorZSchRowN
namespace Go.Proofs.YtopnldebekhelaaDoor
open Go Go.RowKit

set_option maxRecDepth 100000 in
set_option maxHeartbeats 4000000 in
theorem rowB_any (f : List ByteArray → Pr) (hok : StepOk f) (hlen : StepLen f) (op : ByteArray) (hop : op.size = 1) (k : Int) (d : Int)
    (hit : ∀ (W : World) (g : Nat) (T : List ByteArray), PAt W g T d false → wtT T ≤ 600000 → Calls Tryd.prog 62 #[.pointer (some ⟨g, 0, none⟩)] W (RuPost W g T d (f T)))
    (w : World) (g : Nat) (T0 : List ByteArray) (h : PAt w g T0 d false) (hT0 : wtT T0 ≤ 600000) :
    Calls Tryd.prog 61 #[.pointer (some ⟨g, 0, none⟩), .string op, .int .i64 k, .func (.func 62) #[.pointer (some ⟨g, 0, none⟩)] #[]] w (RuPost w g T0 d (rowF f op k (T0.length + 1) [] T0)) := by
  obtain ⟨j0, hj, hy0, hy1, hy2⟩ := info_parts infoE_Ru
  have hen : ∀ (args : Array Value) (w : World), (callFunc 62 args).run Tryd.prog w = .ok (.enter 62 args) w := fun _ _ => by kernel_rfl
  obtain ⟨R, hR⟩ : ∃ R, rowF f op k (T0.length + 1) [] T0 = R := ⟨_, rfl⟩
  rw [hR]
  have hg := h.lt
  have HH := Lib.hid h
  have HR := Lib.hid hR
  have HIt := Lib.hid hit
  obtain ⟨W0, hW0⟩ : ∃ W, W = w.alloc (.cells #[.int .i64 0, .string ⟨#[]⟩, .string ⟨#[]⟩, .slice none 0 0] 42) := ⟨_, rfl⟩
  have t0 : Touch w W0 [g] := by rw [hW0]; exact (Touch.refl w [g]).alloc _
  have n0 : W0.heap[w.heap.size]? = some (.cells #[.int .i64 0, .string ⟨#[]⟩, .string ⟨#[]⟩, .slice none 0 0] 42 (0, 0)) := by rw [hW0]; exact heap_alloc_new w _
  have p0 : PAt W0 g T0 d false := by rw [hW0]; exact h.below ((Below.refl _ _).alloc (Nat.le_refl _) _)
  have HW0 := Lib.hid hW0
  have HT0 := Lib.hid t0
  have HN0 := Lib.hid n0
  have HP0 := Lib.hid p0
  clear h hR hit hW0 t0 n0 p0
  go_enter Tryd.func61, Tryd.ntmps61
  go_upto_region 1 with fail
  rw [← HW0.out]
  clear HW0
  go_wp2
  go_loopw [9, 10] (fun pv mv wr => RwRel w f op k T0 g d R pv mv wr) (fun _ mv wr => mw mv wr g)
  case atStart => exact ⟨[], EOwn.nil _, HN0.out, HT0.out, .inl ⟨rfl, T0, T0.length + 1, HP0.out, by omega, HR.out.symm, by simp [wtL_nil]⟩⟩
  case round =>
    obtain ⟨es, hO, hN, hT, ⟨rfl, T, n, hp, hn, hRr, hw⟩ | ⟨rfl, hwE, hE⟩⟩ := hrel
    · have hgr := hp.lt
      have hwT : wtT T ≤ 600000 := by omega
      have HC := Lib.hid (HIt.out wr g T hp hwT)
      have HMs := Lib.hid (pw_at hp)
      have HG3 := Lib.hid hn
      have HG4 := Lib.hid hRr
      have HG5 := Lib.hid (show wtL (es.map RuE.tree) + (if es.map RuE.tree = [] then 0 else 9) + wtT T ≤ wtT T0 by simpa using hw)
      have HO := Lib.hid hO
      have HN := Lib.hid hN
      have HT := Lib.hid hT
      obtain ⟨pa, pcap, hpv, hp1, hp2⟩ := (ownsRow.reads hO.1).le
      unfold maxLen at hp2
      have hvl : ∀ c, u9.ownBlock = some c → c < wr.heap.size := fun c hc => (hO.1.lt c hc).2
      have hvg : ∀ c, u9.ownBlock = some c → w.heap.size + 1 ≤ c := fun c hc => (hO.1.lt c hc).1
      have hwN : w.heap.size < wr.heap.size := (Array.getElem?_eq_some_iff.1 hN).1
      have hel : 8 * es.length ≤ 600000 := by
        have := wtL_len (es.map RuE.tree)
        rw [List.length_map] at this
        omega
      have HVl := Lib.hid hvl
      have HVg := Lib.hid hvg
      clear hO hN hT hp hn hRr hw HP0 HN0 HT0 hvl hvg HR HH
      go_wp2_with (go_at_call 62; go_must (refine HC.out.mono ?_))
      rintro e w1 ⟨x, rfl, hat, ht1, hp1'⟩
      have HAt := Lib.hid hat
      have HP1 := Lib.hid hp1'
      have HT1 := Lib.hid (HT.out.same ht1)
      have HO1 := Lib.hid (HO.out.touch ruE_keep (one_two ht1) (by omega) (by omega))
      have HN1 := Lib.hid (ht1.keep HN.out (by simp; omega))
      have hs1 := ht1.size
      clear hat hp1' ht1 HC HO HN HT
      go_upto_region 6 with fail
      obtain ⟨w2, hw2⟩ : ∃ W, W = w1.alloc (.cells #[.int .i64 x.h.kind, .string x.h.a, .string x.h.b, .slice x.a x.ps.length x.cap] 42) := ⟨_, rfl⟩
      rw [← hw2]
      have hb2 : Below w1.heap.size w1 w2 := by rw [hw2]; exact (Below.refl _ _).alloc (Nat.le_refl _) _
      have hx2 : w2.heap[w1.heap.size]? = some (.cells #[.int .i64 x.h.kind, .string x.h.a, .string x.h.b, .slice x.a x.ps.length x.cap] 42 (0, 0)) := by rw [hw2]; exact heap_alloc_new w1 _
      have x0 := Lib.cell_of_heap hx2 0; have x1 := Lib.cell_of_heap hx2 1; have x2 := Lib.cell_of_heap hx2 2; have x3 := Lib.cell_of_heap hx2 3
      simp at x0 x1 x2 x3
      have HO2 := Lib.hid (show EOwn RuE.cells ruEAt 42 4 (w.heap.size + 1) w2 u9 es from HO1.out.touch ruE_keep (Touch.of_below hb2 [g, g]) (by omega) (by omega))
      have HN2 := Lib.hid ((hb2.block _ (by omega)).trans HN1.out)
      have HT2 := Lib.hid (HT1.out.same (Touch.of_below hb2 [g]))
      have HAt2 := Lib.hid (ruE_keep.keep _ _ _ _ (Keeps.of_below_size hb2) HAt.out)
      have HP2 := Lib.hid (HP1.out.touch (Touch.of_below hb2 []) (by simp))
      have hs2 := hb2.size
      have hxw : x.tree.wt ≤ 600008 := prRes_wt hok HP1.out hwT
      clear hw2 hb2 hx2 HO1 HN1 HT1 HAt HP1
      subst hpv
      by_cases hk : x.h.kind = k
      · have hke : (x.h.kind == k) = true := by simp [hk]
        obtain ⟨fs, hf1, hf2, hf3⟩ := ruE_rows HAt2.out
        have hfl : fs.length = x.ps.length := by rw [← hf1, List.length_map]
        have hxl : 8 * x.ps.length ≤ 600008 := by
          have h1 := wt_parts x.tree
          have h2 := wtL_len x.tree.parts
          have h3 : x.tree.parts = x.ps := rfl
          rw [h3] at h1 h2
          omega
        have hown := HO2.out.1
        have hsrc := Reads.src (P := Tryd.prog) (tx := 40) Tryd.underlying40 hf3 (ruE_one fs)
        have HF1 := Lib.hid hf1
        have HF2 := Lib.hid hf2
        have HFl := Lib.hid hfl
        clear hf1 hf2 hf3 hfl
        go_wp2_with (at_builtin; go_must (refine wpList_append_owns rfl _ _ 40 40 rfl (w.heap.size + 1) 42 j0 _ 4 64 Tryd.underlying40 hj hy0 hy1 hy2 rfl _ _ _ rfl hown _ _ _ rfl hsrc ?_ ?_ ?_ ?_))
        · unfold maxLen; omega
        · omega
        · omega
        intro v6 w6 o6 g6 b6 m6
        obtain ⟨es2, hes2⟩ : ∃ l, l = es ++ fs := ⟨_, rfl⟩
        have HO6 := Lib.hid (show EOwn RuE.cells ruEAt 42 4 (w.heap.size + 1) w6 v6 es2 from by rw [hes2]; exact EOwn.pushes ruE_keep HO2.out HF2.out (by omega) HVl.out (by rw [HFl.out]; exact o6) g6 m6)
        have HE6 := Lib.hid (show es2.map RuE.tree = addP k (es.map RuE.tree) x.tree by rw [hes2, List.map_append, HF1.out]; unfold addP; rw [if_pos (show x.tree.head.kind = k from hk)]; rfl)
        have HN6 := Lib.hid ((b6.block _ (by omega)).trans HN2.out)
        have HT6 := Lib.hid (touch_below HT2.out b6 (by omega))
        have HP6 := Lib.hid (HP2.out.belowB b6 (by omega))
        clear HO2 HF1 HF2 HFl HN2 HT2 HP2 HAt2 o6 g6 b6 m6 hes2 hown hsrc x0 x1 x2 x3 hxl hke
        rcases rw_step hok hlen hop HG3.out HG4.out HG5.out HP6.out with ⟨hw, ⟨T', hp, hh, hl, hR, hw2, hdec⟩ | ⟨T', hp, hh, hR⟩ | ⟨T', d', hp, hR, hw3⟩⟩
        · have b3 := badB hp
          have HTk := Lib.hid (take_any w6 g T' d false op hp)
          rw [if_pos hh, decide_eq_true hh] at HTk
          have HR2 := Lib.hid hR
          have HHl := Lib.hid hl
          have HW2 := Lib.hid hw2
          have HDec := Lib.hid hdec
          clear hR hl hw2 hdec hw hh hp
          go_wp2_with (go_at_call 43; go_must (refine HTk.out.mono ?_))
          rintro e w7 ⟨rfl, p7, t7⟩
          have hO7 := HO6.out.touch ruE_keep (one_two t7) (by omega) (by omega)
          have hN7 := t7.keep HN6.out (by simp; omega)
          have hT7 := HT6.out.same t7
          have hm7 := pw_at p7
          have hwf := HMs.out
          go_wp2
          refine ⟨⟨es2, hO7, hN7, hT7, .inl ⟨rfl, T'.tail, n - 1, p7, HHl.out, by rw [HE6.out]; exact HR2.out, by rw [HE6.out]; exact if_le HW2.out⟩⟩, ?_⟩
          show pw w7 g + 1 < pw wr g + 1
          rw [hm7, hwf]
          exact Nat.succ_lt_succ (pw_less HDec.out)
        · have b3 := badB hp
          have HTk := Lib.hid (take_any w6 g T' d false op hp)
          rw [if_neg hh, decide_eq_false hh] at HTk
          have HR2 := Lib.hid hR
          have HW := Lib.hid hw
          clear hR hw hh hp
          go_wp2_with (go_at_call 43; go_must (refine HTk.out.mono ?_))
          rintro e w7 ⟨rfl, p7, t7⟩
          have hO7 := HO6.out.touch ruE_keep (one_two t7) (by omega) (by omega)
          have hN7 := t7.keep HN6.out (by simp; omega)
          have hT7 := HT6.out.same t7
          go_wp2
          refine ⟨⟨es2, hO7, hN7, hT7, .inr ⟨rfl, by rw [HE6.out]; exact HW.out, by rw [HE6.out, HR2.out]; exact ⟨rfl, p7⟩⟩⟩, ?_⟩
          show 0 < pw wr g + 1
          omega
        · have b3 := badB hp
          have HR2 := Lib.hid hR
          have HW := Lib.hid hw
          have HW3 := Lib.hid hw3
          have HP7 := Lib.hid hp
          clear hR hw hw3 hp
          go_wp2
          refine ⟨⟨es2, HO6.out, HN6.out, HT6.out, .inr ⟨rfl, by rw [HE6.out]; exact HW.out, by rw [HE6.out, HR2.out]; exact ⟨HW3.out, T', d', HP7.out⟩⟩⟩, ?_⟩
          show 0 < pw wr g + 1
          omega
      · have hke : (x.h.kind == k) = false := by simp [hk]
        have hown := HO2.out.1
        go_wp2_with (at_builtin; go_must (refine wpList_append_rows_own (w0 := w2) rfl _ _ 40 rfl (w.heap.size + 1) 42 j0 _ 4 64 Tryd.underlying40 hj hy0 hy1 hy2 rfl (RuE.cells x) 1 rfl hown rfl rfl ?_ ?_ ?_ ?_ ?_))
        · intro u hu
          simp [RuE.cells] at hu
          rcases hu with rfl | rfl | rfl | rfl <;> rfl
        · unfold maxLen; omega
        · omega
        · omega
        intro v6 w6 o6 g6 b6 m6
        obtain ⟨es2, hes2⟩ : ∃ l, l = es ++ [x] := ⟨_, rfl⟩
        have HO6 := Lib.hid (show EOwn RuE.cells ruEAt 42 4 (w.heap.size + 1) w6 v6 es2 from by rw [hes2]; exact EOwn.push ruE_keep HO2.out HAt2.out (by omega) HVl.out o6 g6 m6)
        have HE6 := Lib.hid (show es2.map RuE.tree = addP k (es.map RuE.tree) x.tree by rw [hes2, List.map_append]; unfold addP; rw [if_neg (show ¬ x.tree.head.kind = k from hk)]; rfl)
        have HN6 := Lib.hid ((b6.block _ (by omega)).trans HN2.out)
        have HT6 := Lib.hid (touch_below HT2.out b6 (by omega))
        have HP6 := Lib.hid (HP2.out.belowB b6 (by omega))
        clear HO2 HN2 HT2 HP2 HAt2 o6 g6 b6 m6 hes2 hown x0 x1 x2 x3 hke
        rcases rw_step hok hlen hop HG3.out HG4.out HG5.out HP6.out with ⟨hw, ⟨T', hp, hh, hl, hR, hw2, hdec⟩ | ⟨T', hp, hh, hR⟩ | ⟨T', d', hp, hR, hw3⟩⟩
        · have b3 := badB hp
          have HTk := Lib.hid (take_any w6 g T' d false op hp)
          rw [if_pos hh, decide_eq_true hh] at HTk
          have HR2 := Lib.hid hR
          have HHl := Lib.hid hl
          have HW2 := Lib.hid hw2
          have HDec := Lib.hid hdec
          clear hR hl hw2 hdec hw hh hp
          go_wp2_with (go_at_call 43; go_must (refine HTk.out.mono ?_))
          rintro e w7 ⟨rfl, p7, t7⟩
          have hO7 := HO6.out.touch ruE_keep (one_two t7) (by omega) (by omega)
          have hN7 := t7.keep HN6.out (by simp; omega)
          have hT7 := HT6.out.same t7
          have hm7 := pw_at p7
          have hwf := HMs.out
          go_wp2
          refine ⟨⟨es2, hO7, hN7, hT7, .inl ⟨rfl, T'.tail, n - 1, p7, HHl.out, by rw [HE6.out]; exact HR2.out, by rw [HE6.out]; exact if_le HW2.out⟩⟩, ?_⟩
          show pw w7 g + 1 < pw wr g + 1
          rw [hm7, hwf]
          exact Nat.succ_lt_succ (pw_less HDec.out)
        · have b3 := badB hp
          have HTk := Lib.hid (take_any w6 g T' d false op hp)
          rw [if_neg hh, decide_eq_false hh] at HTk
          have HR2 := Lib.hid hR
          have HW := Lib.hid hw
          clear hR hw hh hp
          go_wp2_with (go_at_call 43; go_must (refine HTk.out.mono ?_))
          rintro e w7 ⟨rfl, p7, t7⟩
          have hO7 := HO6.out.touch ruE_keep (one_two t7) (by omega) (by omega)
          have hN7 := t7.keep HN6.out (by simp; omega)
          have hT7 := HT6.out.same t7
          go_wp2
          refine ⟨⟨es2, hO7, hN7, hT7, .inr ⟨rfl, by rw [HE6.out]; exact HW.out, by rw [HE6.out, HR2.out]; exact ⟨rfl, p7⟩⟩⟩, ?_⟩
          show 0 < pw wr g + 1
          omega
        · have b3 := badB hp
          have HR2 := Lib.hid hR
          have HW := Lib.hid hw
          have HW3 := Lib.hid hw3
          have HP7 := Lib.hid hp
          clear hR hw hw3 hp
          go_wp2
          refine ⟨⟨es2, HO6.out, HN6.out, HT6.out, .inr ⟨rfl, by rw [HE6.out]; exact HW.out, by rw [HE6.out, HR2.out]; exact ⟨HW3.out, T', d', HP7.out⟩⟩⟩, ?_⟩
          show 0 < pw wr g + 1
          omega
    · obtain ⟨pa, pcap, rfl, hp1, hp2⟩ := (ownsRow.reads hO.1).le
      unfold maxLen at hp2
      have hTr := hO.trs RuE.tree (show 0 < 4 by decide) (fun _ => rfl) (fun _ _ h => RuE.at h) ruE_keep
      have hwN : w.heap.size < wr.heap.size := (Array.getElem?_eq_some_iff.1 hN).1
      have HN := Lib.hid hN
      have HT := Lib.hid hT
      have HE := Lib.hid hE
      have HG := Lib.hid hg
      have b0 := Lib.cell_of_heap hN 0; have b1 := Lib.cell_of_heap hN 1; have b2 := Lib.cell_of_heap hN 2; have b3 := Lib.cell_of_heap hN 3
      have fz := Lib.frozen_of_heap hN
      simp at b0 b1 b2 b3
      clear HP0 HN0 HT0 HR HH hwE hE hT hN HIt
      by_cases h1 : es.length = 1
      · obtain ⟨x, rfl⟩ : ∃ x, es = [x] := by
          match es, h1 with
          | [x], _ => exact ⟨x, rfl⟩
        have hat := hO.2 x (by simp)
        obtain ⟨b, off, rfl, hb, hcs⟩ := rows_at RuE.cells 4 (fun _ => rfl) (ownsRow.reads hO.1) (i := 0) (x := x) rfl (by decide)
        have k0 := hcs 0 _ rfl; have k1 := hcs 1 _ rfl; have k2 := hcs 2 _ rfl; have k3 := hcs 3 _ rfl
        simp only [Nat.zero_mul, Nat.add_zero] at k0 k1 k2 k3
        have HAt := Lib.hid (ruE_keep.mono _ (fun b => w.heap.size + 1 ≤ b) _ _ (fun b _ hb => hb.1) hat)
        clear hat hO hTr hcs
        obtain ⟨hf1, hf2⟩ := row_ret (cs := _) rfl HN.out HT.out HG.out HAt.out (R := R) (T := T0) (d := d) HE.out _ rfl
        have HF1 := Lib.hid hf1
        have HF2 := Lib.hid hf2
        clear hf1 hf2
        go_wp2
        exact bodyPost_ret (ret_rule Tryd.results61 rfl HF1.out) rfl HF2.out
      · have hne : ((es.length : Int) == 1) = false := by simp; omega
        obtain ⟨a2, c2, hv2, hl1, hl2, htr⟩ := hTr
        cases hv2
        have hel : (es.map RuE.tree).length = es.length := List.length_map _
        obtain ⟨hf1, hf2⟩ := row_ret (cs := _) rfl HN.out HT.out HG.out (x := ⟨⟨k, cNone, cNone⟩, es.map RuE.tree, pa, pcap⟩) ⟨by rw [hel]; exact hl1, hl2, htr⟩ (R := R) (T := T0) (d := d) (by
          have := HE.out
          unfold mkRow at this
          rwa [if_neg (by rw [hel]; exact h1)] at this) _ rfl
        simp only [hel] at hf1 hf2
        have HF1 := Lib.hid hf1
        have HF2 := Lib.hid hf2
        clear hf1 hf2 htr hel hO
        go_wp2
        exact bodyPost_ret (ret_rule Tryd.results61 rfl HF1.out) rfl HF2.out
end Go.Proofs.YtopnldebekhelaaDoor
