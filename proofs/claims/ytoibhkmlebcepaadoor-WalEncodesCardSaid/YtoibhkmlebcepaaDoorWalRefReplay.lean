import Derived.Test.YtoibhkmlebcepaaDoorWalReplay
import Derived.Test.YtoibhkmlebcepaaDoorWalRefDecode
import Derived.Test.YtoibhkmlebcepaaDoorFrameRefNext
namespace Go.Proofs.YtoibhkmlebcepaaDoor
open Go Go.RowKit

set_option maxRecDepth 100000 in
set_option maxHeartbeats 4000000 in
theorem refreplay_any (w : World) (v : Value) (b : List UInt8) (hs : Sl w.heap.size w v b) (hb : b.length ≤ 1000000) :
    Calls Tryd.prog 17 #[v] w (RepPost w b) := by
  obtain ⟨i0, hi, hz0, hz1, hz2⟩ := info_parts info25
  have HS := Lib.hid hs
  rcases hs with ⟨⟨ax, rfl⟩, rfl⟩ | ⟨bb, off, vcap, rfl, hbB, hbw, hrd⟩
  · rcases ax with _ | ax
    all_goals
      have HB := Lib.hid (Below.refl w.heap.size w)
      have hnx := refnext_any w _ _ _ (HS.out.reads) (by first | omega | simp)
      have hst := repl_stop (p := none) (b := []) (by rw [next_nil]; decide)
      have HN := Lib.hid hnx
      have HSp := Lib.hid hst
      clear hnx hst
      go_enter Tryd.func17, Tryd.ntmps17
      go_wp2
      refine wp_loop_rounds 1 ?_
      rw [rounds_succ]
      go_wp2_with (go_at_call 34; go_must (refine HN.out.mono ?_))
      rintro e w1 ⟨v1, rfl, o1, ob1, b1⟩
      rw [next_nil]
      have HB1 := Lib.hid b1
      clear b1 ob1 o1
      go_wp2
      go_ret2
      refine ⟨.slice none 0 0, ?_, ?_, HB1.out⟩
      · rw [HSp.out]; rfl
      · rw [HSp.out]; exact CRows.nil _ _
  · obtain ⟨_, _, hv, hc1, hc2⟩ := hrd.le
    cases hv
    unfold maxLen at hc2
    clear hrd
    go_enter Tryd.func17, Tryd.ntmps17
    go_wp2
    go_loopw [4, 5] (fun lv av wr => RepRel w b lv av wr) (fun _ av _ => b.length + 1 - (intOf av).toNat)
    case atStart => exact ⟨[], 0, rfl, ⟨by simp [lastR_nil], Nat.zero_le _, Nat.zero_le _, fun c hc => by simp at hc⟩, CRows.nil _ _, Below.refl _ _⟩
    case round =>
      obtain ⟨cs, k, rfl, hinv, hcr, hbw2⟩ := hrel
      obtain ⟨la, lcap, rfl, hlc1, hlc2⟩ := hcr.form
      unfold maxLen at hlc2
      have hcsl : cs.length ≤ k := hinv.2.1
      have hkb : k ≤ b.length := hinv.2.2.1
      have hkbI : (k : Int) ≤ b.length := by omega
      have hcut := (HS.out.cut hkb).below hbw2
      rw [cutV_some] at hcut
      have HI := Lib.hid hinv
      have HC := Lib.hid hcr
      have HB := Lib.hid hbw2
      clear hinv hcr hbw2
      have hbs := HB.out.size
      by_cases hck : vcap = k
      · have hz1' : b.length - k = 0 := by omega
        have hz2' : vcap - k = 0 := by omega
        have hd0 : b.drop k = [] := List.eq_nil_of_length_eq_zero (by rw [List.length_drop]; omega)
        have hbl : b.length = k := by omega
        rw [if_pos hck, hz1', hz2', hd0] at hcut
        have hnx := refnext_any wr _ _ _ (hcut.reads) (by first | omega | simp)
        have hst := HI.out.stop (by rw [hd0]; exact repl_stop (by rw [next_nil]; decide))
        have HN := Lib.hid hnx
        have HSp := Lib.hid hst
        clear hnx hst hcut hd0 hz1' hz2' HI
        subst hck
        rw [hbl]
        go_wp2_with (go_at_call 34; go_must (refine HN.out.mono ?_))
        rintro e w1 ⟨v1, rfl, o1, ob1, b1⟩
        rw [next_nil]
        have HC1 := Lib.hid (HC.out.below b1)
        have HB1 := Lib.hid (HB.out.trans (b1.mono hbs))
        clear b1 ob1 o1 HC HB
        go_wp2
        go_ret2
        refine ⟨.slice la cs.length lcap, ?_, ?_, HB1.out⟩
        · rw [HSp.out]; rfl
        · rw [HSp.out]; exact HC1.out
      · have hckI : ¬ ((vcap : Int) = k) := by omega
        have hle1 : ((b.length - k : Nat) : Int) = (b.length : Int) - k := by omega
        have hle2 : ((vcap - k : Nat) : Int) = (vcap : Int) - k := by omega
        rw [if_neg hck] at hcut
        have hdl : (b.drop k).length = b.length - k := List.length_drop
        have hnx := refnext_any wr _ _ _ (hcut.reads) (by first | omega | simp)
        have HN := Lib.hid hnx
        clear hnx hcut
        by_cases hn0 : (nextL (b.drop k)).1 = 0
        · have hnok := nextL_ok hn0
          have hN0 := Lib.hid hn0
          go_wp2_with (go_at_call 34; go_must (refine HN.out.mono ?_))
          rintro e w1 ⟨v1, rfl, o1, ob1, b1⟩
          rw [hN0.out]
          have HC1 := Lib.hid (HC.out.below b1)
          have HB1 := Lib.hid (HB.out.trans (b1.mono hbs))
          have hbs1 := HB1.out.size
          have hdc := refdecode_reads w1 v1 (nextL (b.drop k)).2 o1 (by omega)
          have HD := Lib.hid hdc
          clear b1 ob1 o1 hdc HC HB HN
          go_wp2_with (go_at_call 15; go_must (refine HD.out.mono ?_))
          intro e w2 hp2
          rcases dec_case hp2 with ⟨hnone, rfl, b2⟩ | ⟨rev, es, hsome, ea, ecap, rfl, o2, b2⟩
          · have hst := HI.out.stop (repl_bad hN0.out hnone)
            have HSp := Lib.hid hst
            have HC2 := Lib.hid (HC1.out.below b2)
            have HB2 := Lib.hid (HB1.out.trans (b2.mono hbs1))
            clear hp2 hnone b2 hst HC1 HB1 HI HD hn0
            go_wp2
            go_quiet (fail)
            go_wp2
            go_ret2
            refine ⟨.slice la cs.length lcap, ?_, ?_, below_drewN (HB2.out.alloc HB2.out.size _) _⟩
            · rw [HSp.out]; rfl
            · rw [HSp.out]; exact HC2.out.below (below_drewN ((Below.refl _ _).alloc (Nat.le_refl _) _) _)
          · obtain ⟨hright, hrev⟩ := dec_right hsome
            have hrev1 : 1 ≤ rev := (right_keys hright).2.2.1
            have hmore := fun hf => HI.out.more hN0.out hsome hf
            have hgap := fun hf => HI.out.stop (repl_gap hN0.out hsome hf)
            have hrevs := fun c hc => HI.out.2.2.2 c hc
            have HMo := Lib.hid hmore
            have HGp := Lib.hid hgap
            have HC2 := Lib.hid (HC1.out.below b2)
            have HB2 := Lib.hid (HB1.out.trans (b2.mono hbs1))
            have HO2 := Lib.hid (owns_mono o2 hbs1)
            have HX2 := Lib.hid (heap_alloc_new w2 (.cells #[.int .u64 (rev : Int), .slice ea es.length ecap] 25))
            clear hp2 hsome hright hmore hgap b2 o2 HC1 HB1 HI HD hn0
            have hnn : nextN (b.drop k) = 8 + (nextL (b.drop k)).2.length := hnok.2.1
            rcases follows_cases cs rev with ⟨hnil, hft⟩ | ⟨c, _, hcl, hpos, hfe⟩
            · subst hnil
              go_wp2
              go_quiet (fail)
              have hqn : Below (w2.alloc (.cells #[.int .u64 (rev : Int), .slice ea es.length ecap] 25)).heap.size (w2.alloc (.cells #[.int .u64 (rev : Int), .slice ea es.length ecap] 25)) ((w2.alloc (.cells #[.int .u64 (rev : Int), .slice ea es.length ecap] 25)).drewN nq) := below_drewN (Below.refl _ _) nq
              have HC5 := Lib.hid ((HC2.out.grown (.cells #[.int .u64 (rev : Int), .slice ea es.length ecap] 25)).below hqn)
              have HB5 := Lib.hid ((HB2.out.alloc HB2.out.size (.cells #[.int .u64 (rev : Int), .slice ea es.length ecap] 25)).trans (hqn.mono (by have := HB2.out.size; simp; omega)))
              have HO5 := Lib.hid (owns_below (HO2.out.alloc (.cells #[.int .u64 (rev : Int), .slice ea es.length ecap] 25)) hqn)
              have hx5 := below_block hqn HX2.out (Array.getElem?_eq_some_iff.1 HX2.out).1
              clear hqn HC2 HB2 HO2 HX2
              generalize (w2.alloc (.cells #[.int .u64 (rev : Int), .slice ea es.length ecap] 25)).drewN nq = w5 at *
              have y0 := Lib.cell_of_heap hx5 0
              have y1 := Lib.cell_of_heap hx5 1
              have hgl5 := (Array.getElem?_eq_some_iff.1 hx5).1
              simp at y0 y1
              clear hx5
              obtain ⟨svs, hv1, hv2, hv3⟩ := HC5.out
              have hbs5 := HB5.out.size
              go_wp2_with (at_builtin; go_must (refine wpList_append_rows_at (w0 := w5) rfl _ _ 37 rfl w.heap.size 25 i0 _ 2 32 Tryd.underlying37 hi hz0 hz1 hz2 rfl [.int .u64 (rev : Int), .slice ea es.length ecap] 1 rfl rfl hv2 rfl rfl ?_ ?_ ?_ hbs5 ?_))
              · intro u hu
                simp at hu
                rcases hu with rfl | rfl <;> rfl
              · unfold maxLen; omega
              · omega
              intro v6 w6 o6 g6 b6 _
              have hpush := CRows.push hv1 hv2 hv3 rfl HO5.out g6 o6
              have HP6 := Lib.hid hpush
              have HB6 := Lib.hid (HB5.out.trans b6)
              clear hpush o6 g6 b6 y0 y1 hv1 hv2 hv3 HC5 HB5 HO5
              go_wp2
              exact ⟨⟨_, _, by rw [hnn]; simp [Int.add_assoc], HMo.out hft, HP6.out, HB6.out⟩, by simp [intOf]; omega⟩
            · obtain ⟨m, hm⟩ : ∃ m, cs.length = m + 1 := ⟨cs.length - 1, by omega⟩
              have hcb := hrevs c (List.mem_of_getElem? hcl)
              rw [hm, Nat.add_sub_cancel] at hcl
              obtain ⟨g, gcap, gsv, hgv, hg1, hg2, hgl, gc0, gc1, _⟩ := HC2.out.rev hcl
              have hw2a : ∀ o, (w2.alloc o).cell? ⟨g, m * 2, none⟩ = some (.int .u64 (c.1 : Int)) := fun o => (((Below.refl _ w2).alloc (Nat.le_refl _) o).cell (p := ⟨g, m * 2, none⟩) hgl).trans gc0
              cases hgv
              have gc2 := hw2a (.cells #[.int .u64 (rev : Int), .slice ea es.length ecap] 25)
              have hmI : ((cs.length : Nat) : Int) = (m : Int) + 1 := by omega
              have hposI : (0 : Int) < cs.length := by omega
              have hglt : g < w2.heap.size := hgl
              have hmw : IntKind.i64.wrap (m : Int) = (m : Int) := by rw [IntKind.wrap_i64]; omega
              have hmidx : (m : Int) < (m : Int) + 1 := by omega
              clear hw2a gc0 gc1 hg1 hg2
              by_cases hf : rev = c.1 + 1
              · have hft : follows (lastR cs) rev = true := by rw [hfe, decide_eq_true hf]
                have hneI : ((rev : Int) - 1 != (c.1 : Int)) = false := by simp; omega
                have hr0I : ((rev : Int) == 0) = false := by simp; omega
                have hrw : IntKind.u64.wrap ((rev : Int) - 1) = (rev : Int) - 1 := by rw [IntKind.wrap_u64]; omega
                have hcI : (c.1 : Int) + 1 < 18446744073709551616 := by omega
                have HFt := Lib.hid hft
                clear hft hfe hf
                go_wp2
                go_quiet (fail)
                have hqn : Below (w2.alloc (.cells #[.int .u64 (rev : Int), .slice ea es.length ecap] 25)).heap.size (w2.alloc (.cells #[.int .u64 (rev : Int), .slice ea es.length ecap] 25)) ((w2.alloc (.cells #[.int .u64 (rev : Int), .slice ea es.length ecap] 25)).drewN nq) := below_drewN (Below.refl _ _) nq
                have HC5 := Lib.hid ((HC2.out.grown (.cells #[.int .u64 (rev : Int), .slice ea es.length ecap] 25)).below hqn)
                have HB5 := Lib.hid ((HB2.out.alloc HB2.out.size (.cells #[.int .u64 (rev : Int), .slice ea es.length ecap] 25)).trans (hqn.mono (by have := HB2.out.size; simp; omega)))
                have HO5 := Lib.hid (owns_below (HO2.out.alloc (.cells #[.int .u64 (rev : Int), .slice ea es.length ecap] 25)) hqn)
                have hx5 := below_block hqn HX2.out (Array.getElem?_eq_some_iff.1 HX2.out).1
                clear hqn HC2 HB2 HO2 HX2
                generalize (w2.alloc (.cells #[.int .u64 (rev : Int), .slice ea es.length ecap] 25)).drewN nq = w5 at *
                have y0 := Lib.cell_of_heap hx5 0
                have y1 := Lib.cell_of_heap hx5 1
                have hgl5 := (Array.getElem?_eq_some_iff.1 hx5).1
                simp at y0 y1
                clear hx5
                have hC5v := HC5.out
                rw [hm] at hC5v
                obtain ⟨svs, hv1, hv2, hv3⟩ := hC5v
                have hbs5 := HB5.out.size
                go_wp2_with (at_builtin; go_must (refine wpList_append_rows_at (w0 := w5) rfl _ _ 37 rfl w.heap.size 25 i0 _ 2 32 Tryd.underlying37 hi hz0 hz1 hz2 rfl [.int .u64 (rev : Int), .slice ea es.length ecap] 1 rfl rfl hv2 rfl rfl ?_ ?_ ?_ hbs5 ?_))
                · intro u hu
                  simp at hu
                  rcases hu with rfl | rfl <;> rfl
                · unfold maxLen; omega
                · omega
                intro v6 w6 o6 g6 b6 _
                rw [← hm] at o6 hv2 g6
                have hpush := CRows.push hv1 hv2 hv3 rfl HO5.out g6 o6
                have HP6 := Lib.hid hpush
                have HB6 := Lib.hid (HB5.out.trans b6)
                clear hpush o6 g6 b6 y0 y1 hv1 hv2 hv3 HC5 HB5 HO5
                go_wp2
                exact ⟨⟨_, _, by rw [hnn]; simp [Int.add_assoc], HMo.out HFt.out, HP6.out, HB6.out⟩, by simp [intOf]; omega⟩
              · have hff : follows (lastR cs) rev = false := by rw [hfe, decide_eq_false hf]
                have HSp := Lib.hid (HGp.out hff)
                have hneI : ((rev : Int) - 1 != (c.1 : Int)) = true := by simp; omega
                have hr0I : ((rev : Int) == 0) = false := by simp; omega
                have hrw : IntKind.u64.wrap ((rev : Int) - 1) = (rev : Int) - 1 := by rw [IntKind.wrap_u64]; omega
                clear hff hfe hf
                go_wp2
                go_quiet (fail)
                go_wp2
                go_ret2
                refine ⟨.slice (some ⟨g, 0, none⟩) (m + 1) lcap, ?_, ?_, below_drewN (HB2.out.alloc HB2.out.size _) _⟩
                · rw [HSp.out]; rfl
                · rw [HSp.out, ← hm]; exact HC2.out.below (below_drewN ((Below.refl _ _).alloc (Nat.le_refl _) _) _)
        · have hst := HI.out.stop (repl_stop hn0)
          have HSp := Lib.hid hst
          have hneI : (((nextL (b.drop k)).1 : Int) != 0) = true := by simp; omega
          clear hst hn0 HI
          go_wp2_with (go_at_call 34; go_must (refine HN.out.mono ?_))
          rintro e w1 ⟨v1, rfl, o1, ob1, b1⟩
          have HC1 := Lib.hid (HC.out.below b1)
          have HB1 := Lib.hid (HB.out.trans (b1.mono hbs))
          clear b1 ob1 o1 HC HB HN
          go_wp2
          go_ret2
          refine ⟨.slice la cs.length lcap, ?_, ?_, HB1.out⟩
          · rw [HSp.out]; rfl
          · rw [HSp.out]; exact HC1.out
end Go.Proofs.YtoibhkmlebcepaaDoor
