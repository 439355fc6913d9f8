/- What the proof stands on, part 10. -/
import Derived.Test.YtoibhkmlebcepaaDoorMg9
import Derived.Deep.Slices
import Derived.Deep.Fields
import Derived.OpenShut
import Derived.ProofKit
import Derived.ShutString
import Derived.ChangeOld
import Derived.Lib.SmallJoins
import Derived.Deep.Strs
import Derived.LaidMore
import Derived.Stop.Joined
namespace Go.Proofs.YtoibhkmlebcepaaDoor
open Go Go.RowKit

def CutsRel (w : World) (cs : List (Nat × List Ent)) (n : Nat) (bv ev iv : Value) (wr : World) : Prop :=
  ∃ j : Nat, iv = .int .i64 (j : Int) ∧ j ≤ n ∧ wr.ownsRow w.heap.size 5 1 bv (endAt (recs cs) j) (bcells (seals ((recs cs).take j))) ∧ wr.ownsRow w.heap.size 3 1 ev j (endCells (recs cs) j) ∧
    Below w.heap.size w wr ∧ endAt (recs cs) j ≤ 12688 * j ∧ ∀ (i : Nat) (c : Nat × List Ent), i < j → cs[i]? = some c → rightB c.1 c.2 = true

set_option maxRecDepth 100000 in
set_option maxHeartbeats 20000000 in
theorem walCuts_walk (w : World) (v : Value) (n : Nat) (ls : List (List Ent)) (first at' : Nat) (h : ERows w v n ls) (hat : at' < 65536) (hst : Steps w) :
    Calls Tryd.prog 5 #[.int .u64 (first : Int), v, .int .u16 (at' : Int)] w (SaysTrue w) := by
  obtain ⟨i0, hi, hz0, hz1, hz2⟩ := info_parts info5
  obtain ⟨j0, hj, hy0, hy1, hy2⟩ := info_parts info3
  have HE := Lib.hid h
  have ST := Lib.hid hst
  obtain ⟨a, cap, rfl, hc1, hc2, hll, hel⟩ := h
  have hks : ∀ l ∈ ls, ∀ x ∈ l, x.key.size ≤ maxLen := fun l hl => by
    obtain ⟨i, hi⟩ := List.getElem?_of_mem hl
    exact (hel i l hi).2.1
  have HK := Lib.hid hks
  have HLL := Lib.hid hll
  unfold maxLen at hc2
  clear hst hll hel hks
  by_cases hok : n ≤ 20 ∧ 1 ≤ first ∧ first ≤ 1152921504606846976
  · obtain ⟨h20, h1, hbig⟩ := hok
    have h20I : ¬ (20 : Int) < n := by omega
    have h1I : ¬ (first : Int) < 1 := by omega
    have hbigI : ¬ (1152921504606846976 : Int) < first := by omega
    have hco := comm_ok h1 hbig (by rw [HLL.out]; exact h20) HK.out
    have HOk := Lib.hid hco
    have hcm := fun w' (h : ERows w' (.slice a n cap) n ls) => commits_any w' _ n ls first h h20 hbig
    have HCm := Lib.hid hcm
    clear hco hcm HK
    go_enter Tryd.func5, Tryd.ntmps5
    go_wp2_with (go_at_call 7; go_must (refine (wal_fixed w ST.out).mono ?_))
    rintro e w1 ⟨rfl, b1⟩
    have HB := Lib.hid b1
    replace HE := Lib.hid (HE.out.below b1)
    replace ST := Lib.hid (ST.out.below b1)
    clear b1
    go_wp2_with (go_at_call 19; go_must (refine (HCm.out _ HE.out).mono ?_))
    rintro e w2 ⟨v2, rfl, hcr, b2⟩
    have HS := Lib.hid hcr.see
    replace ST := Lib.hid (ST.out.below b2)
    replace HB := Lib.hid (HB.out.trans (b2.mono HB.out.size))
    clear hcr b2 HCm HE
    generalize commL first ls = cs at *
    have hcl : cs.length ≤ 20 := HOk.out.len
    obtain ⟨a2, cap2, rfl, hd1, hd2, hd3⟩ := HS.out
    clear hd3
    unfold maxLen at hd2
    have hrl := recs_length cs
    have HRl := Lib.hid hrl
    clear hrl
    generalize hN : cs.length = N at *
    have HN := Lib.hid hN
    clear hN
    go_wp2
    go_loopw [8, 9, 39] (fun bv ev iv wr => CutsRel w2 cs N bv ev iv wr) (fun _ _ iv _ => N - (intOf iv).toNat)
    case atStart => exact ⟨0, rfl, Nat.zero_le _, owns_nil _ _ _ _, owns_nil _ _ _ _, Below.refl _ _, by simp [endAt, seals], fun i c hi => by omega⟩
    case round =>
      obtain ⟨j, rfl, hj', hall, hends, hb, hea, hri⟩ := hrel
      have hbs := hb.size
      obtain ⟨oa, ocap, rfl, ho1, ho2⟩ := (ownsRow.reads hall).le
      obtain ⟨ea, ecap, rfl, he1, he2⟩ := (ownsRow.reads hends).le
      unfold maxLen at ho2 he2
      have HA := Lib.hid hall
      have HD := Lib.hid hends
      have HBr := Lib.hid hb
      have HRi := Lib.hid hri
      clear hall hends hb hri
      by_cases hlt : j < N
      · have hltI : (j : Int) < N := by omega
        obtain ⟨c, hx⟩ : ∃ c, cs[j]? = some c := ⟨cs[j]'(by rw [HN.out]; exact hlt), List.getElem?_eq_getElem _⟩
        obtain ⟨_, _, hv, _, _, hsee⟩ := HS.out.below HBr.out
        cases hv
        obtain ⟨g, sa, scap, rfl, hg, c0, c1, hr⟩ := hsee j c hx
        obtain ⟨hrv, h0, hkk, hrt⟩ := HOk.out.one j c hx
        have hes := endAt_succ (recs_at hx)
        have hse : seals ((recs cs).take (j + 1)) = seals ((recs cs).take j) ++ sealL (recL c.1 c.2) := by
          rw [List.take_add_one, recs_at hx]
          simp only [Option.toList_some]
          exact seals_snoc _ _
        have hecs := endCells_succ (recs cs) j
        have hri2 : rightB c.1 c.2 = true → ∀ (i : Nat) (c : Nat × List Ent), i < j + 1 → cs[i]? = some c → rightB c.1 c.2 = true := fun hc i q hi hq => by
          by_cases hij : i < j
          · exact HRi.out i q hij hq
          · obtain rfl : i = j := by omega
            rw [hx] at hq
            cases hq
            exact hc
        have hsl := sealL_length (recL c.1 c.2)
        have hlo := fun h1 h2 => rec_low60 (rev := c.1) (l := c.2) hrv h1 h2
        obtain ⟨rev, es⟩ := c
        dsimp only at c0 c1 hr hrv h0 hkk hrt hes hse hri2 hsl hlo
        obtain ⟨_, _, hv, hsc1, hsc2⟩ := hr.le
        cases hv
        have hfw := fun w' h => cfew_any w' rev sa es.length scap es h rfl ⟨hsc1, hsc2⟩ hkk
        have hen := fun w' h hst => encode_any w' rev sa es.length scap es h rfl ⟨hsc1, hsc2⟩ hkk hrv hst
        unfold maxLen at hsc2
        have HFw := Lib.hid hfw
        have HEn := Lib.hid hen
        have HR := Lib.hid hr
        have HEs := Lib.hid hes
        have HSe := Lib.hid hse
        have HEc := Lib.hid hecs
        have HR2 := Lib.hid hri2
        have HSl := Lib.hid hsl
        have HLo := Lib.hid hlo
        have HRt := Lib.hid hrt
        clear hfw hen hr hes hse hecs hri2 hsl hlo hrt hx hsee h0 hkk
        have bx := (Below.refl wr.heap.size wr).alloc (Nat.le_refl _) (.cells #[.int .u64 (rev : Int), .slice sa es.length scap] 25)
        have HG := Lib.hid (heap_alloc_new wr (.cells #[.int .u64 (rev : Int), .slice sa es.length scap] 25))
        replace HA := Lib.hid (owns_below HA.out bx)
        replace HD := Lib.hid (owns_below HD.out bx)
        replace HR := Lib.hid (HR.out.below' bx)
        have HSt := Lib.hid (ST.out.below (HBr.out.trans (bx.mono hbs)))
        replace HBr := Lib.hid (HBr.out.trans (bx.mono hbs))
        clear bx
        go_wp2_with fail
        generalize wr.alloc (.cells #[.int .u64 (rev : Int), .slice sa es.length scap] 25) = w3 at *
        generalize wr.heap.size = p at *
        have hbs3 := HBr.out.size
        have hpl := (Array.getElem?_eq_some_iff.1 HG.out).1
        have q0 := Lib.cell_of_heap HG.out 0
        have q1 := Lib.cell_of_heap HG.out 1
        simp at q0 q1
        go_wp2_with (go_at_call 8; go_must (refine (HFw.out _ HR.out).mono ?_))
        rintro e w4 ⟨rfl, b4⟩
        clear q0 q1 hpl HFw
        replace HA := Lib.hid (owns_below HA.out b4)
        replace HD := Lib.hid (owns_below HD.out b4)
        replace HSt := Lib.hid (HSt.out.below b4)
        replace HBr := Lib.hid (HBr.out.trans (b4.mono HBr.out.size))
        replace HR := Lib.hid (HR.out.below' b4)
        replace HG := Lib.hid (below_block b4 HG.out (Array.getElem?_eq_some_iff.1 HG.out).1)
        clear b4
        have hpl := (Array.getElem?_eq_some_iff.1 HG.out).1
        have q0 := Lib.cell_of_heap HG.out 0
        have q1 := Lib.cell_of_heap HG.out 1
        simp at q0 q1
        cases hfew : fewB es with
        | false =>
          clear hfew
          go_wp2
          go_ret
          exact ⟨rfl, HB.out.trans (HBr.out.mono HB.out.size)⟩
        | true =>
          have HFe := Lib.hid hfew
          clear hfew
          by_cases h60 : es.length ≤ 60
          · have h60I : ¬ (60 : Int) < es.length := by omega
            have HRb := Lib.hid (HRt.out h60 HFe.out)
            have hlow := HLo.out h60 HFe.out
            clear HRt HLo
            go_wp2_with (go_at_call 9; go_must (refine (HEn.out _ HR.out HSt.out).mono ?_))
            intro e w5 hp
            obtain ⟨a1, cap1, rfl, r1, b5⟩ := encp_yes hp HRb.out
            rw [HSl.out] at r1 ⊢
            obtain ⟨_, _, hv, hr1, hr2⟩ := r1.le
            cases hv
            unfold maxLen at hr2
            have hsrc := r1.src (P := Tryd.prog) (tx := 28) Tryd.underlying28 (bcells_one _)
            have HSr := Lib.hid hsrc
            replace HA := Lib.hid (owns_below HA.out b5)
            replace HD := Lib.hid (owns_below HD.out b5)
            clear q0 q1 hpl hp HEn r1 hsrc
            replace HBr := Lib.hid (HBr.out.trans (b5.mono HBr.out.size))
            clear b5
            have hbs5 := HBr.out.size
            have hE6 : endAt (recs cs) j ≤ 253760 := by omega
            generalize hE : endAt (recs cs) j = E at *
            have HEj := Lib.hid hE
            clear hE
            go_wp2_with (at_builtin; go_must (refine wpList_append_owns rfl _ _ 28 28 rfl w2.heap.size 5 i0 (.int .u8 0) 1 1 Tryd.underlying28 hi hz0 hz1 hz2 rfl _ _ _ rfl HA.out _ _ _ rfl HSr.out ?_ ?_ ?_ ?_))
            · unfold maxLen; omega
            · omega
            · exact hbs5
            intro v6 w6 o6 g6 b6 _
            have hends6 := HD.out.kept g6 (rows_apart HD.out HA.out (by decide))
            rw [← bcells_append, ← HSe.out] at o6
            obtain ⟨a6, c6, rfl, hc6, hc6'⟩ := (ownsRow.reads o6).le
            unfold maxLen at hc6'
            have HA6 := Lib.hid o6
            have HD6 := Lib.hid hends6
            replace HBr := Lib.hid (HBr.out.trans b6)
            have hbs6 := HBr.out.size
            clear o6 hends6 g6 b6 HA HD HSr
            go_wp2_with (at_builtin; go_must (refine wpList_append_owns_lits (w0 := w6) rfl _ _ 45 rfl w2.heap.size 3 j0 (.int .i64 0) 8 Tryd.underlying45 hj hy0 hy1 hy2 rfl [.int .i64 ((E : Int) + (8 + ((recL rev es).length : Int)))] 1 rfl HD6.out rfl rfl ?_ ?_ ?_ hbs6 ?_))
            · intro u hu
              simp at hu
              subst hu
              rfl
            · unfold maxLen; omega
            · omega
            intro v7 w7 o7 g7 b7 _
            have o67 := HA6.out.kept g7 (rows_apart HA6.out HD6.out (by decide))
            have hE1 : endAt (recs cs) (j + 1) = E + (8 + (recL rev es).length) := by rw [HEs.out]
            have e7 : endCells (recs cs) j ++ [Value.int .i64 ((E : Int) + (8 + ((recL rev es).length : Int)))] = endCells (recs cs) (j + 1) := by
              rw [HEc.out, hE1]
              simp
            rw [e7] at o7
            have HA7 := Lib.hid o67
            have HD7 := Lib.hid o7
            have HE1 := Lib.hid hE1
            have HRj := Lib.hid (HR2.out HRb.out)
            replace HBr := Lib.hid (HBr.out.trans b7)
            clear o7 o67 g7 b7 hE1 e7 HA6 HD6 HR2
            go_wp2
            refine ⟨⟨j + 1, by go_num, by omega, ?_, HD7.out, HBr.out, ?_, HRj.out⟩, by simp [intOf]; omega⟩
            · rw [HE1.out]; exact HA7.out
            · rw [HE1.out]; omega
          · have h60I : (60 : Int) < es.length := by omega
            go_wp2
            go_ret
            exact ⟨rfl, HB.out.trans (HBr.out.mono HB.out.size)⟩
      · obtain rfl : j = N := by omega
        have hltI : ¬ ((j : Int) < j) := by omega
        have htk : (recs cs).take j = recs cs := List.take_of_length_le (by rw [HRl.out]; exact Nat.le_refl _)
        have hright : ∀ c ∈ cs, okC c := fun c hc => by
          obtain ⟨i, hi⟩ := List.getElem?_of_mem hc
          exact ⟨HRi.out i c (by rw [← HN.out]; exact (List.getElem?_eq_some_iff.1 hi).1) hi, (HOk.out.one i c hi).1⟩
        have hlm : (seals (recs cs)).length = endAt (recs cs) j := by unfold endAt; rw [htk]
        have hw := fun cut (hc : cut ≤ endAt (recs cs) j) => repl_whole cs none HOk.out.ch hright cut (by rw [hlm]; exact hc)
        rw [HN.out] at hw
        have hall := HA.out
        rw [htk] at hall
        have HW := Lib.hid hw
        have HM := Lib.hid hlm
        have HSt := Lib.hid (ST.out.below HBr.out)
        have HSr := Lib.hid (HS.out.below HBr.out)
        have HBf := Lib.hid (HB.out.trans (HBr.out.mono HB.out.size))
        clear hw hlm hright htk HRi HA HS ST HB HBr HOk
        by_cases hj0 : j = 0
        · subst hj0
          have h00 : endAt (recs cs) 0 = 0 := by simp [endAt, seals]
          have hcs : cs = [] := List.eq_nil_of_length_eq_zero HN.out
          have hm1 : (at' : Int) % 1 = 0 := by omega
          have hrl0 := repl_stop (p := none) (b := []) (by rw [next_nil]; decide)
          have hsn : seals (recs cs) = [] := List.eq_nil_of_length_eq_zero (by rw [HM.out, h00])
          rw [hsn] at hall
          rw [h00] at hall
          rw [h00]
          have hsl : Sl wr.heap.size wr (.slice oa 0 ocap) [] := Sl.of_owns (l := []) hall
          have HRp := Lib.hid (replay_any wr _ [] hsl (by simp) HSt.out)
          have hsr := HSr.out.take 0 (Nat.zero_le _)
          have HS0 := Lib.hid hsr
          have HR0 := Lib.hid hrl0
          have HCs := Lib.hid hcs
          have hoa : (oa = none ∧ ocap = 0) ∨ ∃ g, oa = some ⟨g, 0, none⟩ := by
            rcases hall.2 with ⟨hv, _⟩ | ⟨g, cp, cur, hv, _⟩
            · cases hv; exact .inl ⟨rfl, rfl⟩
            · cases hv; exact .inr ⟨g, rfl⟩
          clear hsl hsr hrl0 hcs hsn h00 hall HSr HM HW hea
          rcases hoa with ⟨rfl, rfl⟩ | ⟨g, rfl⟩
          all_goals
            rcases a2 with _ | ⟨g2, o2, s2⟩
            all_goals
              go_wp2
              refine wp_loop_rounds 1 ?_
              rw [rounds_succ]
              go_wp2_with (go_at_call 16; go_must (refine (HRp.out).mono ?_))
              intro e w6 hp
              obtain ⟨v6, rfl, s6, b6⟩ := rep_out hp
              rw [HR0.out] at s6 ⊢
              have hs7 := HS0.out.below b6
              rw [HCs.out] at hs7
              have HSa := Lib.hid (sameall_any w6 v6 _ [] s6 hs7)
              have HB6 := Lib.hid (HBf.out.trans (b6.mono HBf.out.size))
              clear hp s6 b6 hs7 HRp
              go_wp2_with (go_at_call 18; go_must (refine HSa.out.mono ?_))
              rintro e w7 ⟨rfl, b7⟩
              have HB7 := Lib.hid (HB6.out.trans (b7.mono HB6.out.size))
              clear b7
              go_wp2
              go_ret
              exact ⟨rfl, HB7.out⟩
        · have hm0 : 0 < endAt (recs cs) j := by
            obtain ⟨c, hc⟩ : ∃ c, cs[j - 1]? = some c := ⟨cs[j - 1]'(by rw [HN.out]; omega), List.getElem?_eq_getElem _⟩
            have := endAt_succ (recs_at hc)
            rw [show j - 1 + 1 = j by omega] at this
            omega
          have hm9 : endAt (recs cs) j ≤ 253760 := by omega
          obtain ⟨ax, cx, hv, _, _, hsee⟩ := HSr.out
          injection hv with hax hx1 hx2
          clear hx1 hx2
          subst hax
          obtain ⟨c0, hc0⟩ : ∃ c, cs[0]? = some c := ⟨cs[0]'(by rw [HN.out]; omega), List.getElem?_eq_getElem _⟩
          obtain ⟨g2, _, _, rfl, _, _⟩ := hsee 0 c0 hc0
          clear hsee hc0 hea
          generalize hMm : endAt (recs cs) j = m at *
          clear hMm
          obtain ⟨cut, hcut, hcm⟩ : ∃ cut : Nat, (at' : Int) % ((m : Int) + 1) = (cut : Int) ∧ cut ≤ m := ⟨at' % (m + 1), by simp, by have := Nat.mod_lt at' (show 0 < m + 1 by omega); omega⟩
          obtain ⟨g, hoa⟩ : ∃ g, oa = some ⟨g, 0, none⟩ := by
            rcases hall.2 with ⟨hv, h0⟩ | ⟨g, cp, cur, hv, _⟩
            · cases hv
              omega
            · cases hv; exact ⟨g, rfl⟩
          subst hoa
          have HAr := Lib.hid (ownsRow.reads hall)
          have HAo := Lib.hid hall
          clear hall
          go_wp2
          clear hcut
          go_loop [15, 16, 76] (fun wv ev c => WholeRel (recs cs) cut j wv ev c) (fun _ _ c => j - (intOf c).toNat)
          case atStart => exact ⟨0, rfl, Nat.zero_le _, rfl, by simp [wholeN, endAt, seals]⟩
          case round =>
            obtain ⟨i, rfl, hi, rfl, rfl⟩ := hrel
            by_cases hilt : i < j
            · have hiltI : (i : Int) < j := by omega
              obtain ⟨ge, rfl, hgel, ce⟩ := owns_cell HD.out (endCells_at hilt)
              have hws : wholeN (recs cs) cut (i + 1) = if endAt (recs cs) (i + 1) ≤ cut then i + 1 else wholeN (recs cs) cut i := rfl
              generalize hE : endAt (recs cs) (i + 1) = E at *
              have HEe := Lib.hid hE
              have Hws := Lib.hid hws
              clear hE hws
              by_cases hle : E ≤ cut
              · have hleI : (E : Int) ≤ cut := by omega
                go_wp2
                refine ⟨⟨i + 1, by go_num, by omega, ?_, ?_⟩, by simp [intOf]; omega⟩
                · rw [Hws.out, if_pos hle]; rfl
                · rw [Hws.out, if_pos hle, HEe.out]
              · have hleI : ¬ (E : Int) ≤ cut := by omega
                go_wp2
                refine ⟨⟨i + 1, by go_num, by omega, ?_, ?_⟩, by simp [intOf]; omega⟩
                · rw [Hws.out, if_neg hle]
                · rw [Hws.out, if_neg hle]
            · obtain rfl : j = i := by omega
              have hiltI : ¬ ((j : Int) < j) := by omega
              obtain ⟨hwl, hwe, _⟩ := wholeN_spec (recs cs) cut j
              have hal := HW.out cut hcm
              generalize wholeN (recs cs) cut j = W at *
              generalize endAt (recs cs) W = E at *
              have HAl := Lib.hid hal
              clear hal
              obtain ⟨a9, c9, hv9, hcc1, hcc2, hrd9⟩ := HAr.out.take cut hcm
              cases hv9
              have hcl9 : ((seals (recs cs)).take cut).length = cut := by rw [List.length_take, HM.out]; omega
              have hgl : g < wr.heap.size := by
                rcases HAo.out.2 with ⟨hv, _⟩ | ⟨g', _, _, hv, _, hg', _⟩
                · cases hv
                · cases hv
                  exact (Array.getElem?_eq_some_iff.1 hg').1
              have hsl : Sl wr.heap.size wr (.slice (some ⟨g, 0, none⟩) cut ocap) ((seals (recs cs)).take cut) := by
                refine .inr ⟨g, 0, ocap, by rw [hcl9], fun _ => hgl, fun _ => hgl, ?_⟩
                rw [hcl9]
                exact hrd9
              have hrp := replay_any wr _ _ hsl (by rw [hcl9]; omega) HSt.out
              have HRp := Lib.hid hrp
              have HSw := Lib.hid (HSr.out.take W hwl)
              clear hrd9 hsl hrp hcl9 hgl HAr HAo HSr HW HM HD
              go_wp2_with (go_at_call 16; go_must (refine (HRp.out).mono ?_))
              intro e w6 hp
              obtain ⟨v6, rfl, s6, b6⟩ := rep_out hp
              rw [HAl.out] at s6 ⊢
              have hs7 := HSw.out.below b6
              have HSa := Lib.hid (sameall_any w6 v6 _ _ s6 hs7)
              have HB6 := Lib.hid (HBf.out.trans (b6.mono HBf.out.size))
              clear hp s6 b6 hs7 HRp
              go_wp2_with (go_at_call 18; go_must (refine HSa.out.mono ?_))
              rintro e w7 ⟨rfl, b7⟩
              have HB7 := Lib.hid (HB6.out.trans (b7.mono HB6.out.size))
              clear b7
              go_wp2
              go_ret
              exact ⟨rfl, HB7.out⟩
  · by_cases h20 : 20 < n
    · have h20I : (20 : Int) < n := by omega
      go_enter Tryd.func5, Tryd.ntmps5
      go_wp2_with (go_at_call 7; go_must (refine (wal_fixed w ST.out).mono ?_))
      rintro e w1 ⟨rfl, b1⟩
      go_wp2
      go_ret
      exact ⟨rfl, b1⟩
    · have h20I : ¬ (20 : Int) < n := by omega
      by_cases h1 : first < 1
      · have h1I : (first : Int) < 1 := by omega
        go_enter Tryd.func5, Tryd.ntmps5
        go_wp2_with (go_at_call 7; go_must (refine (wal_fixed w ST.out).mono ?_))
        rintro e w1 ⟨rfl, b1⟩
        go_wp2
        go_ret
        exact ⟨rfl, b1⟩
      · have h1I : ¬ (first : Int) < 1 := by omega
        have hbigI : (1152921504606846976 : Int) < first := by omega
        go_enter Tryd.func5, Tryd.ntmps5
        go_wp2_with (go_at_call 7; go_must (refine (wal_fixed w ST.out).mono ?_))
        rintro e w1 ⟨rfl, b1⟩
        go_wp2
        go_ret
        exact ⟨rfl, b1⟩
end Go.Proofs.YtoibhkmlebcepaaDoor

/- A slice that came in, whatever its elements: each is opened by its own theorem. -/
namespace Go.Proofs.YtoibhkmlebcepaaDoor
open Go Go.RowKit Go.ChangeShapes Go.WideShapes Go.Deep

section
variable {H : Type} {enc : TypeId × Value → H} {w : World} {base : Nat} {spare : Nat → Bool} {held : Bool}

theorem slice_rows_of {α : Type} [Inhabited α] {t e : TypeId} {s fuel : Nat} {v : Value} {y : DataW H × List MemPlace} (f : α → List Value) (Q : α → Prop) (ht : Tryd.prog.underlying t = some (.slice e)) (hC : Tryd.prog.cellsOf e = s) (hs : 0 < s) (hf : ∀ x, (f x).length = s)
    (hopen : ∀ n cs y, cs.length = s → DataW.trod enc Tryd.prog w base spare held n e cs = some y → ∃ x, cs = f x ∧ Q x)
    (hfu : DataW.trod enc Tryd.prog w base spare held fuel t [v] = some y) :
    ∃ a len cap, ∃ l : List α, v = .slice a len cap ∧ len ≤ cap ∧ cap ≤ maxLen ∧ l.length = len ∧ (∀ x ∈ l, Q x) ∧ Reads w s (.slice a len cap) len (l.flatMap f) := by
  rcases open_slice ht hfu with ⟨hcs, _⟩ | ⟨x, len, cap, m, n, D, Pl, hcs, _, hl, hm, hmm, _, hx⟩
  · simp at hcs
    subst hcs
    exact ⟨none, 0, 0, [], rfl, Nat.le_refl _, Nat.zero_le _, rfl, fun x hx => (by simp at hx), ⟨by simp, none, 0, rfl, Nat.le_refl _, Nat.zero_le _, fun j u hj => by simp at hj⟩⟩
  · simp at hcs
    subst hcs
    have hlm : len ≤ m := by
      rw [hmm]
      split <;> omega
    have hgs : 0 < len → x.spot = none := by
      intro h0
      obtain ⟨cs0, hc0, _⟩ := hx 0 (by omega)
      rw [hC] at hc0
      obtain ⟨_, hl0, ha0⟩ := World.cells?_some hc0
      have h1 := ha0 0 hs
      rw [List.getElem?_eq_getElem (by omega)] at h1
      have h2 : w.cell? x = some (cs0[0]'(by omega)) := by simpa [Addr.add] using h1
      exact World.cell?_spot h2
    have hall : ∀ i, i < len → ∃ y : α, Q y ∧ ∀ j u, (f y)[j]? = some u → w.cell? (x.add (i * s + j)) = some u := by
      intro i hi
      obtain ⟨cs, hc, htr⟩ := hx i (by omega)
      rw [hC] at hc
      obtain ⟨_, hlen, hat⟩ := World.cells?_some hc
      obtain ⟨y, rfl, hq⟩ := hopen _ _ _ hlen htr
      refine ⟨y, hq, fun j u hj => ?_⟩
      have hjs : j < s := by
        have := (List.getElem?_eq_some_iff.1 hj).1
        rw [hf] at this
        exact this
      have h1 := hat j hjs
      rw [hj] at h1
      rw [← h1]
      have hsp := hgs (by omega)
      obtain ⟨b, off, sp⟩ := x
      simp at hsp
      subst hsp
      rw [Addr.add_lit, Addr.add_lit, Addr.add_lit, Nat.add_assoc]
    obtain ⟨X, hX⟩ := choose_lt (α := α) (p := fun i y => Q y ∧ ∀ j u, (f y)[j]? = some u → w.cell? (x.add (i * s + j)) = some u) hall
    refine ⟨some x, len, cap, (List.range len).map X, rfl, hl, hm, by simp, fun y hy => ?_, ?_⟩
    · obtain ⟨i, hi, rfl⟩ := List.mem_map.1 hy
      exact (hX i (List.mem_range.1 hi)).1
    · refine ⟨by rw [flat_length f s hf]; simp, some x, cap, rfl, hl, hm, fun j u hj => ?_⟩
      have hjl := (List.getElem?_eq_some_iff.1 hj).1
      rw [flat_length f s hf, List.length_map, List.length_range] at hjl
      have hi : j / s < len := Nat.div_lt_of_lt_mul (by rw [Nat.mul_comm]; exact hjl)
      have hr : j % s < s := Nat.mod_lt _ hs
      have hjj : j / s * s + j % s = j := by rw [Nat.mul_comm]; exact Nat.div_add_mod j s
      have hg : ((List.range len).map X)[j / s]? = some (X (j / s)) := by simp [hi]
      have h1 := flat_cell f s hf _ _ _ hg (j % s) hr
      rw [hjj, hj] at h1
      have h2 := (hX _ hi).2 (j % s) u h1.symm
      rw [hjj] at h2
      have hspot := hgs (Nat.lt_of_le_of_lt (Nat.zero_le _) hi)
      obtain ⟨b, off, sp⟩ := x
      simp at hspot
      subst hspot
      rw [Addr.add_lit] at h2
      exact ⟨b, off, rfl, World.block_lt_of_cell? _ _ h2, h2⟩

theorem slice_rows {α : Type} [Inhabited α] {t e : TypeId} {r : Reach} {b0 s : Nat} {v : Value} {d : DataW H} {p : List MemPlace} (f : α → List Value) (Q : α → Prop) (ht : Tryd.prog.underlying t = some (.slice e)) (hC : Tryd.prog.cellsOf e = s) (hs : 0 < s) (hf : ∀ x, (f x).length = s)
    (hopen : ∀ n cs y, cs.length = s → DataW.trod enc Tryd.prog w base spare held n e cs = some y → ∃ x, cs = f x ∧ Q x)
    (hv : Value.okWide Tryd.prog w r b0 t v) (h : DataW.Trod enc Tryd.prog w base spare held t v d p) :
    ∃ a len cap, ∃ l : List α, v = .slice a len cap ∧ len ≤ cap ∧ cap ≤ maxLen ∧ l.length = len ∧ (∀ x ∈ l, Q x) ∧ Reads w s (.slice a len cap) len (l.flatMap f) := by
  obtain ⟨a, len, cap, rfl⟩ := okWide_slice ht hv
  obtain ⟨fuel, hfu⟩ := h
  exact slice_rows_of f Q ht hC hs hf hopen hfu
end
end Go.Proofs.YtoibhkmlebcepaaDoor

/- A slice that came in, with what the form's reach says of its elements' sizes. -/
namespace Go.Proofs.YtoibhkmlebcepaaDoor
open Go Go.RowKit Go.ChangeShapes Go.WideShapes Go.Deep

section
variable {H : Type} {enc : TypeId × Value → H} {w : World} {base : Nat} {spare : Nat → Bool} {held : Bool}

/-- No weight of a datum is beyond the reach. -/
def WOk (t : TypeId) (d : DataW H) : Prop := (d.weights Tryd.prog t).all (· ≤ reachBytes) = true

theorem wok_all {e : TypeId} : ∀ (l : List (DataW H)), (DataW.weightsAll Tryd.prog e l).all (· ≤ reachBytes) = true → ∀ d ∈ l, WOk e d
  | [], _, d, hd => by cases hd
  | x :: r, h, d, hd => by
    rw [DataW.weightsAll, List.all_append, Bool.and_eq_true] at h
    rcases List.mem_cons.1 hd with rfl | hd
    · exact h.1
    · exact wok_all r h.2 d hd

theorem wok_slice {t e : TypeId} {elems rest : List (DataW H)} (ht : Tryd.prog.underlying t = some (.slice e)) (h : WOk t (DataW.slice elems rest)) :
    (elems.length + rest.length) * Tryd.prog.bytesOf e ≤ reachBytes ∧ ∀ d ∈ elems, WOk e d := by
  unfold WOk at h
  rw [DataW.weights, ht] at h
  simp only [List.all_cons, List.all_append, Bool.and_eq_true, decide_eq_true_eq] at h
  exact ⟨h.1, wok_all _ h.2.1⟩

theorem wok_arg : ∀ (ts : List TypeId) (ds : List (DataW H)) (j : Nat) (t : TypeId) (d : DataW H), (DataW.weightsEach Tryd.prog ts ds).all (· ≤ reachBytes) = true → ts[j]? = some t → ds[j]? = some d → WOk t d
  | [], _, j, _, _, _, h, _ => by simp at h
  | _ :: _, [], j, _, _, _, _, h => by simp at h
  | t0 :: ts, d0 :: ds, 0, t, d, h, ht, hd => by
    rw [DataW.weightsEach, List.all_append, Bool.and_eq_true] at h
    simp at ht hd
    subst ht
    subst hd
    exact h.1
  | t0 :: ts, d0 :: ds, j + 1, t, d, h, ht, hd => by
    rw [DataW.weightsEach, List.all_append, Bool.and_eq_true] at h
    exact wok_arg ts ds j t d h.2 (by simpa using ht) (by simpa using hd)

theorem slice_rows_sized {α : Type} [Inhabited α] {t e : TypeId} {s fuel : Nat} {v : Value} {y : DataW H × List MemPlace} (f : α → List Value) (Q : α → Prop) (ht : Tryd.prog.underlying t = some (.slice e)) (hC : Tryd.prog.cellsOf e = s) (hs : 0 < s) (hf : ∀ x, (f x).length = s)
    (hopen : ∀ n cs y, cs.length = s → DataW.trod enc Tryd.prog w base spare held n e cs = some y → WOk e y.1 → ∃ x, cs = f x ∧ Q x)
    (hfu : DataW.trod enc Tryd.prog w base spare held fuel t [v] = some y) (hz : WOk t y.1) :
    ∃ a len cap, ∃ l : List α, v = .slice a len cap ∧ len ≤ cap ∧ cap ≤ maxLen ∧ l.length = len ∧ (∀ x ∈ l, Q x) ∧ Reads w s (.slice a len cap) len (l.flatMap f) ∧ len * Tryd.prog.bytesOf e ≤ reachBytes := by
  rcases open_slice ht hfu with ⟨hcs, _⟩ | ⟨x, len, cap, m, n, D, Pl, hcs, _, hl, hm, hmm, hy, hx⟩
  · simp at hcs
    subst hcs
    exact ⟨none, 0, 0, [], rfl, Nat.le_refl _, Nat.zero_le _, rfl, fun x hx => (by simp at hx), ⟨by simp, none, 0, rfl, Nat.le_refl _, Nat.zero_le _, fun j u hj => by simp at hj⟩, by simp⟩
  · simp at hcs
    subst hcs
    rw [hy] at hz
    obtain ⟨hz1, hz2⟩ := wok_slice ht hz
    have hlm : len ≤ m := by
      rw [hmm]
      split <;> omega
    have hgs : 0 < len → x.spot = none := by
      intro h0
      obtain ⟨cs0, hc0, _⟩ := hx 0 (by omega)
      rw [hC] at hc0
      obtain ⟨_, hl0, ha0⟩ := World.cells?_some hc0
      have h1 := ha0 0 hs
      rw [List.getElem?_eq_getElem (by omega)] at h1
      have h2 : w.cell? x = some (cs0[0]'(by omega)) := by simpa [Addr.add] using h1
      exact World.cell?_spot h2
    have hall : ∀ i, i < len → ∃ y : α, Q y ∧ ∀ j u, (f y)[j]? = some u → w.cell? (x.add (i * s + j)) = some u := by
      intro i hi
      obtain ⟨cs, hc, htr⟩ := hx i (by omega)
      rw [hC] at hc
      obtain ⟨_, hlen, hat⟩ := World.cells?_some hc
      obtain ⟨y, rfl, hq⟩ := hopen _ _ _ hlen htr (hz2 _ (List.mem_map.2 ⟨i, List.mem_range.2 hi, rfl⟩))
      refine ⟨y, hq, fun j u hj => ?_⟩
      have hjs : j < s := by
        have := (List.getElem?_eq_some_iff.1 hj).1
        rw [hf] at this
        exact this
      have h1 := hat j hjs
      rw [hj] at h1
      rw [← h1]
      have hsp := hgs (by omega)
      obtain ⟨b, off, sp⟩ := x
      simp at hsp
      subst hsp
      rw [Addr.add_lit, Addr.add_lit, Addr.add_lit, Nat.add_assoc]
    obtain ⟨X, hX⟩ := choose_lt (α := α) (p := fun i y => Q y ∧ ∀ j u, (f y)[j]? = some u → w.cell? (x.add (i * s + j)) = some u) hall
    refine ⟨some x, len, cap, (List.range len).map X, rfl, hl, hm, by simp, fun y hy => ?_, ?_, ?_⟩
    · obtain ⟨i, hi, rfl⟩ := List.mem_map.1 hy
      exact (hX i (List.mem_range.1 hi)).1
    · refine ⟨by rw [flat_length f s hf]; simp, some x, cap, rfl, hl, hm, fun j u hj => ?_⟩
      have hjl := (List.getElem?_eq_some_iff.1 hj).1
      rw [flat_length f s hf, List.length_map, List.length_range] at hjl
      have hi : j / s < len := Nat.div_lt_of_lt_mul (by rw [Nat.mul_comm]; exact hjl)
      have hr : j % s < s := Nat.mod_lt _ hs
      have hjj : j / s * s + j % s = j := by rw [Nat.mul_comm]; exact Nat.div_add_mod j s
      have hg : ((List.range len).map X)[j / s]? = some (X (j / s)) := by simp [hi]
      have h1 := flat_cell f s hf _ _ _ hg (j % s) hr
      rw [hjj, hj] at h1
      have h2 := (hX _ hi).2 (j % s) u h1.symm
      rw [hjj] at h2
      have hspot := hgs (Nat.lt_of_le_of_lt (Nat.zero_le _) hi)
      obtain ⟨b, off, sp⟩ := x
      simp at hspot
      subst hspot
      rw [Addr.add_lit] at h2
      exact ⟨b, off, rfl, World.block_lt_of_cell? _ _ h2, h2⟩
    · simp only [List.length_map, List.length_range] at hz1
      exact Nat.le_trans (Nat.mul_le_mul_right _ (Nat.le_add_right _ _)) hz1
end
end Go.Proofs.YtoibhkmlebcepaaDoor

/- A commit that came in. -/
namespace Go.Proofs.YtoibhkmlebcepaaDoor
open Go Go.RowKit Go.Joins Go.WideShapes Go.ChangeShapes Go.ChangeAt Go.Deep

section
variable {H : Type} {enc : TypeId × Value → H} {w : World} {base : Nat} {spare : Nat → Bool} {held : Bool}

theorem one_string {n : Nat} {c : Value} {y : DataW H × List MemPlace} (h : DataW.trod enc Tryd.prog w base spare held n 9 [c] = some y) : ∃ s : ByteArray, c = .string s ∧ s.size ≤ maxLen := by
  obtain ⟨s, e, _, hs⟩ := DataW.trod_string Tryd.underlying9 h
  simp only [List.cons.injEq, and_true] at e
  exact ⟨s, e, hs⟩

theorem one_bool {n : Nat} {c : Value} {y : DataW H × List MemPlace} (h : DataW.trod enc Tryd.prog w base spare held n 4 [c] = some y) : ∃ b : Bool, c = .bool b := by
  obtain ⟨b, e, _⟩ := DataW.trod_bool Tryd.underlying4 h
  simp only [List.cons.injEq, and_true] at e
  exact ⟨b, e⟩

theorem one_u64 {n : Nat} {c : Value} {y : DataW H × List MemPlace} (h : DataW.trod enc Tryd.prog w base spare held n 22 [c] = some y) : ∃ m : Nat, c = .int .u64 (m : Int) ∧ m < 18446744073709551616 := by
  obtain ⟨k, e, _, hw⟩ := DataW.trod_int Tryd.underlying22 h
  simp only [List.cons.injEq, and_true] at e
  have bd : 0 ≤ k ∧ k ≤ 18446744073709551615 := by simpa [Lit.wf, IntKind.min, IntKind.max, IntKind.signed, IntKind.bits] using hw
  obtain ⟨m, rfl⟩ := Int.eq_ofNat_of_zero_le bd.1
  exact ⟨m, e, by omega⟩

theorem commit_open {r : Reach} {b0 : Nat} {v : Value} {d : DataW H} {p : List MemPlace} (hv : Value.okWide Tryd.prog w r b0 25 v) (h : DataW.Trod enc Tryd.prog w base spare held 25 v d p) :
    ∃ (rev : Nat) (a : Option Addr) (len cap : Nat) (l : List Ent), v = .agg #[.int .u64 (rev : Int), .slice a len cap] ∧ rev < 18446744073709551616 ∧ len ≤ cap ∧ cap ≤ maxLen ∧ l.length = len ∧ (∀ x ∈ l, x.key.size ≤ maxLen) ∧ Reads w 3 (.slice a len cap) len (ecells l) := by
  have : Inhabited Ent := ⟨⟨⟨#[]⟩, 0, false⟩⟩
  obtain ⟨cs, rfl, hsz⟩ := okWide_struct Tryd.underlying25 hv
  have k2 : Tryd.prog.cellsOf 25 = 2 := by kernel_rfl
  have k1 : Tryd.prog.cellsOf 22 = 1 := by kernel_rfl
  have ks : Tryd.prog.cellsOf 23 = 1 := by kernel_rfl
  have kt : Tryd.prog.cellsOf 9 = 1 := by kernel_rfl
  have kb : Tryd.prog.cellsOf 4 = 1 := by kernel_rfl
  obtain ⟨c0, c1, rfl⟩ : ∃ c0 c1, cs = #[c0, c1] := by
    have h2 := hsz.trans k2
    obtain ⟨l⟩ := cs
    match l, h2 with
    | [c0, c1], _ => exact ⟨c0, c1, rfl⟩
  obtain ⟨fuel, hf⟩ := h
  obtain ⟨y0, y1, n, _, _, h0, h1⟩ := trod_struct2 Tryd.underlying25 hf
  rw [k1] at h0
  rw [ks] at h1
  simp [Value.cells] at h0 h1
  obtain ⟨rev, rfl, hrev⟩ := one_u64 h0
  obtain ⟨a, len, cap, l, rfl, hl, hm, hn, hq, hr⟩ := slice_rows_of ecell (fun x => x.key.size ≤ maxLen) Tryd.underlying23 (by kernel_rfl) (by decide) ecell_length (fun n cs y hl ht => by
    obtain ⟨y0, y1, y2, m, _, _, h0, h1, h2⟩ := trod_struct3 Tryd.underlying48 ht
    match cs, hl with
    | [d0, d1, d2], _ =>
      rw [kt] at h0
      rw [k1] at h1
      rw [kb] at h2
      simp at h0 h1 h2
      obtain ⟨s, rfl, hs⟩ := one_string h0
      obtain ⟨m, rfl, _⟩ := one_u64 h1
      obtain ⟨b, rfl⟩ := one_bool h2
      exact ⟨⟨s, m, b⟩, rfl, hs⟩) h1
  exact ⟨rev, a, len, cap, l, rfl, hrev, hl, hm, hn, hq, hr⟩
end
end Go.Proofs.YtoibhkmlebcepaaDoor

/- A slice of slices of entries that came in. -/
namespace Go.Proofs.YtoibhkmlebcepaaDoor
open Go Go.RowKit Go.Joins Go.WideShapes Go.ChangeShapes Go.ChangeAt Go.Deep

section
variable {H : Type} {enc : TypeId × Value → H} {w : World} {base : Nat} {spare : Nat → Bool} {held : Bool}

theorem ent_open {n : Nat} {cs : List Value} {y : DataW H × List MemPlace} (hl : cs.length = 3) (ht : DataW.trod enc Tryd.prog w base spare held n 48 cs = some y) : ∃ x : Ent, cs = ecell x ∧ x.key.size ≤ maxLen := by
  have k1 : Tryd.prog.cellsOf 22 = 1 := by kernel_rfl
  have kt : Tryd.prog.cellsOf 9 = 1 := by kernel_rfl
  have kb : Tryd.prog.cellsOf 4 = 1 := by kernel_rfl
  obtain ⟨y0, y1, y2, m, _, _, h0, h1, h2⟩ := trod_struct3 Tryd.underlying48 ht
  match cs, hl with
  | [d0, d1, d2], _ =>
    rw [kt] at h0
    rw [k1] at h1
    rw [kb] at h2
    simp at h0 h1 h2
    obtain ⟨s, rfl, hs⟩ := one_string h0
    obtain ⟨m, rfl, _⟩ := one_u64 h1
    obtain ⟨b, rfl⟩ := one_bool h2
    exact ⟨⟨s, m, b⟩, rfl, hs⟩

theorem erows_open {v : Value} {r : Reach} {b0 : Nat} {d : DataW H} {p : List MemPlace} (hv : Value.okWide Tryd.prog w r b0 42 v) (h : DataW.Trod enc Tryd.prog w base spare held 42 v d p) (hz : WOk 42 d) :
    ∃ a n cap ls, v = .slice a n cap ∧ ERows w (.slice a n cap) n ls := by
  have : Inhabited Ent := ⟨⟨⟨#[]⟩, 0, false⟩⟩
  have : Inhabited (Option Addr × Nat × List Ent) := ⟨(none, 0, [])⟩
  obtain ⟨a, n, cap, rfl⟩ := okWide_slice Tryd.underlying42 hv
  obtain ⟨fuel, hf⟩ := h
  have kb : Tryd.prog.bytesOf 48 = 32 := by kernel_rfl
  obtain ⟨a', n', cap', l, hv', h1, h2, h3, h4, h5, _⟩ := slice_rows_sized (α := Option Addr × Nat × List Ent) (fun x => [.slice x.1 x.2.2.length x.2.1])
    (fun x => x.2.2.length * 32 ≤ 140737488351232 ∧ (∀ y ∈ x.2.2, y.key.size ≤ maxLen) ∧ Reads w 3 (.slice x.1 x.2.2.length x.2.1) x.2.2.length (ecells x.2.2))
    Tryd.underlying42 (by kernel_rfl) (by decide) (fun _ => rfl) (fun m cs y hl ht hz => by
      obtain ⟨c, rfl⟩ : ∃ c, cs = [c] := by
        match cs, hl with
        | [c], _ => exact ⟨c, rfl⟩
      obtain ⟨a, len, cap, l, rfl, _, _, hn, hq, hr, hb⟩ := slice_rows_sized ecell (fun x => x.key.size ≤ maxLen) Tryd.underlying23 (by kernel_rfl) (by decide) ecell_length (fun n cs y hl ht _ => ent_open hl ht) ht hz
      subst hn
      rw [kb] at hb
      exact ⟨(a, cap, l), rfl, hb, hq, hr⟩) hf hz
  cases hv'
  refine ⟨a, n, cap, l.map (·.2.2), rfl, a, cap, rfl, h1, h2, by rw [List.length_map]; exact h3, fun i x hx => ?_⟩
  rw [List.getElem?_map] at hx
  obtain ⟨y, hy, rfl⟩ := Option.map_eq_some_iff.1 hx
  obtain ⟨k1, k2, k3⟩ := h4 y (List.mem_of_getElem? hy)
  obtain ⟨g, off, ha, hg, hc⟩ := h5.at (j := i) (u := .slice y.1 y.2.2.length y.2.1) (by
    have := flat_cell (fun x : Option Addr × Nat × List Ent => [Value.slice x.1 x.2.2.length x.2.1]) 1 (fun _ => rfl) l i y hy 0 (by decide)
    simpa using this)
  exact ⟨k1, k2, g, off, y.1, y.2.1, ha, hg, hc, k3⟩
end
end Go.Proofs.YtoibhkmlebcepaaDoor

/- What the listed table of steps gives the walks. -/
namespace Go.Proofs.YtoibhkmlebcepaaDoor
open Go Go.ChangeShapes Go.WideShapes Go.ChangeAt Go.WideMaps Go.WideElems Go.RowKit

noncomputable def laidL : List (String × DataW Unit) := [("sentry/frame.steps", Rows.laid_sentry_frame_steps)]

theorem gSteps : Tryd.prog.globalNamed "sentry/frame.steps" = some 0 := by kernel_rfl
theorem tSteps : (Tryd.prog.globals[0]?).map (·.type) = some 70 := by kernel_rfl

theorem steps_door_met (os : Os) (args : Array Value) : laidMetH Tryd.prog laidL ((World.doorLaid Tryd.prog 100 os).forCall (fun _ _ => 0) ⟨#[], args, []⟩).memory :=
  laidMetH_of_parts3 (fuel := 8) (laidMet_of_run' 8 (by kernel_rfl) (by kernel_rfl)) (by kernel_rfl) (by kernel_rfl)

theorem laid_at {H : Type} (l : List (DataW H)) (h : (Rows.laid_sentry_frame_steps : DataW H) = .agg l) (i : Nat) (hi : i < 16) : l[i]? = some (.lit (.int .u32 (stepsT.getD i 0 : Int))) := by
  unfold Rows.laid_sentry_frame_steps at h
  cases h
  have hc : i = 0 ∨ i = 1 ∨ i = 2 ∨ i = 3 ∨ i = 4 ∨ i = 5 ∨ i = 6 ∨ i = 7 ∨ i = 8 ∨ i = 9 ∨ i = 10 ∨ i = 11 ∨ i = 12 ∨ i = 13 ∨ i = 14 ∨ i = 15 := by omega
  rcases hc with rfl | rfl | rfl | rfl | rfl | rfl | rfl | rfl | rfl | rfl | rfl | rfl | rfl | rfl | rfl | rfl <;> rfl

theorem steps_of_laid {W : World} (h : laidMetH Tryd.prog laidL W) : Steps W := by
  rw [MakeChecks.laidMetH_plain _ _ _ (by kernel_rfl)] at h
  obtain ⟨ps, ⟨g0, t0, cs0, f0, p0, q0, hg0, ht0, hv0, hd0, _, _⟩, _⟩ := h
  obtain rfl := Option.some.inj (gSteps.symm.trans hg0)
  obtain rfl := Option.some.inj (tSteps.symm.trans ht0)
  obtain ⟨xs, m1, rfl, hx1, hlen, hn, hel⟩ := DataW.trod_array Tryd.underlying70 hd0
  have c1 : Tryd.prog.cellsOf 53 = 1 := by kernel_rfl
  have c16 : Tryd.prog.cellsOf 70 = 16 := by kernel_rfl
  rw [c16] at hlen
  simp only [Prod.mk.injEq] at hx1
  have hcell : ∀ i, i < 16 → W.cell? ⟨0, i, none⟩ = some (.int .u32 (stepsT.getD i 0 : Int)) := by
    intro i hi
    have h1 := hel i hi
    rw [c1, Nat.mul_one] at h1
    have hxi : xs[i]? = some (xs[i]'(by omega)) := List.getElem?_eq_getElem (by omega)
    rw [hxi] at h1
    have hci : (cs0.toList.drop i).take 1 = [cs0.toList[i]'(by omega)] := by
      rw [List.drop_eq_getElem_cons (by omega)]
      rfl
    rw [hci] at h1
    obtain ⟨k, e1, e2, _⟩ := DataW.trod_int Tryd.underlying53 h1
    have h2 := laid_at (xs.map (·.1)) hx1.1 i hi
    rw [List.getElem?_map, hxi, Option.map_some, e2] at h2
    have hk : k = (stepsT.getD i 0 : Int) := by simpa using h2
    have h3 := World.var?_cell hg0 hv0 i
    rw [h3]
    have h4 : cs0[i]? = some (cs0.toList[i]'(by omega)) := by
      rw [← Array.getElem?_toList, List.getElem?_eq_getElem (by omega)]
    rw [h4]
    simp only [List.cons.injEq, and_true] at e1
    rw [e1, hk]
  exact ⟨World.block_lt_of_cell? _ _ (hcell 0 (by decide)), hcell⟩
end Go.Proofs.YtoibhkmlebcepaaDoor
