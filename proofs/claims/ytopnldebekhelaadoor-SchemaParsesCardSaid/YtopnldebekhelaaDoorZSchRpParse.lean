/- sentryref05.Parse tells what the program's Parse tells (written by gen_schrpparse.py). -/
import Derived.Test.YtopnldebekhelaaDoorZSchRpOne
import Derived.Test.YtopnldebekhelaaDoorZSchRpLn
import Derived.Test.YtopnldebekhelaaDoorZSchParse
import Derived.Deep.RegionLaw
namespace Go.Proofs.YtopnldebekhelaaDoor
open Go Go.RowKit

theorem rl_line (i : Nat) (S : List Ty) (x : List UInt8) (ls : List (List UInt8)) : parseL i S (x :: ls) = if blR x = true then parseL (i + 1) S ls else match refLine S (toks x) with
    | some S' => parseL (i + 1) S' ls
    | none => (none, i + 1) := by
  rw [parseL, blR_eq, toks_trim, refLine_eq]
  by_cases h : blR x = true
  · rw [if_pos h, if_pos h]
  · rw [if_neg h, if_neg h]
    cases lineF S (toks x) <;> rfl
theorem rl_bad {S : List Ty} {T : List ByteArray} (h : T.all okT1 = false) : refLine S T = none := by unfold refLine; rw [if_neg (by rw [h]; decide)]
theorem rl_short {S : List Ty} {T : List ByteArray} (h : T.length < 2) : refLine S T = none := by
  unfold refLine
  split
  · rw [if_neg (fun e => by omega), if_neg (fun e => by omega)]
  · rfl
theorem rl_two {S : List Ty} {a b : ByteArray} (hall : [a, b].all okT1 = true) : refLine S [a, b] = if a = cType ∧ isRefB b = true then some (S ++ [⟨b, []⟩]) else none := by
  unfold refLine
  rw [if_pos hall]
  by_cases h : a = cType ∧ isRefB b = true
  · rw [if_pos ⟨rfl, h.1, h.2⟩, if_pos h]; rfl
  · rw [if_neg (fun e => h ⟨e.2.1, e.2.2⟩), if_neg (fun e => by have := e.2.1; simp at this), if_neg h]
theorem rl_long {S : List Ty} {a b c : ByteArray} {T3 : List ByteArray} (hall : (a :: b :: c :: T3).all okT1 = true) : refLine S (a :: b :: c :: T3) = if S ≠ [] ∧ isRelB a = true ∧ b = cEq then (match ruleG 8 (c :: T3) with
      | some (t, U) => if U = [] then some (addRl S ⟨a, t⟩) else none
      | none => none) else none := by
  unfold refLine
  rw [if_pos hall, if_neg (fun e => by have := e.1; simp at this)]
  by_cases h : S ≠ [] ∧ isRelB a = true ∧ b = cEq
  · rw [if_pos ⟨h.1, by simp, h.2.1, h.2.2⟩, if_pos h]; rfl
  · rw [if_neg (fun e => h ⟨e.1, e.2.2.1, e.2.2.2⟩), if_neg h]

def PqRel (w4 : World) (B sb n : Nat) (ls : List (List UInt8)) (res : Option (List Ty) × Nat) (iv : Value) (wr : World) : Prop :=
  ∃ (i : Nat) (S : List Ty), iv = .int .i64 (i : Int) ∧ i ≤ n ∧ res = parseL i S (ls.drop i) ∧ SAt wr B sb S ∧ cntS S ≤ i ∧ KeptB B sb w4 wr

theorem kp_below {w w4 wr : World} {B sb N : Nat} (h : Below w.heap.size w w4) (hk : KeptB B sb w4 wr) (hB : w.heap.size ≤ B) (hsb : w.heap.size ≤ sb) (hN : w.heap.size ≤ N) (v : Value) : Below w.heap.size w (wr.setCell ⟨N, 0, none⟩ v) :=
  ⟨hk.os.trans h.os, hk.tape.trans h.tape, hk.output.trans h.output, Nat.le_trans (Nat.le_trans h.size hk.size) (by simp [World.setCell]), fun k hk' => (Below.heap_setCell _ _ _ _ (fun e => by have e : k = N := e; omega)).trans ((hk.block k (by omega) (by omega)).trans (h.block k hk'))⟩
theorem relB_of {a : ByteArray} (h1 : nameB a = true) (h2 : a ≠ cThis) (h3 : a ≠ cType) : isRelB a = true := by
  unfold isRelB isRefB
  rw [h1, decide_eq_false h2, decide_eq_false h3]; rfl
theorem rel_not {a : ByteArray} (h : nameB a = false ∨ a = cThis ∨ a = cType) : isRelB a = false := by
  unfold isRelB isRefB
  rcases h with h | h | h
  · rw [h]; rfl
  · rw [decide_eq_true h]; simp
  · rw [decide_eq_true h]; simp

theorem cnt_addRl (S0 : List Ty) (t : Ty) (r : Rl) : cntS (addRl (S0 ++ [t]) r) = cntS (S0 ++ [t]) + 1 := by
  rw [addRl_snoc, cntS_append, cntS_append]
  simp [cntS]
  omega

theorem rel_srcD (W : World) (nm : ByteArray) (x : RuE) : Src Tryd.prog 5 37 (.slice (some ⟨W.heap.size, 0, none⟩) 1 1) 1 (RlE.cells ⟨nm, x⟩) (W.alloc (.cells #[.string nm, .int .i64 x.h.kind, .string x.h.a, .string x.h.b, .slice x.a x.ps.length x.cap] 44)).drew := by
  refine Src.ofSlice (size := 5) _ Tryd.underlying37 _ _ _ _ rfl (fun j u hju => ?_) (fun u hu => by simp [RlE.cells, RuE.cells] at hu; rcases hu with rfl | rfl | rfl | rfl | rfl <;> rfl)
  rw [Addr.add_lit, show 0 + j = j by omega]
  show (W.alloc (.cells #[.string nm, .int .i64 x.h.kind, .string x.h.a, .string x.h.b, .slice x.a x.ps.length x.cap] 44)).cell? _ = _
  rw [World.cell?_alloc_new W _ _ j]
  simpa [RlE.cells, RuE.cells] using hju
theorem ty_srcD (W : World) (a : ByteArray) : Src Tryd.prog 2 23 (.slice (some ⟨W.heap.size, 0, none⟩) 1 1) 1 [.string a, .slice none 0 0] (W.alloc (.cells #[.string a, .slice none 0 0] 39)).drew := by
  refine Src.ofSlice (size := 2) _ Tryd.underlying23 _ _ _ _ rfl (fun j u hju => ?_) (fun u hu => by simp at hu; rcases hu with rfl | rfl <;> rfl)
  rw [Addr.add_lit, show 0 + j = j by omega]
  show (W.alloc (.cells #[.string a, .slice none 0 0] 39)).cell? _ = _
  rw [World.cell?_alloc_new W _ _ j]
  simpa using hju

set_option maxRecDepth 100000 in
set_option maxHeartbeats 8000000 in
theorem refparse_any (w : World) (l : List UInt8) (hl0 : l.length ≤ 1000000000) :
    Calls Tryd.prog 9 #[.string (tk l)] w (ParsePost w (parseS (tk l))) := by
  obtain ⟨j0, hj, hy0, hy1, hy2⟩ := info_parts infoE_Ty
  obtain ⟨i0, hi, hz0, hz1, hz2⟩ := info_parts infoE_Rl
  obtain ⟨N, hN⟩ : ∃ N, w.heap.size = N := ⟨_, rfl⟩
  have hwN : w.heap.size ≤ N := Nat.le_of_eq hN
  have hNw : N ≤ w.heap.size := Nat.le_of_eq hN.symm
  obtain ⟨w1, hw1⟩ : ∃ W, W = w.alloc (.cells #[.slice none 0 0] 25) := ⟨_, rfl⟩
  have hb1 : Below w.heap.size w w1 := by rw [hw1]; exact (Below.refl _ _).alloc (Nat.le_refl _) _
  have hn1 : w1.heap[N]? = some (.cells #[.slice none 0 0] 25 (0, 0)) := by rw [hw1, ← hN]; exact heap_alloc_new w _
  have s1 : w1.heap.size = N + 1 := by rw [hw1, ← hN]; simp
  obtain ⟨L, hL⟩ : ∃ L, l.length = L := ⟨_, rfl⟩
  have htk : (tk l).size = L := by rw [tk_size, hL]
  have HN := Lib.hid hN
  have HW1 := Lib.hid hw1
  have HL := Lib.hid hL
  clear hN hw1
  go_enter Tryd.func9, Tryd.ntmps9
  go_upto_region 1 with fail
  rw [← HW1.out]
  try rw [HN.out]
  clear HW1
  by_cases hl : 65536 < L
  · have hlI : (65536 : Int) < L := by omega
    have hr : parseS (tk l) = ([], 0, 10) := by unfold parseS; rw [if_pos (by rw [htk]; exact hl)]
    have HR := Lib.hid hr
    have HN1 := Lib.hid hn1
    have HB1 := Lib.hid hb1
    have e0 := Lib.cell_of_heap hn1 0
    have fz := Lib.frozen_of_heap hn1
    simp at e0
    clear hn1 hb1 s1 hr
    go_wp2
    rw [HR.out]
    refine bodyPost_ret (ret_sch Tryd.results9 rfl (sch_stored HN1.out _)) rfl ⟨.slice none 0 0, rfl, SchAt.nil _ _, ?_⟩
    exact HB1.out.setCell (p := ⟨N, 0, none⟩) hwN _
  · have hlI : ¬ (65536 : Int) < L := by omega
    obtain ⟨w2, hw2⟩ : ∃ W, W = w1.alloc (.cells #[.slice none 0 0] 25) := ⟨_, rfl⟩
    have hb2 : Below w1.heap.size w1 w2 := by rw [hw2]; exact (Below.refl _ _).alloc (Nat.le_refl _) _
    have s2 : w2.heap.size = N + 2 := by rw [hw2]; simp [s1]
    have hn2 := (hb2.block N (by omega)).trans hn1
    obtain ⟨sb, hsb⟩ : ∃ sb, N + 1 = sb := ⟨_, rfl⟩
    have hx2 : w2.heap[sb]? = some (.cells #[.slice none 0 0] 25 (0, 0)) := by rw [hw2, ← hsb, ← s1]; exact heap_alloc_new w1 _
    have HLn := Lib.hid (lines_any w2 l (by omega))
    obtain ⟨ls, hls⟩ : ∃ ls, linesL l = ls := ⟨_, rfl⟩
    obtain ⟨n, hn⟩ : ∃ n, ls.length = n := ⟨_, rfl⟩
    have hne : 1 ≤ n := by
      rw [← hn, ← hls]
      exact List.length_pos_iff.2 (linesL_ne l)
    have hnl : n ≤ 65537 := by
      have h1 := linesB_le (tk l)
      have h2 := congrArg List.length (linesB_data (tk l))
      rw [List.length_map, tk_data, hls, hn] at h2
      omega
    have hlsz : ∀ x ∈ ls, x.length ≤ 65536 := fun x hx => by
      have := linesL_le l x (by rw [hls]; exact hx)
      omega
    obtain ⟨res, hres⟩ : ∃ res, parseL 0 [] ls = res := ⟨_, rfl⟩
    have hr : parseS (tk l) = parseR res := by
      unfold parseS
      rw [if_neg (by rw [htk]; exact hl), tk_data, hls, hres]
    have HR := Lib.hid hr
    have HW2 := Lib.hid hw2
    have HS2 := Lib.hid s2
    have HLs := Lib.hid hls
    have HNn := Lib.hid hn
    have HSz := Lib.hid hlsz
    have HRes := Lib.hid hres
    have HN2 := Lib.hid hn2
    have HX2 := Lib.hid hx2
    have HB2 := Lib.hid (hb1.trans (hb2.mono hb1.size))
    have HSb := Lib.hid hsb
    have HS1 := Lib.hid s1
    have hsbl : sb < w2.heap.size := (Array.getElem?_eq_some_iff.1 hx2).1
    have hN2l : N < w2.heap.size := (Array.getElem?_eq_some_iff.1 hn2).1
    have hNsb : N < sb := by omega
    have hwsb : w.heap.size ≤ sb := by omega
    clear hw2 hb2 hn2 hx2 hls hn hlsz hres hr hn1 hb1 s1 s2 hsb
    go_upto_region 4 with fail
    rw [← HW2.out]
    try rw [HS1.out]
    try rw [HSb.out]
    clear HW2
    go_wp2_with (go_at_call 18; go_must (refine HLn.out.mono ?_))
    rintro e w4 ⟨lv, rfl, hown, hb4⟩
    rw [HLs.out, HNn.out] at hown
    obtain ⟨n', hn'⟩ : ∃ n', n = n' + 1 := ⟨n - 1, by omega⟩
    rw [hn'] at hown
    obtain ⟨lg, lcap, lcu, rfl, hlgB, hlgh, hlc1, hlc2, hlcu⟩ := own_block hown
    rw [← hn'] at hown hlc1 ⊢
    obtain ⟨B, hB⟩ : ∃ B, w4.heap.size = B := ⟨_, rfl⟩
    have hlgl : lg < B := by rw [← hB]; exact (Array.getElem?_eq_some_iff.1 hlgh).1
    have h24 := hb4.size
    have hsB : sb < B := by omega
    have hNB : N < B := by omega
    have hlgN : sb < lg := by omega
    have HLg := Lib.hid hlgh
    have HLc := Lib.hid hlcu
    have HB4 := Lib.hid (HB2.out.trans (hb4.mono HB2.out.size))
    have HN4 := Lib.hid ((hb4.block N hN2l).trans HN2.out)
    have HX4 := Lib.hid ((hb4.block sb hsbl).trans HX2.out)
    have HBs := Lib.hid hB
    have hwB : w.heap.size ≤ B := by omega
    clear hlc2
    clear hown hlgh hlcu hn' hb4 hB HLn HB2 HN2 HX2
    go_wp2
    go_loopw [20] (fun iv wr => PqRel w4 B sb n ls res iv wr) (fun iv _ => n - (intOf iv).toNat)
    case atStart => exact ⟨0, [], rfl, Nat.zero_le _, HRes.out.symm, ⟨.slice none 0 0, [], [], HX4.out, hsB, TysAt.nil _ _ _, rfl⟩, Nat.zero_le _, KeptB.refl _ _ _⟩
    case round =>
      obtain ⟨i, S, rfl, hin, hrs, hsat, hcnt, hk⟩ := hrel
      have HSat := Lib.hid hsat
      have HK := Lib.hid hk
      have HNr := Lib.hid ((hk.block N hNB (by omega)).trans HN4.out)
      have hlr := (hk.block lg hlgl (by omega)).trans HLg.out
      have HRs := Lib.hid hrs
      have hBw : B ≤ wr.heap.size := by
        have h1 := hk.size
        have h2 := HBs.out
        omega
      clear hsat hk hrs
      by_cases hlt : i < n
      · have hltI : (i : Int) < n := by omega
        have h0I : (0 : Int) ≤ i := by omega
        obtain ⟨x, hx⟩ : ∃ x, ls[i]? = some x := ⟨ls[i]'(by rw [HNn.out]; exact hlt), List.getElem?_eq_getElem _⟩
        have hcell := Lib.cell_of_heap hlr i
        rw [HLc.out i (.string (tk x)) (by unfold scells; rw [List.getElem?_map, List.getElem?_map, hx]; rfl)] at hcell
        have hlgw : lg < wr.heap.size := by omega
        have hxl := HSz.out x (List.mem_of_getElem? hx)
        have hdrop : ls.drop i = x :: ls.drop (i + 1) := (List.getElem_cons_drop (h := (List.getElem?_eq_some_iff.1 hx).1)).symm.trans (by rw [(List.getElem?_eq_some_iff.1 hx).2])
        have hrs := HRs.out
        rw [hdrop, rl_line] at hrs
        have HRn := Lib.hid hrs
        have HBl := Lib.hid (blank_any wr x hxl)
        have HTk := Lib.hid (tokens_any wr x hxl)
        clear hdrop hrs hlr hx HRs
        go_wp2_with (go_at_call 19; go_must (refine HBl.out.mono ?_))
        rintro e w5 ⟨rfl, rfl⟩
        clear HBl
        cases hbl : blR x with
        | true =>
          rw [if_pos hbl] at HRn
          clear hbl hcell
          go_wp2
          exact ⟨⟨i + 1, S, by go_num, by omega, HRn.out, HSat.out, by omega, HK.out⟩, by simp [intOf]; omega⟩
        | false =>
          rw [if_neg (by rw [hbl]; decide)] at HRn
          clear hbl
          go_wp2_with (go_at_call 20; go_must (refine HTk.out.mono ?_))
          rintro e w5 ⟨ta, tn, tc, tok, rfl, hall, hrows, hb5⟩
          have HSat5 := HSat.out.keep hb5
          have HK5 := Lib.hid (HK.out.trans (KeptB.of_below (hb5.mono hBw)))
          have HN5 := Lib.hid ((hb5.block N (by omega)).trans HNr.out)
          have hBw5 : B ≤ w5.heap.size := Nat.le_trans hBw hb5.size
          have hwtT := wt_toks _ x (Nat.le_refl _)
          obtain ⟨T, hT⟩ : ∃ T, toks x = T := ⟨_, rfl⟩
          rw [hT] at hall hrows HRn hwtT
          have hwt : wtT T ≤ 600000 := by omega
          have e0 := Lib.cell_of_heap HN5.out 0
          have fz := Lib.frozen_of_heap HN5.out
          simp at e0
          have hN5l : N < w5.heap.size := by omega
          obtain ⟨tv, es, rs, hsb5, _, hTy, hS⟩ := HSat5
          obtain ⟨q, hq⟩ : ∃ q, es.length = q := ⟨_, rfl⟩
          obtain ⟨tya, tycap, rfl, hty1, hty2⟩ := (ownsRow.reads hTy.own).le
          have hq1 : q ≤ 100000 := by
            have h1 := cntS_len S
            rw [← hS, List.length_map] at h1
            rw [hS, hq] at h1
            exact Nat.le_trans h1 (Nat.le_trans hcnt (Nat.le_trans hin (Nat.le_trans hnl (by decide))))
          rw [hq] at hsb5 hTy
          have s0 := Lib.cell_of_heap hsb5 0
          have sf := Lib.frozen_of_heap hsb5
          simp at s0
          have hsl : sb < w5.heap.size := by omega
          have HSb5 := Lib.hid hsb5
          have HTy := Lib.hid hTy
          have HS := Lib.hid hS
          have HQ := Lib.hid hq
          have HWt := Lib.hid hwt
          clear hb5 HTk HSat HK HNr hcell hwtT hwt hT hsb5 hTy hS hq hlc1 hty1 hty2
          cases tok with
          | false =>
            have HNone := Lib.hid (show refLine S T = none from rl_bad hall.symm)
            rw [HNone.out] at HRn
            dsimp only at HRn
            clear hall hrows
            go_wp2
            rw [HR.out, HRn.out]
            refine bodyPost_ret (ret_sch Tryd.results9 rfl (sch_stored HN5.out _)) rfl ⟨.slice none 0 0, ?_, SchAt.nil _ _, kp_below HB4.out HK5.out hwB hwsb hwN _⟩
            simp [parseR]
          | true =>
            obtain ⟨hTn, hrd⟩ := hrows rfl
            have HSeg := Lib.hid (Seg.of_reads hrd)
            have HAll := Lib.hid hall.symm
            have htc := HSeg.out.le
            clear hall hrows hrd hTn
            cases T with
            | nil =>
              have htn : tn = 0 := HSeg.out.len
              subst htn
              rw [rl_short (by simp)] at HRn
              dsimp only at HRn
              by_cases hq0 : q = 0
              · have hqn : ((q : Int) == 0) = true := by simp [hq0]
                clear hq0
                go_wp2
                rw [HR.out, HRn.out]
                refine bodyPost_ret (ret_sch Tryd.results9 rfl (sch_stored HN5.out _)) rfl ⟨.slice none 0 0, ?_, SchAt.nil _ _, kp_below HB4.out HK5.out hwB hwsb hwN _⟩
                simp [parseR]
              · have hqn : ((q : Int) == 0) = false := by simp; omega
                go_wp2
                rw [HR.out, HRn.out]
                refine bodyPost_ret (ret_sch Tryd.results9 rfl (sch_stored HN5.out _)) rfl ⟨.slice none 0 0, ?_, SchAt.nil _ _, kp_below HB4.out HK5.out hwB hwsb hwN _⟩
                simp [parseR]
            | cons a T1 =>
              cases T1 with
              | nil =>
                have htn : tn = 1 := HSeg.out.len
                subst htn
                rw [rl_short (by simp)] at HRn
                dsimp only at HRn
                by_cases hq0 : q = 0
                · have hqn : ((q : Int) == 0) = true := by simp [hq0]
                  clear hq0
                  go_wp2
                  rw [HR.out, HRn.out]
                  refine bodyPost_ret (ret_sch Tryd.results9 rfl (sch_stored HN5.out _)) rfl ⟨.slice none 0 0, ?_, SchAt.nil _ _, kp_below HB4.out HK5.out hwB hwsb hwN _⟩
                  simp [parseR]
                · have hqn : ((q : Int) == 0) = false := by simp; omega
                  go_wp2
                  rw [HR.out, HRn.out]
                  refine bodyPost_ret (ret_sch Tryd.results9 rfl (sch_stored HN5.out _)) rfl ⟨.slice none 0 0, ?_, SchAt.nil _ _, kp_below HB4.out HK5.out hwB hwsb hwN _⟩
                  simp [parseR]
              | cons b T2 =>
                obtain ⟨tb, toff, rfl, htB, htl, ka⟩ := HSeg.out.head
                obtain ⟨tb', toff', e1, _, _, kb⟩ := HSeg.out.at' 1 b rfl
                cases e1
                have HEa := Lib.hid (fun l => streq a l)
                have HEb := Lib.hid (fun l => streq b l)
                have hwab : a.size ≤ 1000000000 ∧ b.size ≤ 1000000000 := by
                  have h := HWt.out
                  rw [wtT_cons, wtT_cons] at h
                  omega
                cases T2 with
                | nil =>
                  have htn : tn = 2 := HSeg.out.len
                  subst htn
                  rw [rl_two HAll.out] at HRn
                  have h02 : (0 : Int) < 2 := by decide
                  have h12 : (1 : Int) < 2 := by decide
                  by_cases hat : a = cType
                  · have hae : (a.toList == [116, 121, 112, 101]) = true := by rw [HEa.out]; exact decide_eq_true (show a = tk [116, 121, 112, 101] from hat)
                    have HNm := Lib.hid (refname_any w5 b hwab.2)
                    cases hnb : nameB b with
                    | false =>
                      rw [if_neg (fun e => by have h2 := (isRef_split b).1 e.2; rw [hnb] at h2; cases h2.1)] at HRn
                      rw [hnb] at HNm
                      dsimp only at HRn
                      clear hat hnb
                      go_wp2_with (go_at_call 21; go_must (refine HNm.out.mono ?_))
                      rintro e w6 ⟨rfl, rfl⟩
                      clear HNm
                      by_cases hq0 : q = 0
                      · have hqn : ((q : Int) == 0) = true := by simp [hq0]
                        clear hq0
                        go_wp2
                        rw [HR.out, HRn.out]
                        refine bodyPost_ret (ret_sch Tryd.results9 rfl (sch_stored HN5.out _)) rfl ⟨.slice none 0 0, ?_, SchAt.nil _ _, kp_below HB4.out HK5.out hwB hwsb hwN _⟩
                        simp [parseR]
                      · have hqn : ((q : Int) == 0) = false := by simp; omega
                        go_wp2
                        rw [HR.out, HRn.out]
                        refine bodyPost_ret (ret_sch Tryd.results9 rfl (sch_stored HN5.out _)) rfl ⟨.slice none 0 0, ?_, SchAt.nil _ _, kp_below HB4.out HK5.out hwB hwsb hwN _⟩
                        simp [parseR]
                    | true =>
                      rw [hnb] at HNm
                      by_cases hbt : b = cThis
                      · have hbe : (b.toList == [116, 104, 105, 115]) = true := by rw [HEb.out]; exact decide_eq_true (show b = tk [116, 104, 105, 115] from hbt)
                        have hbn : (b.toList != [116, 104, 105, 115]) = false := by rw [bne, hbe]; rfl
                        rw [if_neg (fun e => ((isRef_split b).1 e.2).2 hbt)] at HRn
                        dsimp only at HRn
                        clear hat hnb hbt
                        go_wp2_with (go_at_call 21; go_must (refine HNm.out.mono ?_))
                        rintro e w6 ⟨rfl, rfl⟩
                        clear HNm
                        by_cases hq0 : q = 0
                        · have hqn : ((q : Int) == 0) = true := by simp [hq0]
                          clear hq0
                          go_wp2
                          rw [HR.out, HRn.out]
                          refine bodyPost_ret (ret_sch Tryd.results9 rfl (sch_stored HN5.out _)) rfl ⟨.slice none 0 0, ?_, SchAt.nil _ _, kp_below HB4.out HK5.out hwB hwsb hwN _⟩
                          simp [parseR]
                        · have hqn : ((q : Int) == 0) = false := by simp; omega
                          go_wp2
                          rw [HR.out, HRn.out]
                          refine bodyPost_ret (ret_sch Tryd.results9 rfl (sch_stored HN5.out _)) rfl ⟨.slice none 0 0, ?_, SchAt.nil _ _, kp_below HB4.out HK5.out hwB hwsb hwN _⟩
                          simp [parseR]
                      · have hbe : (b.toList == [116, 104, 105, 115]) = false := by rw [HEb.out]; exact decide_eq_false (show ¬ b = tk [116, 104, 105, 115] from hbt)
                        have hbn : (b.toList != [116, 104, 105, 115]) = true := by rw [bne, hbe]; rfl
                        rw [if_pos ⟨hat, (isRef_split b).2 ⟨hnb, hbt⟩⟩] at HRn
                        dsimp only at HRn
                        clear hat hnb hbt
                        go_wp2_with (go_at_call 21; go_must (refine HNm.out.mono ?_))
                        rintro e w6 ⟨rfl, rfl⟩
                        clear HNm
                        obtain ⟨W, hW⟩ : ∃ W, W = (w5.alloc (.cells #[.string b, .slice none 0 0] 39)).drew := ⟨_, rfl⟩
                        have hbw : Below w5.heap.size w5 W := by rw [hW]; exact ((Below.refl _ _).alloc (Nat.le_refl _) _).drew
                        have HTw := Lib.hid (HTy.out.keep hbw)
                        have hod := HTw.out.own
                        rw [HQ.out] at hod
                        have hsrc : Src Tryd.prog 2 23 (.slice (some ⟨w5.heap.size, 0, none⟩) 1 1) 1 [.string b, .slice none 0 0] W := by rw [hW]; exact ty_srcD w5 b
                        have hszW : B ≤ W.heap.size := Nat.le_trans hBw5 hbw.size
                        have HBw := Lib.hid hbw
                        rw [hW] at hod hsrc hszW
                        have HW := Lib.hid hW
                        clear hW hbw
                        go_upto_region 10 with fail
                        go_region_law (first
                          | (refine step_append_src rfl _ _ 23 23 rfl B 39 j0 _ 2 40 Tryd.underlying23 hj hy0 hy1 hy2 rfl _ _ _ rfl hod _ 1 [.string b, .slice none 0 0] rfl hsrc (by unfold maxLen; omega) (by omega) hszW ?_
                             intro v6 w6 o6 g6 b6 m6
                             obtain ⟨a6, c6, hv6, _, _⟩ := (ownsRow.reads o6).le
                             subst hv6
                             rw [← HW.out] at g6 m6 b6
                             have hsb6 := (g6.block sb (Nat.lt_of_lt_of_le hsl HBw.out.size) (fun e => by have := (HTw.out.own.lt sb e.symm).1; omega)).trans ((HBw.out.block sb hsl).trans HSb5.out)
                             have z0 := Lib.cell_of_heap hsb6 0
                             have zf := Lib.frozen_of_heap hsb6
                             simp at z0
                             have hlt6 : sb < w6.heap.size := (Array.getElem?_eq_some_iff.1 hsb6).1))
                        all_goals
                          have HT7 := Lib.hid ((HTw.out.push b (by rw [HQ.out]; exact o6) g6 m6).setLow hsB 0 (.slice a6 (q + 1) c6))
                          have HS7 := Lib.hid (show (w6.setCell ⟨sb, 0, none⟩ (.slice a6 (q + 1) c6)).heap[sb]? = some (.cells #[.slice a6 (q + 1) c6] 25 (0, 0)) by rw [heap_setCell_same _ sb 0 _ _ _ hsb6]; rfl)
                          have HK7 := Lib.hid (HK5.out.trans (KeptB.trans (KeptB.of_below (sb := sb) (HBw.out.mono hBw5)) (KeptB.set b6 sb 0 (.slice a6 (q + 1) c6))))
                          have hcn : cntS (S ++ [⟨b, []⟩]) ≤ i + 1 := by
                            rw [cntS_append]
                            have : cntS [(⟨b, []⟩ : Ty)] = 1 := rfl
                            omega
                          have HSm := Lib.hid (show (es ++ [(⟨b, [], none, 0⟩ : TyE)]).map TyE.ty = S ++ [⟨b, []⟩] by rw [List.map_append, HS.out]; rfl)
                          clear o6 g6 m6 b6 hsb6 z0 zf hlt6 HTw HBw HW hod hsrc hszW HTy HSb5 s0 sf hsl ka kb e0 fz
                          go_wp2
                          exact ⟨⟨i + 1, S ++ [⟨b, []⟩], by go_num, by omega, HRn.out, ⟨_, _, _, HS7.out, hsB, HT7.out, HSm.out⟩, hcn, HK7.out⟩, by simp [intOf]; omega⟩
                  · have hae : (a.toList == [116, 121, 112, 101]) = false := by rw [HEa.out]; exact decide_eq_false (show ¬ a = tk [116, 121, 112, 101] from hat)
                    rw [if_neg (fun e => hat e.1)] at HRn
                    dsimp only at HRn
                    clear hat
                    by_cases hq0 : q = 0
                    · have hqn : ((q : Int) == 0) = true := by simp [hq0]
                      clear hq0
                      go_wp2
                      rw [HR.out, HRn.out]
                      refine bodyPost_ret (ret_sch Tryd.results9 rfl (sch_stored HN5.out _)) rfl ⟨.slice none 0 0, ?_, SchAt.nil _ _, kp_below HB4.out HK5.out hwB hwsb hwN _⟩
                      simp [parseR]
                    · have hqn : ((q : Int) == 0) = false := by simp; omega
                      go_wp2
                      rw [HR.out, HRn.out]
                      refine bodyPost_ret (ret_sch Tryd.results9 rfl (sch_stored HN5.out _)) rfl ⟨.slice none 0 0, ?_, SchAt.nil _ _, kp_below HB4.out HK5.out hwB hwsb hwN _⟩
                      simp [parseR]
                | cons c T3 =>
                  rw [rl_long HAll.out] at HRn
                  have HTn := Lib.hid (show tn = T3.length + 1 + 1 + 1 from HSeg.out.len)
                  have ht3 : 3 ≤ tn := by rw [HTn.out]; omega
                  have ht3I : ¬ (tn : Int) < 3 := by omega
                  have ht2n : ((tn : Int) == 2) = false := by simp; omega
                  have ht0 : (0 : Int) < tn := by omega
                  have ht1 : (1 : Int) < tn := by omega
                  by_cases hq0 : q = 0
                  · subst hq0
                    rw [if_neg (fun e => e.1 (by rw [← HS.out, List.eq_nil_of_length_eq_zero HQ.out]; rfl))] at HRn
                    dsimp only at HRn
                    go_wp2
                    rw [HR.out, HRn.out]
                    refine bodyPost_ret (ret_sch Tryd.results9 rfl (sch_stored HN5.out _)) rfl ⟨.slice none 0 0, ?_, SchAt.nil _ _, kp_below HB4.out HK5.out hwB hwsb hwN _⟩
                    simp [parseR]
                  · have hqn : ((q : Int) == 0) = false := by simp; omega
                    have HNm := Lib.hid (refname_any w5 a hwab.1)
                    cases hna : nameB a with
                    | false =>
                      rw [if_neg (fun e => by rw [rel_not (.inl hna)] at e; cases e.2.1)] at HRn
                      rw [hna] at HNm
                      dsimp only at HRn
                      clear hna
                      go_wp2_with (go_at_call 21; go_must (refine HNm.out.mono ?_))
                      rintro e w6 ⟨rfl, rfl⟩
                      clear HNm
                      go_wp2
                      rw [HR.out, HRn.out]
                      refine bodyPost_ret (ret_sch Tryd.results9 rfl (sch_stored HN5.out _)) rfl ⟨.slice none 0 0, ?_, SchAt.nil _ _, kp_below HB4.out HK5.out hwB hwsb hwN _⟩
                      simp [parseR]
                    | true =>
                      rw [hna] at HNm
                      go_wp2_with (go_at_call 21; go_must (refine HNm.out.mono ?_))
                      rintro e w6 ⟨rfl, rfl⟩
                      clear HNm
                      by_cases hath : a = cThis
                      · have hte : (a.toList == [116, 104, 105, 115]) = true := by rw [HEa.out]; exact decide_eq_true (show a = tk [116, 104, 105, 115] from hath)
                        rw [if_neg (fun e => by rw [rel_not (.inr (.inl hath))] at e; cases e.2.1)] at HRn
                        dsimp only at HRn
                        clear hath hna
                        go_wp2
                        rw [HR.out, HRn.out]
                        refine bodyPost_ret (ret_sch Tryd.results9 rfl (sch_stored HN5.out _)) rfl ⟨.slice none 0 0, ?_, SchAt.nil _ _, kp_below HB4.out HK5.out hwB hwsb hwN _⟩
                        simp [parseR]
                      · have hte : (a.toList == [116, 104, 105, 115]) = false := by rw [HEa.out]; exact decide_eq_false (show ¬ a = tk [116, 104, 105, 115] from hath)
                        by_cases hat : a = cType
                        · have hae : (a.toList == [116, 121, 112, 101]) = true := by rw [HEa.out]; exact decide_eq_true (show a = tk [116, 121, 112, 101] from hat)
                          rw [if_neg (fun e => by rw [rel_not (.inr (.inr hat))] at e; cases e.2.1)] at HRn
                          dsimp only at HRn
                          clear hat hath hna
                          go_wp2
                          rw [HR.out, HRn.out]
                          refine bodyPost_ret (ret_sch Tryd.results9 rfl (sch_stored HN5.out _)) rfl ⟨.slice none 0 0, ?_, SchAt.nil _ _, kp_below HB4.out HK5.out hwB hwsb hwN _⟩
                          simp [parseR]
                        · have hae : (a.toList == [116, 121, 112, 101]) = false := by rw [HEa.out]; exact decide_eq_false (show ¬ a = tk [116, 121, 112, 101] from hat)
                          by_cases hbe : b = cEq
                          · have hbq : (b.toList == [61]) = true := by rw [HEb.out]; exact decide_eq_true (show b = tk [61] from hbe)
                            have hbn : (b.toList != [61]) = false := by rw [bne, hbq]; rfl
                            rw [if_pos ⟨fun e => hq0 (by rw [← HQ.out]; have h := HS.out; rw [e] at h; rw [List.map_eq_nil_iff.1 h]; rfl), relB_of hna hath hat, hbe⟩] at HRn
                            clear hbe hat hath hna
                            have hne2 : tc ≠ 2 := by omega
                            have htm := HSeg.out.cap
                            unfold maxLen at htm
                            have hcut := HSeg.out.cut 2 (by omega) (toff + 2) (fun _ => rfl)
                            have HC := Lib.hid (refrule_all w5 w5.heap.size _ _ _ (c :: T3) (Nat.le_refl _) hcut (by have h := HWt.out; rw [wtT_cons, wtT_cons] at h; omega))
                            have ht2I : (2 : Int) ≤ tn := by omega
                            clear hcut
                            go_wp2_with (go_at_call 22; go_must (refine HC.out.mono ?_))
                            rintro e w6 ⟨x2, ra, rm, rc, ok, rfl, hb6, hrc1, hrc2, hres⟩
                            obtain ⟨w7, hw7⟩ : ∃ W, W = w6.alloc (.cells #[.int .i64 x2.h.kind, .string x2.h.a, .string x2.h.b, .slice x2.a x2.ps.length x2.cap] 42) := ⟨_, rfl⟩
                            have hb67 : Below w6.heap.size w6 w7 := by rw [hw7]; exact (Below.refl _ _).alloc (Nat.le_refl _) _
                            have hx7 : w7.heap[w6.heap.size]? = some (.cells #[.int .i64 x2.h.kind, .string x2.h.a, .string x2.h.b, .slice x2.a x2.ps.length x2.cap] 42 (0, 0)) := by rw [hw7]; exact heap_alloc_new w6 _
                            have hb57 : Below w5.heap.size w5 w7 := hb6.trans (hb67.mono hb6.size)
                            have HB57 := Lib.hid hb57
                            have HN7 := Lib.hid ((hb57.block N hN5l).trans HN5.out)
                            have HK7 := Lib.hid (HK5.out.trans (KeptB.of_below (hb57.mono hBw5)))
                            have HX7 := Lib.hid hx7
                            have hN7l : N < w7.heap.size := Nat.lt_of_lt_of_le hN5l hb57.size
                            have hsl7 : sb < w7.heap.size := Nat.lt_of_lt_of_le hsl hb57.size
                            have HRes := Lib.hid (show (ok = false ∧ ruleG 8 (c :: T3) = none) ∨ (ok = true ∧ ∃ U, ruleG 8 (c :: T3) = some (x2.tree, U) ∧ ruEAt (fun b => w5.heap.size ≤ b) w7 x2 ∧ rm = U.length) from by
                              rcases hres with h | ⟨h1, U, h2, h3, h4⟩
                              · exact .inl h
                              · exact .inr ⟨h1, U, h2, ruE_keep.keep _ _ _ _ (Keeps.of_below_size hb67) h3, h4.len⟩)
                            have HW7 := Lib.hid hw7
                            have ka7 := (hb57.cell (p := ⟨tb, toff, none⟩) htl).trans ka
                            have htl7 : tb < w7.heap.size := Nat.lt_of_lt_of_le htl hb57.size
                            have HSb7 := Lib.hid ((hb57.block sb hsl).trans HSb5.out)
                            clear htm hres hw7 hb67 hx7 hb57 hb6 HC e0 fz s0 sf ka kb
                            go_upto_region 14 with fail
                            rw [← HW7.out]
                            clear HW7
                            have e0 := Lib.cell_of_heap HN7.out 0
                            have fz := Lib.frozen_of_heap HN7.out
                            have s0 := Lib.cell_of_heap HSb7.out 0
                            simp at e0 s0
                            cases ok with
                            | false =>
                              have hno : ruleG 8 (c :: T3) = none := by
                                rcases HRes.out with h | h
                                · exact h.2
                                · cases h.1
                              rw [hno] at HRn
                              dsimp only at HRn
                              clear hno HRes
                              go_wp2
                              rw [HR.out, HRn.out]
                              refine bodyPost_ret (ret_sch Tryd.results9 rfl (sch_stored HN7.out _)) rfl ⟨.slice none 0 0, ?_, SchAt.nil _ _, kp_below HB4.out HK7.out hwB hwsb hwN _⟩
                              simp [parseR]
                            | true =>
                              obtain ⟨U, hgU, hat, hrm⟩ : ∃ U, ruleG 8 (c :: T3) = some (x2.tree, U) ∧ ruEAt (fun b => w5.heap.size ≤ b) w7 x2 ∧ rm = U.length := by
                                rcases HRes.out with h | h
                                · cases h.1
                                · exact h.2
                              have HAt := Lib.hid hat
                              rw [hgU] at HRn
                              dsimp only at HRn
                              clear hat hgU HRes
                              cases U with
                              | cons u U' =>
                                have hrm1 : (0 : Int) < rm := by rw [hrm]; simp
                                rw [if_neg (by simp)] at HRn
                                dsimp only at HRn
                                clear hrm
                                go_wp2
                                rw [HR.out, HRn.out]
                                refine bodyPost_ret (ret_sch Tryd.results9 rfl (sch_stored HN7.out _)) rfl ⟨.slice none 0 0, ?_, SchAt.nil _ _, kp_below HB4.out HK7.out hwB hwsb hwN _⟩
                                simp [parseR]
                              | nil =>
                                have hrm0 : rm = 0 := hrm
                                subst hrm0
                                rw [if_pos rfl] at HRn
                                dsimp only at HRn
                                clear hrm
                                rcases List.eq_nil_or_concat es with hes | ⟨es0, et, hes⟩
                                · exact absurd (by rw [← HQ.out, hes]; rfl) hq0
                                · rw [List.concat_eq_append] at hes
                                  obtain ⟨en, er, ea, ec⟩ := et
                                  obtain ⟨m, hm⟩ : ∃ m, es0.length = m := ⟨_, rfl⟩
                                  have hem : q = m + 1 := by rw [← HQ.out, hes, ← hm]; simp
                                  have hTb : ∃ yb, tya = some ⟨yb, 0, none⟩ := by
                                    have h1 := HTy.out.own.2
                                    rcases h1 with ⟨h0, h2⟩ | ⟨g, cap, cur, h0, _⟩
                                    · rw [HQ.out] at h2; omega
                                    · cases h0
                                      exact ⟨g, rfl⟩
                                  obtain ⟨yb, rfl⟩ := hTb
                                  have hT5 := HTy.out
                                  have hyl5 : yb < w5.heap.size := (hT5.own.lt yb rfl).2
                                  have hyB : B ≤ yb := (hT5.own.lt yb rfl).1
                                  have hT7 := hT5.keep HB57.out
                                  have hyl7 : yb < w7.heap.size := Nat.lt_of_lt_of_le hyl5 HB57.out.size
                                  have hrows : ∀ (j : Nat) (u : Value), (TyE.cells ⟨en, er, ea, ec⟩)[j]? = some u → w7.cell? ⟨yb, 0 + m * 2 + j, none⟩ = some u := by
                                    have ho := ownsRow.reads hT7.own
                                    rw [HQ.out] at ho
                                    obtain ⟨b, off, hv, hb, hcs⟩ := rows_at TyE.cells 2 (fun _ => rfl) ho (i := m) (x := ⟨en, er, ea, ec⟩) (by rw [hes, ← hm]; simp) (by decide)
                                    cases hv
                                    exact hcs
                                  have hk1 := hrows 1 _ rfl
                                  rw [Nat.zero_add] at hk1
                                  rw [hem, hes] at hT7
                                  rw [hes] at hT5
                                  have hsame := hT7.same
                                  rw [lastR_snoc] at hsame
                                  have hrl : er.length = rs.length := by have := congrArg List.length hsame; rw [List.length_map] at this; exact this.symm
                                  have hlast5 := hT5.last
                                  rw [lastV_snoc] at hlast5
                                  have hrsl : rs.length ≤ 100000 := by
                                    have h1 := HS.out
                                    rw [hes, List.map_append] at h1
                                    have hc2 := hcnt
                                    rw [← h1, cntS_append] at hc2
                                    have h2 : cntS ([(⟨en, er, ea, ec⟩ : TyE)].map TyE.ty) = er.length + 1 := by simp [cntS, TyE.ty]
                                    rw [h2] at hc2
                                    omega
                                  have hvb : (TyE.v ⟨en, er, ea, ec⟩).ownBlock = (Value.slice ea rs.length ec).ownBlock := by cases ea <;> rfl
                                  have hrv : ∀ c, (TyE.v ⟨en, er, ea, ec⟩).ownBlock = some c → c < w5.heap.size := fun c hc => (hlast5.lt c hc).2
                                  unfold TyE.v at hk1
                                  dsimp only at hk1
                                  rw [hrl] at hk1
                                  obtain ⟨W, hW⟩ : ∃ W, W = (w7.alloc (.cells #[.string a, .int .i64 x2.h.kind, .string x2.h.a, .string x2.h.b, .slice x2.a x2.ps.length x2.cap] 44)).drew := ⟨_, rfl⟩
                                  have hbw : Below w7.heap.size w7 W := by rw [hW]; exact ((Below.refl _ _).alloc (Nat.le_refl _) _).drew
                                  have hTW := hT7.keep hbw
                                  have hod := hTW.last
                                  rw [lastV_snoc] at hod
                                  have hap : (Value.slice ea rs.length ec).ownBlock ≠ some yb := fun e => by
                                    have h1 := own_apart hod hTW.own (by decide) yb (hvb.trans e)
                                    exact h1 rfl
                                  unfold TyE.v at hod
                                  dsimp only at hod
                                  rw [hrl] at hod
                                  have hsrc : Src Tryd.prog 5 37 (.slice (some ⟨w7.heap.size, 0, none⟩) 1 1) 1 (RlE.cells ⟨a, x2⟩) W := by rw [hW]; exact rel_srcD w7 a x2
                                  have hszW : B ≤ W.heap.size := Nat.le_trans (Nat.le_trans hBw5 HB57.out.size) hbw.size
                                  have hyW : yb < W.heap.size := Nat.lt_of_lt_of_le hyl7 hbw.size
                                  have hkW := (hbw.cell (p := ⟨yb, m * 2 + 1, none⟩) hyl7).trans hk1
                                  have HBw := Lib.hid hbw
                                  have HTW := Lib.hid hTW
                                  have HAp := Lib.hid hap
                                  have HYW := Lib.hid hyW
                                  have HKW := Lib.hid hkW
                                  rw [hW] at hod hsrc hszW
                                  have HW := Lib.hid hW
                                  have HRl := Lib.hid hrl
                                  have HEs := Lib.hid hes
                                  have HM := Lib.hid hm
                                  have HHem := Lib.hid hem
                                  have HVb := Lib.hid hvb
                                  have HRv := Lib.hid hrv
                                  have HRs := Lib.hid hrsl
                                  have y0 := Lib.cell_of_heap HX7.out 0; have y1 := Lib.cell_of_heap HX7.out 1; have y2 := Lib.cell_of_heap HX7.out 2; have y3 := Lib.cell_of_heap HX7.out 3
                                  simp at y0 y1 y2 y3
                                  have hx7l : w6.heap.size < w7.heap.size := (Array.getElem?_eq_some_iff.1 HX7.out).1
                                  have hm0 : (0 : Int) ≤ m := Int.natCast_nonneg m
                                  have hmb : m ≤ 100000 := by omega
                                  have hw1 := small_w64 hmb
                                  have hw2 := small_wr hmb
                                  have hmI' : (m : Int) < (m : Int) + 1 := Int.lt_succ _
                                  rw [hem] at s0
                                  clear hes hm hem hT5 hT7 hrows hsame hlast5 hrl hrv hvb hrsl hW hbw hTW hap hyW hkW hqn hq0 hq1
                                  go_upto_region 17 with fail
                                  go_region_law (first
                                    | (refine step_append_src rfl _ _ 37 37 rfl B 44 i0 _ 5 80 Tryd.underlying37 hi hz0 hz1 hz2 rfl _ _ _ rfl hod _ 1 (RlE.cells ⟨a, x2⟩) rfl hsrc (add_fits HRs.out).1 (add_fits HRs.out).2 hszW ?_
                                       intro v6 w8 o8 g8 b8 m8
                                       obtain ⟨a6, c6, hv6, _, _⟩ := (ownsRow.reads o8).le
                                       subst hv6
                                       rw [← HW.out] at g8 m8 b8
                                       have hk8 : w8.cell? ⟨yb, m * 2 + 1, none⟩ = some (.slice ea rs.length ec) := (World.cell?_of_block (a := ⟨yb, m * 2 + 1, none⟩) (g8.block yb HYW.out (fun e => HAp.out e.symm))).trans HKW.out
                                       have hf8 := HTW.out.frozen7 HAp.out g8
                                       have hyl8 : yb < w8.heap.size := Nat.lt_of_lt_of_le HYW.out g8.size))
                                  all_goals
                                    have hatW : ruEAt (fun b => w5.heap.size ≤ b) W x2 := ruE_keep.keep _ _ _ _ (Keeps.of_below_size HBw.out) HAt.out
                                    have hAdd := TysAt.addRel HTW.out (fun _ _ => trivial) (Nat.le_trans HB57.out.size HBw.out.size) a hatW hBw5 hyl5 HRv.out o8 (show World.grownBy W w8 (TyE.v ⟨en, er, ea, ec⟩).ownBlock by rw [HVb.out]; exact g8) (fun b hb hne => m8 b hb (fun e => hne (HVb.out.trans e)))
                                    rw [HM.out] at hAdd
                                    have hs8 : (w8.setCell ⟨yb, m * 2 + 1, none⟩ (.slice a6 (rs.length + 1) c6)).heap[sb]? = some (.cells #[.slice (some ⟨yb, 0, none⟩) (m + 1) tycap] 25 (0, 0)) := by
                                      refine (Below.heap_setCell _ _ _ _ (fun e => by have e : sb = yb := e; omega)).trans ((b8.block sb hsB).trans ((HBw.out.block sb hsl7).trans ?_))
                                      rw [← HHem.out]
                                      exact HSb7.out
                                    have hK8 : KeptB B sb w4 (w8.setCell ⟨yb, m * 2 + 1, none⟩ (.slice a6 (rs.length + 1) c6)) := ((HK7.out.trans (KeptB.of_below (HBw.out.mono (Nat.le_trans hBw5 HB57.out.size)))).trans (KeptB.of_below b8)).trans (KeptB.setHi hyB _ _)
                                    have HAdd := Lib.hid hAdd
                                    have HS8 := Lib.hid hs8
                                    have HK8 := Lib.hid hK8
                                    have hSa : (es0 ++ [(⟨en, er ++ [⟨a, x2.tree⟩], a6, c6⟩ : TyE)]).map TyE.ty = addRl S ⟨a, x2.tree⟩ := by
                                      rw [← HS.out, HEs.out, List.map_append, List.map_append]
                                      exact (addRl_snoc (es0.map TyE.ty) ⟨en, er⟩ ⟨a, x2.tree⟩).symm
                                    have HSa := Lib.hid hSa
                                    have hcn : cntS (addRl S ⟨a, x2.tree⟩) ≤ i + 1 := by
                                      have h1 : S = es0.map TyE.ty ++ [⟨en, er⟩] := by rw [← HS.out, HEs.out, List.map_append]; rfl
                                      rw [h1] at hcnt ⊢
                                      rw [cnt_addRl]
                                      omega
                                    clear hatW hAdd hs8 hK8 hSa hk8 hf8 hyl8 o8 g8 b8 m8 hod hsrc hszW HTW HBw HAp HYW HKW HW e0 fz s0 y0 y1 y2 y3 ka7 hk1 HX7 HSb7 hw1 hw2
                                    go_wp2
                                    exact ⟨⟨i + 1, addRl S ⟨a, x2.tree⟩, by go_num, by omega, HRn.out, ⟨_, _, _, HS8.out, hsB, HAdd.out, HSa.out⟩, hcn, HK8.out⟩, by simp [intOf]; omega⟩
                          · have hbq : (b.toList == [61]) = false := by rw [HEb.out]; exact decide_eq_false (show ¬ b = tk [61] from hbe)
                            have hbn : (b.toList != [61]) = true := by rw [bne, hbq]; rfl
                            rw [if_neg (fun e => hbe e.2.2)] at HRn
                            dsimp only at HRn
                            clear hbe hat hath hna
                            go_wp2
                            rw [HR.out, HRn.out]
                            refine bodyPost_ret (ret_sch Tryd.results9 rfl (sch_stored HN5.out _)) rfl ⟨.slice none 0 0, ?_, SchAt.nil _ _, kp_below HB4.out HK5.out hwB hwsb hwN _⟩
                            simp [parseR]
      · obtain rfl : i = n := by omega
        have hltI : ¬ (i : Int) < i := by omega
        have hrs := HRs.out
        rw [List.drop_of_length_le (by rw [HNn.out]; exact Nat.le_refl _)] at hrs
        have HRn := Lib.hid (show res = (some S, 0) from hrs)
        obtain ⟨tv, es, rs, hsb, _, hT, hS⟩ := HSat.out
        obtain ⟨ta, tcap, rfl, _, _⟩ := (ownsRow.reads hT.own).le
        have HSch := Lib.hid hT.sch
        rw [hS] at HSch
        have x0 := Lib.cell_of_heap hsb 0
        have e0 := Lib.cell_of_heap HNr.out 0
        have fz := Lib.frozen_of_heap HNr.out
        have hsl : sb < wr.heap.size := by omega
        simp at e0 x0
        clear hrs hT hS hsb HSat HRs hlr
        go_wp2
        rw [HR.out]
        refine bodyPost_ret (ret_sch Tryd.results9 rfl (sch_stored HNr.out _)) rfl ⟨.slice ta es.length tcap, ?_, ?_, ?_⟩
        · rw [HRn.out]
          rfl
        · rw [HRn.out]
          exact (HSch.out.keep ⟨by simp [World.setCell], fun b hb _ => Below.heap_setCell _ _ _ _ (fun e => by have e : b = N := e; omega)⟩).mono (fun b _ hb => by have hb : B ≤ b := hb; show w.heap.size ≤ b; omega)
        · exact kp_below HB4.out HK.out hwB hwsb hwN _
end Go.Proofs.YtopnldebekhelaaDoor
