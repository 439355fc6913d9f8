/- Parse. -/
import Derived.Test.YtopnldebekhelaaDoorZSchLines
namespace Go.Proofs.YtopnldebekhelaaDoor
open Go Go.RowKit

def ParsePost (w : World) (r : List Ty × Nat × Nat) (e : Ending) (w' : World) : Prop :=
  ∃ tv, e = .returned (.tuple #[.agg #[tv], .int .i64 (r.2.1 : Int), .int .i64 (r.2.2 : Int)]) ∧ SchAt (fun b => w.heap.size ≤ b) w' tv r.1 ∧ Below w.heap.size w w'

theorem sch_stored {w : World} {g : Nat} {a : Value} (h : w.heap[g]? = some (.cells #[a] 25 (0, 0))) (v0 : Value) :
    (w.setCell ⟨g, 0, none⟩ v0).heap[g]? = some (.cells #[v0] 25 (0, 0)) := by
  rw [heap_setCell_same _ _ 0 _ _ _ h]
  rfl

theorem ret_sch {w' : World} {g : Nat} {a : Option Addr} {n c : Nat} {fn : Func} {p q r : Tmp} {tmps : Array Value} (hf : fn.results = #[.cell p 25, .tmp q, .tmp r]) (hp : tmps.getD p undef = .pointer (some ⟨g, 0, none⟩))
    (ht : w'.heap[g]? = some (.cells #[.slice a n c] 25 (0, 0))) :
    (results fn tmps).run Tryd.prog w' = .ok (.tuple #[.agg #[.slice a n c], tmps.getD q undef, tmps.getD r undef]) w' := by
  have hp' : tmps[p]?.getD undef = .pointer (some ⟨g, 0, none⟩) := by simpa using hp
  have hl := run_loadVar_row (P := Tryd.prog) w' g _ 25 _ _ _ ht Tryd.underlying25 rfl (by kernel_rfl)
  simp [results, hf, hp', asAddr, hl]

def Is2 (v : Value) (W : World) (e : Ending) (w' : World) : Prop := e = .returned v ∧ w' = W

theorem SAt.keep {w w' : World} {B sb : Nat} {S : List Ty} (h : SAt w B sb S) (hb : Below w.heap.size w w') : SAt w' B sb S := by
  obtain ⟨tv, es, rs, h1, h2, h3, h4⟩ := h
  exact ⟨tv, es, rs, (hb.block sb (Array.getElem?_eq_some_iff.1 h1).1).trans h1, h2, h3.keep hb, h4⟩

def PsRel (w4 : World) (B sb n : Nat) (ls : List ByteArray) (res : Option (List Ty) × Nat) (iv : Value) (wr : World) : Prop :=
  ∃ (i : Nat) (S : List Ty), iv = .int .i64 (i : Int) ∧ i ≤ n ∧ res = parseL i S ((ls.drop i).map (·.data.toList)) ∧ SAt wr B sb S ∧ cntS S ≤ i ∧ KeptB B sb w4 wr

theorem says_two {w : World} {N B sb : Nat} (hN : N < B) (hsb : N ≠ sb) {wr : World} {o : Obj} (h : KeptB B sb w wr) (hg : w.heap[N]? = some o) : wr.heap[N]? = some o := (h.block N hN hsb).trans hg

theorem ps_wrap {i n : Nat} (hn : n ≤ 65537) (h : i ≤ n) : wrap64 ((i : Int) + 1) = ((i + 1 : Nat) : Int) := by unfold wrap64; omega
theorem ps_below {w w4 wr : World} (h : Below w.heap.size w w4) (hk : KeptB (w.heap.size + 3) (w.heap.size + 1) w4 wr) (_ : True ∨ w.heap.size ≤ w4.heap.size) (v : Value) : Below w.heap.size w (wr.setCell ⟨w.heap.size, 0, none⟩ v) :=
  ⟨hk.os.trans h.os, hk.tape.trans h.tape, hk.output.trans h.output, Nat.le_trans (Nat.le_trans h.size hk.size) (by simp [World.setCell]), fun k hk' => (Below.heap_setCell _ _ _ _ (fun e => by have e : k = w.heap.size := e; omega)).trans ((hk.block k (by omega) (by omega)).trans (h.block k hk'))⟩
theorem trimB_le (l : List UInt8) : (trimB l).length ≤ l.length := by
  unfold trimB Lib.trimS
  refine Nat.le_trans (List.dropWhile_sublist _).length_le ?_
  unfold Lib.trimRightS
  rw [List.length_reverse]
  refine Nat.le_trans (List.dropWhile_sublist _).length_le ?_
  rw [List.length_reverse]
  exact Nat.le_refl _

set_option maxRecDepth 100000 in
set_option maxHeartbeats 4000000 in
theorem parse_any (w : World) (text : ByteArray) (hm : MaxInt w) (h0 : 0 < w.heap.size) (hs : text.size ≤ 1000000000) :
    Calls Tryd.prog 8 #[.string text] w (ParsePost w (parseS text)) := by
  by_cases hl : text.size > 65536
  · have hr : parseS text = ([], 0, 10) := by unfold parseS; rw [if_pos hl]
    rw [hr]
    have hlI : (65536 : Int) < text.size := by omega
    obtain ⟨w1, hw1⟩ : ∃ W, W = w.alloc (.cells #[.slice none 0 0] 25) := ⟨_, rfl⟩
    have hb1 : Below w.heap.size w w1 := by rw [hw1]; exact (Below.refl _ _).alloc (Nat.le_refl _) _
    have hn1 : w1.heap[w.heap.size]? = some (.cells #[.slice none 0 0] 25 (0, 0)) := by rw [hw1]; exact heap_alloc_new w _
    have HW1 := Lib.hid hw1
    have HB1 := Lib.hid hb1
    have HN1 := Lib.hid hn1
    clear hw1 hb1 hn1 hr
    go_enter Tryd.func8, Tryd.ntmps8
    go_upto_region 1 with fail
    rw [← HW1.out]
    clear HW1
    have e0 := Lib.cell_of_heap HN1.out 0
    have fz := Lib.frozen_of_heap HN1.out
    simp at e0
    go_wp2
    refine bodyPost_ret (ret_sch Tryd.results8 rfl (sch_stored HN1.out _)) rfl ⟨.slice none 0 0, rfl, SchAt.nil _ _, ?_⟩
    exact HB1.out.setCell (p := ⟨w.heap.size, 0, none⟩) (by simp) _
  · obtain ⟨res, hres⟩ : ∃ res, parseL 0 [] ((linesB text).map (·.data.toList)) = res := ⟨_, rfl⟩
    have hr : parseS text = parseR res := by
      unfold parseS
      rw [if_neg hl, ← linesB_data, hres]
    have hlI : ¬ (65536 : Int) < text.size := by omega
    obtain ⟨n, hn⟩ : ∃ n, (linesB text).length = n := ⟨_, rfl⟩
    have hnl : n ≤ 65537 := by
      have := linesB_le text
      omega
    obtain ⟨ls, hls⟩ : ∃ ls, linesB text = ls := ⟨_, rfl⟩
    have hlsz : ∀ l ∈ ls, l.size ≤ 65536 := fun l hlm => by
      have h1 := linesL_le text.data.toList l.data.toList (by rw [← linesB_data, hls]; exact List.mem_map.2 ⟨l, hlm, rfl⟩)
      have h2 : text.data.toList.length = text.size := Array.length_toList
      have h3 : l.data.toList.length = l.size := Array.length_toList
      omega
    rw [hr]
    obtain ⟨w1, hw1⟩ : ∃ W, W = w.alloc (.cells #[.slice none 0 0] 25) := ⟨_, rfl⟩
    obtain ⟨w2, hw2⟩ : ∃ W, W = w1.alloc (.cells #[.slice none 0 0] 25) := ⟨_, rfl⟩
    have hb1 : Below w.heap.size w w1 := by rw [hw1]; exact (Below.refl _ _).alloc (Nat.le_refl _) _
    have s1 : w1.heap.size = w.heap.size + 1 := by rw [hw1]; simp
    have hb2 : Below w1.heap.size w1 w2 := by rw [hw2]; exact (Below.refl _ _).alloc (Nat.le_refl _) _
    have s2 : w2.heap.size = w.heap.size + 2 := by rw [hw2]; simp [s1]
    have hn1 : w1.heap[w.heap.size]? = some (.cells #[.slice none 0 0] 25 (0, 0)) := by rw [hw1]; exact heap_alloc_new w _
    have hn2 : w2.heap[w.heap.size]? = some (.cells #[.slice none 0 0] 25 (0, 0)) := (hb2.block _ (by omega)).trans hn1
    have hx2 : w2.heap[w.heap.size + 1]? = some (.cells #[.slice none 0 0] 25 (0, 0)) := by rw [hw2, ← s1]; exact heap_alloc_new w1 _
    have hm2 : MaxInt w2 := by
      obtain ⟨m, hm⟩ := hm
      exact ⟨m, (World.cell?_of_block (a := ⟨0, 0, none⟩) (((hb1.trans (hb2.mono (by omega))).block 0 h0))).trans hm⟩
    have hSp := split_any w2 text hm2 (by omega)
    rw [hls] at hn hSp hres
    rw [hn] at hSp
    obtain ⟨w3, hw3⟩ : ∃ W, W = w2.alloc (.cells (ls.map Value.string).toArray 9) := ⟨_, rfl⟩
    rw [← hw3] at hSp
    have hb3 : Below w2.heap.size w2 w3 := by rw [hw3]; exact (Below.refl _ _).alloc (Nat.le_refl _) _
    have s3 : w3.heap.size = w.heap.size + 3 := by rw [hw3]; simp [s2]
    have hl3 : w3.heap[w.heap.size + 2]? = some (.cells (ls.map Value.string).toArray 9 (0, 0)) := by rw [hw3, ← s2]; exact heap_alloc_new w2 _
    have hn3 := (hb3.block (w.heap.size) (by omega)).trans hn2
    have hx3 := (hb3.block (w.heap.size + 1) (by omega)).trans hx2
    have HSp := Lib.hid (show Calls Tryd.prog 14 #[.string text, .string ⟨#[10]⟩] w2 (Is2 (.slice (some ⟨w.heap.size + 2, 0, none⟩) n n) w3) from by rw [← s2]; exact hSp)
    have HB3 := Lib.hid ((hb1.trans (hb2.mono (by omega))).trans (hb3.mono (by omega)))
    have HL3 := Lib.hid hl3
    have HN3 := Lib.hid hn3
    have HX3 := Lib.hid hx3
    have HW1 := Lib.hid hw1
    have HW2 := Lib.hid hw2
    have HRes := Lib.hid hres
    have HLs := Lib.hid hlsz
    have HLn := Lib.hid hn
    have HS1 := Lib.hid s1
    clear hw1 hw2 hw3 hb1 hb2 hb3 hn1 hn2 hx2 hm2 hSp hl3 hn3 hx3 hres hls hlsz hn hr hm s2
    go_enter Tryd.func8, Tryd.ntmps8
    go_upto_region 1 with fail
    rw [← HW1.out]
    clear HW1
    go_upto_region 4 with fail
    rw [← HW2.out]
    clear HW2
    go_wp2_with (go_at_call 14; go_must (refine HSp.out.mono ?_))
    rintro e w4 ⟨rfl, rfl⟩
    clear HSp
    go_wp2
    go_loopw [15] (fun iv wr => PsRel w4 (w.heap.size + 3) (w.heap.size + 1) n ls res iv wr) (fun iv _ => n - (intOf iv).toNat)
    case atStart => exact ⟨0, [], rfl, Nat.zero_le _, HRes.out.symm, ⟨.slice none 0 0, [], [], HX3.out, by omega, TysAt.nil _ _ _, rfl⟩, Nat.zero_le _, KeptB.refl _ _ _⟩
    case round =>
      obtain ⟨i, S, rfl, hin, hrs, hsat, hcnt, hk⟩ := hrel
      have HSat := Lib.hid hsat
      have HRs := Lib.hid hrs
      have HK := Lib.hid hk
      have HNr := Lib.hid (says_two (by omega) (by omega) hk HN3.out)
      have hBw : w.heap.size + 3 ≤ wr.heap.size := by
        have := hk.size
        omega
      clear hsat hrs hk
      by_cases hlt : i < n
      · obtain ⟨l, hli⟩ : ∃ l, ls[i]? = some l := ⟨ls[i]'(by rw [HLn.out]; exact hlt), List.getElem?_eq_getElem _⟩
        have hlr := says_two (show w.heap.size + 2 < w.heap.size + 3 by omega) (by omega) HK.out HL3.out
        have hcell : wr.cell? ⟨w.heap.size + 2, i, none⟩ = some (.string l) := by
          rw [Lib.cell_of_heap hlr i]
          simp [hli]
        have hlw : w.heap.size + 2 < wr.heap.size := by omega
        have hls := HLs.out l (List.mem_of_getElem? hli)
        have hdrop : ls.drop i = l :: ls.drop (i + 1) := (List.getElem_cons_drop (h := (List.getElem?_eq_some_iff.1 hli).1)).symm.trans (by rw [(List.getElem?_eq_some_iff.1 hli).2])
        obtain ⟨tl, htl⟩ : ∃ tl, tk (trimB l.data.toList) = tl := ⟨_, rfl⟩
        have htd : tl.data.toList = trimB l.data.toList := by rw [← htl, tk_data]
        have hrs := HRs.out
        rw [hdrop, List.map_cons, parseL, ← htd] at hrs
        have hTr := trim_any wr l (by omega)
        rw [htl] at hTr
        have htsz : tl.size ≤ 65536 := by
          have h1 := trimB_le l.data.toList
          have h2 : l.data.toList.length = l.size := Array.length_toList
          rw [← htl, tk_size]
          omega
        have HTr := Lib.hid hTr
        have HRn := Lib.hid hrs
        have hem := stremp tl
        have hltI : (i : Int) < n := by omega
        clear hlr hdrop htl htd hrs hTr hli HRs
        go_wp2_with (go_at_call 15; go_must (refine HTr.out.mono ?_))
        rintro e w5 ⟨rfl, hb5⟩
        have HSat5 := Lib.hid (HSat.out.keep hb5)
        have HK5 := Lib.hid (HK.out.trans (KeptB.of_below (hb5.mono hBw)))
        have HN5 := Lib.hid ((hb5.block _ (by omega)).trans HNr.out)
        have hBw5 : w.heap.size + 3 ≤ w5.heap.size := Nat.le_trans hBw hb5.size
        clear HTr HSat HK hb5 HNr hcell
        by_cases he : tl = cNone
        · have hse : saysNone tl.data.toList = true := by rw [he]; rfl
          rw [if_pos hse] at HRn
          have hemt : tl.toList.isEmpty = true := by rw [hem]; exact decide_eq_true he
          clear hem hse he
          go_wp2
          exact ⟨⟨i + 1, S, by go_num, by omega, HRn.out, HSat5.out, by omega, HK5.out⟩, by simp [intOf]; omega⟩
        · have hemt : tl.toList.isEmpty = false := by rw [hem]; exact decide_eq_false he
          have hisE : tl.data.toList.isEmpty = false := by rw [← Lib.toList_data]; exact hemt
          have HPf := Lib.hid (prefix_any w5 tl ⟨#[47, 47]⟩)
          have hsn : saysNone tl.data.toList = Lib.hasPrefix tl.data.toList [47, 47] := by unfold saysNone; rw [hisE, Bool.false_or]
          rw [hsn] at HRn
          clear hem he hisE hsn
          go_wp2_with (go_at_call 16; go_must (refine HPf.out.mono ?_))
          rintro e w6 ⟨rfl, rfl⟩
          clear HPf
          cases hpf : Lib.hasPrefix tl.data.toList [47, 47] with
          | true =>
            rw [if_pos (by rw [hpf])] at HRn
            have HPf := Lib.hid (show Lib.hasPrefix tl.data.toList (⟨#[47, 47]⟩ : ByteArray).data.toList = true from hpf)
            clear hpf
            go_wp2
            exact ⟨⟨i + 1, S, by go_num, by omega, HRn.out, HSat5.out, by omega, HK5.out⟩, by simp [intOf]; omega⟩
          | false =>
            rw [if_neg (by rw [hpf]; decide)] at HRn
            have HPf := Lib.hid (show Lib.hasPrefix tl.data.toList (⟨#[47, 47]⟩ : ByteArray).data.toList = false from hpf)
            have HA := Lib.hid (add_any w5 (w.heap.size + 3) (w.heap.size + 1) tl S HSat5.out hBw5 htsz (by omega))
            clear hpf
            go_wp2_with (go_at_call 17; go_must (refine HA.out.mono ?_))
            intro e w7 hA7
            cases hlf : lineF S (toks tl.data.toList) with
            | some S' =>
              rw [hlf] at hA7 HRn
              obtain ⟨rfl, hsat7, hk7⟩ := hA7
              have hc7 := cntS_line hlf
              have HSat7 := Lib.hid hsat7
              have HK7 := Lib.hid (HK5.out.trans hk7)
              clear hsat7 hk7 hlf HA
              go_wp2
              exact ⟨⟨i + 1, S', by go_num, by omega, HRn.out, HSat7.out, by omega, HK7.out⟩, by simp [intOf]; omega⟩
            | none =>
              rw [hlf] at hA7 HRn
              obtain ⟨rfl, hk7⟩ := hA7
              have HK7 := Lib.hid (HK5.out.trans hk7)
              have HN7 := Lib.hid (says_two (by omega) (by omega) hk7 HN5.out)
              have e0 := Lib.cell_of_heap HN7.out 0
              have fz := Lib.frozen_of_heap HN7.out
              simp at e0
              have hwi : wrap64 ((i : Int) + 1) = ((i + 1 : Nat) : Int) := ps_wrap hnl hin
              clear hlf HA hk7
              go_wp2
              refine bodyPost_ret (ret_sch Tryd.results8 rfl (sch_stored HN7.out _)) rfl ⟨.slice none 0 0, ?_, ?_, ?_⟩
              · rw [HRn.out]
                simp [parseR]
                exact hwi.trans (by simp)
              · rw [HRn.out]
                exact SchAt.nil _ _
              · exact ps_below HB3.out HK7.out (.inl trivial) _
      · obtain rfl : i = n := by omega
        have hltI : ¬ (i : Int) < i := by omega
        have hrs := HRs.out
        rw [List.drop_of_length_le (by rw [HLn.out]; exact Nat.le_refl _)] at hrs
        have hrs2 : res = (some S, 0) := hrs
        have HRn := Lib.hid hrs2
        obtain ⟨tv, es, rs, hsb, hsB, hT, hS⟩ := HSat.out
        obtain ⟨ta, tcap, rfl, _, _⟩ := (ownsRow.reads hT.own).le
        have HSch := Lib.hid hT.sch
        rw [hS] at HSch
        have x0 := Lib.cell_of_heap hsb 0
        have e0 := Lib.cell_of_heap HNr.out 0
        have fz := Lib.frozen_of_heap HNr.out
        have hsl : w.heap.size + 1 < wr.heap.size := by omega
        simp at e0 x0
        clear hrs hrs2 hT hS hsb HSat HRs
        go_wp2
        refine bodyPost_ret (ret_sch Tryd.results8 rfl (sch_stored HNr.out _)) rfl ⟨.slice ta es.length tcap, ?_, ?_, ?_⟩
        · rw [HRn.out]
          rfl
        · rw [HRn.out]
          exact (HSch.out.keep ⟨by simp [World.setCell], fun b hb _ => Below.heap_setCell _ _ _ _ (fun e => by have e : b = w.heap.size := e; omega)⟩).mono (fun b _ hb => by omega)
        · exact ps_below HB3.out HK.out (.inl trivial) _
end Go.Proofs.YtopnldebekhelaaDoor
