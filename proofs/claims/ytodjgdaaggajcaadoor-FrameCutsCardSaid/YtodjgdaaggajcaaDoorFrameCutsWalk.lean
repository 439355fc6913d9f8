import Derived.Test.YtodjgdaaggajcaaDoorFrameSame
namespace Go.Proofs.YtodjgdaaggajcaaDoor
open Go Go.RowKit

theorem info3 : (Tryd.prog.info? 3).map (fun i => (i.zero, i.size, i.bytes)) = some (some (.int .i64 0), 1, 8) := by kernel_rfl

theorem rows_apart {w : World} {B1 B2 n1 n2 s1 s2 : Nat} {e1 e2 : TypeId} {v1 v2 : Value} {xs1 xs2 : List Value} (h1 : w.ownsRow B1 e1 s1 v1 n1 xs1) (h2 : w.ownsRow B2 e2 s2 v2 n2 xs2) (hne : e1 ≠ e2) : v1.ownBlock = none ∨ v1.ownBlock ≠ v2.ownBlock := by
  rcases h1.2 with ⟨rfl, _⟩ | ⟨g1, c1, cur1, rfl, _, hg1, _⟩
  · exact .inl rfl
  · rcases h2.2 with ⟨rfl, _⟩ | ⟨g2, c2, cur2, rfl, _, hg2, _⟩
    · exact .inr (by simp [Value.ownBlock])
    · right
      intro e
      simp [Value.ownBlock] at e
      subst e
      rw [hg1] at hg2
      simp at hg2
      exact hne hg2.2

theorem owns_below {w w' : World} {B n s : Nat} {e : TypeId} {v : Value} {xs : List Value} (h : w.ownsRow B e s v n xs) (hb : Below w.heap.size w w') : w'.ownsRow B e s v n xs :=
  h.kept (row := none) ⟨hb.os, hb.tape, hb.output, hb.size, fun k hk _ => hb.block k hk⟩ (by cases v.ownBlock <;> simp)

/-- where the first frames end, as cells -/
def endCells (ps : List (List UInt8)) (j : Nat) : List Value := (List.range j).map fun i => Value.int .i64 (endAt ps (i + 1) : Int)

theorem endCells_succ (ps : List (List UInt8)) (j : Nat) : endCells ps (j + 1) = endCells ps j ++ [.int .i64 (endAt ps (j + 1) : Int)] := by
  simp [endCells, List.range_succ]

theorem endCells_at {ps : List (List UInt8)} {n j : Nat} (h : j < n) : (endCells ps n)[j]? = some (.int .i64 (endAt ps (j + 1) : Int)) := by
  simp [endCells, h]

def CutRel (w : World) (ps : List (List UInt8)) (n : Nat) (av ev c : Value) (wr : World) : Prop :=
  ∃ j : Nat, c = .int .i64 (j : Int) ∧ j ≤ n ∧ wr.ownsRow w.heap.size 5 1 av (endAt ps j) (bcells (seals (ps.take j))) ∧ wr.ownsRow w.heap.size 3 1 ev j (endCells ps j) ∧ Below w.heap.size w wr ∧ endAt ps j ≤ 308 * j ∧ ∀ (i : Nat) (p : List UInt8), i < j → ps[i]? = some p → p.length ≤ 300

def WholeRel (ps : List (List UInt8)) (cut n : Nat) (wv ev c : Value) : Prop :=
  ∃ j : Nat, c = .int .i64 (j : Int) ∧ j ≤ n ∧ wv = .int .i64 (wholeN ps cut j : Int) ∧ ev = .int .i64 (endAt ps (wholeN ps cut j) : Int)

set_option maxRecDepth 100000 in
set_option maxHeartbeats 2000000 in
theorem frameCuts_walk (w : World) (a : Option Addr) (n cap : Nat) (ps : List (List UInt8)) (at' : Nat) (h : RowsOf w (.slice a n cap) n ps) (hcap : n ≤ cap ∧ cap ≤ 9223372036854775807) (hat : at' < 65536) (hst : Steps w) (hn0 : n ≠ 0) :
    Calls Tryd.prog 5 #[.slice a n cap, .int .u16 at'] w (SaysTrue w) := by
  obtain ⟨i0, hi, hz0, hz1, hz2⟩ := info_parts info5
  obtain ⟨j0, hj, hy0, hy1, hy2⟩ := info_parts info3
  have hl : ps.length = n := by obtain ⟨_, _, h2, _⟩ := h; exact h2
  have Hl := Lib.hid hl
  have HR := Lib.hid h
  have ST := Lib.hid hst
  clear h hl hst
  by_cases hn : 20 < n
  · have hn' : (20 : Int) < n := by omega
    go_enter Tryd.func5, Tryd.ntmps5
    go_wp2_with (go_at_call 7; go_must (refine (frame_fixed w ST.out).mono ?_))
    rintro e w1 ⟨rfl, b1⟩
    go_wp2
    go_ret
    exact ⟨rfl, b1⟩
  · have hn' : ¬ (20 : Int) < n := by omega
    go_enter Tryd.func5, Tryd.ntmps5
    go_wp2_with (go_at_call 7; go_must (refine (frame_fixed w ST.out).mono ?_))
    rintro e w1 ⟨rfl, b1⟩
    have B1 := Lib.hid b1
    clear b1
    go_wp2
    go_loopw [5, 6, 23] (fun av ev c wr => CutRel w ps n av ev c wr) (fun _ _ c _ => n - (intOf c).toNat)
    case atStart => exact ⟨0, rfl, Nat.zero_le _, World.ownsRow_nil _ _ _ _, World.ownsRow_nil _ _ _ _, B1.out, by simp [endAt, seals], fun i p hi => by omega⟩
    case round =>
      obtain ⟨j, rfl, hj', hall, hends, hb, hea, hps⟩ := hrel
      have Hps := Lib.hid hps
      clear hps
      by_cases hlt : j < n
      · have hlt' : (j : Int) < n := by omega
        obtain ⟨b, off, p, u, rfl, hp, hbl, hcell, hrd⟩ := (HR.out.below' hb).row hlt
        obtain ⟨x, y, rfl, hy, hy'⟩ := hrd.le
        unfold maxLen at hy'
        have hes := endAt_succ hp
        have hse : seals (ps.take (j + 1)) = seals (ps.take j) ++ sealL p := by
          rw [List.take_add_one, hp]
          simp only [Option.toList_some]
          exact seals_snoc _ _
        have hecs := endCells_succ ps j
        have hsl := sealL_length p
        have Hp := Lib.hid hp
        clear hp
        by_cases h300 : 300 < p.length
        · have h3' : (300 : Int) < p.length := by omega
          have Hb := Lib.hid hb
          clear hes hse hecs hsl hall hends hb
          go_wp2
          go_ret
          exact ⟨rfl, Hb.out⟩
        · have h3' : ¬ (300 : Int) < p.length := by omega
          have Hes := Lib.hid hes
          have Hse := Lib.hid hse
          have Hecs := Lib.hid hecs
          have Hsl := Lib.hid hsl
          have st := ST.out.below hb
          have hbs := hb.size
          clear hes hse hecs hsl
          go_wp2_with (go_at_call 8; go_must (refine (seal_own wr _ p.length p hrd (by omega) st).mono ?_))
          rintro e w2 ⟨g, cp, rfl, own2, b2⟩
          rw [Hsl.out] at own2 ⊢
          have hall2 := owns_below hall b2
          have hends2 := owns_below hends b2
          have hb2 := hb.trans (b2.mono hbs)
          have bs2 := hb2.size
          have hsrc := Reads.src (P := Tryd.prog) (tx := 22) Tryd.underlying22 (ownsRow.reads own2) (bcells_one (sealL p))
          have hea' : endAt ps j ≤ 6160 := by omega
          clear hall hends own2 b2 hb hrd st
          generalize hE : endAt ps j = E at *
          have HE := Lib.hid hE
          clear hE
          go_wp2_with (at_builtin; go_must (refine wpList_append_owns rfl _ _ 22 22 rfl w.heap.size 5 i0 (.int .u8 0) 1 1 Tryd.underlying22 hi hz0 hz1 hz2 rfl _ _ _ rfl hall2 _ _ _ rfl hsrc ?_ ?_ ?_ ?_))
          · unfold maxLen; omega
          · omega
          · exact bs2
          intro v4 w4 o4 g4 b4 m4
          have hends4 := hends2.kept g4 (rows_apart hends2 hall2 (by decide))
          have hb4 := hb2.trans b4
          have bs4 := hb4.size
          rw [← bcells_append, ← Hse.out] at o4
          obtain ⟨a4, c4, rfl, hc4, hc4'⟩ := (ownsRow.reads o4).le
          unfold maxLen at hc4'
          clear hall2 hends2 hsrc g4 b4 m4 hb2
          go_wp2_with (at_builtin; go_must (refine wpList_append_owns_lits (w0 := w4) rfl _ _ 37 rfl w.heap.size 3 j0 (.int .i64 0) 8 Tryd.underlying37 hj hy0 hy1 hy2 rfl [.int .i64 ((E : Int) + (8 + (p.length : Int)))] 1 rfl hends4 rfl rfl ?_ ?_ ?_ bs4 ?_))
          · intro u hu
            simp at hu
            subst hu
            rfl
          · unfold maxLen; omega
          · omega
          intro v5 w5 o5 g5 b5 m5
          have o45 := o4.kept g5 (rows_apart o4 hends4 (by decide))
          have hb5 := hb4.trans b5
          have hE1 : endAt ps (j + 1) = E + (8 + p.length) := by rw [Hes.out]
          have e5 : endCells ps j ++ [Value.int .i64 ((E : Int) + (8 + (p.length : Int)))] = endCells ps (j + 1) := by
            rw [Hecs.out, hE1]
            simp
          rw [e5] at o5
          have hps' : ∀ (i : Nat) (q : List UInt8), i < j + 1 → ps[i]? = some q → q.length ≤ 300 := fun i q hi hq => by
            by_cases hij : i < j
            · exact Hps.out i q hij hq
            · obtain rfl : i = j := by omega
              rw [Hp.out] at hq
              cases hq
              omega
          have O5 := Lib.hid o5
          have O45 := Lib.hid o45
          have HE1 := Lib.hid hE1
          have Hps' := Lib.hid hps'
          clear o4 hends4 g5 b5 m5 o5 o45 hE1 e5 hps' hb4
          go_wp2
          refine ⟨⟨j + 1, by go_num, by omega, ?_, O5.out, hb5, ?_, Hps'.out⟩, by simp [intOf]; omega⟩
          · rw [HE1.out]; exact O45.out
          · rw [HE1.out]; omega
      · obtain rfl : n = j := by omega
        have hlt' : ¬ ((n : Int) < n) := by omega
        have htk : ps.take n = ps := List.take_of_length_le (by rw [Hl.out]; exact Nat.le_refl _)
        rw [htk] at hall
        have hm0 : 0 < endAt ps n := by
          have hp : ps[n - 1]? = some (ps[n - 1]'(by rw [Hl.out]; omega)) := List.getElem?_eq_getElem (by rw [Hl.out]; omega)
          have := endAt_succ hp
          rw [show n - 1 + 1 = n by omega] at this
          omega
        have hlm : (seals ps).length = endAt ps n := by unfold endAt; rw [htk]
        have hp300 : ∀ p ∈ ps, p.length < 4294967296 := by
          intro p hp
          obtain ⟨i, hi⟩ := List.getElem?_of_mem hp
          have hil := (List.getElem?_eq_some_iff.1 hi).1
          have := Hps.out i p (by rw [Hl.out] at hil; exact hil) hi
          omega
        have hw := fun cut (hc : cut ≤ endAt ps n) => all_whole hp300 cut (by rw [hlm]; exact hc)
        rw [Hl.out] at hw
        have Hw := Lib.hid hw
        have Hlm := Lib.hid hlm
        have hm9 : endAt ps n ≤ 6160 := by omega
        clear hw hlm hp300 htk hea
        generalize hM : endAt ps n = m at *
        have HM := Lib.hid hM
        clear hM
        obtain ⟨cut, hcut, hcm⟩ : ∃ cut : Nat, (at' : Int) % ((m : Int) + 1) = (cut : Int) ∧ cut ≤ m := ⟨at' % (m + 1), by simp, by have := Nat.mod_lt at' (show 0 < m + 1 by omega); omega⟩
        rcases hall.2 with ⟨_, h0⟩ | ⟨g, cp, cur, hv, _, _, hcp1, hcp2, _, _⟩
        · omega
        · rcases hends.2 with ⟨_, h0⟩ | ⟨g2, cp2, cur2, hv2, _, _, hcp21, hcp22, _, _⟩
          · omega
          · subst hv
            subst hv2
            unfold maxLen at hcp2 hcp22
            have Hall := Lib.hid (ownsRow.reads hall)
            have Hends := Lib.hid hends
            have Hb := Lib.hid hb
            clear hall hends hb
            go_wp2
            clear hcut
            go_loop [10, 11, 48] (fun wv ev c => WholeRel ps cut n wv ev c) (fun _ _ c => n - (intOf c).toNat)
            case atStart => exact ⟨0, rfl, Nat.zero_le _, rfl, by simp [wholeN, endAt, seals]⟩
            case round =>
              obtain ⟨i, rfl, hi, rfl, rfl⟩ := hrel
              by_cases hilt : i < n
              · have hilt' : (i : Int) < n := by omega
                have ce := Hends.out.cellAt i (by omega)
                rw [endCells_at hilt] at ce
                have hws : wholeN ps cut (i + 1) = if endAt ps (i + 1) ≤ cut then i + 1 else wholeN ps cut i := rfl
                generalize hE : endAt ps (i + 1) = E at *
                have HE := Lib.hid hE
                have Hws := Lib.hid hws
                clear hE hws
                by_cases hle : E ≤ cut
                · have hle' : (E : Int) ≤ cut := by omega
                  go_wp2
                  refine ⟨⟨i + 1, by go_num, by omega, ?_, ?_⟩, by simp [intOf]; omega⟩
                  · rw [Hws.out, if_pos hle]; rfl
                  · rw [Hws.out, if_pos hle, HE.out]
                · have hle' : ¬ (E : Int) ≤ cut := by omega
                  go_wp2
                  refine ⟨⟨i + 1, by go_num, by omega, ?_, ?_⟩, by simp [intOf]; omega⟩
                  · rw [Hws.out, if_neg hle]
                  · rw [Hws.out, if_neg hle]
              · obtain rfl : n = i := by omega
                have hilt' : ¬ ((n : Int) < n) := by omega
                obtain ⟨hwl, hwe, _⟩ := wholeN_spec ps cut n
                have hal := Hw.out cut hcm
                generalize wholeN ps cut n = W at *
                generalize endAt ps W = E at *
                have Hal := Lib.hid hal
                clear hal
                obtain ⟨a9, c9, hv9, _, _, hrd9⟩ := Hall.out.take cut hcm
                cases hv9
                have Hrd9 := Lib.hid hrd9
                have Hst := Lib.hid (ST.out.below Hb.out)
                have HRr := Lib.hid (HR.out.below' Hb.out)
                clear hrd9
                go_wp2_with (go_at_call 14; go_must (refine (all_any wr _ cut _ Hrd9.out (.inr ⟨g, 0, cp, rfl⟩) (by omega) Hst.out).mono ?_))
                rintro e w3 ⟨v3, rfl, o3, b3⟩
                rw [Hal.out] at o3 ⊢
                have hwlen : (ps.take W).length = W := by rw [List.length_take, Hl.out]; omega
                rw [hwlen] at o3
                have r3 := Lib.hid o3.rows
                have rl3 := Lib.hid ((HRr.out.below' b3).take W hwl)
                have hb3 := Lib.hid (Hb.out.trans (b3.mono Hb.out.size))
                clear o3 b3 hwlen
                go_wp2_with (go_at_call 16; go_must (refine (same_any w3 _ _ W _ r3.out rl3.out).mono ?_))
                rintro e w4 ⟨rfl, b4⟩
                have hb4 := hb3.out.trans (b4.mono hb3.out.size)
                clear b4
                go_wp2
                go_ret
                exact ⟨rfl, hb4⟩
end Go.Proofs.YtodjgdaaggajcaaDoor
