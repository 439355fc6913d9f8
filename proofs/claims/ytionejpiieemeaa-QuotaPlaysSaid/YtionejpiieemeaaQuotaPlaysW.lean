/- The law QuotaPlays. -/
import Derived.Test.YtionejpiieemeaaQuotaPlaysM
import Derived.Test.YtionejpiieemeaaStrRows
namespace Go.Proofs.Ytionejpiieemeaa
open Go Go.RowKit

def PlayRel (w : World) (B b1 m1 b2 : Nat) (l : List QAct) (i : Value) (wr : World) : Prop :=
  ∃ (k : Nat) (S : QS) (R : RQ), i = .int .i64 (k : Int) ∧ k ≤ l.length ∧ S.ok ∧ Rel S R ∧ R.cs.length ≤ k ∧ QAt wr b1 m1 S k ∧ RAt wr B b2 R ∧ Below w.heap.size w wr

def NameRel (R : RQ) (i : Value) : Prop := ∃ k : Nat, i = .int .i64 (k : Int) ∧ k ≤ R.cs.length

set_option maxRecDepth 100000 in
set_option maxHeartbeats 4000000 in
theorem quotaPlays_walk (w : World) (rate most : Nat) (a : Option Addr) (len cap : Nat) (l : List QAct) (h : ActsAt w a len l) (hl : len ≤ 9223372036854775807) :
    Calls Try.prog 3 #[.int .u64 (rate : Int), .int .u64 (most : Int), .slice a len cap] w (SaysTrue w) := by
  have hfew := fun w' (hb : Below w.heap.size w w') => few_any w' a len cap l (h.touch hb) hl
  have hlen := h.1
  have hfl : fewB l = true → len ≤ 80 := by
    intro hf
    unfold fewB at hf
    simp only [Bool.and_eq_true, decide_eq_true_eq] at hf
    omega
  have HF := Lib.hid hfew
  have HA := Lib.hid h
  have HL := Lib.hid hlen
  have HX := Lib.hid hfl
  clear hfew h hlen hfl
  generalize fewB l = fw at *
  go_enter Try.func3, Try.ntmps3
  go_wp2_with (go_at_call 7; go_must (refine (fixed_any _).mono ?_))
  rintro e w1 ⟨rfl, b1⟩
  have B1 := Lib.hid b1
  clear b1
  go_wp2_with (go_at_call 8; go_must (refine (HF.out _ B1.out).mono ?_))
  rintro e w2 ⟨rfl, b2⟩
  have B2 := Lib.hid (B1.out.trans (b2.mono B1.out.size))
  clear b2 B1 HF
  cases fw with
  | false =>
    go_wp2
    go_ret
    exact ⟨rfl, B2.out⟩
  | true =>
    have h80 : len ≤ 80 := HX.out rfl
    clear HX hl
    go_wp2_with (go_at_call 9; go_must (refine (new_any _ rate most).mono ?_))
    rintro e w3 ⟨b1, m1, rfl, hb1, hm1, q1, bl3⟩
    have Q1 := Lib.hid q1
    have B3 := Lib.hid (B2.out.trans (bl3.mono B2.out.size))
    have hsz2 := B2.out.size
    have hb1' : w.heap.size ≤ b1 := by omega
    have hm1' : w.heap.size ≤ m1 := by omega
    clear q1 bl3 hb1 hm1 hsz2
    go_wp2_with (go_at_call 10; go_must (refine (rnew_any _ rate most).mono ?_))
    rintro e w4 ⟨b2, rfl, r2, bl4⟩
    have R2 : Hid (RAt w4 w.heap.size b2 (RQ.new rate most)) := by
      obtain ⟨v, e1, e2, e3⟩ := r2
      have := B3.out.size
      exact Lib.hid ⟨v, e1, by omega, owns_less e3 this⟩
    have Q1' := Lib.hid (Q1.out.touch (Touch.of_below bl4 []) (by simp) (by simp))
    have B4 := Lib.hid (B3.out.trans (bl4.mono B3.out.size))
    clear r2 bl4 Q1 B3 B2
    go_wp2
    go_loopw [27] (fun i wr => PlayRel w w.heap.size b1 m1 b2 l i wr) (fun i _ => len - (intOf i).toNat)
    case atStart => exact ⟨0, _, _, rfl, Nat.zero_le _, QS.new_ok rate most, new_rel rate most, Nat.zero_le _, Q1'.out, R2.out, B4.out⟩
    case round =>
      obtain ⟨k, S, R, rfl, hk, ok, hrel, hfew, qa, ra, hbl⟩ := hrel
      rw [HL.out] at hk
      clear R2 Q1' B4
      have K1 := Lib.hid ok
      have HRel := Lib.hid hrel
      have QA := Lib.hid qa
      have RA := Lib.hid ra
      have HBl := Lib.hid hbl
      clear ok hrel qa ra hbl
      by_cases hlt : k < len
      · have hx : l[k]? = some (l[k]'(by rw [HL.out]; exact hlt)) := List.getElem?_eq_getElem _
        generalize l[k]'(by rw [HL.out]; exact hlt) = x at hx
        obtain ⟨hf, g, off, rfl, hg, hc⟩ := (HA.out.touch HBl.out).2 k x hx
        obtain ⟨q, c, n0, t0⟩ := x
        have c0 : wr.cell? ⟨g, off + k * 4, none⟩ = some (.bool q) := hc 0 (by decide)
        have c1 : wr.cell? ⟨g, off + k * 4 + 1, none⟩ = some (.string c) := hc 1 (by decide)
        have c2 : wr.cell? ⟨g, off + k * 4 + 2, none⟩ = some (.int .u64 (n0 : Int)) := hc 2 (by decide)
        have c3 : wr.cell? ⟨g, off + k * 4 + 3, none⟩ = some (.int .u64 (t0 : Int)) := hc 3 (by decide)
        obtain ⟨hcz, hn0, ht0⟩ := hf
        simp only at hcz hn0 ht0
        have Hn0 := Lib.hid hn0
        have Ht0 := Lib.hid ht0
        have hcm : c.size ≤ maxLen := by unfold maxLen; exact hcz
        have Hcm := Lib.hid hcm
        have hkm : k < maxLen := by unfold maxLen; omega
        have HKm := Lib.hid hkm
        clear hx hc hn0 ht0 hcz hcm hkm
        have hst : ∀ S', PJ w.heap.size w wr.heap.size b1 m1 b2 k q c n0 t0 S S' false false (wr.alloc (.cells #[.bool q, .string c, .int .u64 (n0 : Int), .int .u64 (t0 : Int)] 31)) := fun S' =>
          ⟨QA.out.touch ((Touch.refl wr []).alloc _) (by simp) (by simp), ⟨R, HRel.out, hfew, RA.out.below ((Below.refl _ _).alloc (Nat.le_refl _) _)⟩, heap_alloc_new wr _, HBl.out.alloc HBl.out.size _⟩
        have HSt := Lib.hid hst
        clear hst QA RA HBl HRel
        cases q with
        | true =>
          go_upto_region 10 with fail
          generalize wr.alloc (.cells #[.bool true, .string c, .int .u64 (n0 : Int), .int .u64 (t0 : Int)] 31) = w5 at *
          generalize wr.heap.size = g1 at *
          obtain ⟨G, hG⟩ : ∃ G, (S.tick t0).has c = G := ⟨_, rfl⟩
          have ht1 : ∀ W y, PJ w.heap.size w g1 b1 m1 b2 k true c n0 t0 S (S.tick t0) false y W → Calls Try.prog 11 #[.pointer (some ⟨b1, 0, none⟩), .string c, .int .u64 (t0 : Int)] W fun e w' => e = .returned (.int .u64 (G : Int)) ∧ PJ w.heap.size w g1 b1 m1 b2 k true c n0 t0 S (S.tick t0) true y w' := by
            intro W y hJ
            refine (left_walk W b1 m1 k t0 S c hJ.q1 K1.out Hcm.out Ht0.out).mono fun e w' ⟨he, hq, t⟩ => ?_
            rw [hG] at he
            exact ⟨he, hJ.own (Nat.le_refl _) hb1' hm1' (Nat.le_succ k) hq (t.mono (by simp))⟩
          have ht2 : ∀ W x, PJ w.heap.size w g1 b1 m1 b2 k true c n0 t0 S (S.tick t0) x false W → Calls Try.prog 12 #[.pointer (some ⟨b2, 0, none⟩), .string c, .int .u64 (t0 : Int)] W fun e w' => e = .returned (.int .u64 (G : Int)) ∧ PJ w.heap.size w g1 b1 m1 b2 k true c n0 t0 S (S.tick t0) x true w' := by
            intro W x hJ
            obtain ⟨R1, hr1, hr2, hr3⟩ := hJ.r
            simp only [Bool.false_eq_true, if_false] at hr1 hr2
            refine (rleft_walk W w.heap.size b2 t0 R1 c hr3 (hr1.ok K1.out) (by omega) Ht0.out).mono fun e w' ⟨h0, he, hv, hf, ha⟩ => ?_
            have htk := hr1.tick K1.out t0
            have hhG : h0 = G := by
              rw [← hG]
              rcases hv with ⟨j, hj⟩ | ⟨hno, hm⟩
              · exact htk.val c h0 (List.mem_of_getElem? hj)
              · have hgn : (S.tick t0).g c = none := by
                  cases hgg : (S.tick t0).g c with
                  | none => rfl
                  | some p => exact absurd ((htk.mem c).1 (by rw [hgg]; rfl)) hno
                unfold QS.has
                rw [hgn, hm, ← hr1.most]
                rfl
            rw [hhG] at he
            exact ⟨he, hJ.other hr3 htk (by rw [(R1.tick_few t0).1]; omega) ha hf⟩
          have hJ0 : ∀ x y, x = false → y = false → PJ w.heap.size w g1 b1 m1 b2 k true c n0 t0 S (S.tick t0) x y w5.drew := by
            rintro x y rfl rfl
            have h5 := HSt.out (S.tick t0)
            exact ⟨h5.q1, h5.r, h5.act, h5.bel.drew⟩
          have T1 := Lib.hid ht1
          have T2 := Lib.hid ht2
          have J0 := Lib.hid hJ0
          clear ht1 ht2 hJ0 HSt hG c0 c1 c2 c3 hg
          refine wp_region_state (by kernel_rfl) [.pointer (some ⟨b1, 0, none⟩), .pointer (some ⟨g1, 1, none⟩), .string c, .pointer (some ⟨g1, 3, none⟩), .int .u64 (t0 : Int), .int .u64 (G : Int), .pointer (some ⟨b2, 0, none⟩), .pointer (some ⟨g1, 1, none⟩), .string c, .pointer (some ⟨g1, 3, none⟩), .int .u64 (t0 : Int), .int .u64 (G : Int), .bool false] (by kernel_rfl) (by kernel_rfl) (fun L W => PJ w.heap.size w g1 b1 m1 b2 k true c n0 t0 S (S.tick t0) (L 5) (L 11) W) ?_ ⟨?_, ?_, ?_, ?_, ?_, ?_, ?_, ?_, ?_, ?_, ?_, ?_, ?_, trivial⟩ ?_
          · intro L hL0
            exact J0.out _ _ (hL0 5 (by decide)) (hL0 11 (by decide))
          · intro ρ wx L hρ hL hd hl hI
            have e7 : ρ (.tmp 7) = .pointer (some ⟨b1, 0, none⟩) := hρ.tmp 7 (by decide +kernel)
            refine s_val (v := .pointer (some ⟨b1, 0, none⟩)) ?_ rfl ?_
            · simp [execOp, go_sem, e7]
            · exact hI
          · intro ρ wx L hρ hL hd hl hI
            have e10 : ρ (.tmp 10) = .pointer (some ⟨g1, 0, none⟩) := hρ.tmp 10 (by decide +kernel)
            refine s_val (v := .pointer (some ⟨g1, 1, none⟩)) ?_ rfl ?_
            · simp [execOp, go_sem, e10]
            · exact hI
          · intro ρ wx L hρ hL hd hl hI
            have e34 : ρ (.tmp 34) = .pointer (some ⟨g1, 1, none⟩) := hl 1 (by decide +kernel) 34 rfl
            obtain ⟨f1, _, _⟩ := hI.cells
            refine s_val (v := .string c) ?_ rfl ?_
            · simp [execOp, go_sem, e34, f1]
            · exact hI
          · intro ρ wx L hρ hL hd hl hI
            have e10 : ρ (.tmp 10) = .pointer (some ⟨g1, 0, none⟩) := hρ.tmp 10 (by decide +kernel)
            refine s_val (v := .pointer (some ⟨g1, 3, none⟩)) ?_ rfl ?_
            · simp [execOp, go_sem, e10]
            · exact hI
          · intro ρ wx L hρ hL hd hl hI
            have e36 : ρ (.tmp 36) = .pointer (some ⟨g1, 3, none⟩) := hl 3 (by decide +kernel) 36 rfl
            obtain ⟨_, _, f3⟩ := hI.cells
            refine s_val (v := .int .u64 (t0 : Int)) ?_ rfl ?_
            · simp [execOp, go_sem, e36, f3]
            · exact hI
          · intro ρ wx L hρ hL hd hl hI
            have e33 : ρ (.tmp 33) = .pointer (some ⟨b1, 0, none⟩) := hl 0 (by decide +kernel) 33 rfl
            have e35 : ρ (.tmp 35) = .string c := hl 2 (by decide +kernel) 35 rfl
            have e37 : ρ (.tmp 37) = .int .u64 (t0 : Int) := hl 4 (by decide +kernel) 37 rfl
            refine s_call (f := 11) (args := #[.pointer (some ⟨b1, 0, none⟩), .string c, .int .u64 (t0 : Int)]) ?_ ?_
            · simp [execOp, hρ.func, go_sem, e33, e35, e37]
            · exact T1.out wx (L 11) (by rw [hL] at hI; exact hI)
          · intro ρ wx L hρ hL hd hl hI
            have e8 : ρ (.tmp 8) = .pointer (some ⟨b2, 0, none⟩) := hρ.tmp 8 (by decide +kernel)
            refine s_val (v := .pointer (some ⟨b2, 0, none⟩)) ?_ rfl ?_
            · simp [execOp, go_sem, e8]
            · exact hI
          · intro ρ wx L hρ hL hd hl hI
            have e10 : ρ (.tmp 10) = .pointer (some ⟨g1, 0, none⟩) := hρ.tmp 10 (by decide +kernel)
            refine s_val (v := .pointer (some ⟨g1, 1, none⟩)) ?_ rfl ?_
            · simp [execOp, go_sem, e10]
            · exact hI
          · intro ρ wx L hρ hL hd hl hI
            have e40 : ρ (.tmp 40) = .pointer (some ⟨g1, 1, none⟩) := hl 7 (by decide +kernel) 40 rfl
            obtain ⟨f1, _, _⟩ := hI.cells
            refine s_val (v := .string c) ?_ rfl ?_
            · simp [execOp, go_sem, e40, f1]
            · exact hI
          · intro ρ wx L hρ hL hd hl hI
            have e10 : ρ (.tmp 10) = .pointer (some ⟨g1, 0, none⟩) := hρ.tmp 10 (by decide +kernel)
            refine s_val (v := .pointer (some ⟨g1, 3, none⟩)) ?_ rfl ?_
            · simp [execOp, go_sem, e10]
            · exact hI
          · intro ρ wx L hρ hL hd hl hI
            have e42 : ρ (.tmp 42) = .pointer (some ⟨g1, 3, none⟩) := hl 9 (by decide +kernel) 42 rfl
            obtain ⟨_, _, f3⟩ := hI.cells
            refine s_val (v := .int .u64 (t0 : Int)) ?_ rfl ?_
            · simp [execOp, go_sem, e42, f3]
            · exact hI
          · intro ρ wx L hρ hL hd hl hI
            have e39 : ρ (.tmp 39) = .pointer (some ⟨b2, 0, none⟩) := hl 6 (by decide +kernel) 39 rfl
            have e41 : ρ (.tmp 41) = .string c := hl 8 (by decide +kernel) 41 rfl
            have e43 : ρ (.tmp 43) = .int .u64 (t0 : Int) := hl 10 (by decide +kernel) 43 rfl
            refine s_call (f := 12) (args := #[.pointer (some ⟨b2, 0, none⟩), .string c, .int .u64 (t0 : Int)]) ?_ ?_
            · simp [execOp, hρ.func, go_sem, e39, e41, e43]
            · exact T2.out wx (L 5) (by rw [hL] at hI; exact hI)
          · intro ρ wx L hρ hL hd hl hI
            have e38 : ρ (.tmp 38) = .int .u64 (G : Int) := hl 5 (by decide +kernel) 38 rfl
            have e44 : ρ (.tmp 44) = .int .u64 (G : Int) := hl 11 (by decide +kernel) 44 rfl
            refine s_val (v := .bool false) ?_ rfl ?_
            · simp [execOp, go_sem, e38, e44]
            · exact hI
          · intro aa wz L hdef hsz hlk hL hI hf
            have ha := act_of_like hdef hsz hlk [33, 34, 35, 36, 37, 38, 39, 40, 41, 42, 43, 44, 45] 92 rfl (by decide +kernel)
            have e33 : aa.tmps.getD 33 undef = .pointer (some ⟨b1, 0, none⟩) := hf 0 _ 33 rfl rfl
            have e34 : aa.tmps.getD 34 undef = .pointer (some ⟨g1, 1, none⟩) := hf 1 _ 34 rfl rfl
            have e35 : aa.tmps.getD 35 undef = .string c := hf 2 _ 35 rfl rfl
            have e36 : aa.tmps.getD 36 undef = .pointer (some ⟨g1, 3, none⟩) := hf 3 _ 36 rfl rfl
            have e37 : aa.tmps.getD 37 undef = .int .u64 (t0 : Int) := hf 4 _ 37 rfl rfl
            have e38 : aa.tmps.getD 38 undef = .int .u64 (G : Int) := hf 5 _ 38 rfl rfl
            have e39 : aa.tmps.getD 39 undef = .pointer (some ⟨b2, 0, none⟩) := hf 6 _ 39 rfl rfl
            have e40 : aa.tmps.getD 40 undef = .pointer (some ⟨g1, 1, none⟩) := hf 7 _ 40 rfl rfl
            have e41 : aa.tmps.getD 41 undef = .string c := hf 8 _ 41 rfl rfl
            have e42 : aa.tmps.getD 42 undef = .pointer (some ⟨g1, 3, none⟩) := hf 9 _ 42 rfl rfl
            have e43 : aa.tmps.getD 43 undef = .int .u64 (t0 : Int) := hf 10 _ 43 rfl rfl
            have e44 : aa.tmps.getD 44 undef = .int .u64 (G : Int) := hf 11 _ 44 rfl rfl
            have e45 : aa.tmps.getD 45 undef = .bool false := hf 12 _ 45 rfl rfl
            simp only [putAll, List.foldl_cons, List.foldl_nil, e33, e34, e35, e36, e37, e38, e39, e40, e41, e42, e43, e44, e45] at ha
            simp [Act.put] at ha
            subst ha
            clear hdef hsz hlk hf e33 e34 e35 e36 e37 e38 e39 e40 e41 e42 e43 e44 e45
            rw [hL 5 (by decide), hL 11 (by decide)] at hI
            have HI := Lib.hid hI
            clear hI hL
            go_wp2
            obtain ⟨R1, hr1, hr2, hr3⟩ := HI.out.r
            exact ⟨⟨k + 1, S.tick t0, R1, by go_num, by rw [HL.out]; omega, QS.tick_ok K1.out Ht0.out, hr1, hr2, HI.out.q1, hr3, HI.out.bel⟩, by simp [intOf]; omega⟩
        | false =>
          go_upto_region 12 with fail
          generalize wr.alloc (.cells #[.bool false, .string c, .int .u64 (n0 : Int), .int .u64 (t0 : Int)] 31) = w5 at *
          generalize wr.heap.size = g1 at *
          obtain ⟨G, hG⟩ : ∃ G, S.gives c n0 t0 = G := ⟨_, rfl⟩
          have ht1 : ∀ W y, PJ w.heap.size w g1 b1 m1 b2 k false c n0 t0 S (S.take c n0 t0) false y W → Calls Try.prog 13 #[.pointer (some ⟨b1, 0, none⟩), .string c, .int .u64 (n0 : Int), .int .u64 (t0 : Int)] W fun e w' => e = .returned (.bool G) ∧ PJ w.heap.size w g1 b1 m1 b2 k false c n0 t0 S (S.take c n0 t0) true y w' := by
            intro W y hJ
            refine (take_walk W b1 m1 k n0 t0 S c hJ.q1 K1.out Hcm.out Hn0.out Ht0.out HKm.out).mono fun e w' ⟨he, hq, t⟩ => ?_
            rw [hG] at he
            exact ⟨he, hJ.own (Nat.le_refl _) hb1' hm1' (Nat.le_refl _) hq t⟩
          have ht2 : ∀ W x, PJ w.heap.size w g1 b1 m1 b2 k false c n0 t0 S (S.take c n0 t0) x false W → Calls Try.prog 14 #[.pointer (some ⟨b2, 0, none⟩), .string c, .int .u64 (n0 : Int), .int .u64 (t0 : Int)] W fun e w' => e = .returned (.bool G) ∧ PJ w.heap.size w g1 b1 m1 b2 k false c n0 t0 S (S.take c n0 t0) x true w' := by
            intro W x hJ
            obtain ⟨R1, hr1, hr2, hr3⟩ := hJ.r
            simp only [Bool.false_eq_true, if_false] at hr1 hr2
            refine (rtake_walk W w.heap.size b2 n0 t0 R1 c hr3 (hr1.ok K1.out) (by omega) Hn0.out Ht0.out).mono fun e w' ⟨j, h0, R', hR, hj, he, hf, ha⟩ => ?_
            obtain ⟨e1, e2⟩ := hr1.take K1.out c n0 t0 hR hj
            have hG' : decide (n0 ≤ h0) = G := by
              rw [← hG, e1]
              rfl
            rw [hG'] at he
            have hlen : R'.cs.length ≤ k + 1 := by
              rcases hR with rfl | ⟨_, j', hl', _, rfl⟩
              · rw [(R1.tick_few t0).1]
                omega
              · have := (R1.tick_few t0).1
                have := hl'.1
                simp
                omega
            refine ⟨he, hJ.other hr3 e2 ?_ ha hf⟩
            split
            · simpa using hlen
            · exact hlen
          have hJ0 : ∀ x y, x = false → y = false → PJ w.heap.size w g1 b1 m1 b2 k false c n0 t0 S (S.take c n0 t0) x y w5.drew := by
            rintro x y rfl rfl
            have h5 := HSt.out (S.take c n0 t0)
            exact ⟨h5.q1, h5.r, h5.act, h5.bel.drew⟩
          have T1 := Lib.hid ht1
          have T2 := Lib.hid ht2
          have J0 := Lib.hid hJ0
          clear ht1 ht2 hJ0 HSt hG c0 c1 c2 c3 hg
          refine wp_region_state (by kernel_rfl) [.pointer (some ⟨b1, 0, none⟩), .pointer (some ⟨g1, 1, none⟩), .string c, .pointer (some ⟨g1, 2, none⟩), .int .u64 (n0 : Int), .pointer (some ⟨g1, 3, none⟩), .int .u64 (t0 : Int), .bool G, .pointer (some ⟨b2, 0, none⟩), .pointer (some ⟨g1, 1, none⟩), .string c, .pointer (some ⟨g1, 2, none⟩), .int .u64 (n0 : Int), .pointer (some ⟨g1, 3, none⟩), .int .u64 (t0 : Int), .bool G, .bool false] (by kernel_rfl) (by kernel_rfl) (fun L W => PJ w.heap.size w g1 b1 m1 b2 k false c n0 t0 S (S.take c n0 t0) (L 7) (L 15) W) ?_ ⟨?_, ?_, ?_, ?_, ?_, ?_, ?_, ?_, ?_, ?_, ?_, ?_, ?_, ?_, ?_, ?_, ?_, trivial⟩ ?_
          · intro L hL0
            exact J0.out _ _ (hL0 7 (by decide)) (hL0 15 (by decide))
          · intro ρ wx L hρ hL hd hl hI
            have e7 : ρ (.tmp 7) = .pointer (some ⟨b1, 0, none⟩) := hρ.tmp 7 (by decide +kernel)
            refine s_val (v := .pointer (some ⟨b1, 0, none⟩)) ?_ rfl ?_
            · simp [execOp, go_sem, e7]
            · exact hI
          · intro ρ wx L hρ hL hd hl hI
            have e10 : ρ (.tmp 10) = .pointer (some ⟨g1, 0, none⟩) := hρ.tmp 10 (by decide +kernel)
            refine s_val (v := .pointer (some ⟨g1, 1, none⟩)) ?_ rfl ?_
            · simp [execOp, go_sem, e10]
            · exact hI
          · intro ρ wx L hρ hL hd hl hI
            have e47 : ρ (.tmp 47) = .pointer (some ⟨g1, 1, none⟩) := hl 1 (by decide +kernel) 47 rfl
            obtain ⟨f1, _, _⟩ := hI.cells
            refine s_val (v := .string c) ?_ rfl ?_
            · simp [execOp, go_sem, e47, f1]
            · exact hI
          · intro ρ wx L hρ hL hd hl hI
            have e10 : ρ (.tmp 10) = .pointer (some ⟨g1, 0, none⟩) := hρ.tmp 10 (by decide +kernel)
            refine s_val (v := .pointer (some ⟨g1, 2, none⟩)) ?_ rfl ?_
            · simp [execOp, go_sem, e10]
            · exact hI
          · intro ρ wx L hρ hL hd hl hI
            have e49 : ρ (.tmp 49) = .pointer (some ⟨g1, 2, none⟩) := hl 3 (by decide +kernel) 49 rfl
            obtain ⟨_, f2, _⟩ := hI.cells
            refine s_val (v := .int .u64 (n0 : Int)) ?_ rfl ?_
            · simp [execOp, go_sem, e49, f2]
            · exact hI
          · intro ρ wx L hρ hL hd hl hI
            have e10 : ρ (.tmp 10) = .pointer (some ⟨g1, 0, none⟩) := hρ.tmp 10 (by decide +kernel)
            refine s_val (v := .pointer (some ⟨g1, 3, none⟩)) ?_ rfl ?_
            · simp [execOp, go_sem, e10]
            · exact hI
          · intro ρ wx L hρ hL hd hl hI
            have e51 : ρ (.tmp 51) = .pointer (some ⟨g1, 3, none⟩) := hl 5 (by decide +kernel) 51 rfl
            obtain ⟨_, _, f3⟩ := hI.cells
            refine s_val (v := .int .u64 (t0 : Int)) ?_ rfl ?_
            · simp [execOp, go_sem, e51, f3]
            · exact hI
          · intro ρ wx L hρ hL hd hl hI
            have e46 : ρ (.tmp 46) = .pointer (some ⟨b1, 0, none⟩) := hl 0 (by decide +kernel) 46 rfl
            have e48 : ρ (.tmp 48) = .string c := hl 2 (by decide +kernel) 48 rfl
            have e50 : ρ (.tmp 50) = .int .u64 (n0 : Int) := hl 4 (by decide +kernel) 50 rfl
            have e52 : ρ (.tmp 52) = .int .u64 (t0 : Int) := hl 6 (by decide +kernel) 52 rfl
            refine s_call (f := 13) (args := #[.pointer (some ⟨b1, 0, none⟩), .string c, .int .u64 (n0 : Int), .int .u64 (t0 : Int)]) ?_ ?_
            · simp [execOp, hρ.func, go_sem, e46, e48, e50, e52]
            · exact T1.out wx (L 15) (by rw [hL] at hI; exact hI)
          · intro ρ wx L hρ hL hd hl hI
            have e8 : ρ (.tmp 8) = .pointer (some ⟨b2, 0, none⟩) := hρ.tmp 8 (by decide +kernel)
            refine s_val (v := .pointer (some ⟨b2, 0, none⟩)) ?_ rfl ?_
            · simp [execOp, go_sem, e8]
            · exact hI
          · intro ρ wx L hρ hL hd hl hI
            have e10 : ρ (.tmp 10) = .pointer (some ⟨g1, 0, none⟩) := hρ.tmp 10 (by decide +kernel)
            refine s_val (v := .pointer (some ⟨g1, 1, none⟩)) ?_ rfl ?_
            · simp [execOp, go_sem, e10]
            · exact hI
          · intro ρ wx L hρ hL hd hl hI
            have e55 : ρ (.tmp 55) = .pointer (some ⟨g1, 1, none⟩) := hl 9 (by decide +kernel) 55 rfl
            obtain ⟨f1, _, _⟩ := hI.cells
            refine s_val (v := .string c) ?_ rfl ?_
            · simp [execOp, go_sem, e55, f1]
            · exact hI
          · intro ρ wx L hρ hL hd hl hI
            have e10 : ρ (.tmp 10) = .pointer (some ⟨g1, 0, none⟩) := hρ.tmp 10 (by decide +kernel)
            refine s_val (v := .pointer (some ⟨g1, 2, none⟩)) ?_ rfl ?_
            · simp [execOp, go_sem, e10]
            · exact hI
          · intro ρ wx L hρ hL hd hl hI
            have e57 : ρ (.tmp 57) = .pointer (some ⟨g1, 2, none⟩) := hl 11 (by decide +kernel) 57 rfl
            obtain ⟨_, f2, _⟩ := hI.cells
            refine s_val (v := .int .u64 (n0 : Int)) ?_ rfl ?_
            · simp [execOp, go_sem, e57, f2]
            · exact hI
          · intro ρ wx L hρ hL hd hl hI
            have e10 : ρ (.tmp 10) = .pointer (some ⟨g1, 0, none⟩) := hρ.tmp 10 (by decide +kernel)
            refine s_val (v := .pointer (some ⟨g1, 3, none⟩)) ?_ rfl ?_
            · simp [execOp, go_sem, e10]
            · exact hI
          · intro ρ wx L hρ hL hd hl hI
            have e59 : ρ (.tmp 59) = .pointer (some ⟨g1, 3, none⟩) := hl 13 (by decide +kernel) 59 rfl
            obtain ⟨_, _, f3⟩ := hI.cells
            refine s_val (v := .int .u64 (t0 : Int)) ?_ rfl ?_
            · simp [execOp, go_sem, e59, f3]
            · exact hI
          · intro ρ wx L hρ hL hd hl hI
            have e54 : ρ (.tmp 54) = .pointer (some ⟨b2, 0, none⟩) := hl 8 (by decide +kernel) 54 rfl
            have e56 : ρ (.tmp 56) = .string c := hl 10 (by decide +kernel) 56 rfl
            have e58 : ρ (.tmp 58) = .int .u64 (n0 : Int) := hl 12 (by decide +kernel) 58 rfl
            have e60 : ρ (.tmp 60) = .int .u64 (t0 : Int) := hl 14 (by decide +kernel) 60 rfl
            refine s_call (f := 14) (args := #[.pointer (some ⟨b2, 0, none⟩), .string c, .int .u64 (n0 : Int), .int .u64 (t0 : Int)]) ?_ ?_
            · simp [execOp, hρ.func, go_sem, e54, e56, e58, e60]
            · exact T2.out wx (L 7) (by rw [hL] at hI; exact hI)
          · intro ρ wx L hρ hL hd hl hI
            have e53 : ρ (.tmp 53) = .bool G := hl 7 (by decide +kernel) 53 rfl
            have e61 : ρ (.tmp 61) = .bool G := hl 15 (by decide +kernel) 61 rfl
            refine s_val (v := .bool false) ?_ rfl ?_
            · cases G <;> simp [execOp, go_sem, e53, e61]
            · exact hI
          · intro aa wz L hdef hsz hlk hL hI hf
            have ha := act_of_like hdef hsz hlk [46, 47, 48, 49, 50, 51, 52, 53, 54, 55, 56, 57, 58, 59, 60, 61, 62] 92 rfl (by decide +kernel)
            have e46 : aa.tmps.getD 46 undef = .pointer (some ⟨b1, 0, none⟩) := hf 0 _ 46 rfl rfl
            have e47 : aa.tmps.getD 47 undef = .pointer (some ⟨g1, 1, none⟩) := hf 1 _ 47 rfl rfl
            have e48 : aa.tmps.getD 48 undef = .string c := hf 2 _ 48 rfl rfl
            have e49 : aa.tmps.getD 49 undef = .pointer (some ⟨g1, 2, none⟩) := hf 3 _ 49 rfl rfl
            have e50 : aa.tmps.getD 50 undef = .int .u64 (n0 : Int) := hf 4 _ 50 rfl rfl
            have e51 : aa.tmps.getD 51 undef = .pointer (some ⟨g1, 3, none⟩) := hf 5 _ 51 rfl rfl
            have e52 : aa.tmps.getD 52 undef = .int .u64 (t0 : Int) := hf 6 _ 52 rfl rfl
            have e53 : aa.tmps.getD 53 undef = .bool G := hf 7 _ 53 rfl rfl
            have e54 : aa.tmps.getD 54 undef = .pointer (some ⟨b2, 0, none⟩) := hf 8 _ 54 rfl rfl
            have e55 : aa.tmps.getD 55 undef = .pointer (some ⟨g1, 1, none⟩) := hf 9 _ 55 rfl rfl
            have e56 : aa.tmps.getD 56 undef = .string c := hf 10 _ 56 rfl rfl
            have e57 : aa.tmps.getD 57 undef = .pointer (some ⟨g1, 2, none⟩) := hf 11 _ 57 rfl rfl
            have e58 : aa.tmps.getD 58 undef = .int .u64 (n0 : Int) := hf 12 _ 58 rfl rfl
            have e59 : aa.tmps.getD 59 undef = .pointer (some ⟨g1, 3, none⟩) := hf 13 _ 59 rfl rfl
            have e60 : aa.tmps.getD 60 undef = .int .u64 (t0 : Int) := hf 14 _ 60 rfl rfl
            have e61 : aa.tmps.getD 61 undef = .bool G := hf 15 _ 61 rfl rfl
            have e62 : aa.tmps.getD 62 undef = .bool false := hf 16 _ 62 rfl rfl
            simp only [putAll, List.foldl_cons, List.foldl_nil, e46, e47, e48, e49, e50, e51, e52, e53, e54, e55, e56, e57, e58, e59, e60, e61, e62] at ha
            simp [Act.put] at ha
            subst ha
            clear hdef hsz hlk hf e46 e47 e48 e49 e50 e51 e52 e53 e54 e55 e56 e57 e58 e59 e60 e61 e62
            rw [hL 7 (by decide), hL 15 (by decide)] at hI
            have HI := Lib.hid hI
            clear hI hL
            go_wp2
            obtain ⟨R1, hr1, hr2, hr3⟩ := HI.out.r
            exact ⟨⟨k + 1, S.take c n0 t0, R1, by go_num, by rw [HL.out]; omega, QS.take_ok K1.out _ _ Ht0.out, hr1, hr2, HI.out.q1, hr3, HI.out.bel⟩, by simp [intOf]; omega⟩
      · obtain rfl : k = len := by omega
        clear hlt hk HA
        have hcl := clients_any wr b1 m1 k S QA.out (by omega)
        have HCl := Lib.hid hcl
        clear hcl
        go_wp2_with (go_at_call 15; go_must (refine HCl.out.mono ?_))
        rintro e w6 ⟨v, ss, rfl, n1, n2, n3, n4, b6⟩
        have hnm := sorted_names HRel.out n1 n2
        rw [hnm] at n4
        have hsl : ss.length = R.cs.length := by
          have := n4.1
          rw [scells_length, List.length_map] at this
          omega
        rw [hsl] at n4
        have hrd := ownsRow.reads n4
        obtain ⟨a6, cap6, rfl, hc6, hc6'⟩ := hrd.le
        have hra := RA.out.below b6
        obtain ⟨vr, hb6, _, ho6⟩ := hra
        have hrr := ownsRow.reads ho6
        obtain ⟨a7, cap7, rfl, hc7, hc7'⟩ := hrr.le
        have d3 := Lib.cell_of_heap hb6 3
        simp at d3
        have hblt : b2 < w6.heap.size := (Array.getElem?_eq_some_iff.1 hb6).1
        have HRd := Lib.hid hrd
        have HRr := Lib.hid hrr
        have B6 := Lib.hid (HBl.out.trans (b6.mono HBl.out.size))
        clear HCl n1 n2 n3 n4 hnm hsl hrd hrr hb6 ho6 b6 QA RA HBl HRel
        have hcz : R.cs.length ≤ 80 := by omega
        go_wp2
        go_loop [76] (fun i => NameRel R i) (fun i => R.cs.length - (intOf i).toNat)
        case atStart => exact ⟨0, rfl, Nat.zero_le _⟩
        case round =>
          obtain ⟨j, rfl, hj⟩ := hrel
          by_cases hjl : j < R.cs.length
          · have hjI : (j : Int) < R.cs.length := by omega
            obtain ⟨p, hp⟩ : ∃ p, R.cs[j]? = some p := ⟨_, List.getElem?_eq_getElem hjl⟩
            have k1 : (scells (R.cs.map (·.1)))[j]? = some (.string p.1) := by
              unfold scells
              rw [List.getElem?_map, List.getElem?_map, hp]
              rfl
            obtain ⟨g6, o6, rfl, hg6, k1⟩ := HRd.out.at k1
            obtain ⟨g7, o7, rfl, hg7, k2⟩ := HRr.out.at (flat_cell ccell 2 ccell_len R.cs j p hp 0 (by decide))
            simp at k2
            go_wp2
            exact ⟨⟨j + 1, by go_num, by omega⟩, by simp [intOf]; omega⟩
          · obtain rfl : j = R.cs.length := by omega
            go_wp2
            go_ret
            exact ⟨rfl, B6.out⟩
end Go.Proofs.Ytionejpiieemeaa
