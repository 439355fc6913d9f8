/- What the proof stands on, part 8. -/
import Derived.Test.YtoibhkmlebcepaaDoorMg7
import Derived.BigQuiet
import Derived.Deep.QuietTactic
namespace Go.Proofs.YtoibhkmlebcepaaDoor
open Go Go.RowKit

def TellsU64Q (w : World) (n : Nat) (e : Ending) (w' : World) : Prop := e = .returned (.int .u64 (n : Int)) ∧ ∃ m, w' = w.drewN m

set_option maxRecDepth 100000 in
set_option maxHeartbeats 1000000 in
theorem number_any (w : World) (v : Value) (n : Nat) (l : List UInt8) (h : Reads w 1 v n (bcells l)) (hn : 4 ≤ n) :
    Calls Tryd.prog 43 #[v] w (TellsU64Q w (num4 l)) := by
  obtain ⟨b, off, cap, rfl, h1, h2, hl, hc⟩ := h.head (by omega)
  unfold maxLen at h2
  have c0 := hc 0 (by omega)
  have c1 := hc 1 (by omega)
  have c2 := hc 2 (by omega)
  have c3 := hc 3 (by omega)
  have hm : num4 l = ((((l.getD 0 0).toNat * 256 + (l.getD 1 0).toNat) * 256 + (l.getD 2 0).toNat) * 256 + (l.getD 3 0).toNat) := rfl
  rw [hm]
  clear hm h hc
  generalize l.getD 0 0 = d0 at *
  generalize l.getD 1 0 = d1 at *
  generalize l.getD 2 0 = d2 at *
  generalize l.getD 3 0 = d3 at *
  clear hl
  simp only [Nat.add_zero] at c0
  have i0 : (0 : Int) < n := by omega
  have i1 : (1 : Int) < n := by omega
  have i2 : (2 : Int) < n := by omega
  have i3 : (3 : Int) < n := by omega
  go_enter Tryd.func43, Tryd.ntmps43
  go_wp2_with fail
  go_quiet (fail)
  go_wp2
  go_ret
  refine ⟨?_, _, rfl⟩
  have h0 := d0.toNat_lt
  have h1 := d1.toNat_lt
  have h2 := d2.toNat_lt
  have h3 := d3.toNat_lt
  refine congrArg (fun z => Ending.returned (.int .u64 z)) ?_
  simp only [IntKind.wrap_u64]
  omega

theorem refsum_quiet {w : World} {k n : Nat} {v : Value} {l : List UInt8} (h : Reads w 1 v n (bcells l)) :
    Calls Tryd.prog 25 #[v] (w.drewN k) fun e w'' => e = .returned (.int .u32 (sumL l : Int)) ∧ ∃ m, w'' = w.drewN m :=
  Calls.quiet_of_same ((refsum_any (w.drewN k) v n l (h.drewN k)).mono fun _ _ ⟨h1, h2⟩ => ⟨h1, h2.symm⟩)

theorem number_quiet {w : World} {k n : Nat} {v : Value} {l : List UInt8} (h : Reads w 1 v n (bcells l)) (hn : 4 ≤ n) :
    Calls Tryd.prog 43 #[v] (w.drewN k) fun e w'' => e = .returned (.int .u64 (num4 l : Int)) ∧ ∃ m, w'' = w.drewN m :=
  Calls.quiet_of ((number_any (w.drewN k) v n l (h.drewN k) hn).mono fun _ _ h => h)

def RNext (w : World) (v : Value) (b : List UInt8) (e : Ending) (w' : World) : Prop :=
  ∃ v', e = .returned (.tuple #[v', .int .i64 (nextN b : Int), .int .i64 ((nextL b).1 : Int)]) ∧ Reads w' 1 v' (nextL b).2.length (bcells (nextL b).2) ∧ (v'.ownBlock = none ∨ v'.ownBlock = v.ownBlock) ∧ Below w.heap.size w w'

theorem RNext.short {w w' : World} {v : Value} {b : List UInt8} {e : Ending} (h : b.length < 8 ∨ b.length - 8 < num4 b) (he : e = .returned (.tuple #[.slice none 0 0, .int .i64 0, .int .i64 7])) (hb : Below w.heap.size w w') : RNext w v b e w' := by
  have e1 : nextL b = (7, []) := if_pos h
  refine ⟨.slice none 0 0, ?_, ?_, .inl rfl, hb⟩
  · rw [nextN, e1]; exact he
  · rw [e1]; exact (fresh_none 0 _ 5 _).1

theorem RNext.bad {w w' : World} {v : Value} {b : List UInt8} {e : Ending} (h : ¬ (b.length < 8 ∨ b.length - 8 < num4 b)) (hs : ¬ sumL ((b.drop 8).take (num4 b)) = num4 (b.drop 4)) (he : e = .returned (.tuple #[.slice none 0 0, .int .i64 0, .int .i64 8])) (hb : Below w.heap.size w w') : RNext w v b e w' := by
  have e1 : nextL b = (8, []) := by rw [nextL, if_neg h, if_neg hs]
  refine ⟨.slice none 0 0, ?_, ?_, .inl rfl, hb⟩
  · rw [nextN, e1]; exact he
  · rw [e1]; exact (fresh_none 0 _ 5 _).1

theorem RNext.good {w w' : World} {v : Value} {b p : List UInt8} {n : Nat} {v' : Value} {e : Ending} (h : ¬ (b.length < 8 ∨ b.length - 8 < num4 b)) (hs : sumL ((b.drop 8).take (num4 b)) = num4 (b.drop 4)) (hp : (b.drop 8).take (num4 b) = p) (hn : p.length = n) (he : e = .returned (.tuple #[v', .int .i64 (8 + (n : Int)), .int .i64 0]))
    (hf : Reads w' 1 v' p.length (bcells p)) (ho : v'.ownBlock = none ∨ v'.ownBlock = v.ownBlock) (hb : Below w.heap.size w w') : RNext w v b e w' := by
  have e1 : nextL b = (0, p) := by rw [nextL, if_neg h, if_pos hs, hp]
  have e2 : nextN b = 8 + n := by rw [nextN, e1]; simp [hn]
  refine ⟨v', ?_, ?_, ho, hb⟩
  · rw [e1, e2, he]; simp
  · rw [e1]; exact hf

set_option maxRecDepth 100000 in
set_option maxHeartbeats 2000000 in
theorem refnext_any (w : World) (v : Value) (n : Nat) (l : List UInt8) (h : Reads w 1 v n (bcells l)) (hn : n ≤ 1000000000) :
    Calls Tryd.prog 34 #[v] w (RNext w v l) := by
  have hl : l.length = n := by have := h.1; simpa [bcells_length] using this
  by_cases h8 : n < 8
  · obtain ⟨a, cap, rfl, h1, h2⟩ := h.le
    unfold maxLen at h2
    have h8' : (n : Int) < 8 := by omega
    have Hl := Lib.hid hl
    clear hl h
    go_enter Tryd.func34, Tryd.ntmps34
    go_wp2
    go_ret3
    exact RNext.short (by rw [Hl.out]; omega) rfl (Below.refl _ _)
  · obtain ⟨b, off, cap, rfl, h1, h2, hl', hcell⟩ := h.head (by omega)
    clear hl' hcell
    unfold maxLen at h2
    have hnum := num4_lt l
    have h8' : ¬ (n : Int) < 8 := by omega
    by_cases hbig : n - 8 < num4 l
    · have hbig' : (n : Int) - 8 < (num4 l : Int) := by omega
      have Hl := Lib.hid hl
      have HR := Lib.hid h
      generalize hM : num4 l = M at *
      have HM := Lib.hid hM
      clear hl h hM
      go_enter Tryd.func34, Tryd.ntmps34
      go_wp2_with (go_at_call 43; go_must (refine (number_any w _ n l HR.out (by omega)).mono ?_))
      rintro e w1 ⟨rfl, m, hw1⟩
      have hb1 : Below w.heap.size w w1 := by rw [hw1]; exact below_drewN (Below.refl _ _) m
      rw [HM.out]
      clear hw1
      go_wp2
      go_ret3
      exact RNext.short (by rw [Hl.out, HM.out]; omega) rfl hb1
    · have hbig' : ¬ ((n : Int) - 8 < (num4 l : Int)) := by omega
      have r4 := h.skip 4 (by omega)
      have r8 := h.skip 8 (by omega)
      obtain ⟨a', cap', hv', _, _, rp⟩ := r8.take (num4 l) (by omega)
      cases hv'
      have hplen : ((l.drop 8).take (num4 l)).length = num4 l := by
        have := rp.1; simpa [bcells_length] using this
      generalize hP : (l.drop 8).take (num4 l) = p at *
      have HP := Lib.hid hP
      have Hpl := Lib.hid hplen
      have Hl := Lib.hid hl
      have HR := Lib.hid h
      have hnn : ¬ (l.length < 8 ∨ l.length - 8 < num4 l) := by rw [hl]; omega
      have Hnn := Lib.hid hnn
      clear hnn hP hplen r8
      generalize hM : num4 l = M at *
      have HM := Lib.hid hM
      have R4 := Lib.hid r4
      have RP := Lib.hid rp
      clear r4 rp hl h hM
      have hs2 := num4_lt (l.drop 4)
      have hs1 := sumL_lt p
      have hways : (((sumL p : Int) != (num4 (l.drop 4) : Int)) = false ∧ sumL p = num4 (l.drop 4)) ∨ (((sumL p : Int) != (num4 (l.drop 4) : Int)) = true ∧ ¬ sumL p = num4 (l.drop 4)) := by
        by_cases hh : sumL p = num4 (l.drop 4)
        · exact .inl ⟨by simp [hh], hh⟩
        · exact .inr ⟨by simp; omega, hh⟩
      by_cases hc8 : cap = 8
      · have hn8 : n = 8 := by omega
        have hM0 : M = 0 := by omega
        subst hM0
        subst hn8
        subst hc8
        have hp0 : p = [] := List.eq_nil_of_length_eq_zero Hpl.out
        subst hp0
        have rn : Reads w 1 (.slice (some ⟨b, off, none⟩) 0 0) 0 (bcells []) := ⟨rfl, _, 0, rfl, Nat.le_refl _, Nat.zero_le _, fun j u h => by simp [bcells] at h⟩
        have RN := Lib.hid rn
        clear rn
        rcases hways with ⟨hw, hh⟩ | ⟨hw, hh⟩
        · have Hh := Lib.hid hh
          have Hwr := Lib.hid (show IntKind.u64.wrap (sumL [] : Int) = (sumL [] : Int) from by rw [IntKind.wrap_u64]; omega)
          clear hh hs1 hs2
          go_enter Tryd.func34, Tryd.ntmps34
          go_wp2_with (go_at_call 43; go_must (refine (number_any w _ 8 l HR.out (by omega)).mono ?_))
          rintro e w1 ⟨rfl, m, hw1⟩
          have hb1 : Below w.heap.size w w1 := by rw [hw1]; exact below_drewN (Below.refl _ _) m
          rw [HM.out]
          clear hw1
          have R1 := Lib.hid (HR.out.below' hb1)
          go_wp2_with (go_at_call 43; go_must (refine (number_any w1 _ 8 l R1.out (by omega)).mono ?_))
          rintro e w2 ⟨rfl, m2, hw2⟩
          have hb2 : Below w.heap.size w w2 := by rw [hw2]; exact below_drewN hb1 m2
          rw [HM.out]
          clear hw2
          have rp2 := Lib.hid (RN.out.below' hb2)
          have r42 := Lib.hid (R4.out.below' hb2)
          go_wp2_with fail
          have hwr := Hwr.out
          go_quiet (first | (go_at_call 25; exact refsum_quiet rp2.out) | (go_at_call 43; exact number_quiet r42.out (by omega)))
          clear hwr
          go_wp2
          go_ret3
          exact RNext.good (p := []) (by rw [HM.out]; exact Hnn.out) (by rw [HM.out, HP.out]; exact Hh.out) (by rw [HM.out]; exact HP.out) rfl rfl (rp2.out.drewN nq) (.inr rfl) (below_drewN hb2 nq)
        · have Hh := Lib.hid hh
          have Hwr := Lib.hid (show IntKind.u64.wrap (sumL [] : Int) = (sumL [] : Int) from by rw [IntKind.wrap_u64]; omega)
          clear hh hs1 hs2
          go_enter Tryd.func34, Tryd.ntmps34
          go_wp2_with (go_at_call 43; go_must (refine (number_any w _ 8 l HR.out (by omega)).mono ?_))
          rintro e w1 ⟨rfl, m, hw1⟩
          have hb1 : Below w.heap.size w w1 := by rw [hw1]; exact below_drewN (Below.refl _ _) m
          rw [HM.out]
          clear hw1
          have R1 := Lib.hid (HR.out.below' hb1)
          go_wp2_with (go_at_call 43; go_must (refine (number_any w1 _ 8 l R1.out (by omega)).mono ?_))
          rintro e w2 ⟨rfl, m2, hw2⟩
          have hb2 : Below w.heap.size w w2 := by rw [hw2]; exact below_drewN hb1 m2
          rw [HM.out]
          clear hw2
          have rp2 := Lib.hid (RN.out.below' hb2)
          have r42 := Lib.hid (R4.out.below' hb2)
          go_wp2_with fail
          have hwr := Hwr.out
          go_quiet (first | (go_at_call 25; exact refsum_quiet rp2.out) | (go_at_call 43; exact number_quiet r42.out (by omega)))
          clear hwr
          go_wp2
          go_ret3
          exact RNext.bad (by rw [HM.out]; exact Hnn.out) (by rw [HM.out, HP.out]; exact Hh.out) rfl (below_drewN hb2 nq)
      · have hc8' : ¬ ((cap : Int) = 8) := by omega
        have hc4' : ¬ ((cap : Int) = 4) := by omega
        have e1 : (8 : Int) + M ≤ n := by omega
        have hM9 : M ≤ 1000000000 := by omega
        rcases hways with ⟨hw, hh⟩ | ⟨hw, hh⟩
        · have Hh := Lib.hid hh
          have Hwr := Lib.hid (show IntKind.u64.wrap (sumL p : Int) = (sumL p : Int) from by rw [IntKind.wrap_u64]; omega)
          clear hh hs1 hs2
          go_enter Tryd.func34, Tryd.ntmps34
          go_wp2_with (go_at_call 43; go_must (refine (number_any w _ n l HR.out (by omega)).mono ?_))
          rintro e w1 ⟨rfl, m, hw1⟩
          have hb1 : Below w.heap.size w w1 := by rw [hw1]; exact below_drewN (Below.refl _ _) m
          rw [HM.out]
          clear hw1
          have R1 := Lib.hid (HR.out.below' hb1)
          go_wp2_with (go_at_call 43; go_must (refine (number_any w1 _ n l R1.out (by omega)).mono ?_))
          rintro e w2 ⟨rfl, m2, hw2⟩
          have hb2 : Below w.heap.size w w2 := by rw [hw2]; exact below_drewN hb1 m2
          rw [HM.out]
          clear hw2
          have rp2 := Lib.hid (RP.out.below' hb2)
          have r42 := Lib.hid (R4.out.below' hb2)
          go_wp2_with fail
          have hwr := Hwr.out
          go_quiet (first | (go_at_call 25; exact refsum_quiet rp2.out) | (go_at_call 43; exact number_quiet r42.out (by omega)))
          clear hwr
          go_wp2
          go_ret3
          exact RNext.good (by rw [HM.out]; exact Hnn.out) (by rw [HM.out, HP.out]; exact Hh.out) (by rw [HM.out]; exact HP.out) Hpl.out rfl (by rw [Hpl.out]; exact (show Reads (w2.drewN nq) 1 (.slice (some ⟨b, off + 8, none⟩) (8 + M - 8) (cap - 8)) M (bcells p) from by rw [show 8 + M - 8 = M by omega]; exact rp2.out.drewN nq)) (.inr rfl) (below_drewN hb2 nq)
        · have Hh := Lib.hid hh
          have Hwr := Lib.hid (show IntKind.u64.wrap (sumL p : Int) = (sumL p : Int) from by rw [IntKind.wrap_u64]; omega)
          clear hh hs1 hs2
          go_enter Tryd.func34, Tryd.ntmps34
          go_wp2_with (go_at_call 43; go_must (refine (number_any w _ n l HR.out (by omega)).mono ?_))
          rintro e w1 ⟨rfl, m, hw1⟩
          have hb1 : Below w.heap.size w w1 := by rw [hw1]; exact below_drewN (Below.refl _ _) m
          rw [HM.out]
          clear hw1
          have R1 := Lib.hid (HR.out.below' hb1)
          go_wp2_with (go_at_call 43; go_must (refine (number_any w1 _ n l R1.out (by omega)).mono ?_))
          rintro e w2 ⟨rfl, m2, hw2⟩
          have hb2 : Below w.heap.size w w2 := by rw [hw2]; exact below_drewN hb1 m2
          rw [HM.out]
          clear hw2
          have rp2 := Lib.hid (RP.out.below' hb2)
          have r42 := Lib.hid (R4.out.below' hb2)
          go_wp2_with fail
          have hwr := Hwr.out
          go_quiet (first | (go_at_call 25; exact refsum_quiet rp2.out) | (go_at_call 43; exact number_quiet r42.out (by omega)))
          clear hwr
          go_wp2
          go_ret3
          exact RNext.bad (by rw [HM.out]; exact Hnn.out) (by rw [HM.out, HP.out]; exact Hh.out) rfl (below_drewN hb2 nq)
end Go.Proofs.YtoibhkmlebcepaaDoor

namespace Go.Proofs.YtoibhkmlebcepaaDoor
open Go Go.RowKit

set_option maxRecDepth 100000 in
set_option maxHeartbeats 4000000 in
theorem refreplay_any (w : World) (v : Value) (b : List UInt8) (hs : Sl w.heap.size w v b) (hb : b.length ≤ 1000000) :
    Calls Tryd.prog 17 #[v] w (RepPost w b) := by
  obtain ⟨i0, hi, hz0, hz1, hz2⟩ := info_parts info25
  have HS := Lib.hid hs
  rcases hs with ⟨⟨ax, rfl⟩, rfl⟩ | ⟨bb, off, vcap, rfl, hbB, hbw, hrd⟩
  · rcases ax with _ | ax
    all_goals
      have HB := Lib.hid (Below.refl w.heap.size w)
      have hnx := refnext_any w _ _ _ (HS.out.reads) (by first | omega | simp)
      have hst := repl_stop (p := none) (b := []) (by rw [next_nil]; decide)
      have HN := Lib.hid hnx
      have HSp := Lib.hid hst
      clear hnx hst
      go_enter Tryd.func17, Tryd.ntmps17
      go_wp2
      refine wp_loop_rounds 1 ?_
      rw [rounds_succ]
      go_wp2_with (go_at_call 34; go_must (refine HN.out.mono ?_))
      rintro e w1 ⟨v1, rfl, o1, ob1, b1⟩
      rw [next_nil]
      have HB1 := Lib.hid b1
      clear b1 ob1 o1
      go_wp2
      go_ret2
      refine ⟨.slice none 0 0, ?_, ?_, HB1.out⟩
      · rw [HSp.out]; rfl
      · rw [HSp.out]; exact CRows.nil _ _
  · obtain ⟨_, _, hv, hc1, hc2⟩ := hrd.le
    cases hv
    unfold maxLen at hc2
    clear hrd
    go_enter Tryd.func17, Tryd.ntmps17
    go_wp2
    go_loopw [4, 5] (fun lv av wr => RepRel w b lv av wr) (fun _ av _ => b.length + 1 - (intOf av).toNat)
    case atStart => exact ⟨[], 0, rfl, ⟨by simp [lastR_nil], Nat.zero_le _, Nat.zero_le _, fun c hc => by simp at hc⟩, CRows.nil _ _, Below.refl _ _⟩
    case round =>
      obtain ⟨cs, k, rfl, hinv, hcr, hbw2⟩ := hrel
      obtain ⟨la, lcap, rfl, hlc1, hlc2⟩ := hcr.form
      unfold maxLen at hlc2
      have hcsl : cs.length ≤ k := hinv.2.1
      have hkb : k ≤ b.length := hinv.2.2.1
      have hkbI : (k : Int) ≤ b.length := by omega
      have hcut := (HS.out.cut hkb).below hbw2
      rw [cutV_some] at hcut
      have HI := Lib.hid hinv
      have HC := Lib.hid hcr
      have HB := Lib.hid hbw2
      clear hinv hcr hbw2
      have hbs := HB.out.size
      by_cases hck : vcap = k
      · have hz1' : b.length - k = 0 := by omega
        have hz2' : vcap - k = 0 := by omega
        have hd0 : b.drop k = [] := List.eq_nil_of_length_eq_zero (by rw [List.length_drop]; omega)
        have hbl : b.length = k := by omega
        rw [if_pos hck, hz1', hz2', hd0] at hcut
        have hnx := refnext_any wr _ _ _ (hcut.reads) (by first | omega | simp)
        have hst := HI.out.stop (by rw [hd0]; exact repl_stop (by rw [next_nil]; decide))
        have HN := Lib.hid hnx
        have HSp := Lib.hid hst
        clear hnx hst hcut hd0 hz1' hz2' HI
        subst hck
        rw [hbl]
        go_wp2_with (go_at_call 34; go_must (refine HN.out.mono ?_))
        rintro e w1 ⟨v1, rfl, o1, ob1, b1⟩
        rw [next_nil]
        have HC1 := Lib.hid (HC.out.below b1)
        have HB1 := Lib.hid (HB.out.trans (b1.mono hbs))
        clear b1 ob1 o1 HC HB
        go_wp2
        go_ret2
        refine ⟨.slice la cs.length lcap, ?_, ?_, HB1.out⟩
        · rw [HSp.out]; rfl
        · rw [HSp.out]; exact HC1.out
      · have hckI : ¬ ((vcap : Int) = k) := by omega
        have hle1 : ((b.length - k : Nat) : Int) = (b.length : Int) - k := by omega
        have hle2 : ((vcap - k : Nat) : Int) = (vcap : Int) - k := by omega
        rw [if_neg hck] at hcut
        have hdl : (b.drop k).length = b.length - k := List.length_drop
        have hnx := refnext_any wr _ _ _ (hcut.reads) (by first | omega | simp)
        have HN := Lib.hid hnx
        clear hnx hcut
        by_cases hn0 : (nextL (b.drop k)).1 = 0
        · have hnok := nextL_ok hn0
          have hN0 := Lib.hid hn0
          go_wp2_with (go_at_call 34; go_must (refine HN.out.mono ?_))
          rintro e w1 ⟨v1, rfl, o1, ob1, b1⟩
          rw [hN0.out]
          have HC1 := Lib.hid (HC.out.below b1)
          have HB1 := Lib.hid (HB.out.trans (b1.mono hbs))
          have hbs1 := HB1.out.size
          have hdc := refdecode_reads w1 v1 (nextL (b.drop k)).2 o1 (by omega)
          have HD := Lib.hid hdc
          clear b1 ob1 o1 hdc HC HB HN
          go_wp2_with (go_at_call 15; go_must (refine HD.out.mono ?_))
          intro e w2 hp2
          rcases dec_case hp2 with ⟨hnone, rfl, b2⟩ | ⟨rev, es, hsome, ea, ecap, rfl, o2, b2⟩
          · have hst := HI.out.stop (repl_bad hN0.out hnone)
            have HSp := Lib.hid hst
            have HC2 := Lib.hid (HC1.out.below b2)
            have HB2 := Lib.hid (HB1.out.trans (b2.mono hbs1))
            clear hp2 hnone b2 hst HC1 HB1 HI HD hn0
            go_wp2
            go_quiet (fail)
            go_wp2
            go_ret2
            refine ⟨.slice la cs.length lcap, ?_, ?_, below_drewN (HB2.out.alloc HB2.out.size _) _⟩
            · rw [HSp.out]; rfl
            · rw [HSp.out]; exact HC2.out.below (below_drewN ((Below.refl _ _).alloc (Nat.le_refl _) _) _)
          · obtain ⟨hright, hrev⟩ := dec_right hsome
            have hrev1 : 1 ≤ rev := (right_keys hright).2.2.1
            have hmore := fun hf => HI.out.more hN0.out hsome hf
            have hgap := fun hf => HI.out.stop (repl_gap hN0.out hsome hf)
            have hrevs := fun c hc => HI.out.2.2.2 c hc
            have HMo := Lib.hid hmore
            have HGp := Lib.hid hgap
            have HC2 := Lib.hid (HC1.out.below b2)
            have HB2 := Lib.hid (HB1.out.trans (b2.mono hbs1))
            have HO2 := Lib.hid (owns_mono o2 hbs1)
            have HX2 := Lib.hid (heap_alloc_new w2 (.cells #[.int .u64 (rev : Int), .slice ea es.length ecap] 25))
            clear hp2 hsome hright hmore hgap b2 o2 HC1 HB1 HI HD hn0
            have hnn : nextN (b.drop k) = 8 + (nextL (b.drop k)).2.length := hnok.2.1
            rcases follows_cases cs rev with ⟨hnil, hft⟩ | ⟨c, _, hcl, hpos, hfe⟩
            · subst hnil
              go_wp2
              go_quiet (fail)
              have hqn : Below (w2.alloc (.cells #[.int .u64 (rev : Int), .slice ea es.length ecap] 25)).heap.size (w2.alloc (.cells #[.int .u64 (rev : Int), .slice ea es.length ecap] 25)) ((w2.alloc (.cells #[.int .u64 (rev : Int), .slice ea es.length ecap] 25)).drewN nq) := below_drewN (Below.refl _ _) nq
              have HC5 := Lib.hid ((HC2.out.grown (.cells #[.int .u64 (rev : Int), .slice ea es.length ecap] 25)).below hqn)
              have HB5 := Lib.hid ((HB2.out.alloc HB2.out.size (.cells #[.int .u64 (rev : Int), .slice ea es.length ecap] 25)).trans (hqn.mono (by have := HB2.out.size; simp; omega)))
              have HO5 := Lib.hid (owns_below (HO2.out.alloc (.cells #[.int .u64 (rev : Int), .slice ea es.length ecap] 25)) hqn)
              have hx5 := below_block hqn HX2.out (Array.getElem?_eq_some_iff.1 HX2.out).1
              clear hqn HC2 HB2 HO2 HX2
              generalize (w2.alloc (.cells #[.int .u64 (rev : Int), .slice ea es.length ecap] 25)).drewN nq = w5 at *
              have y0 := Lib.cell_of_heap hx5 0
              have y1 := Lib.cell_of_heap hx5 1
              have hgl5 := (Array.getElem?_eq_some_iff.1 hx5).1
              simp at y0 y1
              clear hx5
              obtain ⟨svs, hv1, hv2, hv3⟩ := HC5.out
              have hbs5 := HB5.out.size
              go_wp2_with (at_builtin; go_must (refine wpList_append_rows_at (w0 := w5) rfl _ _ 37 rfl w.heap.size 25 i0 _ 2 32 Tryd.underlying37 hi hz0 hz1 hz2 rfl [.int .u64 (rev : Int), .slice ea es.length ecap] 1 rfl rfl hv2 rfl rfl ?_ ?_ ?_ hbs5 ?_))
              · intro u hu
                simp at hu
                rcases hu with rfl | rfl <;> rfl
              · unfold maxLen; omega
              · omega
              intro v6 w6 o6 g6 b6 _
              have hpush := CRows.push hv1 hv2 hv3 rfl HO5.out g6 o6
              have HP6 := Lib.hid hpush
              have HB6 := Lib.hid (HB5.out.trans b6)
              clear hpush o6 g6 b6 y0 y1 hv1 hv2 hv3 HC5 HB5 HO5
              go_wp2
              exact ⟨⟨_, _, by rw [hnn]; simp [Int.add_assoc], HMo.out hft, HP6.out, HB6.out⟩, by simp [intOf]; omega⟩
            · obtain ⟨m, hm⟩ : ∃ m, cs.length = m + 1 := ⟨cs.length - 1, by omega⟩
              have hcb := hrevs c (List.mem_of_getElem? hcl)
              rw [hm, Nat.add_sub_cancel] at hcl
              obtain ⟨g, gcap, gsv, hgv, hg1, hg2, hgl, gc0, gc1, _⟩ := HC2.out.rev hcl
              have hw2a : ∀ o, (w2.alloc o).cell? ⟨g, m * 2, none⟩ = some (.int .u64 (c.1 : Int)) := fun o => (((Below.refl _ w2).alloc (Nat.le_refl _) o).cell (p := ⟨g, m * 2, none⟩) hgl).trans gc0
              cases hgv
              have gc2 := hw2a (.cells #[.int .u64 (rev : Int), .slice ea es.length ecap] 25)
              have hmI : ((cs.length : Nat) : Int) = (m : Int) + 1 := by omega
              have hposI : (0 : Int) < cs.length := by omega
              have hglt : g < w2.heap.size := hgl
              have hmw : IntKind.i64.wrap (m : Int) = (m : Int) := by rw [IntKind.wrap_i64]; omega
              have hmidx : (m : Int) < (m : Int) + 1 := by omega
              clear hw2a gc0 gc1 hg1 hg2
              by_cases hf : rev = c.1 + 1
              · have hft : follows (lastR cs) rev = true := by rw [hfe, decide_eq_true hf]
                have hneI : ((rev : Int) - 1 != (c.1 : Int)) = false := by simp; omega
                have hr0I : ((rev : Int) == 0) = false := by simp; omega
                have hrw : IntKind.u64.wrap ((rev : Int) - 1) = (rev : Int) - 1 := by rw [IntKind.wrap_u64]; omega
                have hcI : (c.1 : Int) + 1 < 18446744073709551616 := by omega
                have HFt := Lib.hid hft
                clear hft hfe hf
                go_wp2
                go_quiet (fail)
                have hqn : Below (w2.alloc (.cells #[.int .u64 (rev : Int), .slice ea es.length ecap] 25)).heap.size (w2.alloc (.cells #[.int .u64 (rev : Int), .slice ea es.length ecap] 25)) ((w2.alloc (.cells #[.int .u64 (rev : Int), .slice ea es.length ecap] 25)).drewN nq) := below_drewN (Below.refl _ _) nq
                have HC5 := Lib.hid ((HC2.out.grown (.cells #[.int .u64 (rev : Int), .slice ea es.length ecap] 25)).below hqn)
                have HB5 := Lib.hid ((HB2.out.alloc HB2.out.size (.cells #[.int .u64 (rev : Int), .slice ea es.length ecap] 25)).trans (hqn.mono (by have := HB2.out.size; simp; omega)))
                have HO5 := Lib.hid (owns_below (HO2.out.alloc (.cells #[.int .u64 (rev : Int), .slice ea es.length ecap] 25)) hqn)
                have hx5 := below_block hqn HX2.out (Array.getElem?_eq_some_iff.1 HX2.out).1
                clear hqn HC2 HB2 HO2 HX2
                generalize (w2.alloc (.cells #[.int .u64 (rev : Int), .slice ea es.length ecap] 25)).drewN nq = w5 at *
                have y0 := Lib.cell_of_heap hx5 0
                have y1 := Lib.cell_of_heap hx5 1
                have hgl5 := (Array.getElem?_eq_some_iff.1 hx5).1
                simp at y0 y1
                clear hx5
                have hC5v := HC5.out
                rw [hm] at hC5v
                obtain ⟨svs, hv1, hv2, hv3⟩ := hC5v
                have hbs5 := HB5.out.size
                go_wp2_with (at_builtin; go_must (refine wpList_append_rows_at (w0 := w5) rfl _ _ 37 rfl w.heap.size 25 i0 _ 2 32 Tryd.underlying37 hi hz0 hz1 hz2 rfl [.int .u64 (rev : Int), .slice ea es.length ecap] 1 rfl rfl hv2 rfl rfl ?_ ?_ ?_ hbs5 ?_))
                · intro u hu
                  simp at hu
                  rcases hu with rfl | rfl <;> rfl
                · unfold maxLen; omega
                · omega
                intro v6 w6 o6 g6 b6 _
                rw [← hm] at o6 hv2 g6
                have hpush := CRows.push hv1 hv2 hv3 rfl HO5.out g6 o6
                have HP6 := Lib.hid hpush
                have HB6 := Lib.hid (HB5.out.trans b6)
                clear hpush o6 g6 b6 y0 y1 hv1 hv2 hv3 HC5 HB5 HO5
                go_wp2
                exact ⟨⟨_, _, by rw [hnn]; simp [Int.add_assoc], HMo.out HFt.out, HP6.out, HB6.out⟩, by simp [intOf]; omega⟩
              · have hff : follows (lastR cs) rev = false := by rw [hfe, decide_eq_false hf]
                have HSp := Lib.hid (HGp.out hff)
                have hneI : ((rev : Int) - 1 != (c.1 : Int)) = true := by simp; omega
                have hr0I : ((rev : Int) == 0) = false := by simp; omega
                have hrw : IntKind.u64.wrap ((rev : Int) - 1) = (rev : Int) - 1 := by rw [IntKind.wrap_u64]; omega
                clear hff hfe hf
                go_wp2
                go_quiet (fail)
                go_wp2
                go_ret2
                refine ⟨.slice (some ⟨g, 0, none⟩) (m + 1) lcap, ?_, ?_, below_drewN (HB2.out.alloc HB2.out.size _) _⟩
                · rw [HSp.out]; rfl
                · rw [HSp.out, ← hm]; exact HC2.out.below (below_drewN ((Below.refl _ _).alloc (Nat.le_refl _) _) _)
        · have hst := HI.out.stop (repl_stop hn0)
          have HSp := Lib.hid hst
          have hneI : (((nextL (b.drop k)).1 : Int) != 0) = true := by simp; omega
          clear hst hn0 HI
          go_wp2_with (go_at_call 34; go_must (refine HN.out.mono ?_))
          rintro e w1 ⟨v1, rfl, o1, ob1, b1⟩
          have HC1 := Lib.hid (HC.out.below b1)
          have HB1 := Lib.hid (HB.out.trans (b1.mono hbs))
          clear b1 ob1 o1 HC HB HN
          go_wp2
          go_ret2
          refine ⟨.slice la cs.length lcap, ?_, ?_, HB1.out⟩
          · rw [HSp.out]; rfl
          · rw [HSp.out]; exact HC1.out
end Go.Proofs.YtoibhkmlebcepaaDoor

namespace Go.Proofs.YtoibhkmlebcepaaDoor
open Go Go.RowKit

def SameRel (w : World) (rev : Nat) (va vb : Value) (n : Nat) (i : Value) (wr : World) : Prop :=
  ∃ k : Nat, i = .int .i64 (k : Int) ∧ k ≤ n ∧ Below w.heap.size w wr ∧ wr.heap[w.heap.size]? = some (.cells #[.int .u64 (rev : Int), va] 25 (0, 0)) ∧ wr.heap[w.heap.size + 1]? = some (.cells #[.int .u64 (rev : Int), vb] 25 (0, 0))

theorem two_boxes (w : World) (c d : Array Value) (t u : TypeId) :
    ((w.alloc (.cells c t)).alloc (.cells d u)).heap[w.heap.size]? = some (.cells c t (0, 0)) ∧ ((w.alloc (.cells c t)).alloc (.cells d u)).heap[w.heap.size + 1]? = some (.cells d u (0, 0)) := by
  refine ⟨(heap_alloc_old _ _ (by simp)).trans (heap_alloc_new w _), ?_⟩
  have := heap_alloc_new (w.alloc (.cells c t)) (.cells d u)
  simpa using this

set_option maxRecDepth 100000 in
set_option maxHeartbeats 1000000 in
theorem same_any (w : World) (rev : Nat) (a a2 : Option Addr) (n cap cap2 : Nat) (es : List Ent) (h : Reads w 3 (.slice a n cap) n (ecells es)) (h2 : Reads w 3 (.slice a2 n cap2) n (ecells es)) (hl : es.length = n) :
    Calls Tryd.prog 14 #[.agg #[.int .u64 (rev : Int), .slice a n cap], .agg #[.int .u64 (rev : Int), .slice a2 n cap2]] w (GivesVal w (.bool true)) := by
  have HL := Lib.hid hl
  have HR := Lib.hid h
  have HR2 := Lib.hid h2
  obtain ⟨_, _, hv, hc1, hc2⟩ := h.le
  cases hv
  obtain ⟨_, _, hv, hc3, hc4⟩ := h2.le
  cases hv
  unfold maxLen at hc2 hc4
  have hB : Below w.heap.size w ((w.alloc (.cells #[.int .u64 (rev : Int), .slice a n cap] 25)).alloc (.cells #[.int .u64 (rev : Int), .slice a2 n cap2] 25)) :=
    ((Below.refl _ w).alloc (Nat.le_refl _) _).alloc (by simp) _
  have hG := two_boxes w #[.int .u64 (rev : Int), .slice a n cap] #[.int .u64 (rev : Int), .slice a2 n cap2] 25 25
  have HB := Lib.hid hB
  have HG := Lib.hid hG
  clear h h2 hl hB hG
  go_enter Tryd.func14, Tryd.ntmps14
  go_wp2
  go_loopw [23] (fun i wr => SameRel w rev (.slice a n cap) (.slice a2 n cap2) n i wr) (fun i _ => n - (intOf i).toNat)
  case atStart => exact ⟨0, rfl, Nat.zero_le _, HB.out, HG.out⟩
  case round =>
    obtain ⟨k, rfl, hk, hb, hg, hg2⟩ := hrel
    have hbs := hb.size
    have q0 := Lib.cell_of_heap hg 0
    have q1 := Lib.cell_of_heap hg 1
    have p0 := Lib.cell_of_heap hg2 0
    have p1 := Lib.cell_of_heap hg2 1
    simp at q0 q1 p0 p1
    have hlt0 : w.heap.size < wr.heap.size := (Array.getElem?_eq_some_iff.1 hg).1
    have hlt1 : w.heap.size + 1 < wr.heap.size := (Array.getElem?_eq_some_iff.1 hg2).1
    clear HB HG
    have HB := Lib.hid hb
    have HG := Lib.hid hg
    have HG2 := Lib.hid hg2
    clear hb hg hg2
    by_cases hlt : k < n
    · obtain ⟨x, hx⟩ : ∃ x, es[k]? = some x := ⟨es[k]'(by rw [HL.out]; exact hlt), List.getElem?_eq_getElem _⟩
      obtain ⟨g, off, rfl, hgl, c0, c1, c2⟩ := ent_cells (HR.out.below' HB.out) hx
      obtain ⟨g2, off2, rfl, hgl2, d0, d1, d2⟩ := ent_cells (HR2.out.below' HB.out) hx
      have hkI : (k : Int) < n := by omega
      obtain ⟨key, r, d⟩ := x
      dsimp only at c0 c1 c2 d0 d1 d2
      clear hx
      go_wp2
      go_quiet (fail)
      have hqn := below_drewN (Below.refl wr.heap.size wr) nq
      replace HB := Lib.hid (HB.out.trans (hqn.mono HB.out.size))
      replace HG := Lib.hid (below_block hqn HG.out (Array.getElem?_eq_some_iff.1 HG.out).1)
      replace HG2 := Lib.hid (below_block hqn HG2.out (Array.getElem?_eq_some_iff.1 HG2.out).1)
      clear hqn
      clear q0 q1 p0 p1 c0 c1 c2 d0 d1 d2 hgl hgl2
      generalize wr.drewN nq = w5 at *
      go_wp2
      exact ⟨⟨k + 1, by go_num, by omega, HB.out, HG.out, HG2.out⟩, by simp [intOf]; omega⟩
    · obtain rfl : k = n := by omega
      have hkI : ¬ ((k : Int) < k) := by omega
      go_wp2
      go_ret
      exact ⟨rfl, HB.out⟩

/-- A slice of commits that can be looked at. -/
def CSee (w : World) (v : Value) (cs : List (Nat × List Ent)) : Prop :=
  ∃ a cap, v = .slice a cs.length cap ∧ cs.length ≤ cap ∧ cap ≤ maxLen ∧ ∀ (i : Nat) (c : Nat × List Ent), cs[i]? = some c → ∃ g sa scap, a = some ⟨g, 0, none⟩ ∧ g < w.heap.size ∧ w.cell? ⟨g, i * 2, none⟩ = some (.int .u64 (c.1 : Int)) ∧ w.cell? ⟨g, i * 2 + 1, none⟩ = some (.slice sa c.2.length scap) ∧ Reads w 3 (.slice sa c.2.length scap) c.2.length (ecells c.2)

theorem CSee.below {w w' : World} {v : Value} {cs : List (Nat × List Ent)} (h : CSee w v cs) (hb : Below w.heap.size w w') : CSee w' v cs := by
  obtain ⟨a, cap, hv, h1, h2, h3⟩ := h
  refine ⟨a, cap, hv, h1, h2, fun i c hi => ?_⟩
  obtain ⟨g, sa, scap, ha, hg, c0, c1, hr⟩ := h3 i c hi
  exact ⟨g, sa, scap, ha, by have := hb.size; omega, (hb.cell (p := ⟨g, i * 2, none⟩) hg).trans c0, (hb.cell (p := ⟨g, i * 2 + 1, none⟩) hg).trans c1, hr.below' hb⟩

theorem CRows.see {B : Nat} {w : World} {v : Value} {cs : List (Nat × List Ent)} (h : CRows B w v cs) : CSee w v cs := by
  obtain ⟨a, cap, rfl, h1, h2⟩ := h.form
  refine ⟨a, cap, rfl, h1, h2, fun i c hi => ?_⟩
  obtain ⟨g, cap', sv, hv, _, _, hg, c0, c1, sa, scap, rfl, ho⟩ := h.rev hi
  cases hv
  exact ⟨g, sa, scap, rfl, hg, c0, c1, ownsRow.reads ho⟩

def AllRel (w : World) (n : Nat) (i : Value) (wr : World) : Prop := ∃ k : Nat, i = .int .i64 (k : Int) ∧ k ≤ n ∧ Below w.heap.size w wr

set_option maxRecDepth 100000 in
set_option maxHeartbeats 1000000 in
theorem sameall_any (w : World) (v v2 : Value) (cs : List (Nat × List Ent)) (h : CSee w v cs) (h2 : CSee w v2 cs) :
    Calls Tryd.prog 18 #[v, v2] w (GivesVal w (.bool true)) := by
  have hm : Tryd.prog.follows .mixedOrders = true := rfl
  obtain ⟨a, cap, rfl, hc1, hc2, hs⟩ := h
  obtain ⟨a2, cap2, rfl, hc3, hc4, hs2⟩ := h2
  unfold maxLen at hc2 hc4
  have HS := Lib.hid hs
  have HS2 := Lib.hid hs2
  have HB := Lib.hid (Below.refl w.heap.size w)
  clear hs hs2
  generalize hn : cs.length = n at *
  have HN := Lib.hid hn
  clear hn
  go_enter Tryd.func18, Tryd.ntmps18
  go_wp2
  go_loopw [13] (fun i wr => AllRel w n i wr) (fun i _ => n - (intOf i).toNat)
  case atStart => exact ⟨0, rfl, Nat.zero_le _, HB.out⟩
  case round =>
    obtain ⟨k, rfl, hk, hb⟩ := hrel
    have hbs := hb.size
    clear HB
    have HB := Lib.hid hb
    clear hb
    by_cases hlt : k < n
    · obtain ⟨c, hx⟩ : ∃ x, cs[k]? = some x := ⟨cs[k]'(by rw [HN.out]; exact hlt), List.getElem?_eq_getElem _⟩
      obtain ⟨g, sa, scap, rfl, hg, c0, c1, hr⟩ := HS.out k c hx
      obtain ⟨g2, sa2, scap2, rfl, hg2, d0, d1, hr2⟩ := HS2.out k c hx
      have hkI : (k : Int) < n := by omega
      obtain ⟨rev, es⟩ := c
      dsimp only at c0 c1 d0 d1 hr hr2
      have hw0 := (HB.out.cell (p := ⟨g, k * 2, none⟩) hg).trans c0
      have hw1 := (HB.out.cell (p := ⟨g, k * 2 + 1, none⟩) hg).trans c1
      have hw2 := (HB.out.cell (p := ⟨g2, k * 2, none⟩) hg2).trans d0
      have hw3 := (HB.out.cell (p := ⟨g2, k * 2 + 1, none⟩) hg2).trans d1
      have hrr := hr.below' HB.out
      have hrr2 := hr2.below' HB.out
      have hgl : g < wr.heap.size := by omega
      have hgl2 : g2 < wr.heap.size := by omega
      generalize hmm : es.length = m at *
      clear hx c0 c1 d0 d1 hr hr2 hg hg2 HS HS2
      go_wp2_with fail
      refine wp_region_all (by kernel_rfl) [eqF (.slice (some ⟨g, 0, none⟩) n cap), eqF (.int .i64 (k : Int)), eqF (.pointer (some ⟨g, k * 2, none⟩)), eqF (.agg #[.int .u64 (rev : Int), .slice sa m scap]), eqF (.slice (some ⟨g2, 0, none⟩) n cap2), eqF (.int .i64 (k : Int)), eqF (.pointer (some ⟨g2, k * 2, none⟩)), eqF (.agg #[.int .u64 (rev : Int), .slice sa2 m scap2]), eqF (.bool true), eqF (.bool false)] (by kernel_rfl) ⟨?_, ?_, ?_, ?_, ?_, ?_, ?_, ?_, ?_, ?_, trivial⟩ ⟨trivial, trivial, trivial, trivial, trivial, trivial, trivial, trivial, trivial, trivial, trivial⟩ ?_
      · intro ρ wx hρ hbx hl
        have e0 : ρ (.tmp 0) = .slice (some ⟨g, 0, none⟩) n cap := hρ.tmp 0 (by decide +kernel)
        refine y_val (v := .slice (some ⟨g, 0, none⟩) n cap) ?_ rfl
        simp [execOp, go_sem, e0]
      · intro ρ wx hρ hbx hl
        have e5 : ρ (.tmp 5) = .int .i64 (k : Int) := hρ.tmp 5 (by decide +kernel)
        refine y_val (v := .int .i64 (k : Int)) ?_ rfl
        simp [execOp, go_sem, e5]
      · intro ρ wx hρ hbx hl
        have e16 : ρ (.tmp 16) = .slice (some ⟨g, 0, none⟩) n cap := hl 0 (by decide +kernel) 16 rfl
        have e17 : ρ (.tmp 17) = .int .i64 (k : Int) := hl 1 (by decide +kernel) 17 rfl
        refine y_val (v := .pointer (some ⟨g, k * 2, none⟩)) ?_ rfl
        simp [execOp, go_sem, e16, e17]
        first | done | omega | (intro h; omega)
      · intro ρ wx hρ hbx hl
        have e18 : ρ (.tmp 18) = .pointer (some ⟨g, k * 2, none⟩) := hl 2 (by decide +kernel) 18 rfl
        have k0 := (hbx.cell (p := ⟨g, k * 2, none⟩) hgl).trans hw0
        have k1 := (hbx.cell (p := ⟨g, k * 2 + 1, none⟩) hgl).trans hw1
        refine y_val (v := .agg #[.int .u64 (rev : Int), .slice sa m scap]) ?_ rfl
        simp [execOp, go_sem, e18, k0, k1]
      · intro ρ wx hρ hbx hl
        have e1 : ρ (.tmp 1) = .slice (some ⟨g2, 0, none⟩) n cap2 := hρ.tmp 1 (by decide +kernel)
        refine y_val (v := .slice (some ⟨g2, 0, none⟩) n cap2) ?_ rfl
        simp [execOp, go_sem, e1]
      · intro ρ wx hρ hbx hl
        have e5 : ρ (.tmp 5) = .int .i64 (k : Int) := hρ.tmp 5 (by decide +kernel)
        refine y_val (v := .int .i64 (k : Int)) ?_ rfl
        simp [execOp, go_sem, e5]
      · intro ρ wx hρ hbx hl
        have e20 : ρ (.tmp 20) = .slice (some ⟨g2, 0, none⟩) n cap2 := hl 4 (by decide +kernel) 20 rfl
        have e21 : ρ (.tmp 21) = .int .i64 (k : Int) := hl 5 (by decide +kernel) 21 rfl
        refine y_val (v := .pointer (some ⟨g2, k * 2, none⟩)) ?_ rfl
        simp [execOp, go_sem, e20, e21]
        first | done | omega | (intro h; omega)
      · intro ρ wx hρ hbx hl
        have e22 : ρ (.tmp 22) = .pointer (some ⟨g2, k * 2, none⟩) := hl 6 (by decide +kernel) 22 rfl
        have k0 := (hbx.cell (p := ⟨g2, k * 2, none⟩) hgl2).trans hw2
        have k1 := (hbx.cell (p := ⟨g2, k * 2 + 1, none⟩) hgl2).trans hw3
        refine y_val (v := .agg #[.int .u64 (rev : Int), .slice sa2 m scap2]) ?_ rfl
        simp [execOp, go_sem, e22, k0, k1]
      · intro ρ wx hρ hbx hl
        have e19 : ρ (.tmp 19) = .agg #[.int .u64 (rev : Int), .slice sa m scap] := hl 3 (by decide +kernel) 19 rfl
        have e23 : ρ (.tmp 23) = .agg #[.int .u64 (rev : Int), .slice sa2 m scap2] := hl 7 (by decide +kernel) 23 rfl
        refine y_call (f := 14) (args := #[.agg #[.int .u64 (rev : Int), .slice sa m scap], .agg #[.int .u64 (rev : Int), .slice sa2 m scap2]]) (by simp [execOp, resolve, invoke, hρ.func, go_sem, e19, e23]) ?_
        refine (same_any wx rev sa sa2 m scap scap2 es (hrr.below' hbx) (hrr2.below' hbx) hmm).mono ?_
        rintro e w6 ⟨rfl, b6⟩
        exact ⟨_, rfl, rfl, b6⟩
      · intro ρ wx hρ hbx hl
        have e24 : ρ (.tmp 24) = .bool true := hl 8 (by decide +kernel) 24 rfl
        refine y_val (v := .bool false) ?_ rfl
        simp [execOp, go_sem, e24]
      intro aa wz hdef hsz hlk hbz hf
      have ha := act_of_like hdef hsz hlk [16, 17, 18, 19, 20, 21, 22, 23, 24, 25] 27 rfl (by decide +kernel)
      have e16 : aa.tmps.getD 16 undef = .slice (some ⟨g, 0, none⟩) n cap := hf 0 _ 16 rfl rfl
      have e17 : aa.tmps.getD 17 undef = .int .i64 (k : Int) := hf 1 _ 17 rfl rfl
      have e18 : aa.tmps.getD 18 undef = .pointer (some ⟨g, k * 2, none⟩) := hf 2 _ 18 rfl rfl
      have e19 : aa.tmps.getD 19 undef = .agg #[.int .u64 (rev : Int), .slice sa m scap] := hf 3 _ 19 rfl rfl
      have e20 : aa.tmps.getD 20 undef = .slice (some ⟨g2, 0, none⟩) n cap2 := hf 4 _ 20 rfl rfl
      have e21 : aa.tmps.getD 21 undef = .int .i64 (k : Int) := hf 5 _ 21 rfl rfl
      have e22 : aa.tmps.getD 22 undef = .pointer (some ⟨g2, k * 2, none⟩) := hf 6 _ 22 rfl rfl
      have e23 : aa.tmps.getD 23 undef = .agg #[.int .u64 (rev : Int), .slice sa2 m scap2] := hf 7 _ 23 rfl rfl
      have e24 : aa.tmps.getD 24 undef = .bool true := hf 8 _ 24 rfl rfl
      have e25 : aa.tmps.getD 25 undef = .bool false := hf 9 _ 25 rfl rfl
      simp only [putAll, List.foldl_cons, List.foldl_nil, e16, e17, e18, e19, e20, e21, e22, e23, e24, e25] at ha
      simp [Act.put] at ha
      subst ha
      clear hdef hsz hlk hf e16 e17 e18 e19 e20 e21 e22 e23 e24 e25
      have HB := Lib.hid (HB.out.trans (hbz.mono hbs))
      clear hbz
      go_wp2
      exact ⟨⟨k + 1, by go_num, by omega, HB.out⟩, by simp [intOf]; omega⟩
    · obtain rfl : k = n := by omega
      have hkI : ¬ ((k : Int) < k) := by omega
      go_wp2
      go_ret
      exact ⟨rfl, HB.out⟩
end Go.Proofs.YtoibhkmlebcepaaDoor

namespace Go.Proofs.YtoibhkmlebcepaaDoor
open Go Go.RowKit

theorem info3 : (Tryd.prog.info? 3).map (fun i => (i.zero, i.size, i.bytes)) = some (some (.int .i64 0), 1, 8) := by kernel_rfl

/-- where the first frames end, as cells -/
def endCells (ps : List (List UInt8)) (j : Nat) : List Value := (List.range j).map fun i => Value.int .i64 (endAt ps (i + 1) : Int)

theorem endCells_succ (ps : List (List UInt8)) (j : Nat) : endCells ps (j + 1) = endCells ps j ++ [.int .i64 (endAt ps (j + 1) : Int)] := by
  simp [endCells, List.range_succ]

theorem endCells_at {ps : List (List UInt8)} {n j : Nat} (h : j < n) : (endCells ps n)[j]? = some (.int .i64 (endAt ps (j + 1) : Int)) := by
  simp [endCells, h]

theorem rows_apart {w : World} {B n m s t : Nat} {e f : TypeId} {v u : Value} {xs ys : List Value} (h : w.ownsRow B e s v n xs) (k : w.ownsRow B f t u m ys) (hef : e ≠ f) : v.ownBlock = none ∨ v.ownBlock ≠ u.ownBlock := by
  rcases h.2 with ⟨rfl, _⟩ | ⟨g, cap, cur, rfl, _, hg, _⟩
  · left; rfl
  · right
    intro hh
    rcases k.2 with ⟨rfl, _⟩ | ⟨g', cap', cur', rfl, _, hg', _⟩
    · simp [Value.ownBlock] at hh
    · simp [Value.ownBlock] at hh
      subst hh
      rw [hg] at hg'
      injection hg' with hg'
      injection hg' with _ h2 _
      exact hef h2

def WholeRel (ps : List (List UInt8)) (cut n : Nat) (wv ev c : Value) : Prop :=
  ∃ j : Nat, c = .int .i64 (j : Int) ∧ j ≤ n ∧ wv = .int .i64 (wholeN ps cut j : Int) ∧ ev = .int .i64 (endAt ps (wholeN ps cut j) : Int)
end Go.Proofs.YtoibhkmlebcepaaDoor

namespace Go.Proofs.YtoibhkmlebcepaaDoor
open Go Go.RowKit

def oneE : List Ent := [⟨⟨#[97]⟩, 1, false⟩]
theorem right_one : rightB 1 oneE = true := by decide +kernel
theorem right_none : rightB 0 [] = false := by decide +kernel
theorem rec_one : recL 1 oneE = [1, 1, 0, 1, 97] := by
  unfold recL recTo oneE
  simp [entB, enc_lt, ByteArray.size]
theorem dec_one : decL [1, 1, 0, 1, 97] = some (1, oneE) := by rfl

theorem repl_one {l : List UInt8} {rev : Nat} {es : List Ent} (hl : l.length < 4294967296) (h : decL l = some (rev, es)) : replGo none (sealL l) = ([(rev, es)], (sealL l).length) := by
  have h1 := next_seal hl []
  have h2 := nextN_seal hl []
  rw [List.append_nil] at h1 h2
  have h3 : (sealL l).drop (nextN (sealL l)) = [] := by
    rw [h2]
    exact List.drop_eq_nil_of_le (by rw [sealL_length]; omega)
  rw [repl_more (by rw [h1]) (by rw [h1]; exact h) rfl, h3, repl_stop (by rw [next_nil]; decide), h2, sealL_length]
  rfl

theorem repl_none : replGo none [] = ([], 0) := repl_stop (by rw [next_nil]; decide)

theorem Sl.of_reads {w : World} {v : Value} {l : List UInt8} (h : Reads w 1 v l.length (bcells l)) (hn : 0 < l.length) : Sl w.heap.size w v l := by
  have h' := h
  obtain ⟨bb, off, cap, rfl, _, _, _, hc⟩ := h.head hn
  exact .inr ⟨bb, off, cap, rfl, fun _ => World.block_lt_of_cell? _ _ (hc 0 hn), fun _ => World.block_lt_of_cell? _ _ (hc 0 hn), h'⟩

theorem one_reads (w : World) : Reads (w.alloc (.cells #[.string ⟨#[97]⟩, .int .u64 1, .bool false] 48)) 3 (.slice (some ⟨w.heap.size, 0, none⟩) 1 1) 1 (ecells oneE) := by
  refine ⟨rfl, _, 1, rfl, Nat.le_refl _, by decide, fun j u hj => ⟨_, _, rfl, by simp, ?_⟩⟩
  rw [show (0 + j) = j by omega, World.cell?_alloc_mark w _ _ (0, 0) j]
  simpa [ecells, oneE, ecell] using hj
end Go.Proofs.YtoibhkmlebcepaaDoor
