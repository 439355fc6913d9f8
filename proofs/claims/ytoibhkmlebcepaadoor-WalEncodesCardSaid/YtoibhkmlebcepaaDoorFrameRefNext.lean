import Derived.Test.YtoibhkmlebcepaaDoorFrameRefSeal
namespace Go.Proofs.YtoibhkmlebcepaaDoor
open Go Go.RowKit

def TellsU64Q (w : World) (n : Nat) (e : Ending) (w' : World) : Prop := e = .returned (.int .u64 (n : Int)) ∧ ∃ m, w' = w.drewN m

set_option maxRecDepth 100000 in
set_option maxHeartbeats 1000000 in
theorem number_any (w : World) (v : Value) (n : Nat) (l : List UInt8) (h : Reads w 1 v n (bcells l)) (hn : 4 ≤ n) :
    Calls Tryd.prog 43 #[v] w (TellsU64Q w (num4 l)) := by
  obtain ⟨b, off, cap, rfl, h1, h2, hl, hc⟩ := h.head (by omega)
  unfold maxLen at h2
  have c0 := hc 0 (by omega)
  have c1 := hc 1 (by omega)
  have c2 := hc 2 (by omega)
  have c3 := hc 3 (by omega)
  have hm : num4 l = ((((l.getD 0 0).toNat * 256 + (l.getD 1 0).toNat) * 256 + (l.getD 2 0).toNat) * 256 + (l.getD 3 0).toNat) := rfl
  rw [hm]
  clear hm h hc
  generalize l.getD 0 0 = d0 at *
  generalize l.getD 1 0 = d1 at *
  generalize l.getD 2 0 = d2 at *
  generalize l.getD 3 0 = d3 at *
  clear hl
  simp only [Nat.add_zero] at c0
  have i0 : (0 : Int) < n := by omega
  have i1 : (1 : Int) < n := by omega
  have i2 : (2 : Int) < n := by omega
  have i3 : (3 : Int) < n := by omega
  go_enter Tryd.func43, Tryd.ntmps43
  go_wp2_with fail
  go_quiet (fail)
  go_wp2
  go_ret
  refine ⟨?_, _, rfl⟩
  have h0 := d0.toNat_lt
  have h1 := d1.toNat_lt
  have h2 := d2.toNat_lt
  have h3 := d3.toNat_lt
  refine congrArg (fun z => Ending.returned (.int .u64 z)) ?_
  simp only [IntKind.wrap_u64]
  omega

theorem refsum_quiet {w : World} {k n : Nat} {v : Value} {l : List UInt8} (h : Reads w 1 v n (bcells l)) :
    Calls Tryd.prog 25 #[v] (w.drewN k) fun e w'' => e = .returned (.int .u32 (sumL l : Int)) ∧ ∃ m, w'' = w.drewN m :=
  Calls.quiet_of_same ((refsum_any (w.drewN k) v n l (h.drewN k)).mono fun _ _ ⟨h1, h2⟩ => ⟨h1, h2.symm⟩)

theorem number_quiet {w : World} {k n : Nat} {v : Value} {l : List UInt8} (h : Reads w 1 v n (bcells l)) (hn : 4 ≤ n) :
    Calls Tryd.prog 43 #[v] (w.drewN k) fun e w'' => e = .returned (.int .u64 (num4 l : Int)) ∧ ∃ m, w'' = w.drewN m :=
  Calls.quiet_of ((number_any (w.drewN k) v n l (h.drewN k) hn).mono fun _ _ h => h)

def RNext (w : World) (v : Value) (b : List UInt8) (e : Ending) (w' : World) : Prop :=
  ∃ v', e = .returned (.tuple #[v', .int .i64 (nextN b : Int), .int .i64 ((nextL b).1 : Int)]) ∧ Reads w' 1 v' (nextL b).2.length (bcells (nextL b).2) ∧ (v'.ownBlock = none ∨ v'.ownBlock = v.ownBlock) ∧ Below w.heap.size w w'

theorem RNext.short {w w' : World} {v : Value} {b : List UInt8} {e : Ending} (h : b.length < 8 ∨ b.length - 8 < num4 b) (he : e = .returned (.tuple #[.slice none 0 0, .int .i64 0, .int .i64 7])) (hb : Below w.heap.size w w') : RNext w v b e w' := by
  have e1 : nextL b = (7, []) := if_pos h
  refine ⟨.slice none 0 0, ?_, ?_, .inl rfl, hb⟩
  · rw [nextN, e1]; exact he
  · rw [e1]; exact (fresh_none 0 _ 5 _).1

theorem RNext.bad {w w' : World} {v : Value} {b : List UInt8} {e : Ending} (h : ¬ (b.length < 8 ∨ b.length - 8 < num4 b)) (hs : ¬ sumL ((b.drop 8).take (num4 b)) = num4 (b.drop 4)) (he : e = .returned (.tuple #[.slice none 0 0, .int .i64 0, .int .i64 8])) (hb : Below w.heap.size w w') : RNext w v b e w' := by
  have e1 : nextL b = (8, []) := by rw [nextL, if_neg h, if_neg hs]
  refine ⟨.slice none 0 0, ?_, ?_, .inl rfl, hb⟩
  · rw [nextN, e1]; exact he
  · rw [e1]; exact (fresh_none 0 _ 5 _).1

theorem RNext.good {w w' : World} {v : Value} {b p : List UInt8} {n : Nat} {v' : Value} {e : Ending} (h : ¬ (b.length < 8 ∨ b.length - 8 < num4 b)) (hs : sumL ((b.drop 8).take (num4 b)) = num4 (b.drop 4)) (hp : (b.drop 8).take (num4 b) = p) (hn : p.length = n) (he : e = .returned (.tuple #[v', .int .i64 (8 + (n : Int)), .int .i64 0]))
    (hf : Reads w' 1 v' p.length (bcells p)) (ho : v'.ownBlock = none ∨ v'.ownBlock = v.ownBlock) (hb : Below w.heap.size w w') : RNext w v b e w' := by
  have e1 : nextL b = (0, p) := by rw [nextL, if_neg h, if_pos hs, hp]
  have e2 : nextN b = 8 + n := by rw [nextN, e1]; simp [hn]
  refine ⟨v', ?_, ?_, ho, hb⟩
  · rw [e1, e2, he]; simp
  · rw [e1]; exact hf

set_option maxRecDepth 100000 in
set_option maxHeartbeats 2000000 in
theorem refnext_any (w : World) (v : Value) (n : Nat) (l : List UInt8) (h : Reads w 1 v n (bcells l)) (hn : n ≤ 1000000000) :
    Calls Tryd.prog 34 #[v] w (RNext w v l) := by
  have hl : l.length = n := by have := h.1; simpa [bcells_length] using this
  by_cases h8 : n < 8
  · obtain ⟨a, cap, rfl, h1, h2⟩ := h.le
    unfold maxLen at h2
    have h8' : (n : Int) < 8 := by omega
    have Hl := Lib.hid hl
    clear hl h
    go_enter Tryd.func34, Tryd.ntmps34
    go_wp2
    go_ret3
    exact RNext.short (by rw [Hl.out]; omega) rfl (Below.refl _ _)
  · obtain ⟨b, off, cap, rfl, h1, h2, hl', hcell⟩ := h.head (by omega)
    clear hl' hcell
    unfold maxLen at h2
    have hnum := num4_lt l
    have h8' : ¬ (n : Int) < 8 := by omega
    by_cases hbig : n - 8 < num4 l
    · have hbig' : (n : Int) - 8 < (num4 l : Int) := by omega
      have Hl := Lib.hid hl
      have HR := Lib.hid h
      generalize hM : num4 l = M at *
      have HM := Lib.hid hM
      clear hl h hM
      go_enter Tryd.func34, Tryd.ntmps34
      go_wp2_with (go_at_call 43; go_must (refine (number_any w _ n l HR.out (by omega)).mono ?_))
      rintro e w1 ⟨rfl, m, hw1⟩
      have hb1 : Below w.heap.size w w1 := by rw [hw1]; exact below_drewN (Below.refl _ _) m
      rw [HM.out]
      clear hw1
      go_wp2
      go_ret3
      exact RNext.short (by rw [Hl.out, HM.out]; omega) rfl hb1
    · have hbig' : ¬ ((n : Int) - 8 < (num4 l : Int)) := by omega
      have r4 := h.skip 4 (by omega)
      have r8 := h.skip 8 (by omega)
      obtain ⟨a', cap', hv', _, _, rp⟩ := r8.take (num4 l) (by omega)
      cases hv'
      have hplen : ((l.drop 8).take (num4 l)).length = num4 l := by
        have := rp.1; simpa [bcells_length] using this
      generalize hP : (l.drop 8).take (num4 l) = p at *
      have HP := Lib.hid hP
      have Hpl := Lib.hid hplen
      have Hl := Lib.hid hl
      have HR := Lib.hid h
      have hnn : ¬ (l.length < 8 ∨ l.length - 8 < num4 l) := by rw [hl]; omega
      have Hnn := Lib.hid hnn
      clear hnn hP hplen r8
      generalize hM : num4 l = M at *
      have HM := Lib.hid hM
      have R4 := Lib.hid r4
      have RP := Lib.hid rp
      clear r4 rp hl h hM
      have hs2 := num4_lt (l.drop 4)
      have hs1 := sumL_lt p
      have hways : (((sumL p : Int) != (num4 (l.drop 4) : Int)) = false ∧ sumL p = num4 (l.drop 4)) ∨ (((sumL p : Int) != (num4 (l.drop 4) : Int)) = true ∧ ¬ sumL p = num4 (l.drop 4)) := by
        by_cases hh : sumL p = num4 (l.drop 4)
        · exact .inl ⟨by simp [hh], hh⟩
        · exact .inr ⟨by simp; omega, hh⟩
      by_cases hc8 : cap = 8
      · have hn8 : n = 8 := by omega
        have hM0 : M = 0 := by omega
        subst hM0
        subst hn8
        subst hc8
        have hp0 : p = [] := List.eq_nil_of_length_eq_zero Hpl.out
        subst hp0
        have rn : Reads w 1 (.slice (some ⟨b, off, none⟩) 0 0) 0 (bcells []) := ⟨rfl, _, 0, rfl, Nat.le_refl _, Nat.zero_le _, fun j u h => by simp [bcells] at h⟩
        have RN := Lib.hid rn
        clear rn
        rcases hways with ⟨hw, hh⟩ | ⟨hw, hh⟩
        · have Hh := Lib.hid hh
          have Hwr := Lib.hid (show IntKind.u64.wrap (sumL [] : Int) = (sumL [] : Int) from by rw [IntKind.wrap_u64]; omega)
          clear hh hs1 hs2
          go_enter Tryd.func34, Tryd.ntmps34
          go_wp2_with (go_at_call 43; go_must (refine (number_any w _ 8 l HR.out (by omega)).mono ?_))
          rintro e w1 ⟨rfl, m, hw1⟩
          have hb1 : Below w.heap.size w w1 := by rw [hw1]; exact below_drewN (Below.refl _ _) m
          rw [HM.out]
          clear hw1
          have R1 := Lib.hid (HR.out.below' hb1)
          go_wp2_with (go_at_call 43; go_must (refine (number_any w1 _ 8 l R1.out (by omega)).mono ?_))
          rintro e w2 ⟨rfl, m2, hw2⟩
          have hb2 : Below w.heap.size w w2 := by rw [hw2]; exact below_drewN hb1 m2
          rw [HM.out]
          clear hw2
          have rp2 := Lib.hid (RN.out.below' hb2)
          have r42 := Lib.hid (R4.out.below' hb2)
          go_wp2_with fail
          have hwr := Hwr.out
          go_quiet (first | (go_at_call 25; exact refsum_quiet rp2.out) | (go_at_call 43; exact number_quiet r42.out (by omega)))
          clear hwr
          go_wp2
          go_ret3
          exact RNext.good (p := []) (by rw [HM.out]; exact Hnn.out) (by rw [HM.out, HP.out]; exact Hh.out) (by rw [HM.out]; exact HP.out) rfl rfl (rp2.out.drewN nq) (.inr rfl) (below_drewN hb2 nq)
        · have Hh := Lib.hid hh
          have Hwr := Lib.hid (show IntKind.u64.wrap (sumL [] : Int) = (sumL [] : Int) from by rw [IntKind.wrap_u64]; omega)
          clear hh hs1 hs2
          go_enter Tryd.func34, Tryd.ntmps34
          go_wp2_with (go_at_call 43; go_must (refine (number_any w _ 8 l HR.out (by omega)).mono ?_))
          rintro e w1 ⟨rfl, m, hw1⟩
          have hb1 : Below w.heap.size w w1 := by rw [hw1]; exact below_drewN (Below.refl _ _) m
          rw [HM.out]
          clear hw1
          have R1 := Lib.hid (HR.out.below' hb1)
          go_wp2_with (go_at_call 43; go_must (refine (number_any w1 _ 8 l R1.out (by omega)).mono ?_))
          rintro e w2 ⟨rfl, m2, hw2⟩
          have hb2 : Below w.heap.size w w2 := by rw [hw2]; exact below_drewN hb1 m2
          rw [HM.out]
          clear hw2
          have rp2 := Lib.hid (RN.out.below' hb2)
          have r42 := Lib.hid (R4.out.below' hb2)
          go_wp2_with fail
          have hwr := Hwr.out
          go_quiet (first | (go_at_call 25; exact refsum_quiet rp2.out) | (go_at_call 43; exact number_quiet r42.out (by omega)))
          clear hwr
          go_wp2
          go_ret3
          exact RNext.bad (by rw [HM.out]; exact Hnn.out) (by rw [HM.out, HP.out]; exact Hh.out) rfl (below_drewN hb2 nq)
      · have hc8' : ¬ ((cap : Int) = 8) := by omega
        have hc4' : ¬ ((cap : Int) = 4) := by omega
        have e1 : (8 : Int) + M ≤ n := by omega
        have hM9 : M ≤ 1000000000 := by omega
        rcases hways with ⟨hw, hh⟩ | ⟨hw, hh⟩
        · have Hh := Lib.hid hh
          have Hwr := Lib.hid (show IntKind.u64.wrap (sumL p : Int) = (sumL p : Int) from by rw [IntKind.wrap_u64]; omega)
          clear hh hs1 hs2
          go_enter Tryd.func34, Tryd.ntmps34
          go_wp2_with (go_at_call 43; go_must (refine (number_any w _ n l HR.out (by omega)).mono ?_))
          rintro e w1 ⟨rfl, m, hw1⟩
          have hb1 : Below w.heap.size w w1 := by rw [hw1]; exact below_drewN (Below.refl _ _) m
          rw [HM.out]
          clear hw1
          have R1 := Lib.hid (HR.out.below' hb1)
          go_wp2_with (go_at_call 43; go_must (refine (number_any w1 _ n l R1.out (by omega)).mono ?_))
          rintro e w2 ⟨rfl, m2, hw2⟩
          have hb2 : Below w.heap.size w w2 := by rw [hw2]; exact below_drewN hb1 m2
          rw [HM.out]
          clear hw2
          have rp2 := Lib.hid (RP.out.below' hb2)
          have r42 := Lib.hid (R4.out.below' hb2)
          go_wp2_with fail
          have hwr := Hwr.out
          go_quiet (first | (go_at_call 25; exact refsum_quiet rp2.out) | (go_at_call 43; exact number_quiet r42.out (by omega)))
          clear hwr
          go_wp2
          go_ret3
          exact RNext.good (by rw [HM.out]; exact Hnn.out) (by rw [HM.out, HP.out]; exact Hh.out) (by rw [HM.out]; exact HP.out) Hpl.out rfl (by rw [Hpl.out]; exact (show Reads (w2.drewN nq) 1 (.slice (some ⟨b, off + 8, none⟩) (8 + M - 8) (cap - 8)) M (bcells p) from by rw [show 8 + M - 8 = M by omega]; exact rp2.out.drewN nq)) (.inr rfl) (below_drewN hb2 nq)
        · have Hh := Lib.hid hh
          have Hwr := Lib.hid (show IntKind.u64.wrap (sumL p : Int) = (sumL p : Int) from by rw [IntKind.wrap_u64]; omega)
          clear hh hs1 hs2
          go_enter Tryd.func34, Tryd.ntmps34
          go_wp2_with (go_at_call 43; go_must (refine (number_any w _ n l HR.out (by omega)).mono ?_))
          rintro e w1 ⟨rfl, m, hw1⟩
          have hb1 : Below w.heap.size w w1 := by rw [hw1]; exact below_drewN (Below.refl _ _) m
          rw [HM.out]
          clear hw1
          have R1 := Lib.hid (HR.out.below' hb1)
          go_wp2_with (go_at_call 43; go_must (refine (number_any w1 _ n l R1.out (by omega)).mono ?_))
          rintro e w2 ⟨rfl, m2, hw2⟩
          have hb2 : Below w.heap.size w w2 := by rw [hw2]; exact below_drewN hb1 m2
          rw [HM.out]
          clear hw2
          have rp2 := Lib.hid (RP.out.below' hb2)
          have r42 := Lib.hid (R4.out.below' hb2)
          go_wp2_with fail
          have hwr := Hwr.out
          go_quiet (first | (go_at_call 25; exact refsum_quiet rp2.out) | (go_at_call 43; exact number_quiet r42.out (by omega)))
          clear hwr
          go_wp2
          go_ret3
          exact RNext.bad (by rw [HM.out]; exact Hnn.out) (by rw [HM.out, HP.out]; exact Hh.out) rfl (below_drewN hb2 nq)
end Go.Proofs.YtoibhkmlebcepaaDoor
