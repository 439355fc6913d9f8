import Derived.Test.YtoibhkmlebcepaaDoorFrameNext
namespace Go.Proofs.YtoibhkmlebcepaaDoor
open Go Go.RowKit

/-- what a frame at the head of bytes is read as: the error, the payload -/
def nextL (b : List UInt8) : Nat × List UInt8 :=
  if b.length < 8 ∨ b.length - 8 < num4 b then (7, [])
  else if sumL ((b.drop 8).take (num4 b)) = num4 (b.drop 4) then (0, (b.drop 8).take (num4 b)) else (8, [])

/-- how many bytes of them -/
def nextN (b : List UInt8) : Nat := if (nextL b).1 = 0 then 8 + (nextL b).2.length else 0

def FNext (w : World) (b : List UInt8) (e : Ending) (w' : World) : Prop :=
  ∃ v', e = .returned (.tuple #[v', .int .i64 (nextN b : Int), .int .i64 ((nextL b).1 : Int)]) ∧
    w'.ownsRow w.heap.size 5 1 v' (nextL b).2.length (bcells (nextL b).2) ∧ Below w.heap.size w w'

theorem fresh_none (B : Nat) (w : World) (e : TypeId) (size : Nat) : Fresh B w e size (.slice none 0 0) 0 [] :=
  ⟨⟨by simp, none, 0, rfl, Nat.le_refl _, Nat.zero_le _, fun j u h => by simp at h⟩, .inl ⟨none, rfl⟩⟩

theorem FNext.short {w w' : World} {b : List UInt8} {e : Ending} (h : b.length < 8 ∨ b.length - 8 < num4 b) (he : e = .returned (.tuple #[.slice none 0 0, .int .i64 0, .int .i64 7])) (hb : Below w.heap.size w w') : FNext w b e w' := by
  have e1 : nextL b = (7, []) := if_pos h
  refine ⟨.slice none 0 0, ?_, ?_, hb⟩
  · rw [nextN, e1]; exact he
  · rw [e1]; exact World.ownsRow_nil _ _ _ _

theorem FNext.bad {w w' : World} {b : List UInt8} {e : Ending} (h : ¬ (b.length < 8 ∨ b.length - 8 < num4 b)) (hs : ¬ sumL ((b.drop 8).take (num4 b)) = num4 (b.drop 4)) (he : e = .returned (.tuple #[.slice none 0 0, .int .i64 0, .int .i64 8])) (hb : Below w.heap.size w w') : FNext w b e w' := by
  have e1 : nextL b = (8, []) := by rw [nextL, if_neg h, if_neg hs]
  refine ⟨.slice none 0 0, ?_, ?_, hb⟩
  · rw [nextN, e1]; exact he
  · rw [e1]; exact World.ownsRow_nil _ _ _ _

theorem FNext.good {w w' : World} {b p : List UInt8} {n : Nat} {v : Value} {e : Ending} (h : ¬ (b.length < 8 ∨ b.length - 8 < num4 b)) (hs : sumL ((b.drop 8).take (num4 b)) = num4 (b.drop 4)) (hp : (b.drop 8).take (num4 b) = p) (hn : p.length = n) (he : e = .returned (.tuple #[v, .int .i64 (8 + (n : Int)), .int .i64 0]))
    (hf : w'.ownsRow w.heap.size 5 1 v p.length (bcells p)) (hb : Below w.heap.size w w') : FNext w b e w' := by
  have e1 : nextL b = (0, p) := by rw [nextL, if_neg h, if_pos hs, hp]
  have e2 : nextN b = 8 + n := by rw [nextN, e1]; simp [hn]
  refine ⟨v, ?_, ?_, hb⟩
  · rw [e1, e2, he]; simp
  · rw [e1]; exact hf

theorem Fresh.mono {B B' : Nat} {w : World} {e : TypeId} {size n : Nat} {v : Value} {xs : List Value} (h : Fresh B' w e size v n xs) (hb : B ≤ B') : Fresh B w e size v n xs :=
  ⟨h.1, h.2.imp id fun k => World.ownsRow.mono k hb⟩

theorem Reads.drewN {w : World} {size n : Nat} {v : Value} {xs : List Value} (h : Reads w size v n xs) (k : Nat) : Reads (w.drewN k) size v n xs := h
theorem Steps.drewN {w : World} (h : Steps w) (k : Nat) : Steps (w.drewN k) := h

theorem sum_quiet {w : World} {k n : Nat} {v : Value} {l : List UInt8} (h : Reads w 1 v n (bcells l)) (hst : Steps w) :
    Calls Tryd.prog 37 #[v] (w.drewN k) fun e w'' => e = .returned (.int .u32 (sumL l : Int)) ∧ ∃ m, w'' = w.drewN m :=
  Calls.quiet_of_same ((sum_any (w.drewN k) v n l (h.drewN k) (hst.drewN k)).mono fun _ _ ⟨h1, h2⟩ => ⟨h1, h2.symm⟩)

theorem get_quiet {w : World} {k n : Nat} {v : Value} {l : List UInt8} (h : Reads w 1 v n (bcells l)) (hn : 4 ≤ n) :
    Calls Tryd.prog 41 #[v] (w.drewN k) fun e w'' => e = .returned (.int .u32 (num4 l : Int)) ∧ ∃ m, w'' = w.drewN m :=
  Calls.quiet_of ((get4_any (w.drewN k) v n l (h.drewN k) hn).mono fun _ _ h => h)

set_option maxRecDepth 100000 in
set_option maxHeartbeats 1000000 in
theorem fnext_any (w : World) (v : Value) (n : Nat) (l : List UInt8) (h : Reads w 1 v n (bcells l)) (hn : n ≤ 1000000000) (hst : Steps w) :
    Calls Tryd.prog 33 #[v] w (FNext w l) := by
  have hl : l.length = n := by have := h.1; simpa [bcells_length] using this
  by_cases h8 : n < 8
  · obtain ⟨a, cap, rfl, h1, h2⟩ := h.le
    unfold maxLen at h2
    have h8' : (n : Int) < 8 := by omega
    have Hl := Lib.hid hl
    clear hl h hst
    go_enter Tryd.func33, Tryd.ntmps33
    go_wp2
    go_ret3
    exact FNext.short (by rw [Hl.out]; omega) rfl (Below.refl _ _)
  · obtain ⟨b, off, cap, rfl, h1, h2, hl', hcell⟩ := h.head (by omega)
    clear hl' hcell
    unfold maxLen at h2
    have hnum := num4_lt l
    have h8' : ¬ (n : Int) < 8 := by omega
    by_cases hbig : n - 8 < num4 l
    · have hbig' : (n : Int) - 8 < (num4 l : Int) := by omega
      have Hl := Lib.hid hl
      have HR := Lib.hid h
      generalize hM : num4 l = M at *
      have HM := Lib.hid hM
      clear hl h hst hM
      go_enter Tryd.func33, Tryd.ntmps33
      go_wp2_with (go_at_call 41; go_must (refine (get4_any w _ n l HR.out (by omega)).mono ?_))
      rintro e w1 ⟨rfl, m, hw1⟩
      have hb1 : Below w.heap.size w w1 := by rw [hw1]; exact below_drewN (Below.refl _ _) m
      rw [HM.out]
      clear hw1
      go_wp2
      go_ret3
      exact FNext.short (by rw [Hl.out, HM.out]; omega) rfl hb1
    · have hbig' : ¬ ((n : Int) - 8 < (num4 l : Int)) := by omega
      have r4 := h.skip 4 (by omega)
      have r8 := h.skip 8 (by omega)
      obtain ⟨a', cap', hv', _, _, rp⟩ := r8.take (num4 l) (by omega)
      cases hv'
      have hplen : ((l.drop 8).take (num4 l)).length = num4 l := by
        have := rp.1; simpa [bcells_length] using this
      generalize hP : (l.drop 8).take (num4 l) = p at *
      have HP := Lib.hid hP
      have Hpl := Lib.hid hplen
      have Hl := Lib.hid hl
      have HR := Lib.hid h
      have hnn : ¬ (l.length < 8 ∨ l.length - 8 < num4 l) := by rw [hl]; omega
      have Hnn := Lib.hid hnn
      clear hnn hP hplen r8
      generalize hM : num4 l = M at *
      have HM := Lib.hid hM
      have R4 := Lib.hid r4
      have RP := Lib.hid rp
      have Hst := Lib.hid hst
      clear r4 rp hl h hst hM
      have hs2 := num4_lt (l.drop 4)
      have hs1 := sumL_lt p
      have hways : (((sumL p : Int) != (num4 (l.drop 4) : Int)) = false ∧ sumL p = num4 (l.drop 4)) ∨ (((sumL p : Int) != (num4 (l.drop 4) : Int)) = true ∧ ¬ sumL p = num4 (l.drop 4)) := by
        by_cases hh : sumL p = num4 (l.drop 4)
        · exact .inl ⟨by simp [hh], hh⟩
        · exact .inr ⟨by simp; omega, hh⟩
      by_cases hc8 : cap = 8
      · have hn8 : n = 8 := by omega
        have hM0 : M = 0 := by omega
        subst hM0
        subst hn8
        subst hc8
        have hp0 : p = [] := List.eq_nil_of_length_eq_zero Hpl.out
        subst hp0
        have rn : Reads w 1 (.slice (some ⟨b, off, none⟩) 0 0) 0 (bcells []) := ⟨rfl, _, 0, rfl, Nat.le_refl _, Nat.zero_le _, fun j u h => by simp [bcells] at h⟩
        have RN := Lib.hid rn
        clear rn
        rcases hways with ⟨hw, hh⟩ | ⟨hw, hh⟩
        · have Hh := Lib.hid hh
          clear hh hs1 hs2
          go_enter Tryd.func33, Tryd.ntmps33
          go_wp2_with (go_at_call 41; go_must (refine (get4_any w _ 8 l HR.out (by omega)).mono ?_))
          rintro e w1 ⟨rfl, m, hw1⟩
          have hb1 : Below w.heap.size w w1 := by rw [hw1]; exact below_drewN (Below.refl _ _) m
          rw [HM.out]
          clear hw1
          have rp1 := Lib.hid (RN.out.below' hb1)
          have r41 := Lib.hid (R4.out.below' hb1)
          have st1 := Lib.hid (Hst.out.below hb1)
          have hb1s := hb1.size
          go_wp2_with fail
          go_quiet (first | (go_at_call 37; exact sum_quiet rp1.out st1.out) | (go_at_call 41; exact get_quiet r41.out (by omega)))
          go_wp2_with (go_at_call 42; go_must (refine (clone_any (w1.drewN nq) _ 0 _ [] (rp1.out.drewN nq) (by omega)).mono ?_))
          rintro e w3 ⟨v3, rfl, f3, b3⟩
          have hb3 : Below w.heap.size w w3 := (below_drewN hb1 nq).trans (b3.mono hb1s)
          go_wp2
          go_ret3
          exact FNext.good (p := []) (by rw [HM.out]; exact Hnn.out) (by rw [HM.out, HP.out]; exact Hh.out) (by rw [HM.out]; exact HP.out) rfl rfl (World.ownsRow.mono f3 hb1s) hb3
        · have Hh := Lib.hid hh
          clear hh hs1 hs2
          go_enter Tryd.func33, Tryd.ntmps33
          go_wp2_with (go_at_call 41; go_must (refine (get4_any w _ 8 l HR.out (by omega)).mono ?_))
          rintro e w1 ⟨rfl, m, hw1⟩
          have hb1 : Below w.heap.size w w1 := by rw [hw1]; exact below_drewN (Below.refl _ _) m
          rw [HM.out]
          clear hw1
          have rp1 := Lib.hid (RN.out.below' hb1)
          have r41 := Lib.hid (R4.out.below' hb1)
          have st1 := Lib.hid (Hst.out.below hb1)
          go_wp2_with fail
          go_quiet (first | (go_at_call 37; exact sum_quiet rp1.out st1.out) | (go_at_call 41; exact get_quiet r41.out (by omega)))
          go_wp2
          go_ret3
          exact FNext.bad (by rw [HM.out]; exact Hnn.out) (by rw [HM.out, HP.out]; exact Hh.out) rfl (below_drewN hb1 nq)
      · have hc8' : ¬ ((cap : Int) = 8) := by omega
        have hc4' : ¬ ((cap : Int) = 4) := by omega
        have e1 : (8 : Int) + M ≤ n := by omega
        have hM9 : M ≤ 1000000000 := by omega
        rcases hways with ⟨hw, hh⟩ | ⟨hw, hh⟩
        · have Hh := Lib.hid hh
          clear hh hs1 hs2
          go_enter Tryd.func33, Tryd.ntmps33
          go_wp2_with (go_at_call 41; go_must (refine (get4_any w _ n l HR.out (by omega)).mono ?_))
          rintro e w1 ⟨rfl, m, hw1⟩
          have hb1 : Below w.heap.size w w1 := by rw [hw1]; exact below_drewN (Below.refl _ _) m
          rw [HM.out]
          clear hw1
          have rp1 := Lib.hid (RP.out.below' hb1)
          have r41 := Lib.hid (R4.out.below' hb1)
          have st1 := Lib.hid (Hst.out.below hb1)
          have hb1s := hb1.size
          go_wp2_with fail
          go_quiet (first | (go_at_call 37; exact sum_quiet rp1.out st1.out) | (go_at_call 41; exact get_quiet r41.out (by omega)))
          go_wp2_with (go_at_call 42; go_must (refine (clone_any (w1.drewN nq) _ M _ p (rp1.out.drewN nq) hM9).mono ?_))
          rintro e w3 ⟨v3, rfl, f3, b3⟩
          have hb3 : Below w.heap.size w w3 := (below_drewN hb1 nq).trans (b3.mono hb1s)
          go_wp2
          go_ret3
          exact FNext.good (by rw [HM.out]; exact Hnn.out) (by rw [HM.out, HP.out]; exact Hh.out) (by rw [HM.out]; exact HP.out) Hpl.out rfl (World.ownsRow.mono f3 hb1s) hb3
        · have Hh := Lib.hid hh
          clear hh hs1 hs2
          go_enter Tryd.func33, Tryd.ntmps33
          go_wp2_with (go_at_call 41; go_must (refine (get4_any w _ n l HR.out (by omega)).mono ?_))
          rintro e w1 ⟨rfl, m, hw1⟩
          have hb1 : Below w.heap.size w w1 := by rw [hw1]; exact below_drewN (Below.refl _ _) m
          rw [HM.out]
          clear hw1
          have rp1 := Lib.hid (RP.out.below' hb1)
          have r41 := Lib.hid (R4.out.below' hb1)
          have st1 := Lib.hid (Hst.out.below hb1)
          go_wp2_with fail
          go_quiet (first | (go_at_call 37; exact sum_quiet rp1.out st1.out) | (go_at_call 41; exact get_quiet r41.out (by omega)))
          go_wp2
          go_ret3
          exact FNext.bad (by rw [HM.out]; exact Hnn.out) (by rw [HM.out, HP.out]; exact Hh.out) rfl (below_drewN hb1 nq)
end Go.Proofs.YtoibhkmlebcepaaDoor
