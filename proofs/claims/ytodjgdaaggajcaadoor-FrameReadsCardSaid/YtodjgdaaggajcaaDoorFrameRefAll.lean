import Derived.Test.YtodjgdaaggajcaaDoorFrameAll
import Derived.Test.YtodjgdaaggajcaaDoorFrameRefNext
namespace Go.Proofs.YtodjgdaaggajcaaDoor
open Go Go.RowKit

def RAllPost (w : World) (b : List UInt8) (e : Ending) (w' : World) : Prop :=
  ∃ v', e = .returned (.tuple #[v', .int .i64 ((allL b).2 : Int)]) ∧ HRows w.heap.size w' v' (allL b).1.length (allL b).1 ∧ Below w.heap.size w w'

def RAllRel (w : World) (b : List UInt8) (n : Nat) (lv c : Value) (wr : World) : Prop :=
  ∃ (ps : List (List UInt8)) (at' : Nat), c = .int .i64 (at' : Int) ∧ at' ≤ n ∧ ps.length ≤ at' ∧ HRows w.heap.size wr lv ps.length ps ∧ Below w.heap.size w wr ∧ allL b = (ps ++ (allL (b.drop at')).1, at' + (allL (b.drop at')).2)

set_option maxRecDepth 100000 in
set_option maxHeartbeats 2000000 in
theorem refall_any (w : World) (v : Value) (n : Nat) (b : List UInt8) (h : Reads w 1 v n (bcells b)) (hv : n = 0 ∨ ∃ g off cap, v = .slice (some ⟨g, off, none⟩) n cap) (hn : n ≤ 1000000) :
    Calls Tryd.prog 15 #[v] w (RAllPost w b) := by
  obtain ⟨i0, hi, hz0, hz1, hz2⟩ := info_parts info22
  have hl : b.length = n := by have := h.1; simpa [bcells_length] using this
  rcases hv with rfl | ⟨g, off, cap, rfl⟩
  · have hb0 : b = [] := List.eq_nil_of_length_eq_zero hl
    subst hb0
    obtain ⟨a, cap, rfl, h1, h2⟩ := h.le
    unfold maxLen at h2
    have ha := allL_stop (b := []) (by decide +kernel)
    have hnx : nextL [] = (7, []) := by decide +kernel
    have Ha := Lib.hid ha
    have Hnx := Lib.hid hnx
    have Hrd := fun (x : Option Addr) (c : Nat) (hc : c ≤ maxLen) => Lib.hid (show Reads w 1 (.slice x 0 c) 0 (bcells []) from ⟨by simp [bcells], x, c, rfl, Nat.zero_le _, hc, fun j u h => by simp [bcells] at h⟩)
    have HRD := Lib.hid Hrd
    clear ha hnx h hl Hrd
    cases a with
    | none =>
      go_enter Tryd.func15, Tryd.ntmps15
      go_wp2
      refine wp_loop_rounds 1 ?_
      rw [rounds_succ]
      go_wp2_with (go_at_call 13; go_must (refine (refnext_any w _ 0 [] (HRD.out none cap (by unfold maxLen; omega)).out (by decide)).mono ?_))
      rintro e w1 ⟨v1, rfl, f1, hob1, b1⟩
      rw [Hnx.out]
      clear f1 hob1
      go_wp2
      go_ret2
      refine ⟨.slice none 0 0, ?_, ?_, b1⟩
      · rw [Ha.out]; rfl
      · rw [Ha.out]; exact HRows.nil _ _
    | some x =>
      by_cases hc0 : cap = 0
      · subst hc0
        go_enter Tryd.func15, Tryd.ntmps15
        go_wp2
        refine wp_loop_rounds 1 ?_
        rw [rounds_succ]
        go_wp2_with (go_at_call 13; go_must (refine (refnext_any w _ 0 [] (HRD.out (some x) 0 (by unfold maxLen; omega)).out (by decide)).mono ?_))
        rintro e w1 ⟨v1, rfl, f1, hob1, b1⟩
        rw [Hnx.out]
        clear f1 hob1
        go_wp2
        go_ret2
        refine ⟨.slice none 0 0, ?_, ?_, b1⟩
        · rw [Ha.out]; rfl
        · rw [Ha.out]; exact HRows.nil _ _
      · have hc0' : ¬ ((cap : Int) = 0) := by omega
        go_enter Tryd.func15, Tryd.ntmps15
        go_wp2
        refine wp_loop_rounds 1 ?_
        rw [rounds_succ]
        go_wp2_with (go_at_call 13; go_must (refine (refnext_any w _ 0 [] (HRD.out (some x) cap (by unfold maxLen; omega)).out (by decide)).mono ?_))
        rintro e w1 ⟨v1, rfl, f1, hob1, b1⟩
        rw [Hnx.out]
        clear f1 hob1
        go_wp2
        go_ret2
        refine ⟨.slice none 0 0, ?_, ?_, b1⟩
        · rw [Ha.out]; rfl
        · rw [Ha.out]; exact HRows.nil _ _
  · have hcap := h.le
    obtain ⟨_, _, hv, h1, h2⟩ := hcap
    cases hv
    unfold maxLen at h2
    have Hl := Lib.hid hl
    have HR := Lib.hid h
    clear hl h
    go_enter Tryd.func15, Tryd.ntmps15
    go_wp2
    go_loopw [4, 5] (fun lv c wr => RAllRel w b n lv c wr) (fun _ c _ => n + 1 - (intOf c).toNat)
    case atStart => exact ⟨[], 0, rfl, Nat.zero_le _, Nat.le_refl _, HRows.nil _ _, Below.refl _ _, by simp⟩
    case round =>
      obtain ⟨ps, at', rfl, hat, hpl, hor, hb, heq⟩ := hrel
      have hat' : (at' : Int) ≤ n := by omega
      have rb := HR.out.below' hb
      have hbs := hb.size
      have hdl : (b.drop at').length = n - at' := by rw [List.length_drop, Hl.out]
      have Heq := Lib.hid heq
      have Hor := Lib.hid hor
      have Hb := Lib.hid hb
      clear heq hor hb
      by_cases hc : cap = at'
      · obtain rfl : n = at' := by omega
        have hd0 : b.drop n = [] := List.eq_nil_of_length_eq_zero (by omega)
        have RD := Lib.hid (show Reads wr 1 (.slice (some ⟨g, off, none⟩) 0 (cap - n)) 0 (bcells (b.drop n)) from by
          rw [hd0]
          exact ⟨rfl, _, cap - n, rfl, Nat.zero_le _, by unfold maxLen; omega, fun j u h => by simp [bcells] at h⟩)
        have hc' : (cap : Int) = n := by omega
        have hnx : ¬ (nextL (b.drop n)).1 = 0 := by rw [hd0]; decide +kernel
        have hne : (((nextL (b.drop n)).1 : Int) != 0) = true := by simp; omega
        have Hal := Lib.hid (allL_stop hnx)
        clear hd0 hdl rb hnx hc
        generalize b.drop n = D at *
        go_wp2_with (go_at_call 13; go_must (refine (refnext_any wr _ 0 D RD.out (by decide)).mono ?_))
        rintro e w1 ⟨v1, rfl, f1, hob1, b1⟩
        clear f1 hob1
        go_wp2
        go_ret2
        rw [Hal.out] at Heq
        have hall := Heq.out
        simp only [List.append_nil, Nat.add_zero] at hall
        have hw := Hor.out.below' b1
        rw [show ps = (allL b).1 from by rw [hall]] at hw
        exact ⟨_, by rw [hall]; rfl, hw, Hb.out.trans (b1.mono hbs)⟩
      · have hc' : ¬ ((cap : Int) = at') := by omega
        have RD := Lib.hid (rb.skip at' hat)
        by_cases hnx : (nextL (b.drop at')).1 = 0
        · have hne : (((nextL (b.drop at')).1 : Int) != 0) = false := by simp [hnx]
          obtain ⟨ho1, ho2, ho3⟩ := nextL_ok hnx
          have hN8 : 8 ≤ nextN (b.drop at') := by omega
          have hmore := allL_more hnx
          rw [List.drop_drop] at hmore
          rw [hdl] at ho1 ho3
          have Hmore := Lib.hid hmore
          have Hnx := Lib.hid hnx
          clear hmore hdl rb hnx ho2
          generalize b.drop at' = D at *
          generalize hN : nextN D = N at *
          have HN := Lib.hid hN
          clear hN
          have hw1 := wrap_add at' N (by omega)
          obtain ⟨hw2, hw3, hw4⟩ := hw1
          clear hw2
          go_wp2_with (go_at_call 13; go_must (refine (refnext_any wr _ (n - at') D RD.out (by omega)).mono ?_))
          rintro e w1 ⟨v1, rfl, f1, hob1, b1⟩
          obtain ⟨a1, c1, rfl, hc1, hc2⟩ := f1.le
          rw [HN.out]
          have hor1 := Hor.out.below' b1
          have hb1 := Hb.out.trans (b1.mono hbs)
          have hbs1 := hb1.size
          have hgl : g < w.heap.size := by
            obtain ⟨_, _, _, hv9, _, _, _, hcx⟩ := HR.out.head (by omega)
            cases hv9
            exact World.block_lt_of_cell? _ _ (hcx 0 (by omega))
          have hob : (Value.slice a1 (nextL D).2.length c1).ownBlock = none ∨ ∃ b, (Value.slice a1 (nextL D).2.length c1).ownBlock = some b ∧ b < w.heap.size := by
            rcases hob1 with h | h
            · exact .inl h
            · exact .inr ⟨g, h, hgl⟩
          have F1 := Lib.hid f1
          have Hob := Lib.hid hob
          clear hob hob1
          obtain ⟨vs, ho, hlen, hrows⟩ := hor1
          have Hrows := Lib.hid hrows
          have Ho := Lib.hid ho
          clear f1 b1 hrows hlen
          go_wp2_with (at_builtin; go_must (refine wpList_append_owns_lits (w0 := w1) rfl _ _ 31 rfl w.heap.size 22 i0 (.slice none 0 0) 24 Tryd.underlying31 hi hz0 hz1 hz2 rfl [.slice a1 (nextL D).2.length c1] 1 rfl Ho.out rfl rfl ?_ ?_ ?_ hbs1 ?_))
          · intro u hu
            simp at hu
            subst hu
            rfl
          · unfold maxLen; omega
          · omega
          intro v3 w3 o3 g3 b3 m3
          have hsn : HRows w.heap.size w3 v3 (ps.length + 1) (ps ++ [(nextL D).2]) :=
            HRows.snoc Ho.out rfl Hrows.out F1.out Hob.out o3 g3
          have Hsn := Lib.hid hsn
          have hb3 := hb1.trans b3
          clear o3 g3 b3 m3 hsn hb1
          go_wp2
          refine ⟨⟨ps ++ [(nextL D).2], at' + N, by go_num, by omega, by simp; omega, ?_, hb3, ?_⟩, by simp [intOf]; omega⟩
          · rw [List.length_append]
            exact Hsn.out
          · rw [Heq.out, Hmore.out]
            simp
            omega
        · have hne : (((nextL (b.drop at')).1 : Int) != 0) = true := by simp; omega
          have Hal := Lib.hid (allL_stop hnx)
          clear hdl rb hnx
          generalize b.drop at' = D at *
          go_wp2_with (go_at_call 13; go_must (refine (refnext_any wr _ (n - at') D RD.out (by omega)).mono ?_))
          rintro e w1 ⟨v1, rfl, f1, hob1, b1⟩
          clear f1 hob1
          go_wp2
          go_ret2
          rw [Hal.out] at Heq
          have hall := Heq.out
          simp only [List.append_nil, Nat.add_zero] at hall
          have hw := Hor.out.below' b1
          rw [show ps = (allL b).1 from by rw [hall]] at hw
          exact ⟨_, by rw [hall]; rfl, hw, Hb.out.trans (b1.mono hbs)⟩
end Go.Proofs.YtodjgdaaggajcaaDoor
