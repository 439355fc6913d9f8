/- May a rule stand there? -/
import Derived.Test.YtopnldebekhelaaDoorZSchW
import Derived.Test.YtopnldebekhelaaDoorZSchText
namespace Go.Proofs.YtopnldebekhelaaDoor
open Go Go.RowKit

def fitsB (above : Int) (h : RuH) : Bool :=
  if h.kind = 2 then isRefB h.a && decide (h.b = cNone)
  else if h.kind = 3 then isRefB h.a && isRefB h.b
  else if h.kind = 1 then decide (h.a = cNone) && decide (h.b = cNone)
  else if h.kind = 4 ∨ h.kind = 5 then decide (h.a = cNone) && decide (h.b = cNone) && decide (h.kind ≠ above)
  else false

def groupB (h : RuH) : Bool := decide (h.kind = 4 ∨ h.kind = 5)

theorem okR_eq (above : Int) (h : RuH) (n : Nat) : okR above h n = ((if groupB h = true then decide (2 ≤ n) else decide (n = 0)) && fitsB above h) := by
  unfold okR fitsB groupB
  by_cases k1 : h.kind = 1
  · rw [if_pos k1, if_neg (by rw [k1]; decide), if_neg (by rw [k1]; decide), if_pos k1, if_neg (by rw [k1]; decide)]
    cases decide (h.a = cNone) <;> cases decide (h.b = cNone) <;> cases decide (n = 0) <;> rfl
  · rw [if_neg k1]
    by_cases k2 : h.kind = 2
    · rw [if_pos k2, if_pos k2, if_neg (by simp [k2])]
      cases isRefB h.a <;> cases decide (h.b = cNone) <;> cases decide (n = 0) <;> rfl
    · rw [if_neg k2, if_neg k2]
      by_cases k3 : h.kind = 3
      · rw [if_pos k3, if_pos k3, if_neg (by rw [k3]; decide)]
        cases isRefB h.a <;> cases isRefB h.b <;> cases decide (n = 0) <;> rfl
      · rw [if_neg k3, if_neg k3, if_neg k1]
        by_cases k4 : h.kind = 4 ∨ h.kind = 5
        · rw [if_pos k4, if_pos k4, if_pos (by simpa using k4)]
          cases decide (h.a = cNone) <;> cases decide (h.b = cNone) <;> cases decide (h.kind ≠ above) <;> cases decide (2 ≤ n) <;> rfl
        · rw [if_neg k4, if_neg k4]
          simp

set_option maxRecDepth 100000 in
set_option maxHeartbeats 4000000 in
theorem fits_any (w : World) (above : Int) (h : RuH) (pv : Option Addr) (n c : Nat) (ha : h.a.size ≤ 1000000000) (hb : h.b.size ≤ 1000000000) :
    Calls Tryd.prog 49 #[.agg #[.int .i64 h.kind, .string h.a, .string h.b, .slice pv n c], .int .i64 above] w (GivesBool w (fitsB above h)) := by
  obtain ⟨k, a, b⟩ := h
  dsimp only at ha hb ⊢
  obtain ⟨w1, hw1⟩ : ∃ W, W = w.alloc (.cells #[.int .i64 k, .string a, .string b, .slice pv n c] 42) := ⟨_, rfl⟩
  have hb1 : Below w.heap.size w w1 := by rw [hw1]; exact (Below.refl _ _).alloc (Nat.le_refl _) _
  have hx : w1.heap[w.heap.size]? = some (.cells #[.int .i64 k, .string a, .string b, .slice pv n c] 42 (0, 0)) := by rw [hw1]; exact heap_alloc_new w _
  have hlt : w.heap.size < w1.heap.size := (Array.getElem?_eq_some_iff.1 hx).1
  have x0 := Lib.cell_of_heap hx 0; have x1 := Lib.cell_of_heap hx 1; have x2 := Lib.cell_of_heap hx 2; have x3 := Lib.cell_of_heap hx 3
  simp at x0 x1 x2 x3
  have HX := Lib.hid hx
  have HB := Lib.hid hb1
  have HW := Lib.hid hw1
  have eA := stremp a
  have eB := stremp b
  have HEA := Lib.hid eA
  have HEB := Lib.hid eB
  have HIa := Lib.hid (isref_any w1 a ha)
  have HIb := Lib.hid (fun W : World => isref_any W b hb)
  clear hw1 hb1 hx eA eB ha hb
  obtain ⟨r, hr⟩ : ∃ r, fitsB above ⟨k, a, b⟩ = r := ⟨_, rfl⟩
  rw [hr]
  have HR := Lib.hid hr.symm
  clear hr
  go_enter Tryd.func49, Tryd.ntmps49
  go_upto_region 1 with fail
  rw [← HW.out]
  clear HW
  by_cases k2 : k = 2
  · subst k2
    replace HR := Lib.hid (HR.out.trans (show fitsB above ⟨2, a, b⟩ = (isRefB a && decide (b = cNone)) from rfl))
    go_wp2_with (go_at_call 25; go_must (refine HIa.out.mono ?_))
    rintro e w2 ⟨rfl, b2⟩
    have y2 := (World.cell?_of_block (a := ⟨w.heap.size, 2, none⟩) (b2.block _ hlt)).trans x2
    have hlt2 : w.heap.size < w2.heap.size := Nat.lt_of_lt_of_le hlt b2.size
    have HB2 := Lib.hid (HB.out.trans (b2.mono HB.out.size))
    clear b2 HIa HIb HX
    cases hia : isRefB a with
    | false =>
      have hr := HR.out
      rw [hia] at hr
      obtain rfl : r = false := hr
      clear HR
      go_wp2
      go_ret
      exact ⟨rfl, HB2.out⟩
    | true =>
      have hr := HR.out
      rw [hia, ← HEB.out] at hr
      obtain rfl : r = b.toList.isEmpty := hr
      clear HR
      go_wp2
      go_ret
      exact ⟨rfl, HB2.out⟩
  · have n2 : (k == 2) = false := by simp [k2]
    by_cases k3 : k = 3
    · subst k3
      replace HR := Lib.hid (HR.out.trans (show fitsB above ⟨3, a, b⟩ = (isRefB a && isRefB b) from rfl))
      clear k2 n2
      go_wp2_with (go_at_call 25; go_must (refine HIa.out.mono ?_))
      rintro e w2 ⟨rfl, b2⟩
      have y2 := (World.cell?_of_block (a := ⟨w.heap.size, 2, none⟩) (b2.block _ hlt)).trans x2
      have hlt2 : w.heap.size < w2.heap.size := Nat.lt_of_lt_of_le hlt b2.size
      have HB2 := Lib.hid (HB.out.trans (b2.mono HB.out.size))
      clear b2 HIa HX
      cases hia : isRefB a with
      | false =>
        have hr := HR.out
        rw [hia] at hr
        obtain rfl : r = false := hr
        clear HR
        go_wp2
        go_ret
        exact ⟨rfl, HB2.out⟩
      | true =>
        have hr := HR.out
        rw [hia] at hr
        obtain rfl : r = isRefB b := hr
        clear HR
        go_wp2_with (go_at_call 25; go_must (refine (HIb.out _).mono ?_))
        rintro e w3 ⟨rfl, b3⟩
        have HB3 := Lib.hid (HB2.out.trans (b3.mono HB2.out.size))
        clear b3
        go_wp2
        go_ret
        exact ⟨rfl, HB3.out⟩
    · have n3 : (k == 3) = false := by simp [k3]
      by_cases k1 : k = 1
      · subst k1
        replace HR := Lib.hid (HR.out.trans (show fitsB above ⟨1, a, b⟩ = (decide (a = cNone) && decide (b = cNone)) from rfl))
        clear k2 n2 k3 n3 HIa HIb
        have hr := HR.out
        rw [← HEA.out, ← HEB.out] at hr
        cases ea : a.toList.isEmpty with
        | true =>
          rw [ea] at hr
          obtain rfl : r = b.toList.isEmpty := hr
          clear HR
          go_wp2
          go_ret
          exact ⟨rfl, HB.out⟩
        | false =>
          rw [ea] at hr
          obtain rfl : r = false := hr
          clear HR
          go_wp2
          go_ret
          exact ⟨rfl, HB.out⟩
      · have n1 : (k == 1) = false := by simp [k1]
        by_cases k4 : k = 4 ∨ k = 5
        · have hv : fitsB above ⟨k, a, b⟩ = (decide (a = cNone) && decide (b = cNone) && !(k == above)) := by
            unfold fitsB
            rw [if_neg k2, if_neg k3, if_neg k1, if_pos k4]
            by_cases h : k = above <;> simp [h]
          have hr := HR.out.trans hv
          rw [← HEA.out, ← HEB.out] at hr
          clear hv HIa HIb k1 k2 k3 HR
          rcases k4 with rfl | rfl
          all_goals
            clear n1 n2 n3
            cases ea : a.toList.isEmpty with
            | true =>
              cases eb : b.toList.isEmpty with
              | true =>
                rw [ea, eb, Bool.true_and, Bool.true_and] at hr
                subst hr
                go_wp2
                go_ret
                exact ⟨rfl, HB.out⟩
              | false =>
                rw [ea, eb] at hr
                obtain rfl : r = false := hr
                go_wp2
                go_ret
                exact ⟨rfl, HB.out⟩
            | false =>
              rw [ea] at hr
              obtain rfl : r = false := hr
              go_wp2
              go_ret
              exact ⟨rfl, HB.out⟩
        · have hv : fitsB above ⟨k, a, b⟩ = false := by
            unfold fitsB
            rw [if_neg k2, if_neg k3, if_neg k1, if_neg k4]
          obtain rfl : r = false := HR.out.trans hv
          have n4 : (k == 4) = false := by simp; omega
          have n5 : (k == 5) = false := by simp; omega
          clear hv HIa HIb k1 k2 k3 k4 HR
          go_wp2
          go_ret
          exact ⟨rfl, HB.out⟩
end Go.Proofs.YtopnldebekhelaaDoor
