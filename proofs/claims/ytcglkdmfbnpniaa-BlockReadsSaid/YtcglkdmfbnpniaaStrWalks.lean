/- Rows of strings, held against each other. -/
import Derived.Test.YtcglkdmfbnpniaaStrOrd
import Derived.Test.YtcglkdmfbnpniaaStrRows
import Derived.Test.YtcglkdmfbnpniaaGives
import Derived.Test.YtcglkdmfbnpniaaDrawnUntil
import Derived.BigQuiet
import Derived.Deep.QuietTactic
namespace Go.Proofs.Ytcglkdmfbnpniaa
open Go Go.RowKit

theorem str_eq (x y : ByteArray) : (x.toList == y.toList) = decide (x = y) := by
  rw [Go.ByteArray.toList_eq, Go.ByteArray.toList_eq]
  by_cases h : x = y
  · subst h
    simp
  · rw [decide_eq_false h, beq_eq_false_iff_ne]
    exact fun e => h (Go.WideShapes.bytes_inj e)

def SameSRel (w : World) (l m : List ByteArray) (v : Value) (wr : World) : Prop := ∃ k : Nat, v = .int .i64 (k : Int) ∧ k ≤ l.length ∧ l.take k = m.take k ∧ Below w.heap.size w wr

theorem below_quiet {B : Nat} {w wr : World} (h : Below B w wr) (n : Nat) : Below B w (wr.drewN n) := ⟨h.os, h.tape, h.output, h.size, h.block⟩

set_option maxRecDepth 100000 in
set_option maxHeartbeats 2000000 in
theorem sames_any (w : World) (a a2 : Option Addr) (n n2 cap cap2 : Nat) (l m : List ByteArray) (h : Reads w 1 (.slice a n cap) n (scells l)) (k : Reads w 1 (.slice a2 n2 cap2) n2 (scells m)) :
    Calls Try.prog 13 #[.slice a n cap, .slice a2 n2 cap2] w (GivesBool w (decide (l = m))) := by
  have hll : l.length = n := by have := h.1; rw [scells_length] at this; omega
  have hml : m.length = n2 := by have := k.1; rw [scells_length] at this; omega
  obtain ⟨_, _, hv, hc1, hc2⟩ := h.le
  cases hv
  unfold maxLen at hc2
  have HR := Lib.hid h
  have HK := Lib.hid k
  have HL := Lib.hid hll
  have HM := Lib.hid hml
  clear h k
  by_cases hn : n = n2
  · subst hn
    clear hll hml
    go_enter Try.func13, Try.ntmps13
    go_wp2
    go_loopw [13] (fun v wr => SameSRel w l m v wr) (fun v _ => n - (intOf v).toNat)
    case atStart => exact ⟨0, rfl, Nat.zero_le _, by simp, Below.refl _ _⟩
    case round =>
      obtain ⟨i, rfl, hil, htk, hb⟩ := hrel
      rw [HL.out] at hil
      have HB := Lib.hid hb
      have HT := Lib.hid htk
      clear hb htk
      by_cases hin : i < n
      · have hinI : (i : Int) < n := by omega
        obtain ⟨b, off, x, rfl, hx, hbx, hcx⟩ := (HR.out.below' HB.out).scell i hin
        obtain ⟨b2, off2, y, rfl, hy, hby, hcy⟩ := (HK.out.below' HB.out).scell i hin
        have hxy := str_eq x y
        by_cases he : x = y
        · subst he
          have hd : (x.toList == x.toList) = true := by rw [str_eq]; simp
          have HX := Lib.hid hx
          have HY := Lib.hid hy
          clear hx hy hxy
          go_wp2
          go_quiet (fail)
          go_wp2
          refine ⟨⟨i + 1, by go_num, by rw [HL.out]; omega, ?_, below_quiet HB.out _⟩, by simp [intOf]; omega⟩
          rw [List.take_add_one, List.take_add_one, HX.out, HY.out, HT.out]
        · rw [decide_eq_false he] at hxy
          have hne : decide (l = m) = false := by
            rw [decide_eq_false]
            intro e
            subst e
            rw [hx] at hy
            exact he (Option.some.inj hy)
          have HN := Lib.hid hne
          clear hx hy hne
          go_wp2
          go_quiet (fail)
          go_wp2
          go_ret
          rw [HN.out]
          exact ⟨rfl, below_quiet HB.out _⟩
      · have hinI : ¬ ((i : Int) < n) := by omega
        have hlm : decide (l = m) = true := by
          rw [decide_eq_true_eq]
          have h1 := HT.out
          rw [List.take_of_length_le (by rw [HL.out]; omega), List.take_of_length_le (by rw [HM.out]; omega)] at h1
          exact h1
        have HN := Lib.hid hlm
        clear hlm
        go_wp2
        go_ret
        rw [HN.out]
        exact ⟨rfl, HB.out⟩
  · have hnI : ((n : Int) == n2) = false := by simp; omega
    have hne : decide (l = m) = false := by
      rw [decide_eq_false]
      intro e
      subst e
      omega
    have HN := Lib.hid hne
    clear hne hll hml
    go_enter Try.func13, Try.ntmps13
    go_wp2
    go_ret
    rw [HN.out]
    exact ⟨rfl, Below.refl _ _⟩

/-- How two strings stand. -/
theorem bl_cases (x y : ByteArray) : (bl x y = true ∧ bl y x = false ∧ x ≠ y) ∨ (bl x y = false ∧ bl y x = false ∧ x = y) ∨ (bl x y = false ∧ bl y x = true ∧ x ≠ y) := by
  cases h : bl x y with
  | true => exact .inl ⟨rfl, bl_asymm h, bl_ne h⟩
  | false =>
    cases k : bl y x with
    | true => exact .inr (.inr ⟨rfl, rfl, fun e => bl_ne k e.symm⟩)
    | false => exact .inr (.inl ⟨rfl, rfl, bl_total h k⟩)

def RisesRel (w : World) (l : List ByteArray) (v : Value) (wr : World) : Prop := ∃ k : Nat, v = .int .i64 (k : Int) ∧ 1 ≤ k ∧ k ≤ l.length + 1 ∧ stepsUp l k ∧ Below w.heap.size w wr

theorem steps_more {l : List ByteArray} {k : Nat} {x y : ByteArray} (h : stepsUp l k) (hx : l[k - 1]? = some x) (hy : l[k]? = some y) (hxy : bl x y = true) : stepsUp l (k + 1) := by
  intro i h0 hi p q hp hq
  by_cases hik : i < k
  · exact h i h0 hik p q hp hq
  · obtain rfl : i = k := by omega
    rw [hx] at hp
    rw [hy] at hq
    cases hp
    cases hq
    exact hxy

theorem steps_one (l : List ByteArray) : stepsUp l 1 := fun i h0 hi => by omega

end Go.Proofs.Ytcglkdmfbnpniaa
