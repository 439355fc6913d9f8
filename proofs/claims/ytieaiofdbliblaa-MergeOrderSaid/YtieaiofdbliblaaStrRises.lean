/- sentryref17.Rises. -/
import Derived.Test.YtieaiofdbliblaaStrWalks
namespace Go.Proofs.Ytieaiofdbliblaa
open Go Go.RowKit

set_option maxRecDepth 100000 in
set_option maxHeartbeats 2000000 in
theorem rises17_any (w : World) (a : Option Addr) (n cap : Nat) (l : List ByteArray) (h : Reads w 1 (.slice a n cap) n (scells l)) :
    Calls Try.prog 9 #[.slice a n cap] w (GivesBool w (decide (rises l))) := by
  have hll : l.length = n := by have := h.1; rw [scells_length] at this; omega
  obtain ⟨_, _, hv, hc1, hc2⟩ := h.le
  cases hv
  unfold maxLen at hc2
  have HR := Lib.hid h
  have HL := Lib.hid hll
  clear h hll
  go_enter Try.func9, Try.ntmps9
  go_wp2
  go_loopw [3] (fun v wr => RisesRel w l v wr) (fun v _ => n + 1 - (intOf v).toNat)
  case atStart => exact ⟨1, rfl, Nat.le_refl _, by omega, steps_one l, Below.refl _ _⟩
  case round =>
    obtain ⟨i, rfl, hi1, hil, hst, hb⟩ := hrel
    rw [HL.out] at hil
    have HB := Lib.hid hb
    have HS := Lib.hid hst
    clear hb hst
    by_cases hin : i < n
    · have hinI : (i : Int) < n := by omega
      obtain ⟨b, off, y, rfl, hy, hby, hcy⟩ := (HR.out.below' HB.out).scell i hin
      obtain ⟨b2, off2, x, hv, hx, hbx, hcx⟩ := (HR.out.below' HB.out).scell (i - 1) (by omega)
      cases hv
      have HX := Lib.hid hx
      have HY := Lib.hid hy
      clear hx hy
      obtain ⟨j, rfl⟩ : ∃ j, i = j + 1 := ⟨i - 1, by omega⟩
      simp only [Nat.add_sub_cancel] at hcx
      have hjI : (((j + 1 : Nat) : Int) - 1) = (j : Int) := by omega
      have hw64 : IntKind.i64.wrap (((j + 1 : Nat) : Int) - 1) = (j : Int) := by rw [IntKind.wrap_i64]; omega
      have hjn : (j : Int) < n := by omega
      have e1 := bl_spell x y
      have e2 := bl_spell y x
      have e3 := str_eq x y
      rcases bl_cases x y with ⟨k1, k2, k3⟩ | ⟨k1, k2, k3⟩ | ⟨k1, k2, k3⟩
      · rw [k1] at e1
        rw [k2] at e2
        rw [decide_eq_false k3] at e3
        have HK := Lib.hid k1
        clear k1 k2 k3
        go_wp2
        go_quiet (fail)
        go_wp2
        refine ⟨⟨j + 1 + 1, by go_num, by omega, by rw [HL.out]; omega, steps_more HS.out HX.out HY.out HK.out, below_quiet HB.out _⟩, by simp [intOf]; omega⟩
      · subst k3
        rw [k1] at e1 e2
        rw [decide_eq_true rfl] at e3
        have hnr : decide (rises l) = false := decide_eq_false (not_rises (by omega) HX.out HY.out k1)
        have HN := Lib.hid hnr
        clear k1 k2 hnr
        go_wp2
        go_quiet (fail)
        go_wp2
        go_ret
        rw [HN.out]
        exact ⟨rfl, below_quiet HB.out _⟩
      · rw [k1] at e1
        rw [k2] at e2
        rw [decide_eq_false k3] at e3
        have hnr : decide (rises l) = false := decide_eq_false (not_rises (by omega) HX.out HY.out k1)
        have HN := Lib.hid hnr
        clear k1 k2 k3 hnr
        go_wp2
        go_quiet (fail)
        go_wp2
        go_ret
        rw [HN.out]
        exact ⟨rfl, below_quiet HB.out _⟩
    · have hinI : ¬ ((i : Int) < n) := by omega
      have hr : decide (rises l) = true := by
        rw [decide_eq_true_eq]
        exact rises_of_steps l (fun j h0 hj => HS.out j h0 (by rw [HL.out] at hj; omega))
      have HN := Lib.hid hr
      clear hr
      go_wp2
      go_ret
      rw [HN.out]
      exact ⟨rfl, HB.out⟩
end Go.Proofs.Ytieaiofdbliblaa
