import Derived.Test.YtodjgdaaggajcaaDoorFrameCutsWalk
namespace Go.Proofs.YtodjgdaaggajcaaDoor
open Go Go.RowKit

set_option maxRecDepth 100000 in
set_option maxHeartbeats 2000000 in
theorem frameCuts_nil (w : World) (a : Option Addr) (cap : Nat) (at' : Nat) (hcap : cap ≤ 9223372036854775807) (_hat : at' < 65536) (hst : Steps w) :
    Calls Tryd.prog 5 #[.slice a 0 cap, .int .u16 at'] w (SaysTrue w) := by
  have ST := Lib.hid hst
  have hal := allL_stop (b := []) (by decide +kernel)
  have Hal := Lib.hid hal
  have Hrd := Lib.hid (fun w => (fresh_none 0 w 5 1).1)
  have h0 : ¬ ((0 : Int) < 0) := by omega
  have hm1 : (at' : Int) % 1 = 0 := by omega
  clear hst hal
  go_enter Tryd.func5, Tryd.ntmps5
  go_wp2_with (go_at_call 7; go_must (refine (frame_fixed w ST.out).mono ?_))
  rintro e w1 ⟨rfl, b1⟩
  have st1 := Lib.hid (ST.out.below b1)
  go_wp2
  refine wp_loop_rounds 1 ?_
  rw [rounds_succ]
  go_wp2
  refine wp_loop_rounds 1 ?_
  rw [rounds_succ]
  go_wp2_with (go_at_call 14; go_must (refine (all_any w1 _ 0 [] (Hrd.out w1) (.inl rfl) (by decide) st1.out).mono ?_))
  rintro e w3 ⟨v3, rfl, o3, b3⟩
  rw [Hal.out] at o3 ⊢
  have r3 := Lib.hid o3.rows
  have rl3 := Lib.hid (show RowsOf w3 (.slice a 0 cap) 0 [] from ⟨[], ⟨by simp, a, cap, rfl, Nat.zero_le _, hcap, fun j u h => by simp at h⟩, rfl, fun i p h => by simp at h⟩)
  have hb3 := Lib.hid (b1.trans (b3.mono b1.size))
  clear o3 b3 b1
  go_wp2_with (go_at_call 16; go_must (refine (same_any w3 _ _ 0 _ r3.out rl3.out).mono ?_))
  rintro e w4 ⟨rfl, b4⟩
  have hb4 := hb3.out.trans (b4.mono hb3.out.size)
  clear b4
  go_wp2
  go_ret
  exact ⟨rfl, hb4⟩

theorem frameCuts_any (w : World) (a : Option Addr) (n cap : Nat) (ps : List (List UInt8)) (at' : Nat) (h : RowsOf w (.slice a n cap) n ps) (hat : at' < 65536) (hst : Steps w) :
    Calls Tryd.prog 5 #[.slice a n cap, .int .u16 at'] w (SaysTrue w) := by
  have hc : n ≤ cap ∧ cap ≤ 9223372036854775807 := by
    obtain ⟨vs, hr, _⟩ := h
    obtain ⟨_, _, hv, h1, h2⟩ := hr.le
    cases hv
    unfold maxLen at h2
    omega
  by_cases hn : n = 0
  · subst hn
    exact frameCuts_nil w a cap at' hc.2 hat hst
  · exact frameCuts_walk w a n cap ps at' h hc hat hst hn
end Go.Proofs.YtodjgdaaggajcaaDoor
