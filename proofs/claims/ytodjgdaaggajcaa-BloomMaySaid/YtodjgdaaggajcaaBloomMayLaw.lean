import Derived.Test.YtodjgdaaggajcaaBloomRefMay
namespace Go.Proofs.Ytodjgdaaggajcaa
open Go Go.RowKit

set_option maxRecDepth 100000 in
set_option maxHeartbeats 1000000 in
theorem bloomMay_walk (w : World) (a : Option Addr) (n cap : Nat) (f : List UInt8) (s : ByteArray) (h : Reads w 1 (.slice a n cap) n (bcells f)) :
    Calls Try.prog 5 #[.slice a n cap, .string s] w (SaysTrue w) := by
  obtain ⟨_, _, hv, h1, h2⟩ := h.le
  cases hv
  unfold maxLen at h2
  have ways : (3000 : Int) < n ∨ (¬ (3000 : Int) < n ∧ (300 : Int) < s.size) ∨ (¬ (3000 : Int) < n ∧ ¬ (300 : Int) < s.size) := by omega
  rcases ways with hn | ⟨hn, hs⟩ | ⟨hn, hs⟩
  · go_enter Try.func5, Try.ntmps5
    go_wp2_with (go_at_call 7; go_must (refine (bloom_fixed w).mono ?_))
    rintro e w1 ⟨rfl, b1⟩
    go_wp2
    go_ret
    exact ⟨rfl, b1⟩
  · go_enter Try.func5, Try.ntmps5
    go_wp2_with (go_at_call 7; go_must (refine (bloom_fixed w).mono ?_))
    rintro e w1 ⟨rfl, b1⟩
    go_wp2
    go_ret
    exact ⟨rfl, b1⟩
  · have hn' : n ≤ 1000000 := by omega
    have hs' : s.size ≤ 1000000000 := by omega
    go_enter Try.func5, Try.ntmps5
    go_wp2_with (go_at_call 7; go_must (refine (bloom_fixed w).mono ?_))
    rintro e w1 ⟨rfl, b1⟩
    have r1 := h.below' b1
    go_wp2_with (go_at_call 10; go_must (refine (may_any w1 _ n f s r1 hn' hs').mono ?_))
    rintro e w2 ⟨rfl, b2⟩
    have r2 := r1.below' b2
    go_wp2_with (go_at_call 11; go_must (refine (refmay_any w2 _ n f s r2 hn' hs').mono ?_))
    rintro e w3 ⟨rfl, b3⟩
    have hb : Below w.heap.size w w3 := (b1.trans (b2.mono b1.size)).trans (b3.mono (by have := b1.size; have := b2.size; omega))
    generalize mayL f s.data.toList = t
    clear r1 r2 b1 b2 b3
    go_wp2
    go_ret
    exact ⟨by simp, hb⟩
end Go.Proofs.Ytodjgdaaggajcaa
