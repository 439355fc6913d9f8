/- May a relation, or a type, be named so? -/
import Derived.Test.YtopnldebekhelaaDoorZSchM
import Derived.Test.YtopnldebekhelaaDoorMga
namespace Go.Proofs.YtopnldebekhelaaDoor
open Go Go.RowKit

set_option maxRecDepth 100000 in
set_option maxHeartbeats 1000000 in
theorem isref_any (w : World) (s : ByteArray) (hs : s.size ≤ 1000000000) : Calls Tryd.prog 25 #[.string s] w (GivesBool w (isRefB s)) := by
  have hP := Lib.hid (name_any w s hs)
  cases hn : nameB s with
  | false =>
    have hv : isRefB s = false := by unfold isRefB; rw [hn]; rfl
    rw [hv]
    rw [hn] at hP
    go_enter Tryd.func25, Tryd.ntmps25
    go_wp2_with (go_at_call 47; go_must (refine hP.out.mono ?_))
    rintro e w1 ⟨rfl, b1⟩
    go_wp2
    go_ret
    exact ⟨rfl, b1⟩
  | true =>
    have hv : isRefB s = !(s.toList == [116, 104, 105, 115]) := by unfold isRefB; rw [hn, streq]; rfl
    rw [hv]
    rw [hn] at hP
    go_enter Tryd.func25, Tryd.ntmps25
    go_wp2_with (go_at_call 47; go_must (refine hP.out.mono ?_))
    rintro e w1 ⟨rfl, b1⟩
    go_wp2
    go_ret
    exact ⟨rfl, b1⟩

set_option maxRecDepth 100000 in
set_option maxHeartbeats 1000000 in
theorem isrel_any (w : World) (s : ByteArray) (hs : s.size ≤ 1000000000) : Calls Tryd.prog 27 #[.string s] w (GivesBool w (isRelB s)) := by
  have hP := Lib.hid (isref_any w s hs)
  cases hn : isRefB s with
  | false =>
    have hv : isRelB s = false := by unfold isRelB; rw [hn]; rfl
    rw [hv]
    rw [hn] at hP
    go_enter Tryd.func27, Tryd.ntmps27
    go_wp2_with (go_at_call 25; go_must (refine hP.out.mono ?_))
    rintro e w1 ⟨rfl, b1⟩
    go_wp2
    go_ret
    exact ⟨rfl, b1⟩
  | true =>
    have hv : isRelB s = !(s.toList == [116, 121, 112, 101]) := by unfold isRelB; rw [hn, streq]; rfl
    rw [hv]
    rw [hn] at hP
    go_enter Tryd.func27, Tryd.ntmps27
    go_wp2_with (go_at_call 25; go_must (refine hP.out.mono ?_))
    rintro e w1 ⟨rfl, b1⟩
    go_wp2
    go_ret
    exact ⟨rfl, b1⟩
end Go.Proofs.YtopnldebekhelaaDoor
