import Derived.Test.YtionejpiieemeaaQuotaFixed
namespace Go.Proofs.Ytionejpiieemeaa
open Go Go.RowKit

def SameVal (w : World) (v : Value) (e : Ending) (w' : World) : Prop := e = .returned v ∧ w = w'

theorem take_nil (w : World) (c : ByteArray) (k now : Int) : Calls Try.prog 13 #[.pointer none, .string c, .int .u64 k, .int .u64 now] w (SameVal w (.bool false)) := by
  go_enter Try.func13, Try.ntmps13
  go_wp2
  go_ret
  exact ⟨rfl, rfl⟩

theorem left_nil (w : World) (c : ByteArray) (now : Int) : Calls Try.prog 11 #[.pointer none, .string c, .int .u64 now] w (SameVal w (.int .u64 0)) := by
  go_enter Try.func11, Try.ntmps11
  go_wp2
  go_ret
  exact ⟨rfl, rfl⟩

theorem clients_nil (w : World) : Calls Try.prog 15 #[.pointer none] w (SameVal w (.slice none 0 0)) := by
  go_enter Try.func15, Try.ntmps15
  go_wp2
  go_ret
  exact ⟨rfl, rfl⟩

set_option maxRecDepth 100000 in
set_option maxHeartbeats 1000000 in
theorem quotaNil_walk (w : World) (n now : Int) : Calls Try.prog 6 #[.int .u64 n, .int .u64 now] w (SaysTrue w) := by
  go_enter Try.func6, Try.ntmps6
  go_wp2_with (go_at_call 7; go_must (refine (fixed_any _).mono ?_))
  rintro e w1 ⟨rfl, b1⟩
  have B1 := Lib.hid b1
  clear b1
  go_wp2_with (go_at_call 13; go_must (refine (take_nil _ _ _ _).mono ?_))
  rintro e w2 ⟨rfl, rfl⟩
  go_wp2_with (go_at_call 13; go_must (refine (take_nil _ _ _ _).mono ?_))
  rintro e w2 ⟨rfl, rfl⟩
  go_wp2_with (go_at_call 11; go_must (refine (left_nil _ _ _).mono ?_))
  rintro e w2 ⟨rfl, rfl⟩
  go_wp2_with (go_at_call 15; go_must (refine (clients_nil _).mono ?_))
  rintro e w2 ⟨rfl, rfl⟩
  go_wp2
  go_ret
  exact ⟨rfl, B1.out⟩
end Go.Proofs.Ytionejpiieemeaa
