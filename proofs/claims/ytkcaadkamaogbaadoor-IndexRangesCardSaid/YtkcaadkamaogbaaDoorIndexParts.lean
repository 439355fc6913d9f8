import Derived.Test.YtkcaadkamaogbaaDoorIndexRow
namespace Go.Proofs.YtkcaadkamaogbaaDoor
open Go Go.RowKit

def Six.turned (t : Six) : Six := ⟨t.d, t.e, t.f, t.a, t.b, t.c⟩

set_option maxRecDepth 100000 in
set_option maxHeartbeats 1000000 in
theorem isplit_any (w : World) (t : Six) : Calls Tryd.prog 21 #[t.val] w (GivesVal w t.val) := by
  obtain ⟨a, b, c, d, e, f⟩ := t
  unfold Six.val
  go_enter Tryd.func21, Tryd.ntmps21
  go_wp2
  refine bodyPost_ret (v := .agg #[.string a, .string b, .string c, .string d, .string e, .string f]) ?_ rfl ⟨rfl, ?_⟩
  · simp [results, Tryd.results21, go_sem]
  · exact (Below.refl _ _).alloc (Nat.le_refl _) _ |>.alloc (by simp) _

set_option maxRecDepth 100000 in
set_option maxHeartbeats 1000000 in
theorem turn_any (w : World) (t : Six) : Calls Tryd.prog 22 #[t.val] w (GivesVal w t.turned.val) := by
  obtain ⟨a, b, c, d, e, f⟩ := t
  unfold Six.turned Six.val
  go_enter Tryd.func22, Tryd.ntmps22
  go_wp2
  refine bodyPost_ret (v := .agg #[.string d, .string e, .string f, .string a, .string b, .string c]) ?_ rfl ⟨rfl, ?_⟩
  · simp [results, Tryd.results22, go_sem]
  · exact (Below.refl _ _).alloc (Nat.le_refl _) _ |>.alloc (by simp) _

set_option maxRecDepth 100000 in
set_option maxHeartbeats 1000000 in
theorem ijoin_any (w : World) (t : Six) : Calls Tryd.prog 29 #[t.val] w (GivesVal w t.val) := by
  obtain ⟨a, b, c, d, e, f⟩ := t
  unfold Six.val
  go_enter Tryd.func29, Tryd.ntmps29
  go_wp2
  refine bodyPost_ret (v := .agg #[.string a, .string b, .string c, .string d, .string e, .string f]) ?_ rfl ⟨rfl, ?_⟩
  · simp [results, Tryd.results29, go_sem]
  · exact (Below.refl _ _).alloc (Nat.le_refl _) _ |>.alloc (by simp) _
end Go.Proofs.YtkcaadkamaogbaaDoor
