import Derived.Test.YtkcaadkamaogbaaDoorTupleRefCheck
import Derived.Test.YtkcaadkamaogbaaDoorTupleKeyM
namespace Go.Proofs.YtkcaadkamaogbaaDoor
open Go Go.RowKit

def bytesOf (l : List UInt8) : ByteArray := ⟨l.toArray⟩

theorem bytesOf_step (K : List UInt8) (s : ByteArray) : bytesOf K ++ s ++ ⟨#[0]⟩ = bytesOf (K ++ s.data.toList ++ [0]) := by
  apply ByteArray.ext
  simp [bytesOf]

def RkeyRel (w : World) (t : Six) (v i : Value) (wr : World) : Prop :=
  ∃ k : Nat, i = .int .i64 (k : Int) ∧ k ≤ 6 ∧ v = .string (bytesOf (keyTo t k)) ∧ w = wr

set_option maxRecDepth 100000 in
set_option maxHeartbeats 1000000 in
theorem refkey_any (w : World) (t : Six) (hs : t.short 1000000) : Calls Tryd.prog 25 #[t.val] w (GivesVal w (.string (bytesOf (keyL t.bytes)))) := by
  have hlen := keyTo_length hs
  have hparts := fun w => refparts_any w t
  have hpart : ∀ (k : Nat) (s : ByteArray), t.list[k]? = some s → s.size ≤ 1000000 := by
    obtain ⟨h1, h2, h3, h4, h5, h6⟩ := hs
    intro k s h
    have := List.mem_of_getElem? h
    simp [Six.list] at this
    rcases this with rfl | rfl | rfl | rfl | rfl | rfl <;> assumption
  have HP := Lib.hid hparts
  have HL := Lib.hid hlen
  have HS := Lib.hid hpart
  clear hparts hlen hs hpart
  have hv : t.val = .agg #[.string t.a, .string t.b, .string t.c, .string t.d, .string t.e, .string t.f] := rfl
  rw [hv]
  clear hv
  go_enter Tryd.func25, Tryd.ntmps25
  go_wp2_with (go_at_call 19; go_must (refine (HP.out _).mono ?_))
  rintro e w1 ⟨b, rfl, r1, b1⟩
  have b0 : Below w.heap.size w w1 := ((Below.refl _ w).alloc (Nat.le_refl _) _).trans (b1.mono (by simp))
  have B0 := Lib.hid b0
  have HR := Lib.hid r1
  clear b1 b0 r1
  go_wp2
  go_loopw [3, 9] (fun v c wr => RkeyRel w1 t v c wr) (fun _ c _ => 6 - (intOf c).toNat)
  case atStart => exact ⟨0, rfl, by decide, rfl, rfl⟩
  case round =>
    obtain ⟨k, rfl, hk, rfl, rfl⟩ := hrel
    by_cases hlt : k < 6
    · obtain ⟨b', off, x, hbe, hx, _, c1⟩ := HR.out.scell k hlt
      cases hbe
      rw [Nat.zero_add] at c1
      have hxm := HS.out k x hx
      have hst := bytesOf_step (keyTo t k) x
      rw [← keyTo_succ hx] at hst
      have hz : (bytesOf (keyTo t k)).size ≤ 6000006 := HL.out k
      generalize bytesOf (keyTo t k) = K at *
      have HSt := Lib.hid hst
      clear hst hx
      go_wp2
      exact ⟨⟨k + 1, by go_num, by omega, by rw [HSt.out], rfl⟩, by simp [intOf]; omega⟩
    · obtain rfl : k = 6 := by omega
      have hfull : keyTo t 6 = keyL t.bytes := rfl
      rw [hfull]
      generalize bytesOf (keyL t.bytes) = K at *
      clear hfull
      go_wp2
      go_ret
      exact ⟨rfl, B0.out⟩
end Go.Proofs.YtkcaadkamaogbaaDoor
