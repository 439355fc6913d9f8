import Derived.Test.YtepcmnlgffhihaaCodecRefInner
import Derived.Deep.RegionWith
namespace Go.Proofs.Ytepcmnlgffhihaa
open Go.RowKit

def SaysTrue (w : World) (e : Ending) (w' : World) : Prop := e = .returned (.bool true) ∧ Below w.heap.size w w'

theorem enc300 : enc 300 = [172, 2] := by rw [enc_ge (by decide), enc_lt (by decide)]; rfl

set_option maxRecDepth 100000 in
set_option maxHeartbeats 1000000 in
theorem codec_fixed (w : World) : Calls Try.prog 55 #[] w (SaysTrue w) := by
  have h0 : ∀ w : World, Reads w 1 (.slice none 0 0) ([] : List UInt8).length (bcells []) := fun w => (fresh_nil 0 w 5 1).1
  go_enter Try.func55, Try.ntmps55
  go_wp2_with (go_at_call 56; go_must (refine (put_any w _ [] 300 (h0 w) (by decide) (by decide)).mono ?_))
  rintro e w1 ⟨v1, rfl, f1, b1⟩
  simp only [List.nil_append, enc300] at f1
  go_wp2_with (go_at_call 57; go_must (refine (get_any w1 v1 2 [172, 2] f1.1).mono ?_))
  rintro e w2 ⟨rfl, rfl⟩
  rw [show getGo 0 0 [172, 2] = (300, 2, 0) from by decide]
  go_wp2_with (go_at_call 57; go_must (refine (get_any w1 _ 0 [] (h0 w1)).mono ?_))
  rintro e w2 ⟨rfl, rfl⟩
  rw [show getGo 0 0 [] = (0, 0, 7) from by decide]
  have hcv2 := Reads.conv (P := Try.prog) (src := 22) (e := 5) (dst := 9) Try.underlying22 Try.underlying5 Try.underlying9 f1.1
  go_wp2_with (go_at_call 62; go_must (refine (inner_any w1 ⟨#[97]⟩ 0 false (by decide) (by decide)).mono ?_))
  rintro e w3 ⟨rfl, b3⟩
  have hin : (⟨(inner [97] 0 false).toArray⟩ : ByteArray) = ⟨#[97, 0, 1, 255, 255, 255, 255, 255, 255, 255, 255, 1]⟩ := by decide +kernel
  rw [hin]
  go_wp2
  go_ret
  exact ⟨rfl, b1.trans (b3.mono b1.size)⟩
end Go.Proofs.Ytepcmnlgffhihaa
