import Derived.Test.YtkcaadkamaogbaaDoorIndexTuple
namespace Go.Proofs.YtkcaadkamaogbaaDoor
open Go Go.RowKit

theorem row_doc : rowB ⟨#[102]⟩ [⟨#[100, 111, 99]⟩] = ⟨#[102, 100, 111, 99, 0]⟩ := by decide +kernel
theorem with_doc : withB ⟨#[102, 100, 111, 99, 0]⟩ = ⟨#[102, 100, 111, 99, 1]⟩ := by decide +kernel
theorem tup_none : tupV ⟨#[]⟩ = .tuple #[.agg #[.string ⟨#[]⟩, .string ⟨#[]⟩, .string ⟨#[]⟩, .string ⟨#[]⟩, .string ⟨#[]⟩, .string ⟨#[]⟩], .bool false, .int .i64 9] := by
  unfold tupV
  rw [if_neg (by decide), if_neg (fun h => absurd h.1 (by decide))]
  rfl

set_option maxRecDepth 100000 in
set_option maxHeartbeats 1000000 in
theorem ifixed_any (w : World) (hm : MaxInt w) : Calls Tryd.prog 7 #[] w (GivesVal w (.bool true)) := by
  have ht := fun w => type_any w ⟨#[100, 111, 99]⟩ (by decide)
  rw [row_doc, with_doc] at ht
  have hu := fun w (h : MaxInt w) => ituple_any w ⟨#[]⟩ (by decide) h
  rw [tup_none] at hu
  have HT := Lib.hid ht
  have HU := Lib.hid hu
  have HM := Lib.hid hm
  clear ht hu hm
  go_enter Tryd.func7, Tryd.ntmps7
  go_wp2_with (go_at_call 16; go_must (refine (HT.out _).mono ?_))
  rintro e w1 ⟨rfl, b1⟩
  have HB1 := Lib.hid b1
  clear b1
  go_wp2_with (go_at_call 12; go_must (refine (HU.out _ (HM.out.below HB1.out)).mono ?_))
  rintro e w2 ⟨rfl, b2⟩
  have HB2 := Lib.hid (HB1.out.trans (b2.mono HB1.out.size))
  clear b2
  go_wp2
  go_ret
  exact ⟨rfl, HB2.out.alloc HB2.out.size _⟩
end Go.Proofs.YtkcaadkamaogbaaDoor
