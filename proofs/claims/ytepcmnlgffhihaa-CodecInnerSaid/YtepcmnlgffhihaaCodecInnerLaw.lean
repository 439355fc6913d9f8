import Derived.Test.YtepcmnlgffhihaaOuter
import Derived.Test.YtepcmnlgffhihaaCodecLess
import Derived.Test.YtepcmnlgffhihaaOuterInner
namespace Go.Proofs.Ytepcmnlgffhihaa
open Go Go.RowKit

set_option maxRecDepth 100000 in
set_option maxHeartbeats 4000000 in
theorem codecInner_walk (w : World) (p : ByteArray) (a : Nat) (x : Bool) (ha : a < 18446744073709551616) :
    Calls Try.prog 11 #[.agg #[.string p, .int .u64 a, .bool x]] w (SaysTrue w) := by
  have Ha := Lib.hid ha
  clear ha
  by_cases hp : 2000 < p.size
  · have hp' : (2000 : Int) < p.size := by omega
    go_enter Try.func11, Try.ntmps11
    go_wp2_with (go_at_call 55; go_must (refine (codec_fixed _).mono ?_); rintro e w1 ⟨rfl, b1⟩; have c0 := (entryBox (by simpa using b1)).1 0; simp at c0)
    go_ret
    exact ⟨rfl, ((Below.refl _ _).alloc (Nat.le_refl _) _).trans (b1.mono (by simp))⟩
  · have hp' : ¬ (2000 : Int) < p.size := by omega
    go_enter Try.func11, Try.ntmps11
    go_wp2_with (go_at_call 55; go_must (refine (codec_fixed _).mono ?_))
    rintro e w1 ⟨rfl, b1⟩
    have b1' : Below (w.heap.size + 1) (w.alloc (.cells #[.string p, .int .u64 (a : Int), .bool x] 79)) w1 := by simpa using b1
    have hs1 := b1'.size
    simp at hs1
    have c0 := (entryBox b1').1 0
    have c1 := (entryBox b1').1 1
    have c2 := (entryBox b1').1 2
    simp at c0 c1 c2
    clear b1
    go_wp2_with (go_at_call 62; go_must (refine (inner_any _ p a x (by omega) Ha.out).mono ?_))
    rintro e w2 ⟨rfl, b2⟩
    have b2' := b1'.trans (b2.mono hs1)
    have hs2 := b2.size
    have hn : (inner p.data.toList a x).length ≤ 5000 := by
      have h1 := esc_length p.data.toList
      have h2 : p.data.toList.length = p.size := Array.length_toList
      rw [inner, List.length_append, innTo_length, List.length_singleton]
      omega
    clear c0 c1 c2 b2
    have ho := outer_inner p.data.toList a x Ha.out
    go_wp2_with (go_at_call 63; go_must (refine (outer_any _ ⟨(inner p.data.toList a x).toArray⟩ (by simp [ByteArray.size]; omega)).mono ?_))
    rintro e w3 ⟨rfl, b3⟩
    rw [show entryVal (some (p.data.toList, a, x)) = .tuple #[.agg #[.string p, .int .u64 (a : Int), .bool x], .int .i64 0] from rfl]
    have b3' := b2'.trans (b3.mono (by omega))
    have hs3 := b3.size
    clear b3 ho
    have c0 := (entryBox b3').1 0
    have c1 := (entryBox b3').1 1
    have c2 := (entryBox b3').1 2
    simp at c0 c1 c2
    have hlt3 : w.heap.size < w3.heap.size := by omega
    have d0 : (w3.alloc (.cells #[.string p, .int .u64 (a : Int), .bool x] 79)).cell? ⟨w.heap.size, 0, none⟩ = some (.string p) := (World.cell?_of_block (Below.heap_alloc w3 _ _ hlt3)).trans c0
    have d1 : (w3.alloc (.cells #[.string p, .int .u64 (a : Int), .bool x] 79)).cell? ⟨w.heap.size, 1, none⟩ = some (.int .u64 (a : Int)) := (World.cell?_of_block (Below.heap_alloc w3 _ _ hlt3)).trans c1
    have d2 : (w3.alloc (.cells #[.string p, .int .u64 (a : Int), .bool x] 79)).cell? ⟨w.heap.size, 2, none⟩ = some (.bool x) := (World.cell?_of_block (Below.heap_alloc w3 _ _ hlt3)).trans c2
    have b4 : Below (w.heap.size + 1) (w.alloc (.cells #[.string p, .int .u64 (a : Int), .bool x] 79)) (w3.alloc (.cells #[.string p, .int .u64 (a : Int), .bool x] 79)) := b3'.alloc (by omega) _
    have hb5 := fun (W : World) (h : Below (w3.alloc (.cells #[.string p, .int .u64 (a : Int), .bool x] 79)).heap.size (w3.alloc (.cells #[.string p, .int .u64 (a : Int), .bool x] 79)) W) => entryBox (w := w3) (w1 := W) (by simpa using h)
    have Hb5 := Lib.hid hb5
    clear c0 c1 c2 hb5
    go_wp2_with (go_at_call 64; go_must (refine (refinner_any _ p a x (by omega) Ha.out).mono ?_))
    rintro e w5 ⟨rfl, b5⟩
    have b6 := b4.trans (b5.mono (by simp; omega))
    have c0 := (entryBox b6).1 0
    have c1 := (entryBox b6).1 1
    have c2 := (entryBox b6).1 2
    have e0 := (Hb5.out _ b5).1 0
    have e1 := (Hb5.out _ b5).1 1
    have e2 := (Hb5.out _ b5).1 2
    simp at c0 c1 c2 e0 e1 e2
    clear d0 d1 d2
    have hbw : Below w.heap.size w w5 := ((Below.refl _ _).alloc (Nat.le_refl _) _).trans (b6.mono (by omega))
    have Hbw := Lib.hid hbw
    clear hbw
    go_wp2
    all_goals go_ret
    all_goals exact ⟨by simp, Hbw.out⟩
end Go.Proofs.Ytepcmnlgffhihaa
