import Derived.Test.YtepcmnlgffhihaaRefOuter
namespace Go.Proofs.Ytepcmnlgffhihaa
open Go Go.RowKit

def entryParts : Option (List UInt8 × Nat × Bool) → ByteArray × Nat × Bool × Int
  | none => (⟨#[]⟩, 0, false, 9)
  | some (k, r, d) => (⟨k.toArray⟩, r, d, 0)

theorem entryVal_parts (r : Option (List UInt8 × Nat × Bool)) : entryVal r = .tuple #[.agg #[.string (entryParts r).1, .int .u64 ((entryParts r).2.1 : Int), .bool (entryParts r).2.2.1], .int .i64 (entryParts r).2.2.2] := by
  cases r <;> rfl

set_option maxRecDepth 100000 in
set_option maxHeartbeats 4000000 in
theorem codecOuter_walk (w : World) (s : ByteArray) : Calls Try.prog 12 #[.string s] w (SaysTrue w) := by
  by_cases hp : 2000 < s.size
  · have hp' : (2000 : Int) < s.size := by omega
    go_enter Try.func12, Try.ntmps12
    go_wp2_with (go_at_call 55; go_must (refine (codec_fixed _).mono ?_); rintro e w1 ⟨rfl, b1⟩)
    go_ret
    exact ⟨rfl, b1⟩
  · have hp' : ¬ (2000 : Int) < s.size := by omega
    go_enter Try.func12, Try.ntmps12
    go_wp2_with (go_at_call 55; go_must (refine (codec_fixed _).mono ?_))
    rintro e w1 ⟨rfl, b1⟩
    go_wp2_with (go_at_call 63; go_must (refine (outer_any _ s (by omega)).mono ?_))
    rintro e w2 ⟨rfl, b2⟩
    rw [entryVal_parts]
    generalize hq : entryParts (outer s.data.toList) = q
    obtain ⟨k, r, d, er⟩ := q
    have Hq := Lib.hid hq
    clear hq
    simp only
    have b3 := b1.trans (b2.mono b1.size)
    have hs3 := b3.size
    clear b2
    go_wp2_with (go_at_call 65; go_must (refine (refouter_any _ s (by omega)).mono ?_))
    rintro e w4 ⟨rfl, b4⟩
    rw [entryVal_parts, Hq.out]
    simp only
    have c0 := (entryBox (w := w2) (by simpa using b4)).1 0
    have c1 := (entryBox (w := w2) (by simpa using b4)).1 1
    have c2 := (entryBox (w := w2) (by simpa using b4)).1 2
    simp at c0 c1 c2
    have hs4 : w2.heap.size < w4.heap.size := by have := b4.size; simp at this; omega
    have d0 : (w4.alloc (.cells #[.string k, .int .u64 (r : Int), .bool d] 79)).cell? ⟨w2.heap.size, 0, none⟩ = some (.string k) := (World.cell?_of_block (Below.heap_alloc w4 _ _ hs4)).trans c0
    have d1 : (w4.alloc (.cells #[.string k, .int .u64 (r : Int), .bool d] 79)).cell? ⟨w2.heap.size, 1, none⟩ = some (.int .u64 (r : Int)) := (World.cell?_of_block (Below.heap_alloc w4 _ _ hs4)).trans c1
    have d2 : (w4.alloc (.cells #[.string k, .int .u64 (r : Int), .bool d] 79)).cell? ⟨w2.heap.size, 2, none⟩ = some (.bool d) := (World.cell?_of_block (Below.heap_alloc w4 _ _ hs4)).trans c2
    have hbw : Below w.heap.size w (w4.alloc (.cells #[.string k, .int .u64 (r : Int), .bool d] 79)) := (((b3.alloc hs3 _).trans (b4.mono (by simp; omega))).alloc (by omega) _)
    have Hbw := Lib.hid hbw
    clear hbw c0 c1 c2 b4 b3
    go_wp2
    all_goals go_ret
    all_goals exact ⟨by simp, Hbw.out⟩
end Go.Proofs.Ytepcmnlgffhihaa
