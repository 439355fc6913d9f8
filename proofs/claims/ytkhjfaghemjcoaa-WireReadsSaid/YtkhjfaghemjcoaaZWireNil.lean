/- Lists of nothing, written and read (written by gen_wirefix.py). -/
import Derived.Test.YtkhjfaghemjcoaaZWireQ
import Derived.Test.YtkhjfaghemjcoaaZWireRl
namespace Go.Proofs.Ytkhjfaghemjcoaa
open Go Go.RowKit

theorem enc_zero : enc 0 = [0] := by rw [enc_lt (by decide)]; rfl
theorem rnum_zero (r : List UInt8) : rnum (0 :: r) false = (0, r, false) := by
  have := rnum_enc (n := 0) (by decide) r
  rwa [enc_zero] at this

def NilPost (B : Nat) (w : World) (g : Nat) (l : List UInt8) (d : Int) (e : Ending) (w' : World) : Prop :=
  e = .returned (.slice none 0 0) ∧ RAt B w' g l d false ∧ Touch w w' [g]

set_option maxRecDepth 100000 in
theorem wputFlags_nil (w : World) (B g : Nat) (l : List UInt8) (d : Int) (f : Value) (h : WAt B w g l d false) (hB : B ≤ w.heap.size) (hl : l.length ≤ 1000000) :
    Calls Try.prog 62 #[.pointer (some ⟨g, 0, none⟩), .slice none 0 0, f] w (WPost B w g (l ++ [0]) d false) := by
  have HN := Lib.hid (wnumber_any w B g l d false 0 h hB (by omega) (by decide))
  rw [enc_zero] at HN
  clear h
  go_enter Try.func62, Try.ntmps62
  go_wp2_with (go_at_call 17; go_must (refine HN.out.mono ?_))
  rintro e w1 ⟨rfl, hw, hb, hk⟩
  go_wp2
  go_loopw [15] (fun v wr => v = .int .i64 0 ∧ wr = w1) (fun _ _ => 0)
  case atStart => exact ⟨rfl, rfl⟩
  case round =>
    obtain ⟨rfl, rfl⟩ := hrel
    go_wp2
    go_end0
    exact ⟨rfl, hw, hb, hk⟩

set_option maxRecDepth 100000 in
theorem getFlags_nil (B : Nat) (w : World) (g : Nat) (l : List UInt8) (d : Int) (f : Value) (h : RAt B w g (0 :: l) d false) :
    Calls Try.prog 49 #[.pointer (some ⟨g, 0, none⟩), f] w (NilPost B w g l d) := by
  have HN := Lib.hid (rnumber_any B w g (0 :: l) d false h)
  rw [rnum_zero] at HN
  clear h
  go_enter Try.func49, Try.ntmps49
  go_wp2_with (go_at_call 30; go_must (refine HN.out.mono ?_))
  rintro e w1 ⟨rfl, hw, ht⟩
  go_wp2
  go_loopw [5, 6] (fun v c wr => v = .slice none 0 0 ∧ c = .int .u64 0 ∧ wr = w1) (fun _ _ _ => 0)
  case atStart => exact ⟨rfl, rfl, rfl⟩
  case round =>
    obtain ⟨rfl, rfl, rfl⟩ := hrel
    go_wp2
    go_ret
    exact ⟨rfl, hw, ht⟩

set_option maxRecDepth 100000 in
theorem wputTuples_nil (w : World) (B g : Nat) (l : List UInt8) (d : Int) (f : Value) (h : WAt B w g l d false) (hB : B ≤ w.heap.size) (hl : l.length ≤ 1000000) :
    Calls Try.prog 64 #[.pointer (some ⟨g, 0, none⟩), .slice none 0 0, f] w (WPost B w g (l ++ [0]) d false) := by
  have HN := Lib.hid (wnumber_any w B g l d false 0 h hB (by omega) (by decide))
  rw [enc_zero] at HN
  clear h
  go_enter Try.func64, Try.ntmps64
  go_wp2_with (go_at_call 17; go_must (refine HN.out.mono ?_))
  rintro e w1 ⟨rfl, hw, hb, hk⟩
  go_wp2
  go_loopw [15] (fun v wr => v = .int .i64 0 ∧ wr = w1) (fun _ _ => 0)
  case atStart => exact ⟨rfl, rfl⟩
  case round =>
    obtain ⟨rfl, rfl⟩ := hrel
    go_wp2
    go_end0
    exact ⟨rfl, hw, hb, hk⟩

set_option maxRecDepth 100000 in
theorem getTuples_nil (B : Nat) (w : World) (g : Nat) (l : List UInt8) (d : Int) (f : Value) (h : RAt B w g (0 :: l) d false) :
    Calls Try.prog 51 #[.pointer (some ⟨g, 0, none⟩), f] w (NilPost B w g l d) := by
  have HN := Lib.hid (rnumber_any B w g (0 :: l) d false h)
  rw [rnum_zero] at HN
  clear h
  go_enter Try.func51, Try.ntmps51
  go_wp2_with (go_at_call 30; go_must (refine HN.out.mono ?_))
  rintro e w1 ⟨rfl, hw, ht⟩
  go_wp2
  go_loopw [5, 6] (fun v c wr => v = .slice none 0 0 ∧ c = .int .u64 0 ∧ wr = w1) (fun _ _ _ => 0)
  case atStart => exact ⟨rfl, rfl, rfl⟩
  case round =>
    obtain ⟨rfl, rfl, rfl⟩ := hrel
    go_wp2
    go_ret
    exact ⟨rfl, hw, ht⟩

set_option maxRecDepth 100000 in
theorem wputObjs_nil (w : World) (B g : Nat) (l : List UInt8) (d : Int) (f : Value) (h : WAt B w g l d false) (hB : B ≤ w.heap.size) (hl : l.length ≤ 1000000) :
    Calls Try.prog 66 #[.pointer (some ⟨g, 0, none⟩), .slice none 0 0, f] w (WPost B w g (l ++ [0]) d false) := by
  have HN := Lib.hid (wnumber_any w B g l d false 0 h hB (by omega) (by decide))
  rw [enc_zero] at HN
  clear h
  go_enter Try.func66, Try.ntmps66
  go_wp2_with (go_at_call 17; go_must (refine HN.out.mono ?_))
  rintro e w1 ⟨rfl, hw, hb, hk⟩
  go_wp2
  go_loopw [15] (fun v wr => v = .int .i64 0 ∧ wr = w1) (fun _ _ => 0)
  case atStart => exact ⟨rfl, rfl⟩
  case round =>
    obtain ⟨rfl, rfl⟩ := hrel
    go_wp2
    go_end0
    exact ⟨rfl, hw, hb, hk⟩

set_option maxRecDepth 100000 in
theorem getObjs_nil (B : Nat) (w : World) (g : Nat) (l : List UInt8) (d : Int) (f : Value) (h : RAt B w g (0 :: l) d false) :
    Calls Try.prog 53 #[.pointer (some ⟨g, 0, none⟩), f] w (NilPost B w g l d) := by
  have HN := Lib.hid (rnumber_any B w g (0 :: l) d false h)
  rw [rnum_zero] at HN
  clear h
  go_enter Try.func53, Try.ntmps53
  go_wp2_with (go_at_call 30; go_must (refine HN.out.mono ?_))
  rintro e w1 ⟨rfl, hw, ht⟩
  go_wp2
  go_loopw [5, 6] (fun v c wr => v = .slice none 0 0 ∧ c = .int .u64 0 ∧ wr = w1) (fun _ _ _ => 0)
  case atStart => exact ⟨rfl, rfl, rfl⟩
  case round =>
    obtain ⟨rfl, rfl, rfl⟩ := hrel
    go_wp2
    go_ret
    exact ⟨rfl, hw, ht⟩

set_option maxRecDepth 100000 in
theorem wputEvents_nil (w : World) (B g : Nat) (l : List UInt8) (d : Int) (f : Value) (h : WAt B w g l d false) (hB : B ≤ w.heap.size) (hl : l.length ≤ 1000000) :
    Calls Try.prog 68 #[.pointer (some ⟨g, 0, none⟩), .slice none 0 0, f] w (WPost B w g (l ++ [0]) d false) := by
  have HN := Lib.hid (wnumber_any w B g l d false 0 h hB (by omega) (by decide))
  rw [enc_zero] at HN
  clear h
  go_enter Try.func68, Try.ntmps68
  go_wp2_with (go_at_call 17; go_must (refine HN.out.mono ?_))
  rintro e w1 ⟨rfl, hw, hb, hk⟩
  go_wp2
  go_loopw [15] (fun v wr => v = .int .i64 0 ∧ wr = w1) (fun _ _ => 0)
  case atStart => exact ⟨rfl, rfl⟩
  case round =>
    obtain ⟨rfl, rfl⟩ := hrel
    go_wp2
    go_end0
    exact ⟨rfl, hw, hb, hk⟩

set_option maxRecDepth 100000 in
theorem getEvents_nil (B : Nat) (w : World) (g : Nat) (l : List UInt8) (d : Int) (f : Value) (h : RAt B w g (0 :: l) d false) :
    Calls Try.prog 55 #[.pointer (some ⟨g, 0, none⟩), f] w (NilPost B w g l d) := by
  have HN := Lib.hid (rnumber_any B w g (0 :: l) d false h)
  rw [rnum_zero] at HN
  clear h
  go_enter Try.func55, Try.ntmps55
  go_wp2_with (go_at_call 30; go_must (refine HN.out.mono ?_))
  rintro e w1 ⟨rfl, hw, ht⟩
  go_wp2
  go_loopw [5, 6] (fun v c wr => v = .slice none 0 0 ∧ c = .int .u64 0 ∧ wr = w1) (fun _ _ _ => 0)
  case atStart => exact ⟨rfl, rfl, rfl⟩
  case round =>
    obtain ⟨rfl, rfl, rfl⟩ := hrel
    go_wp2
    go_ret
    exact ⟨rfl, hw, ht⟩

set_option maxRecDepth 100000 in
theorem wputSteps_nil (w : World) (B g : Nat) (l : List UInt8) (d : Int) (f : Value) (h : WAt B w g l d false) (hB : B ≤ w.heap.size) (hl : l.length ≤ 1000000) :
    Calls Try.prog 70 #[.pointer (some ⟨g, 0, none⟩), .slice none 0 0, f] w (WPost B w g (l ++ [0]) d false) := by
  have HN := Lib.hid (wnumber_any w B g l d false 0 h hB (by omega) (by decide))
  rw [enc_zero] at HN
  clear h
  go_enter Try.func70, Try.ntmps70
  go_wp2_with (go_at_call 17; go_must (refine HN.out.mono ?_))
  rintro e w1 ⟨rfl, hw, hb, hk⟩
  go_wp2
  go_loopw [15] (fun v wr => v = .int .i64 0 ∧ wr = w1) (fun _ _ => 0)
  case atStart => exact ⟨rfl, rfl⟩
  case round =>
    obtain ⟨rfl, rfl⟩ := hrel
    go_wp2
    go_end0
    exact ⟨rfl, hw, hb, hk⟩

set_option maxRecDepth 100000 in
theorem getSteps_nil (B : Nat) (w : World) (g : Nat) (l : List UInt8) (d : Int) (f : Value) (h : RAt B w g (0 :: l) d false) :
    Calls Try.prog 57 #[.pointer (some ⟨g, 0, none⟩), f] w (NilPost B w g l d) := by
  have HN := Lib.hid (rnumber_any B w g (0 :: l) d false h)
  rw [rnum_zero] at HN
  clear h
  go_enter Try.func57, Try.ntmps57
  go_wp2_with (go_at_call 30; go_must (refine HN.out.mono ?_))
  rintro e w1 ⟨rfl, hw, ht⟩
  go_wp2
  go_loopw [5, 6] (fun v c wr => v = .slice none 0 0 ∧ c = .int .u64 0 ∧ wr = w1) (fun _ _ _ => 0)
  case atStart => exact ⟨rfl, rfl, rfl⟩
  case round =>
    obtain ⟨rfl, rfl, rfl⟩ := hrel
    go_wp2
    go_ret
    exact ⟨rfl, hw, ht⟩

set_option maxRecDepth 100000 in
theorem wputSubs_nil (w : World) (B g : Nat) (l : List UInt8) (d : Int) (f : Value) (h : WAt B w g l d false) (hB : B ≤ w.heap.size) (hl : l.length ≤ 1000000) :
    Calls Try.prog 96 #[.pointer (some ⟨g, 0, none⟩), .slice none 0 0, f] w (WPost B w g (l ++ [0]) d false) := by
  have HN := Lib.hid (wnumber_any w B g l d false 0 h hB (by omega) (by decide))
  rw [enc_zero] at HN
  clear h
  go_enter Try.func96, Try.ntmps96
  go_wp2_with (go_at_call 17; go_must (refine HN.out.mono ?_))
  rintro e w1 ⟨rfl, hw, hb, hk⟩
  go_wp2
  go_loopw [15] (fun v wr => v = .int .i64 0 ∧ wr = w1) (fun _ _ => 0)
  case atStart => exact ⟨rfl, rfl⟩
  case round =>
    obtain ⟨rfl, rfl⟩ := hrel
    go_wp2
    go_end0
    exact ⟨rfl, hw, hb, hk⟩

set_option maxRecDepth 100000 in
theorem getSubs_nil (B : Nat) (w : World) (g : Nat) (l : List UInt8) (d : Int) (f : Value) (h : RAt B w g (0 :: l) d false) :
    Calls Try.prog 90 #[.pointer (some ⟨g, 0, none⟩), f] w (NilPost B w g l d) := by
  have HN := Lib.hid (rnumber_any B w g (0 :: l) d false h)
  rw [rnum_zero] at HN
  clear h
  go_enter Try.func90, Try.ntmps90
  go_wp2_with (go_at_call 30; go_must (refine HN.out.mono ?_))
  rintro e w1 ⟨rfl, hw, ht⟩
  go_wp2
  go_loopw [5, 6] (fun v c wr => v = .slice none 0 0 ∧ c = .int .u64 0 ∧ wr = w1) (fun _ _ _ => 0)
  case atStart => exact ⟨rfl, rfl, rfl⟩
  case round =>
    obtain ⟨rfl, rfl, rfl⟩ := hrel
    go_wp2
    go_ret
    exact ⟨rfl, hw, ht⟩

set_option maxRecDepth 100000 in
theorem wputNodes_nil (w : World) (B g : Nat) (l : List UInt8) (d : Int) (f : Value) (h : WAt B w g l d false) (hB : B ≤ w.heap.size) (hl : l.length ≤ 1000000) :
    Calls Try.prog 97 #[.pointer (some ⟨g, 0, none⟩), .slice none 0 0, f] w (WPost B w g (l ++ [0]) d false) := by
  have HN := Lib.hid (wnumber_any w B g l d false 0 h hB (by omega) (by decide))
  rw [enc_zero] at HN
  clear h
  go_enter Try.func97, Try.ntmps97
  go_wp2_with (go_at_call 17; go_must (refine HN.out.mono ?_))
  rintro e w1 ⟨rfl, hw, hb, hk⟩
  go_wp2
  go_loopw [15] (fun v wr => v = .int .i64 0 ∧ wr = w1) (fun _ _ => 0)
  case atStart => exact ⟨rfl, rfl⟩
  case round =>
    obtain ⟨rfl, rfl⟩ := hrel
    go_wp2
    go_end0
    exact ⟨rfl, hw, hb, hk⟩

set_option maxRecDepth 100000 in
theorem getNodes_nil (B : Nat) (w : World) (g : Nat) (l : List UInt8) (d : Int) (f : Value) (h : RAt B w g (0 :: l) d false) :
    Calls Try.prog 91 #[.pointer (some ⟨g, 0, none⟩), f] w (NilPost B w g l d) := by
  have HN := Lib.hid (rnumber_any B w g (0 :: l) d false h)
  rw [rnum_zero] at HN
  clear h
  go_enter Try.func91, Try.ntmps91
  go_wp2_with (go_at_call 30; go_must (refine HN.out.mono ?_))
  rintro e w1 ⟨rfl, hw, ht⟩
  go_wp2
  go_loopw [5, 6] (fun v c wr => v = .slice none 0 0 ∧ c = .int .u64 0 ∧ wr = w1) (fun _ _ _ => 0)
  case atStart => exact ⟨rfl, rfl, rfl⟩
  case round =>
    obtain ⟨rfl, rfl, rfl⟩ := hrel
    go_wp2
    go_ret
    exact ⟨rfl, hw, ht⟩
end Go.Proofs.Ytkhjfaghemjcoaa
