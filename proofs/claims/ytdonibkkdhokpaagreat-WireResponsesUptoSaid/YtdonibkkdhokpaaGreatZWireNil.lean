/- Lists of nothing, written and read (written by gen_wirefix.py). -/
import Derived.Test.YtdonibkkdhokpaaGreatZWireQ
import Derived.Test.YtdonibkkdhokpaaGreatZWireRl
namespace Go.Proofs.YtdonibkkdhokpaaGreat
open Go Go.RowKit

theorem enc_zero : enc 0 = [0] := by rw [enc_lt (by decide)]; rfl
theorem rnum_zero (r : List UInt8) : rnum (0 :: r) false = (0, r, false) := by
  have := rnum_enc (n := 0) (by decide) r
  rwa [enc_zero] at this

def NilPost (B : Nat) (w : World) (g : Nat) (l : List UInt8) (d : Int) (e : Ending) (w' : World) : Prop :=
  e = .returned (.slice none 0 0) ∧ RAt B w' g l d false ∧ Touch w w' [g]

set_option maxRecDepth 100000 in
theorem wputFlags_nil (w : World) (B g : Nat) (l : List UInt8) (d : Int) (f : Value) (h : WAt B w g l d false) (hB : B ≤ w.heap.size) (hl : l.length ≤ 20000000) :
    Calls Tryz.prog 20 #[.pointer (some ⟨g, 0, none⟩), .slice none 0 0, f] w (WPost B w g (l ++ [0]) d false) := by
  have HN := Lib.hid (wnumber_any w B g l d false 0 h hB (by omega) (by decide))
  rw [enc_zero] at HN
  clear h
  go_enter Tryz.func20, Tryz.ntmps20
  go_wp2_with (go_at_call 17; go_must (refine HN.out.mono ?_))
  rintro e w1 ⟨rfl, hw, hb, hk⟩
  go_wp2
  go_loopw [15] (fun v wr => v = .int .i64 0 ∧ wr = w1) (fun _ _ => 0)
  case atStart => exact ⟨rfl, rfl⟩
  case round =>
    obtain ⟨rfl, rfl⟩ := hrel
    go_wp2
    go_end0
    exact ⟨rfl, hw, hb, hk⟩

set_option maxRecDepth 100000 in
theorem getFlags_nil (B : Nat) (w : World) (g : Nat) (l : List UInt8) (d : Int) (f : Value) (h : RAt B w g (0 :: l) d false) :
    Calls Tryz.prog 38 #[.pointer (some ⟨g, 0, none⟩), f] w (NilPost B w g l d) := by
  have HN := Lib.hid (rnumber_any B w g (0 :: l) d false h)
  rw [rnum_zero] at HN
  clear h
  go_enter Tryz.func38, Tryz.ntmps38
  go_wp2_with (go_at_call 35; go_must (refine HN.out.mono ?_))
  rintro e w1 ⟨rfl, hw, ht⟩
  go_wp2
  go_loopw [5, 6] (fun v c wr => v = .slice none 0 0 ∧ c = .int .u64 0 ∧ wr = w1) (fun _ _ _ => 0)
  case atStart => exact ⟨rfl, rfl, rfl⟩
  case round =>
    obtain ⟨rfl, rfl, rfl⟩ := hrel
    go_wp2
    go_ret
    exact ⟨rfl, hw, ht⟩

set_option maxRecDepth 100000 in
theorem wputTuples_nil (w : World) (B g : Nat) (l : List UInt8) (d : Int) (f : Value) (h : WAt B w g l d false) (hB : B ≤ w.heap.size) (hl : l.length ≤ 20000000) :
    Calls Tryz.prog 22 #[.pointer (some ⟨g, 0, none⟩), .slice none 0 0, f] w (WPost B w g (l ++ [0]) d false) := by
  have HN := Lib.hid (wnumber_any w B g l d false 0 h hB (by omega) (by decide))
  rw [enc_zero] at HN
  clear h
  go_enter Tryz.func22, Tryz.ntmps22
  go_wp2_with (go_at_call 17; go_must (refine HN.out.mono ?_))
  rintro e w1 ⟨rfl, hw, hb, hk⟩
  go_wp2
  go_loopw [15] (fun v wr => v = .int .i64 0 ∧ wr = w1) (fun _ _ => 0)
  case atStart => exact ⟨rfl, rfl⟩
  case round =>
    obtain ⟨rfl, rfl⟩ := hrel
    go_wp2
    go_end0
    exact ⟨rfl, hw, hb, hk⟩

set_option maxRecDepth 100000 in
theorem getTuples_nil (B : Nat) (w : World) (g : Nat) (l : List UInt8) (d : Int) (f : Value) (h : RAt B w g (0 :: l) d false) :
    Calls Tryz.prog 40 #[.pointer (some ⟨g, 0, none⟩), f] w (NilPost B w g l d) := by
  have HN := Lib.hid (rnumber_any B w g (0 :: l) d false h)
  rw [rnum_zero] at HN
  clear h
  go_enter Tryz.func40, Tryz.ntmps40
  go_wp2_with (go_at_call 35; go_must (refine HN.out.mono ?_))
  rintro e w1 ⟨rfl, hw, ht⟩
  go_wp2
  go_loopw [5, 6] (fun v c wr => v = .slice none 0 0 ∧ c = .int .u64 0 ∧ wr = w1) (fun _ _ _ => 0)
  case atStart => exact ⟨rfl, rfl, rfl⟩
  case round =>
    obtain ⟨rfl, rfl, rfl⟩ := hrel
    go_wp2
    go_ret
    exact ⟨rfl, hw, ht⟩

set_option maxRecDepth 100000 in
theorem wputObjs_nil (w : World) (B g : Nat) (l : List UInt8) (d : Int) (f : Value) (h : WAt B w g l d false) (hB : B ≤ w.heap.size) (hl : l.length ≤ 20000000) :
    Calls Tryz.prog 24 #[.pointer (some ⟨g, 0, none⟩), .slice none 0 0, f] w (WPost B w g (l ++ [0]) d false) := by
  have HN := Lib.hid (wnumber_any w B g l d false 0 h hB (by omega) (by decide))
  rw [enc_zero] at HN
  clear h
  go_enter Tryz.func24, Tryz.ntmps24
  go_wp2_with (go_at_call 17; go_must (refine HN.out.mono ?_))
  rintro e w1 ⟨rfl, hw, hb, hk⟩
  go_wp2
  go_loopw [15] (fun v wr => v = .int .i64 0 ∧ wr = w1) (fun _ _ => 0)
  case atStart => exact ⟨rfl, rfl⟩
  case round =>
    obtain ⟨rfl, rfl⟩ := hrel
    go_wp2
    go_end0
    exact ⟨rfl, hw, hb, hk⟩

set_option maxRecDepth 100000 in
theorem getObjs_nil (B : Nat) (w : World) (g : Nat) (l : List UInt8) (d : Int) (f : Value) (h : RAt B w g (0 :: l) d false) :
    Calls Tryz.prog 42 #[.pointer (some ⟨g, 0, none⟩), f] w (NilPost B w g l d) := by
  have HN := Lib.hid (rnumber_any B w g (0 :: l) d false h)
  rw [rnum_zero] at HN
  clear h
  go_enter Tryz.func42, Tryz.ntmps42
  go_wp2_with (go_at_call 35; go_must (refine HN.out.mono ?_))
  rintro e w1 ⟨rfl, hw, ht⟩
  go_wp2
  go_loopw [5, 6] (fun v c wr => v = .slice none 0 0 ∧ c = .int .u64 0 ∧ wr = w1) (fun _ _ _ => 0)
  case atStart => exact ⟨rfl, rfl, rfl⟩
  case round =>
    obtain ⟨rfl, rfl, rfl⟩ := hrel
    go_wp2
    go_ret
    exact ⟨rfl, hw, ht⟩

set_option maxRecDepth 100000 in
theorem wputEvents_nil (w : World) (B g : Nat) (l : List UInt8) (d : Int) (f : Value) (h : WAt B w g l d false) (hB : B ≤ w.heap.size) (hl : l.length ≤ 20000000) :
    Calls Tryz.prog 26 #[.pointer (some ⟨g, 0, none⟩), .slice none 0 0, f] w (WPost B w g (l ++ [0]) d false) := by
  have HN := Lib.hid (wnumber_any w B g l d false 0 h hB (by omega) (by decide))
  rw [enc_zero] at HN
  clear h
  go_enter Tryz.func26, Tryz.ntmps26
  go_wp2_with (go_at_call 17; go_must (refine HN.out.mono ?_))
  rintro e w1 ⟨rfl, hw, hb, hk⟩
  go_wp2
  go_loopw [15] (fun v wr => v = .int .i64 0 ∧ wr = w1) (fun _ _ => 0)
  case atStart => exact ⟨rfl, rfl⟩
  case round =>
    obtain ⟨rfl, rfl⟩ := hrel
    go_wp2
    go_end0
    exact ⟨rfl, hw, hb, hk⟩

set_option maxRecDepth 100000 in
theorem getEvents_nil (B : Nat) (w : World) (g : Nat) (l : List UInt8) (d : Int) (f : Value) (h : RAt B w g (0 :: l) d false) :
    Calls Tryz.prog 44 #[.pointer (some ⟨g, 0, none⟩), f] w (NilPost B w g l d) := by
  have HN := Lib.hid (rnumber_any B w g (0 :: l) d false h)
  rw [rnum_zero] at HN
  clear h
  go_enter Tryz.func44, Tryz.ntmps44
  go_wp2_with (go_at_call 35; go_must (refine HN.out.mono ?_))
  rintro e w1 ⟨rfl, hw, ht⟩
  go_wp2
  go_loopw [5, 6] (fun v c wr => v = .slice none 0 0 ∧ c = .int .u64 0 ∧ wr = w1) (fun _ _ _ => 0)
  case atStart => exact ⟨rfl, rfl, rfl⟩
  case round =>
    obtain ⟨rfl, rfl, rfl⟩ := hrel
    go_wp2
    go_ret
    exact ⟨rfl, hw, ht⟩

set_option maxRecDepth 100000 in
theorem wputSteps_nil (w : World) (B g : Nat) (l : List UInt8) (d : Int) (f : Value) (h : WAt B w g l d false) (hB : B ≤ w.heap.size) (hl : l.length ≤ 20000000) :
    Calls Tryz.prog 28 #[.pointer (some ⟨g, 0, none⟩), .slice none 0 0, f] w (WPost B w g (l ++ [0]) d false) := by
  have HN := Lib.hid (wnumber_any w B g l d false 0 h hB (by omega) (by decide))
  rw [enc_zero] at HN
  clear h
  go_enter Tryz.func28, Tryz.ntmps28
  go_wp2_with (go_at_call 17; go_must (refine HN.out.mono ?_))
  rintro e w1 ⟨rfl, hw, hb, hk⟩
  go_wp2
  go_loopw [15] (fun v wr => v = .int .i64 0 ∧ wr = w1) (fun _ _ => 0)
  case atStart => exact ⟨rfl, rfl⟩
  case round =>
    obtain ⟨rfl, rfl⟩ := hrel
    go_wp2
    go_end0
    exact ⟨rfl, hw, hb, hk⟩

set_option maxRecDepth 100000 in
theorem getSteps_nil (B : Nat) (w : World) (g : Nat) (l : List UInt8) (d : Int) (f : Value) (h : RAt B w g (0 :: l) d false) :
    Calls Tryz.prog 46 #[.pointer (some ⟨g, 0, none⟩), f] w (NilPost B w g l d) := by
  have HN := Lib.hid (rnumber_any B w g (0 :: l) d false h)
  rw [rnum_zero] at HN
  clear h
  go_enter Tryz.func46, Tryz.ntmps46
  go_wp2_with (go_at_call 35; go_must (refine HN.out.mono ?_))
  rintro e w1 ⟨rfl, hw, ht⟩
  go_wp2
  go_loopw [5, 6] (fun v c wr => v = .slice none 0 0 ∧ c = .int .u64 0 ∧ wr = w1) (fun _ _ _ => 0)
  case atStart => exact ⟨rfl, rfl, rfl⟩
  case round =>
    obtain ⟨rfl, rfl, rfl⟩ := hrel
    go_wp2
    go_ret
    exact ⟨rfl, hw, ht⟩

set_option maxRecDepth 100000 in
theorem wputSubs_nil (w : World) (B g : Nat) (l : List UInt8) (d : Int) (f : Value) (h : WAt B w g l d false) (hB : B ≤ w.heap.size) (hl : l.length ≤ 20000000) :
    Calls Tryz.prog 93 #[.pointer (some ⟨g, 0, none⟩), .slice none 0 0, f] w (WPost B w g (l ++ [0]) d false) := by
  have HN := Lib.hid (wnumber_any w B g l d false 0 h hB (by omega) (by decide))
  rw [enc_zero] at HN
  clear h
  go_enter Tryz.func93, Tryz.ntmps93
  go_wp2_with (go_at_call 17; go_must (refine HN.out.mono ?_))
  rintro e w1 ⟨rfl, hw, hb, hk⟩
  go_wp2
  go_loopw [15] (fun v wr => v = .int .i64 0 ∧ wr = w1) (fun _ _ => 0)
  case atStart => exact ⟨rfl, rfl⟩
  case round =>
    obtain ⟨rfl, rfl⟩ := hrel
    go_wp2
    go_end0
    exact ⟨rfl, hw, hb, hk⟩

set_option maxRecDepth 100000 in
theorem getSubs_nil (B : Nat) (w : World) (g : Nat) (l : List UInt8) (d : Int) (f : Value) (h : RAt B w g (0 :: l) d false) :
    Calls Tryz.prog 105 #[.pointer (some ⟨g, 0, none⟩), f] w (NilPost B w g l d) := by
  have HN := Lib.hid (rnumber_any B w g (0 :: l) d false h)
  rw [rnum_zero] at HN
  clear h
  go_enter Tryz.func105, Tryz.ntmps105
  go_wp2_with (go_at_call 35; go_must (refine HN.out.mono ?_))
  rintro e w1 ⟨rfl, hw, ht⟩
  go_wp2
  go_loopw [5, 6] (fun v c wr => v = .slice none 0 0 ∧ c = .int .u64 0 ∧ wr = w1) (fun _ _ _ => 0)
  case atStart => exact ⟨rfl, rfl, rfl⟩
  case round =>
    obtain ⟨rfl, rfl, rfl⟩ := hrel
    go_wp2
    go_ret
    exact ⟨rfl, hw, ht⟩

set_option maxRecDepth 100000 in
theorem wputNodes_nil (w : World) (B g : Nat) (l : List UInt8) (d : Int) (f : Value) (h : WAt B w g l d false) (hB : B ≤ w.heap.size) (hl : l.length ≤ 20000000) :
    Calls Tryz.prog 94 #[.pointer (some ⟨g, 0, none⟩), .slice none 0 0, f] w (WPost B w g (l ++ [0]) d false) := by
  have HN := Lib.hid (wnumber_any w B g l d false 0 h hB (by omega) (by decide))
  rw [enc_zero] at HN
  clear h
  go_enter Tryz.func94, Tryz.ntmps94
  go_wp2_with (go_at_call 17; go_must (refine HN.out.mono ?_))
  rintro e w1 ⟨rfl, hw, hb, hk⟩
  go_wp2
  go_loopw [15] (fun v wr => v = .int .i64 0 ∧ wr = w1) (fun _ _ => 0)
  case atStart => exact ⟨rfl, rfl⟩
  case round =>
    obtain ⟨rfl, rfl⟩ := hrel
    go_wp2
    go_end0
    exact ⟨rfl, hw, hb, hk⟩

set_option maxRecDepth 100000 in
theorem getNodes_nil (B : Nat) (w : World) (g : Nat) (l : List UInt8) (d : Int) (f : Value) (h : RAt B w g (0 :: l) d false) :
    Calls Tryz.prog 106 #[.pointer (some ⟨g, 0, none⟩), f] w (NilPost B w g l d) := by
  have HN := Lib.hid (rnumber_any B w g (0 :: l) d false h)
  rw [rnum_zero] at HN
  clear h
  go_enter Tryz.func106, Tryz.ntmps106
  go_wp2_with (go_at_call 35; go_must (refine HN.out.mono ?_))
  rintro e w1 ⟨rfl, hw, ht⟩
  go_wp2
  go_loopw [5, 6] (fun v c wr => v = .slice none 0 0 ∧ c = .int .u64 0 ∧ wr = w1) (fun _ _ _ => 0)
  case atStart => exact ⟨rfl, rfl, rfl⟩
  case round =>
    obtain ⟨rfl, rfl, rfl⟩ := hrel
    go_wp2
    go_ret
    exact ⟨rfl, hw, ht⟩
end Go.Proofs.YtdonibkkdhokpaaGreat
