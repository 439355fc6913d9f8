/- The writer: truths, whole numbers. -/
import Derived.Test.YtdonibkkdhokpaaGreatZWireW
import Derived.Lib.Zigzag
namespace Go.Proofs.YtdonibkkdhokpaaGreat
open Go Go.RowKit

set_option maxRecDepth 100000 in
theorem wtruth_any (w : World) (B g : Nat) (l : List UInt8) (d : Int) (deep : Bool) (x : Bool) (h : WAt B w g l d deep) (hB : B ≤ w.heap.size) (hl : l.length ≤ 1000000000) :
    Calls Tryz.prog 21 #[.pointer (some ⟨g, 0, none⟩), .bool x] w (WPost B w g (l ++ enc (bitN x)) d deep) := by
  have HN := Lib.hid (wnumber_any w B g l d deep (bitN x) h hB hl (by unfold bitN; split <;> decide))
  clear h
  cases x with
  | true =>
    unfold bitN at HN ⊢
    go_enter Tryz.func21, Tryz.ntmps21
    go_wp2_with (go_at_call 17; go_must (refine HN.out.mono ?_))
    rintro e w1 ⟨rfl, h1, h2, h3⟩
    go_wp2
    go_end0
    exact ⟨rfl, h1, h2, h3⟩
  | false =>
    unfold bitN at HN ⊢
    go_enter Tryz.func21, Tryz.ntmps21
    go_wp2_with (go_at_call 17; go_must (refine HN.out.mono ?_))
    rintro e w1 ⟨rfl, h1, h2, h3⟩
    go_wp2
    go_end0
    exact ⟨rfl, h1, h2, h3⟩

theorem zig_neg {n : Int} (hn : in64 n) (h : n < 0) : bits .xor .u64 (IntKind.u64.wrap (IntKind.u64.wrap n * 2)) (IntKind.u64.wrap (n / 9223372036854775808)) = ((zig n : Nat) : Int) := by
  unfold in64 at hn
  have e1 : IntKind.u64.wrap (IntKind.u64.wrap n * 2) = (((2 * n + 18446744073709551616).toNat : Nat) : Int) := by
    rw [IntKind.wrap_u64, IntKind.wrap_u64]
    omega
  have e2 : IntKind.u64.wrap (n / 9223372036854775808) = ((2 ^ 64 - 1 : Nat) : Int) := by
    rw [IntKind.wrap_u64]
    omega
  rw [e1, e2, bits_xor_u64_nat _ _ (by omega) (by decide), Nat.xor_comm, Lib.xor_ones64 _ (by omega)]
  unfold zig
  rw [if_pos h]
  omega

theorem zig_pos {n : Int} (hn : in64 n) (h : ¬ n < 0) : bits .xor .u64 (n * 2) (n / 9223372036854775808) = ((zig n : Nat) : Int) := by
  unfold in64 at hn
  have e1 : n * 2 = ((n.toNat * 2 : Nat) : Int) := by omega
  have e2 : n / 9223372036854775808 = ((0 : Nat) : Int) := by omega
  rw [e1, e2, bits_xor_u64_nat _ _ (by omega) (by decide), Nat.xor_zero]
  unfold zig
  rw [if_neg h]
  omega

set_option maxRecDepth 100000 in
theorem wlong_any (w : World) (B g : Nat) (l : List UInt8) (d : Int) (deep : Bool) (n : Int) (h : WAt B w g l d deep) (hB : B ≤ w.heap.size) (hl : l.length ≤ 1000000000) (hn : in64 n) :
    Calls Tryz.prog 85 #[.pointer (some ⟨g, 0, none⟩), .int .i64 n] w (WPost B w g (l ++ enc (zig n)) d deep) := by
  have HN := Lib.hid (wnumber_any w B g l d deep (zig n) h hB hl (zig_lt hn))
  clear h
  by_cases h0 : n < 0
  · have hz := zig_neg hn h0
    unfold in64 at hn
    go_enter Tryz.func85, Tryz.ntmps85
    go_wp2_with (go_at_call 17; go_must (refine HN.out.mono ?_))
    rintro e w1 ⟨rfl, h1, h2, h3⟩
    go_wp2
    go_end0
    exact ⟨rfl, h1, h2, h3⟩
  · have hz := zig_pos hn h0
    unfold in64 at hn
    go_enter Tryz.func85, Tryz.ntmps85
    go_wp2_with (go_at_call 17; go_must (refine HN.out.mono ?_))
    rintro e w1 ⟨rfl, h1, h2, h3⟩
    go_wp2
    go_end0
    exact ⟨rfl, h1, h2, h3⟩

set_option maxRecDepth 100000 in
theorem wwhole_any (w : World) (B g : Nat) (l : List UInt8) (d : Int) (deep : Bool) (n : Int) (h : WAt B w g l d deep) (hB : B ≤ w.heap.size) (hl : l.length ≤ 1000000000) (hn : in64 n) :
    Calls Tryz.prog 18 #[.pointer (some ⟨g, 0, none⟩), .int .i64 n] w (WPost B w g (l ++ enc (zig n)) d deep) := by
  have HN := Lib.hid (wlong_any w B g l d deep n h hB hl hn)
  clear h
  go_enter Tryz.func18, Tryz.ntmps18
  go_wp2_with (go_at_call 85; go_must (refine HN.out.mono ?_))
  rintro e w1 ⟨rfl, h1, h2, h3⟩
  go_wp2
  go_end0
  exact ⟨rfl, h1, h2, h3⟩
end Go.Proofs.YtdonibkkdhokpaaGreat
