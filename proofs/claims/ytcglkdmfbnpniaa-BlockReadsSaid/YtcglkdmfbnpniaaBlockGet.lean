/- get: a number of four bytes. -/
import Derived.Test.YtcglkdmfbnpniaaBe4
import Derived.BigQuiet
import Derived.Deep.QuietTactic
import Derived.Lib.SliceRun
import Derived.IntWalk
import Derived.Laws.BitsLemmas
namespace Go.Proofs.Ytcglkdmfbnpniaa
open Go Go.RowKit

theorem wraps_i64 (n : Int) (h₀ : 0 ≤ n) (h₁ : n < 2 ^ 62) : IntKind.i64.wrap n = n := by
  rw [IntKind.wrap_i64]; omega

theorem i64_or_small (a b : Nat) (ha : a < 2 ^ 62) (hb : b < 2 ^ 62) : bits .or .i64 (a : Int) (b : Int) = ((a ||| b : Nat) : Int) := (bits_nat .i64 62 (by decide) wraps_i64 a b ha hb).2

theorem or_join (x y : Nat) (k : Nat) (hy : y < 2 ^ k) (h : 2 ^ k * x + y < 4294967296) : bits BinOp.or .i64 ((2 ^ k * x : Nat) : Int) (y : Int) = ((2 ^ k * x + y : Nat) : Int) := by
  rw [i64_or_small _ _ (by omega) (by omega), Nat.two_pow_add_eq_or_of_lt hy]

theorem get_math (c0 c1 c2 c3 : UInt8) :
    bits BinOp.or .i64 (bits BinOp.or .i64 (bits BinOp.or .i64 ((c0.toNat : Int) * 16777216) ((c1.toNat : Int) * 65536)) ((c2.toNat : Int) * 256)) (c3.toNat : Int) = ((((c0.toNat * 256 + c1.toNat) * 256 + c2.toNat) * 256 + c3.toNat : Nat) : Int) := by
  have h0 := c0.toNat_lt
  have h1 := c1.toNat_lt
  have h2 := c2.toNat_lt
  have h3 := c3.toNat_lt
  have e0 : (c0.toNat : Int) * 16777216 = ((2 ^ 24 * c0.toNat : Nat) : Int) := by omega
  have e1 : (c1.toNat : Int) * 65536 = ((65536 * c1.toNat : Nat) : Int) := by omega
  have e2 : (c2.toNat : Int) * 256 = ((256 * c2.toNat : Nat) : Int) := by omega
  rw [e0, e1, e2, or_join c0.toNat _ 24 (by omega) (by omega)]
  have e3 : 2 ^ 24 * c0.toNat + 65536 * c1.toNat = 2 ^ 16 * (256 * c0.toNat + c1.toNat) := by omega
  rw [e3, or_join _ _ 16 (by omega) (by omega)]
  have e4 : 2 ^ 16 * (256 * c0.toNat + c1.toNat) + 256 * c2.toNat = 2 ^ 8 * (65536 * c0.toNat + 256 * c1.toNat + c2.toNat) := by omega
  rw [e4, or_join _ _ 8 (by omega) (by omega)]
  omega

theorem w64_small (z : Int) (h0 : 0 ≤ z) (h1 : z < 4611686018427387904) : wrap64 z = z := by
  unfold wrap64
  omega

def TellsQ (w : World) (n : Nat) (e : Ending) (w' : World) : Prop := e = .returned (.int .i64 (n : Int)) ∧ ∃ m, w' = w.drewN m

set_option maxRecDepth 100000 in
set_option maxHeartbeats 1000000 in
theorem get4_any (w : World) (v : Value) (n : Nat) (l : List UInt8) (h : Reads w 1 v n (bcells l)) (hn : 4 ≤ n) :
    Calls Try.prog 38 #[v] w (TellsQ w (num4 l)) := by
  obtain ⟨b, off, cap, rfl, h1, h2, hl, hc⟩ := h.head (by omega)
  unfold maxLen at h2
  have c0 := hc 0 (by omega)
  have c1 := hc 1 (by omega)
  have c2 := hc 2 (by omega)
  have c3 := hc 3 (by omega)
  have hm : num4 l = ((((l.getD 0 0).toNat * 256 + (l.getD 1 0).toNat) * 256 + (l.getD 2 0).toNat) * 256 + (l.getD 3 0).toNat) := rfl
  rw [hm]
  clear hm h hc
  generalize l.getD 0 0 = d0 at *
  generalize l.getD 1 0 = d1 at *
  generalize l.getD 2 0 = d2 at *
  generalize l.getD 3 0 = d3 at *
  clear hl
  simp only [Nat.add_zero] at c0
  have i0 : (0 : Int) < n := by omega
  have i1 : (1 : Int) < n := by omega
  have i2 : (2 : Int) < n := by omega
  have i3 : (3 : Int) < n := by omega
  go_enter Try.func38, Try.ntmps38
  go_wp2_with fail
  go_quiet (fail)
  go_wp2
  go_ret
  refine ⟨?_, _, rfl⟩
  refine congrArg (fun z => Ending.returned (.int .i64 z)) (Eq.trans ?_ (get_math d0 d1 d2 d3))
  have h0 := d0.toNat_lt
  have h1 := d1.toNat_lt
  have h2 := d2.toNat_lt
  have h3 := d3.toNat_lt
  rw [w64_small (d0.toNat : Int) (by omega) (by omega), w64_small (d1.toNat : Int) (by omega) (by omega), w64_small (d2.toNat : Int) (by omega) (by omega), w64_small (d3.toNat : Int) (by omega) (by omega),
    w64_small ((d0.toNat : Int) * 16777216) (by omega) (by omega), w64_small ((d1.toNat : Int) * 65536) (by omega) (by omega), w64_small ((d2.toNat : Int) * 256) (by omega) (by omega)]
end Go.Proofs.Ytcglkdmfbnpniaa
