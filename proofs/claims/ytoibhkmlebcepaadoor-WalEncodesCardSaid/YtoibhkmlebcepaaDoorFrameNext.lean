import Derived.Test.YtoibhkmlebcepaaDoorFrameSeal
import Derived.Deep.QuietTactic
import Derived.BigQuiet
import Derived.Lib.SliceRun
namespace Go.Proofs.YtoibhkmlebcepaaDoor
open Go Go.RowKit

theorem or_join (x y : Nat) (k : Nat) (hy : y < 2 ^ k) (h : 2 ^ k * x + y < 4294967296) : bits BinOp.or .u32 ((2 ^ k * x : Nat) : Int) (y : Int) = ((2 ^ k * x + y : Nat) : Int) := by
  rw [u32_or_nat _ _ (by omega) (by omega), Nat.two_pow_add_eq_or_of_lt hy]

theorem get_math (c0 c1 c2 c3 : UInt8) :
    bits BinOp.or .u32 (bits BinOp.or .u32 (bits BinOp.or .u32 ((c0.toNat : Int) * 16777216) ((c1.toNat : Int) * 65536)) ((c2.toNat : Int) * 256)) (c3.toNat : Int) = ((((c0.toNat * 256 + c1.toNat) * 256 + c2.toNat) * 256 + c3.toNat : Nat) : Int) := by
  have h0 := c0.toNat_lt
  have h1 := c1.toNat_lt
  have h2 := c2.toNat_lt
  have h3 := c3.toNat_lt
  have e0 : (c0.toNat : Int) * 16777216 = ((2 ^ 24 * c0.toNat : Nat) : Int) := by omega
  have e1 : (c1.toNat : Int) * 65536 = ((65536 * c1.toNat : Nat) : Int) := by omega
  have e2 : (c2.toNat : Int) * 256 = ((256 * c2.toNat : Nat) : Int) := by omega
  rw [e0, e1, e2, or_join c0.toNat _ 24 (by omega) (by omega)]
  have e3 : 2 ^ 24 * c0.toNat + 65536 * c1.toNat = 2 ^ 16 * (256 * c0.toNat + c1.toNat) := by omega
  rw [e3, or_join _ _ 16 (by omega) (by omega)]
  have e4 : 2 ^ 16 * (256 * c0.toNat + c1.toNat) + 256 * c2.toNat = 2 ^ 8 * (65536 * c0.toNat + 256 * c1.toNat + c2.toNat) := by omega
  rw [e4, or_join _ _ 8 (by omega) (by omega)]
  omega

def TellsU32Q (w : World) (n : Nat) (e : Ending) (w' : World) : Prop := e = .returned (.int .u32 (n : Int)) ∧ ∃ m, w' = w.drewN m

set_option maxRecDepth 100000 in
set_option maxHeartbeats 1000000 in
theorem get4_any (w : World) (v : Value) (n : Nat) (l : List UInt8) (h : Reads w 1 v n (bcells l)) (hn : 4 ≤ n) :
    Calls Tryd.prog 41 #[v] w (TellsU32Q w (num4 l)) := by
  obtain ⟨b, off, cap, rfl, h1, h2, hl, hc⟩ := h.head (by omega)
  unfold maxLen at h2
  have c0 := hc 0 (by omega)
  have c1 := hc 1 (by omega)
  have c2 := hc 2 (by omega)
  have c3 := hc 3 (by omega)
  have hm : num4 l = ((((l.getD 0 0).toNat * 256 + (l.getD 1 0).toNat) * 256 + (l.getD 2 0).toNat) * 256 + (l.getD 3 0).toNat) := rfl
  rw [hm]
  clear hm h hc
  generalize l.getD 0 0 = d0 at *
  generalize l.getD 1 0 = d1 at *
  generalize l.getD 2 0 = d2 at *
  generalize l.getD 3 0 = d3 at *
  have hg := get_math d0 d1 d2 d3
  have Hg := Lib.hid hg
  clear hg hl
  simp only [Nat.add_zero] at c0
  have i0 : (0 : Int) < n := by omega
  have i1 : (1 : Int) < n := by omega
  have i2 : (2 : Int) < n := by omega
  have i3 : (3 : Int) < n := by omega
  go_enter Tryd.func41, Tryd.ntmps41
  go_wp2_with fail
  go_quiet (fail)
  go_wp2
  go_ret
  refine ⟨?_, _, rfl⟩
  refine congrArg (fun z => Ending.returned (.int .u32 z)) (Eq.trans ?_ Hg.out)
  have h0 := d0.toNat_lt
  have h1 := d1.toNat_lt
  have h2 := d2.toNat_lt
  have h3 := d3.toNat_lt
  rw [show (d0.toNat : Int) % 4294967296 * 16777216 % 4294967296 = (d0.toNat : Int) * 16777216 from by omega, show (d1.toNat : Int) % 4294967296 * 65536 % 4294967296 = (d1.toNat : Int) * 65536 from by omega,
    show (d2.toNat : Int) % 4294967296 * 256 % 4294967296 = (d2.toNat : Int) * 256 from by omega, show (d3.toNat : Int) % 4294967296 = (d3.toNat : Int) from by omega]

/-- Bytes of a new block are handed back. -/
def GivesNew (w : World) (l : List UInt8) (e : Ending) (w' : World) : Prop :=
  ∃ v', e = .returned v' ∧ w'.ownsRow w.heap.size 5 1 v' l.length (bcells l) ∧ Below w.heap.size w w'

set_option maxRecDepth 100000 in
set_option maxHeartbeats 1000000 in
theorem clone_any (w : World) (x : Addr) (n cap : Nat) (l : List UInt8) (h : Reads w 1 (.slice (some x) n cap) n (bcells l)) (hn : n ≤ 1000000000) :
    Calls Tryd.prog 42 #[.slice (some x) n cap] w (GivesNew w l) := by
  obtain ⟨i0, hi, hz0, hz1, hz2⟩ := info_parts info5
  have hl : l.length = n := by have := h.1; simpa [bcells_length] using this
  have Hl := Lib.hid hl
  have HR := Lib.hid h
  have hsrc := Reads.src (P := Tryd.prog) (tx := 28) Tryd.underlying28 (h.alloc (.cells #[] 5)) (bcells_one l)
  have hf0 : (w.alloc (.cells #[] 5)).ownsRow w.heap.size 5 1 (.slice (some ⟨w.heap.size, 0, none⟩) 0 0) 0 [] := World.ownsRow_lit w #[] 0 (Nat.le_refl _) (Nat.zero_le _) rfl
  clear h hl
  have hnil := Lib.run_eql_slice_nil (P := Tryd.prog) w 28 5 (some x) n cap 0 0 Tryd.underlying28
  go_enter Tryd.func42, Tryd.ntmps42
  go_wp2_with (at_builtin; go_must (refine wpList_append_owns rfl _ _ 28 28 rfl w.heap.size 5 i0 (.int .u8 0) 1 1 Tryd.underlying28 hi hz0 hz1 hz2 rfl _ _ _ rfl hf0 _ _ _ rfl hsrc ?_ ?_ ?_ ?_))
  · unfold maxLen; omega
  · omega
  · simp
  intro v2 w2 f2 g2 b2 m2
  have b3 : Below w.heap.size w w2 := ((Below.refl _ _).alloc (Nat.le_refl _) _).trans b2
  have F2 := Lib.hid f2
  clear f2 m2
  go_wp2
  go_ret
  refine ⟨_, rfl, ?_, b3⟩
  have := F2.out
  simpa [Hl.out] using this
end Go.Proofs.YtoibhkmlebcepaaDoor
