import Derived.Test.YtoibhkmlebcepaaDoorBase
import Derived.Test.YtoibhkmlebcepaaDoorFrameMath
namespace Go.Proofs.YtoibhkmlebcepaaDoor
open Go Go.RowKit

/-- The table of steps lies where its initialiser lays it. -/
def Steps (w : World) : Prop := 0 < w.heap.size ∧ ∀ i, i < 16 → w.cell? ⟨0, i, none⟩ = some (.int .u32 (stepsT.getD i 0 : Int))

theorem Steps.below {w w' : World} (h : Steps w) (hb : Below w.heap.size w w') : Steps w' :=
  ⟨Nat.lt_of_lt_of_le h.1 hb.size, fun i hi => (hb.cell (p := ⟨0, i, none⟩) h.1).trans (h.2 i hi)⟩

theorem crc_in (h : Nat) (c : UInt8) (hh : h < 4294967296) : bits BinOp.xor .u32 (h : Int) (c.toNat : Int) = ((h ^^^ c.toNat : Nat) : Int) := by
  have hc := c.toNat_lt
  exact u32_xor_nat h c.toNat hh (by omega)

theorem crc_low (h : Nat) (hh : h < 4294967296) : bits BinOp.and .u32 (h : Int) 15 = ((h % 16 : Nat) : Int) := by
  have := u32_and_nat h 15 hh (by decide)
  simp only [Int.cast_ofNat_Int] at this
  rw [this, show (15 : Nat) = 2 ^ 4 - 1 from by decide, Nat.and_two_pow_sub_one_eq_mod]

theorem crc_half (h : Nat) (hh : h < 4294967296) : bits BinOp.xor .u32 ((h : Int) / 16) (stepsT.getD (h % 16) 0 : Int) = (crcIter 4 h : Int) := by
  have e : (h : Int) / 16 = ((h / 16 : Nat) : Int) := by omega
  rw [e, u32_xor_nat _ _ (by omega) (stepsT_lt _), ← crcIter_four]

def CrcRel (l : List UInt8) (h i : Value) : Prop := ∃ k : Nat, i = .int .i64 (k : Int) ∧ k ≤ l.length ∧ h = .int .u32 (((l.take k).foldl crcByte 4294967295 : Nat) : Int)

def TellsU32 (w : World) (n : Nat) (e : Ending) (w' : World) : Prop := e = .returned (.int .u32 (n : Int)) ∧ w = w'

theorem not_u32 (h : Nat) (hh : h < 4294967296) : bits BinOp.xor .u32 IntKind.u32.max (h : Int) = ((h ^^^ 4294967295 : Nat) : Int) := by
  rw [Nat.xor_comm]
  exact u32_xor_nat 4294967295 h (by decide) hh

set_option maxRecDepth 100000 in
set_option maxHeartbeats 1000000 in
theorem sum_any (w : World) (v : Value) (n : Nat) (l : List UInt8) (h : Reads w 1 v n (bcells l)) (hst : Steps w) :
    Calls Tryd.prog 37 #[v] w (TellsU32 w (sumL l)) := by
  obtain ⟨a, cap, rfl, h1, h2⟩ := h.le
  unfold maxLen at h2
  have hl : l.length = n := by have := h.1; simpa [bcells_length] using this
  have Hl := Lib.hid hl
  have HR := Lib.hid h
  have Hst := Lib.hid hst
  clear h hl hst
  go_enter Tryd.func37, Tryd.ntmps37
  go_wp2
  go_loop [3, 8] (fun h i => CrcRel l h i) (fun _ i => n - (intOf i).toNat)
  case atStart => exact ⟨0, rfl, Nat.zero_le _, rfl⟩
  case round =>
    obtain ⟨k, rfl, hk, rfl⟩ := hrel
    rw [Hl.out] at hk
    by_cases hlt : k < n
    · have hlt' : (k : Int) < n := by omega
      obtain ⟨b, off, cap', hv, _, _, _, hc⟩ := HR.out.head (by omega)
      cases hv
      have ck := hc k hlt
      have hsu : (l.take (k + 1)).foldl crcByte 4294967295 = crcByte ((l.take k).foldl crcByte 4294967295) (l.getD k 0) := by
        have e : l.take (k + 1) = l.take k ++ [l.getD k 0] := by
          rw [List.take_add_one, List.getElem?_eq_getElem (by rw [Hl.out]; exact hlt)]
          simp [List.getD, show k < l.length by rw [Hl.out]; exact hlt]
        rw [e, List.foldl_append, List.foldl_cons, List.foldl_nil]
      have hh := foldCrc_lt (l.take k) 4294967295 (by decide)
      generalize (l.take k).foldl crcByte 4294967295 = s at *
      generalize l.getD k 0 = c at *
      have q1 := crc_in s c hh
      have hc8 := c.toNat_lt
      have hr : s ^^^ c.toNat < 4294967296 := Nat.xor_lt_two_pow (n := 32) hh (by omega)
      have hcb : crcByte s c = crcIter 4 (crcIter 4 (s ^^^ c.toNat)) := crcIter_add 4 4 _
      rw [hcb] at hsu
      generalize s ^^^ c.toNat = r at *
      have q2 := crc_low r hr
      have q3 := crc_half r hr
      have hr4 := crcIter_lt 4 hr
      have t1 := Hst.out.2 (r % 16) (Nat.mod_lt _ (by decide))
      generalize stepsT.getD (r % 16) 0 = v1 at q3 t1
      generalize crcIter 4 r = r4 at *
      have q4 := crc_low r4 hr4
      have q5 := crc_half r4 hr4
      have t2 := Hst.out.2 (r4 % 16) (Nat.mod_lt _ (by decide))
      generalize stepsT.getD (r4 % 16) 0 = v2 at q5 t2
      have Hsu := Lib.hid hsu
      clear hsu hcb hc
      go_wp2
      exact ⟨⟨k + 1, by go_num, by rw [Hl.out]; omega, by rw [Hsu.out]⟩, by simp [intOf]; omega⟩
    · obtain rfl : n = k := by omega
      have hlt' : ¬ ((n : Int) < n) := by omega
      have e : List.take n l = l := List.take_of_length_le (by rw [Hl.out]; exact Nat.le_refl _)
      have E := Lib.hid e
      have hs := foldCrc_lt l 4294967295 (by decide)
      have hn := not_u32 _ hs
      have Hn := Lib.hid hn
      clear e hn hs
      go_wp2
      go_ret
      rw [E.out]
      refine ⟨?_, rfl⟩
      exact congrArg (fun z => Ending.returned (.int .u32 z)) Hn.out
end Go.Proofs.YtoibhkmlebcepaaDoor
