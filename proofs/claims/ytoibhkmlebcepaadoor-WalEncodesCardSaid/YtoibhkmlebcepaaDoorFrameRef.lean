import Derived.Test.YtoibhkmlebcepaaDoorFrameTrip
namespace Go.Proofs.YtoibhkmlebcepaaDoor
open Go Go.RowKit

theorem crcIter_succ (i r : Nat) : crcIter (i + 1) r = crcBit (crcIter i r) := crcIter_add i 1 r

theorem bit_odd (s : Nat) (hs : s < 4294967296) (h : s % 2 = 1) : bits BinOp.xor .u32 ((s : Int) / 2) 3988292384 = (crcBit s : Int) := by
  have := u32_xor_nat (s / 2) 3988292384 (by omega) (by decide)
  simp only [Int.cast_ofNat_Int] at this
  rw [show (s : Int) / 2 = ((s / 2 : Nat) : Int) from by omega, this, crcBit, if_pos h]

theorem bit_even (s : Nat) (h : ¬ s % 2 = 1) : (s : Int) / 2 = (crcBit s : Int) := by
  rw [crcBit, if_neg h]
  simp

def CrcIn (r : Nat) (s i : Value) : Prop := ∃ k : Nat, i = .int .i64 (k : Int) ∧ k ≤ 8 ∧ s = .int .u32 (crcIter k r : Int)

set_option maxRecDepth 100000 in
set_option maxHeartbeats 1000000 in
theorem refsum_any (w : World) (v : Value) (n : Nat) (l : List UInt8) (h : Reads w 1 v n (bcells l)) :
    Calls Tryd.prog 25 #[v] w (TellsU32 w (sumL l)) := by
  obtain ⟨a, cap, rfl, h1, h2⟩ := h.le
  unfold maxLen at h2
  have hl : l.length = n := by have := h.1; simpa [bcells_length] using this
  have Hl := Lib.hid hl
  have HR := Lib.hid h
  clear h hl
  go_enter Tryd.func25, Tryd.ntmps25
  go_wp2
  go_loop [3, 10] (fun h i => CrcRel l h i) (fun _ i => n - (intOf i).toNat)
  case atStart => exact ⟨0, rfl, Nat.zero_le _, rfl⟩
  case round =>
    obtain ⟨k, rfl, hk, rfl⟩ := hrel
    rw [Hl.out] at hk
    by_cases hlt : k < n
    · have hlt' : (k : Int) < n := by omega
      obtain ⟨b, off, cap', hv, hxx1, hxx2, hxx3, hc⟩ := HR.out.head (by omega)
      cases hv
      clear hxx1 hxx2 hxx3
      have ck := hc k hlt
      have hsu : (l.take (k + 1)).foldl crcByte 4294967295 = crcByte ((l.take k).foldl crcByte 4294967295) (l.getD k 0) := by
        have e : l.take (k + 1) = l.take k ++ [l.getD k 0] := by
          rw [List.take_add_one, List.getElem?_eq_getElem (by rw [Hl.out]; exact hlt)]
          simp [List.getD, show k < l.length by rw [Hl.out]; exact hlt]
        rw [e, List.foldl_append, List.foldl_cons, List.foldl_nil]
      have hh := foldCrc_lt (l.take k) 4294967295 (by decide)
      generalize (l.take k).foldl crcByte 4294967295 = s at *
      generalize l.getD k 0 = c at *
      have q1 := crc_in s c hh
      have hc8 := c.toNat_lt
      have hr : s ^^^ c.toNat < 4294967296 := Nat.xor_lt_two_pow (n := 32) hh (by omega)
      have hcb : crcByte s c = crcIter 8 (s ^^^ c.toNat) := rfl
      rw [hcb] at hsu
      generalize s ^^^ c.toNat = r at *
      have Hsu := Lib.hid hsu
      clear hsu hcb hc
      go_wp2
      clear q1 ck
      go_loop [3, 6] (fun s i => CrcIn r s i) (fun _ i => 8 - (intOf i).toNat)
      case atStart => exact ⟨0, rfl, Nat.zero_le _, rfl⟩
      case round =>
        obtain ⟨i, rfl, hi, rfl⟩ := hrel
        have hsi := crcIter_lt i hr
        have hsc := crcIter_succ i r
        by_cases hi8 : i < 8
        · have hi8' : (i : Int) < 8 := by omega
          generalize crcIter i r = q at *
          have Hsc := Lib.hid hsc
          clear hsc
          by_cases hodd : q % 2 = 1
          · have ho : (((q : Int) % 2) == 1) = true := by simp; omega
            have hb := bit_odd q hsi hodd
            clear hodd
            go_wp2
            exact ⟨⟨i + 1, by go_num, by omega, by rw [Hsc.out]⟩, by simp [intOf]; omega⟩
          · have ho : (((q : Int) % 2) == 1) = false := by simp; omega
            have hb := bit_even q hodd
            clear hodd
            go_wp2
            exact ⟨⟨i + 1, by go_num, by omega, by rw [Hsc.out]⟩, by simp [intOf]; omega⟩
        · obtain rfl : i = 8 := by omega
          clear hsc
          go_wp2
          exact ⟨⟨k + 1, by go_num, by rw [Hl.out]; omega, by rw [Hsu.out]⟩, by simp [intOf]; omega⟩
    · obtain rfl : n = k := by omega
      have hlt' : ¬ ((n : Int) < n) := by omega
      have e : List.take n l = l := List.take_of_length_le (by rw [Hl.out]; exact Nat.le_refl _)
      have E := Lib.hid e
      have hs := foldCrc_lt l 4294967295 (by decide)
      have hn := u32_xor_nat _ 4294967295 hs (by decide)
      have Hn := Lib.hid hn
      clear e hn hs
      go_wp2
      go_ret
      rw [E.out]
      refine ⟨?_, rfl⟩
      exact congrArg (fun z => Ending.returned (.int .u32 z)) Hn.out

def FourPost (w : World) (N : Nat) (e : Ending) (w' : World) : Prop :=
  e = .returned (.slice (some ⟨w.heap.size, 0, none⟩) 4 4) ∧ Fresh w.heap.size w' 5 1 (.slice (some ⟨w.heap.size, 0, none⟩) 4 4) 4 (bcells (be4 N)) ∧ Below w.heap.size w w'

set_option maxRecDepth 100000 in
set_option maxHeartbeats 1000000 in
theorem four_any (w : World) (N : Nat) (hN : N < 4294967296) :
    Calls Tryd.prog 24 #[.int .u32 N] w (FourPost w N) := by
  have e4 : #[Value.int .u8 ((N : Int) / 16777216), .int .u8 ((N : Int) / 65536 % 256), .int .u8 ((N : Int) / 256 % 256), .int .u8 ((N : Int) % 256)] = (bcells (be4 N)).toArray := by
    simp [bcells, be4]
    omega
  have E4 := Lib.hid e4
  clear e4
  go_enter Tryd.func24, Tryd.ntmps24
  go_wp2
  go_ret
  refine ⟨rfl, ?_, (Below.refl _ _).alloc (Nat.le_refl _) _⟩
  rw [E4.out]
  exact ⟨lits_read w (be4 N) 4 (0, 0) rfl (by decide), .inl ⟨_, rfl⟩⟩
end Go.Proofs.YtoibhkmlebcepaaDoor
