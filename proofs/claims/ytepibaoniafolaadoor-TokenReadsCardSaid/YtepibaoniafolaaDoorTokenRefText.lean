import Derived.Test.YtepibaoniafolaaDoorTokenRefMake
namespace Go.Proofs.YtepibaoniafolaaDoor
open Go Go.RowKit

def TxRel (l : List UInt8) (out i : Value) : Prop :=
  ∃ k : Nat, i = .int .i64 (k : Int) ∧ k ≤ 26 ∧ out = .string ⟨(signsTo l k).toArray⟩

def TxIn (l : List UInt8) (i : Nat) (v k : Value) : Prop :=
  ∃ K d : Nat, k = .int .i64 (K : Int) ∧ K = 5 * i + d ∧ d ≤ 5 ∧ v = .int .i64 (bitsN (byteBit l) (5 * i) d : Int)

theorem signs_cut_all : ∀ D : Fin 32, signsB.extract D.val (D.val + 1) = ⟨#[sgn D.val]⟩ := by decide +kernel

theorem signs_cut (D : Nat) (h : D < 32) : signsB.extract D (D + 1) = ⟨#[sgn D]⟩ := signs_cut_all ⟨D, h⟩

set_option maxRecDepth 100000 in
set_option maxHeartbeats 1000000 in
theorem reftext_any (w : World) (v : Value) (l : List UInt8) (h : Reads w 1 v 16 (bcells l)) :
    Calls Tryd.prog 15 #[v] w (GivesVal w (.string ⟨(textL l).toArray⟩)) := by
  have hl : l.length = 16 := by have := h.1; simpa [bcells_length] using this
  obtain ⟨b, off, cap, rfl, h1, h2, _, hc⟩ := h.head (by omega)
  have HC := Lib.hid hc
  have HL := Lib.hid hl
  have hle := byteBit_le l
  have HLe := Lib.hid hle
  clear h hc hl hle
  go_enter Tryd.func15, Tryd.ntmps15
  go_wp2
  go_loop [3, 4] (fun out i => TxRel l out i) (fun _ i => 26 - (intOf i).toNat)
  case atStart => exact ⟨0, rfl, by decide, rfl⟩
  case round =>
    obtain ⟨i, rfl, hi, rfl⟩ := hrel
    by_cases hlt : i < 26
    · have hlt' : (i : Int) < 26 := by omega
      go_wp2
      go_loop [5, 6] (fun v k => TxIn l i v k) (fun _ k => 5 * i + 5 - (intOf k).toNat)
      case atStart => exact ⟨5 * i, 0, by go_num, by omega, by decide, rfl⟩
      case round =>
        obtain ⟨K, d, rfl, hK, hd, rfl⟩ := hrel
        by_cases h5 : d < 5
        · have hKi : (K : Int) < 5 * (i : Int) + 5 := by omega
          have hbl := bitsN_lt HLe.out (5 * i) d
          have hb32 : bitsN (byteBit l) (5 * i) d < 32 := Nat.lt_of_lt_of_le hbl (Nat.pow_le_pow_right (by decide) (by omega) : 2 ^ d ≤ 2 ^ 5)
          by_cases h128 : K < 128
          · have hK1 : (K : Int) < 128 := by omega
            have hcell := HC.out ((5 * i + d) / 8) (by omega)
            have hc8 := (l.getD ((5 * i + d) / 8) 0).toNat_lt
            have hbit : (l.getD ((5 * i + d) / 8) 0).toNat / 2 ^ (7 - (5 * i + d) % 8) % 2 = byteBit l (5 * i + d) := by
              unfold byteBit
              rw [if_pos (by rw [HL.out]; omega)]
            generalize (l.getD ((5 * i + d) / 8) 0).toNat = c at *
            obtain ⟨e, he, he7⟩ : ∃ e : Nat, 7 - (5 * i + d) % 8 = e ∧ (7 : Int) - (5 * (i : Int) + (d : Int)) % 8 = (e : Int) := ⟨_, rfl, by omega⟩
            have hbit2 : ((c : Int) / 2 ^ e).tmod 2 = (byteBit l (5 * i + d) : Int) := by
              have e1 : (c : Int) / 2 ^ e = ((c / 2 ^ e : Nat) : Int) := by simp
              rw [e1, Int.tmod_eq_emod_of_nonneg (Int.natCast_nonneg _), ← hbit, he]
              omega
            have hst : bitsN (byteBit l) (5 * i) (d + 1) = bitsN (byteBit l) (5 * i) d * 2 + byteBit l (5 * i + d) := by
              rw [bitsN, Nat.mul_comm]
            have hB := HLe.out (5 * i + d)
            generalize byteBit l (5 * i + d) = B at *
            generalize bitsN (byteBit l) (5 * i) d = D at *
            have HST := Lib.hid hst
            clear hst hbit
            go_wp2
            exact ⟨⟨5 * i + (d + 1), d + 1, by go_num, rfl, by omega, by rw [HST.out]; push_cast; rfl⟩, by simp [intOf]; omega⟩
          · have hK1 : (128 : Int) ≤ (K : Int) := by omega
            have hst : bitsN (byteBit l) (5 * i) (d + 1) = bitsN (byteBit l) (5 * i) d * 2 := by
              have : byteBit l (5 * i + d) = 0 := by
                unfold byteBit
                rw [if_neg (by rw [HL.out]; omega)]
              rw [bitsN, this, Nat.mul_comm]
              rfl
            generalize bitsN (byteBit l) (5 * i) d = D at *
            have HST := Lib.hid hst
            clear hst
            go_wp2
            exact ⟨⟨5 * i + (d + 1), d + 1, by go_num, rfl, by omega, by rw [HST.out]; push_cast; rfl⟩, by simp [intOf]; omega⟩
        · obtain rfl : d = 5 := by omega
          have hD : bitsN (byteBit l) (5 * i) 5 < 32 := bitsN_lt HLe.out (5 * i) 5
          have hsn := signsTo_succ l i
          have hsl := signsTo_length l i
          generalize bitsN (byteBit l) (5 * i) 5 = D at *
          have hex := signs_cut D hD
          generalize signsTo l i = S at *
          have HSn := Lib.hid hsn
          clear hsn
          go_wp2
          refine ⟨⟨i + 1, by go_num, by omega, ?_⟩, by simp [intOf]; omega⟩
          rw [HSn.out]
          show Value.string ((⟨S.toArray⟩ : ByteArray) ++ signsB.extract D (D + 1)) = _
          rw [hex]
          congr 1
    · obtain rfl : i = 26 := by omega
      go_wp2
      go_ret
      exact ⟨rfl, Below.refl _ _⟩

set_option maxRecDepth 100000 in
set_option maxHeartbeats 1000000 in
theorem refmake_any (w : World) (id rev : Nat) (hrev : rev ≤ 18446744073709551615) :
    Calls Tryd.prog 10 #[.int .u32 (id : Int), .int .u64 (rev : Int)] w (GivesVal w (.string ⟨(textL (tokL id rev)).toArray⟩)) := by
  have hb := refbytes_any w id rev hrev
  have hl := tokL_length id rev
  generalize tokL id rev = T at *
  have HB := Lib.hid hb
  have HL := Lib.hid hl
  clear hb hl hrev
  go_enter Tryd.func10, Tryd.ntmps10
  go_wp2_with (go_at_call 14; go_must (refine HB.out.mono ?_))
  rintro e w1 ⟨v1, rfl, f1, b1⟩
  rw [HL.out] at f1
  have HR := Lib.hid f1.1
  have HB1 := Lib.hid b1
  clear f1 b1
  go_wp2_with (go_at_call 15; go_must (refine (reftext_any w1 v1 T HR.out).mono ?_))
  rintro e w2 ⟨rfl, b2⟩
  have HB2 := Lib.hid (HB1.out.trans (b2.mono HB1.out.size))
  clear b2
  go_wp2
  go_ret
  exact ⟨rfl, HB2.out⟩
end Go.Proofs.YtepibaoniafolaaDoor
