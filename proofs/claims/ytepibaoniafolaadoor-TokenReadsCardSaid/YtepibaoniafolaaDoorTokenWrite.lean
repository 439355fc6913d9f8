import Derived.Test.YtepibaoniafolaaDoorTokenNum
import Derived.Test.YtepibaoniafolaaDoorBuilderB
import Derived.Test.YtepibaoniafolaaDoorShelf
import Derived.Laws.BitsLemmas
namespace Go.Proofs.YtepibaoniafolaaDoor
open Go Go.RowKit

theorem wraps_i64 (n : Int) (h₀ : 0 ≤ n) (h₁ : n < 2 ^ 62) : IntKind.i64.wrap n = n := by
  rw [IntKind.wrap_i64]; omega

theorem i64_or_small (a b : Nat) (ha : a < 2 ^ 62) (hb : b < 2 ^ 62) : bits .or .i64 (a : Int) (b : Int) = ((a ||| b : Nat) : Int) := (bits_nat .i64 62 (by decide) wraps_i64 a b ha hb).2
theorem i64_and_small (a b : Nat) (ha : a < 2 ^ 62) (hb : b < 2 ^ 62) : bits .and .i64 (a : Int) (b : Int) = ((a &&& b : Nat) : Int) := (bits_nat .i64 62 (by decide) wraps_i64 a b ha hb).1

/-- The signs. -/
def signsB : ByteArray := ⟨#[97, 98, 99, 100, 101, 102, 103, 104, 105, 106, 107, 108, 109, 110, 111, 112, 113, 114, 115, 116, 117, 118, 119, 120, 121, 122, 50, 51, 52, 53, 54, 55]⟩
def sgn (v : Nat) : UInt8 := signsB.data.toList.getD v 0

/-- The first signs of bytes. -/
def signsTo (l : List UInt8) (j : Nat) : List UInt8 := (List.range j).map fun i => sgn (bitsN (byteBit l) (5 * i) 5)

theorem signsTo_succ (l : List UInt8) (j : Nat) : signsTo l (j + 1) = signsTo l j ++ [sgn (bitsN (byteBit l) (5 * j) 5)] := by
  simp [signsTo, List.range_succ]

theorem signsTo_length (l : List UInt8) (j : Nat) : (signsTo l j).length = j := by simp [signsTo]

/-- The text of sixteen bytes. -/
def textL (l : List UInt8) : List UInt8 := signsTo l 26

/-- A digit out of the middle. -/
theorem bits_mid {f : Nat → Nat} (h : IsBits f) (a M m : Nat) (h5 : 5 ≤ m) (hm : m ≤ M) : bitsN f a M / 2 ^ (m - 5) % 32 = bitsN f (a + (M - m)) 5 := by
  have e : M = ((M - m) + 5) + (m - 5) := by omega
  have h1 := bitsN_div h a ((M - m) + 5) (m - 5)
  rw [← e] at h1
  rw [h1]
  exact bitsN_mod h a (M - m) 5

theorem bits_low {f : Nat → Nat} (h : IsBits f) (a M m : Nat) (hm : m ≤ M) : bitsN f a M % 2 ^ m = bitsN f (a + (M - m)) m := by
  have h1 := bitsN_mod h a (M - m) m
  rwa [show M - m + m = M by omega] at h1

theorem and31 (Y n v : Nat) (hY : Y < 2 ^ 62) (h : Y / 2 ^ n % 32 = v) : bits BinOp.and .i64 ((Y : Int) / 2 ^ n) 31 = (v : Int) := by
  have e : (Y : Int) / 2 ^ n = ((Y / 2 ^ n : Nat) : Int) := by simp
  have hd : Y / 2 ^ n ≤ Y := Nat.div_le_self _ _
  have h1 := i64_and_small (Y / 2 ^ n) 31 (by omega) (by decide)
  rw [show (31 : Nat) = 2 ^ 5 - 1 from rfl, Nat.and_two_pow_sub_one_eq_mod] at h1
  rw [e, ← h, ← h1]
  rfl

theorem wrap_pow (m : Nat) (hm : m < 8) : wrap64 (wrap64 (2 ^ m) - 1) = ((2 ^ m - 1 : Nat) : Int) := by
  have : m = 0 ∨ m = 1 ∨ m = 2 ∨ m = 3 ∨ m = 4 ∨ m = 5 ∨ m = 6 ∨ m = 7 := by omega
  rcases this with rfl | rfl | rfl | rfl | rfl | rfl | rfl | rfl <;> decide +kernel

theorem mask_low (Y m v : Nat) (hY : Y < 2 ^ 62) (hm : m < 8) (h : Y % 2 ^ m = v) : bits BinOp.and .i64 (Y : Int) (wrap64 (wrap64 (2 ^ m) - 1)) = (v : Int) := by
  have hp : 2 ^ m ≤ 2 ^ 8 := Nat.pow_le_pow_right (by decide) (by omega)
  rw [wrap_pow m hm, i64_and_small Y _ hY (by omega), Nat.and_two_pow_sub_one_eq_mod, h]

theorem sgn_at (v : Nat) (h : v < signsB.size) : signsB[v] = sgn v := by
  unfold sgn
  rw [List.getD, List.getElem?_eq_getElem (by rw [Array.length_toList]; exact h)]
  rfl

def WrRel (w : World) (B b : Nat) (l : List UInt8) (bits n i : Value) (wr : World) : Prop :=
  ∃ k j m : Nat, i = .int .i64 (k : Int) ∧ k ≤ 16 ∧ n = .int .i64 (m : Int) ∧ bits = .int .i64 (bitsN (byteBit l) (5 * j) m : Int) ∧ 5 * j + m = 8 * k ∧ m < 5 ∧
    Lib.IsBuilder 50 5 B b (bcells (signsTo l j)) wr ∧ Below w.heap.size w wr ∧ B ≤ wr.heap.size

def WrIn (w : World) (B b : Nat) (l : List UInt8) (k : Nat) (n : Value) (wr : World) : Prop :=
  ∃ j m : Nat, n = .int .i64 (m : Int) ∧ 5 * j + m = 8 * (k + 1) ∧ m ≤ 12 ∧
    Lib.IsBuilder 50 5 B b (bcells (signsTo l j)) wr ∧ Below w.heap.size w wr ∧ B ≤ wr.heap.size

set_option maxRecDepth 100000 in
set_option maxHeartbeats 1000000 in
theorem write_any (w : World) (l : List UInt8) (hl : l.length = 16) :
    Calls Tryd.prog 17 #[.agg (bcells l).toArray] w (GivesVal w (.string ⟨(textL l).toArray⟩)) := by
  have hinfo : (Tryd.prog.info? 40).map (·.size) = some (bcells l).toArray.size := by
    rw [show (bcells l).toArray.size = 16 by simp [bcells_length, hl]]; kernel_rfl
  have HI := Lib.hid hinfo
  have hidx : ∀ (W : World) (k : Nat), k < 16 → (Instr.index 40 (.agg (bcells l).toArray) (.int .i64 (k : Int))).run Tryd.prog W = .ok (.int .u8 ((l.getD k 0).toNat : Int)) W := by
    intro W k hk
    have h := Tryd.underlying40
    have hk' : k < (bcells l).toArray.size := by simp [bcells_length, hl]; omega
    simp [Instr.index, run_underlying h, asIntOf, go_sem, bcells, hl, hk, List.getD]
  have HX := Lib.hid hidx
  clear hinfo hidx
  go_enter Tryd.func17, Tryd.ntmps17
  go_wp2_with (refine wpList_load_row rfl 40 _ rfl w.heap.size rfl 40 (bcells l).toArray (0, 0) _ (heap_alloc2_old w _ _) Tryd.underlying40 rfl HI.out ?_)
  have hbl : Lib.IsBuilder 50 5 w.heap.size (w.heap.size + 1) (bcells (signsTo l 0)) ((w.alloc (.cells (bcells l).toArray 40)).alloc (.cells #[.pointer none, .slice none 0 0] 50)) :=
    Or.inl ⟨by omega, .slice none 0 0, heap_alloc2_new w _ _, World.ownsRow_nil _ _ _ _, by simp [Value.ownBlock]⟩
  have HBl := Lib.hid hbl
  clear hbl
  go_loopw [4, 5, 9] (fun x n i wr => WrRel w w.heap.size (w.heap.size + 1) l x n i wr) (fun _ _ i _ => 16 - (intOf i).toNat)
  case atStart => exact ⟨0, 0, 0, rfl, by decide, rfl, rfl, rfl, by decide, HBl.out, ((Below.refl _ w).alloc (Nat.le_refl _) _).alloc (by simp) _, by simp; omega⟩
  case round =>
    obtain ⟨k, j, m, rfl, hk, rfl, rfl, hjm, hm5, hbl, hb, hB⟩ := hrel
    have HBl2 := Lib.hid hbl
    have HB := Lib.hid hb
    clear hbl hb HBl
    by_cases hlt : k < 16
    · have hltI : (k : Int) < 16 := by omega
      have hrun := HX.out wr k hlt
      have hbl := bitsN_lt (byteBit_le l) (5 * j) m
      have hp : 2 ^ m ≤ 2 ^ 4 := Nat.pow_le_pow_right (by decide) (by omega)
      have hadd := bitsN_add (byteBit l) (5 * j) m 8
      rw [hjm, byteBit_byte l k (by omega)] at hadd
      have hc := (l.getD k 0).toNat_lt
      generalize (l.getD k 0).toNat = c at *
      generalize hX : bitsN (byteBit l) (5 * j) m = X at *
      have hX16 : X < 16 := by omega
      have hor : bits BinOp.or .i64 ((X : Int) * 256) (c : Int) = (bitsN (byteBit l) (5 * j) (m + 8) : Int) := by
        have h1 := i64_or_small (X * 256) c (by omega) (by omega)
        rw [or_add X c 8 hc] at h1
        rw [hadd, ← h1]
        simp
      have HAdd := Lib.hid hadd
      clear hadd hX hbl hp
      go_wp2
      clear hrun hor
      obtain ⟨wo, hwo⟩ : ∃ wo : World, wo = wr := ⟨_, rfl⟩
      subst hwo
      have hin : WrIn w w.heap.size (w.heap.size + 1) l k (.int .i64 ((m : Int) + 8)) wo := ⟨j, m + 8, by go_num, by omega, by omega, HBl2.out, HB.out, hB⟩
      have HIn := Lib.hid hin
      clear hin hB HBl2 HB
      have hM : bitsN (byteBit l) (5 * j) (m + 8) < 2 ^ 12 := Nat.lt_of_lt_of_le (bitsN_lt (byteBit_le l) _ _) (Nat.pow_le_pow_right (by decide) (by omega))
      go_loopw [5] (fun n wi => WrIn w w.heap.size (w.heap.size + 1) l k n wi) (fun n _ => (intOf n).toNat)
      case atStart => exact HIn.out
      case round =>
        obtain ⟨j2, m2, rfl, hj2, hm12, hbl, hb, hB⟩ := hrel
        clear HIn
        have HBl3 := Lib.hid hbl
        have HB3 := Lib.hid hb
        clear hbl hb
        by_cases h5 : 5 ≤ m2
        · have hmid := bits_mid (byteBit_le l) (5 * j) (m + 8) m2 h5 (by omega)
          rw [show 5 * j + (m + 8 - m2) = 5 * j2 by omega] at hmid
          have hv := bitsN_lt (byteBit_le l) (5 * j2) 5
          have hs := signsTo_succ l j2
          have hsl := signsTo_length l j2
          generalize bitsN (byteBit l) (5 * j2) 5 = v at *
          generalize bitsN (byteBit l) (5 * j) (m + 8) = Y at *
          have hand := and31 Y (m2 - 5) v (by omega) hmid
          have HS := Lib.hid hs
          have HSl := Lib.hid hsl
          clear hs hsl hmid
          have hlen : (bcells (signsTo l j2)).length ≤ 100000000000 := by rw [bcells_length, HSl.out]; omega
          have HLn := Lib.hid hlen
          clear hlen
          go_wp2_with (go_at_call 23; go_must (refine (writeByte_any _ _ _ _ _ HBl3.out HLn.out (Nat.le_trans (Nat.le_refl _) HB3.out.size)).mono ?_))
          rintro e w3 ⟨rfl, hbl, hbb⟩
          have hbl4 : Lib.IsBuilder 50 5 w.heap.size (w.heap.size + 1) (bcells (signsTo l (j2 + 1))) w3 := by
            rw [HS.out, bcells_append, ← sgn_at v hv]
            exact hbl
          have HBl4 := Lib.hid hbl4
          have HB4 := Lib.hid (HB3.out.trans hbb)
          have hsz := Nat.le_trans hB hbb.size
          clear hbl hbl4 hbb
          go_wp2
          exact ⟨⟨j2 + 1, m2 - 5, by congr 1; omega, by omega, by omega, HBl4.out, HB4.out, hsz⟩, by simp [intOf]; omega⟩
        · have hlow := bits_low (byteBit_le l) (5 * j) (m + 8) m2 (by omega)
          rw [show 5 * j + (m + 8 - m2) = 5 * j2 by omega] at hlow
          have hlo := Lib.hid hlow
          clear hlow
          generalize bitsN (byteBit l) (5 * j) (m + 8) = Y at *
          go_wp2
          refine ⟨⟨k + 1, j2, m2, by go_num, by omega, rfl, ?_, by omega, by omega, HBl3.out, HB3.out, hB⟩, by simp [intOf]; omega⟩
          rw [mask_low Y m2 _ (by omega) (by omega) hlo.out]
    · obtain rfl : k = 16 := by omega
      obtain rfl : m = 3 := by omega
      obtain rfl : j = 25 := by omega
      have hX := bitsN_lt (byteBit_le l) (5 * 25) 3
      have hlast : bitsN (byteBit l) (5 * 25) 5 = bitsN (byteBit l) (5 * 25) 3 * 4 := by
        have h1 := bitsN_add (byteBit l) (5 * 25) 3 2
        have h2 : bitsN (byteBit l) (5 * 25 + 3) 2 = 0 := by
          simp only [bitsN]
          unfold byteBit
          rw [if_neg (by omega), if_neg (by omega)]
        rw [h2] at h1
        exact h1
      have hs := signsTo_succ l 25
      rw [hlast] at hs
      have hsl := signsTo_length l 25
      have hfull : textL l = signsTo l (25 + 1) := rfl
      generalize bitsN (byteBit l) (5 * 25) 3 = X at *
      have hand : bits BinOp.and .i64 ((X : Int) * 4) 31 = ((X * 4 : Nat) : Int) := by
        have h1 := i64_and_small (X * 4) 31 (by omega) (by decide)
        rw [show (31 : Nat) = 2 ^ 5 - 1 from rfl, Nat.and_two_pow_sub_one_eq_mod, Nat.mod_eq_of_lt (by omega)] at h1
        rw [← h1]
        simp
      have hX8 : (X : Int) < 8 := by omega
      have hv : X * 4 < 32 := by omega
      generalize X * 4 = v at *
      rw [← hfull] at hs
      have HS := Lib.hid hs
      have hlen : (bcells (signsTo l 25)).length ≤ 100000000000 := by rw [bcells_length, hsl]; omega
      have HLn := Lib.hid hlen
      clear hlt hk hjm hm5 hX hlast hs hsl hfull hlen
      go_wp2_with (go_at_call 23; go_must (refine (writeByte_any _ _ _ _ _ HBl2.out HLn.out (Nat.le_trans (Nat.le_refl _) HB.out.size)).mono ?_))
      rintro e w3 ⟨rfl, hbl, hbb⟩
      have hbl4 : Lib.IsBuilder 50 5 w.heap.size (w.heap.size + 1) (bcells (textL l)) w3 := by
        rw [HS.out, bcells_append, ← sgn_at v hv]
        exact hbl
      have HBl4 := Lib.hid hbl4
      have HB4 := Lib.hid (HB.out.trans hbb)
      clear hbl hbl4 hbb
      go_wp2_with (go_at_call 24; go_must (refine (Tryd.Builder_String_any _ _ _ _ HBl4.out HB4.out.size).mono ?_))
      rintro e w4 ⟨rfl, hb4⟩
      have HB5 := Lib.hid (HB4.out.trans hb4)
      clear hb4
      go_wp2
      go_ret
      exact ⟨rfl, HB5.out⟩
end Go.Proofs.YtepibaoniafolaaDoor
