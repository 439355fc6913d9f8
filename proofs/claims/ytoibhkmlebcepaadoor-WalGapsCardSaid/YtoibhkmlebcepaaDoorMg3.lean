/- What the proof stands on, part 3. -/
import Derived.Test.YtoibhkmlebcepaaDoorMg2
import Derived.Deep.QuietTactic
import Derived.BigQuiet
import Derived.Lib.SliceRun
/- Layer 3's plain mathematics. -/
namespace Go.Proofs.YtoibhkmlebcepaaDoor

/-- one halving of a sum -/
def crcBit (s : Nat) : Nat := s / 2 ^^^ (if s % 2 = 1 then 3988292384 else 0)

/-- n halvings -/
def crcIter : Nat → Nat → Nat
  | 0, s => s
  | n + 1, s => crcIter n (crcBit s)

/-- a byte goes in -/
def crcByte (s : Nat) (c : UInt8) : Nat := crcIter 8 (s ^^^ c.toNat)

/-- the sum of bytes -/
def sumL (l : List UInt8) : Nat := l.foldl crcByte 4294967295 ^^^ 4294967295

/-- what four halvings make of the last four bits -/
def stepsT : List Nat := [0, 498536548, 997073096, 651767980, 1994146192, 1802195444, 1303535960, 1342533948, 3988292384, 4027552580, 3604390888, 3412177804, 2607071920, 2262029012, 2685067896, 3183342108]

theorem crcBit_xor (a b : Nat) : crcBit (a ^^^ b) = crcBit a ^^^ crcBit b := by
  have h1 : (a ^^^ b) / 2 = a / 2 ^^^ b / 2 := by
    have := Nat.xor_div_two_pow (a := a) (b := b) (n := 1)
    simpa using this
  have h2 : (a ^^^ b) % 2 = (a % 2) ^^^ (b % 2) := by
    have := Nat.xor_mod_two_pow (a := a) (b := b) (n := 1)
    simpa using this
  unfold crcBit
  rw [h1, h2]
  rcases Nat.mod_two_eq_zero_or_one a with ha | ha <;> rcases Nat.mod_two_eq_zero_or_one b with hb | hb <;> rw [ha, hb] <;> simp
  · rw [Nat.xor_assoc]
  · rw [Nat.xor_assoc, Nat.xor_assoc, Nat.xor_comm 3988292384]
  · rw [Nat.xor_assoc, ← Nat.xor_assoc 3988292384, Nat.xor_comm 3988292384 (b / 2), Nat.xor_assoc, Nat.xor_self, Nat.xor_zero]

theorem crcIter_xor (n a b : Nat) : crcIter n (a ^^^ b) = crcIter n a ^^^ crcIter n b := by
  induction n generalizing a b with
  | zero => rfl
  | succ n ih => rw [crcIter, crcBit_xor, ih]; rfl

theorem crcIter_add (m n s : Nat) : crcIter (m + n) s = crcIter n (crcIter m s) := by
  induction m generalizing s with
  | zero => rw [Nat.zero_add]; rfl
  | succ m ih => rw [Nat.succ_add, crcIter, ih]; rfl

theorem crcBit_two (x : Nat) : crcBit (2 * x) = x := by
  unfold crcBit
  rw [if_neg (by omega)]
  simp

theorem crcIter_pow (n x : Nat) : crcIter n (2 ^ n * x) = x := by
  induction n with
  | zero => simp [crcIter]
  | succ n ih =>
    have e : 2 ^ (n + 1) * x = 2 * (2 ^ n * x) := by rw [Nat.pow_succ, Nat.mul_comm (2 ^ n) 2, Nat.mul_assoc]
    rw [e, crcIter, crcBit_two, ih]

theorem crcBit_lt {s : Nat} (h : s < 4294967296) : crcBit s < 4294967296 := by
  unfold crcBit
  have h1 : s / 2 < 2 ^ 32 := by omega
  have h2 : (if s % 2 = 1 then 3988292384 else 0) < 2 ^ 32 := by split <;> decide
  exact Nat.xor_lt_two_pow h1 h2

theorem crcIter_lt (n : Nat) {s : Nat} (h : s < 4294967296) : crcIter n s < 4294967296 := by
  induction n generalizing s with
  | zero => exact h
  | succ n ih => exact ih (crcBit_lt h)

theorem crcBit_zero {s : Nat} (h : s < 4294967296) (hz : crcBit s = 0) : s = 0 := by
  unfold crcBit at hz
  by_cases h1 : s % 2 = 1
  · rw [if_pos h1] at hz
    have h2 : s / 2 = 3988292384 := by
      have := congrArg (· ^^^ 3988292384) hz
      simpa [Nat.xor_assoc] using this
    omega
  · rw [if_neg h1] at hz
    simp at hz
    omega

theorem crcIter_zero (n : Nat) {s : Nat} (h : s < 4294967296) (hz : crcIter n s = 0) : s = 0 := by
  induction n generalizing s with
  | zero => exact hz
  | succ n ih => exact crcBit_zero h (ih (crcBit_lt h) hz)

theorem split_xor (k q r : Nat) (hr : r < 2 ^ k) : 2 ^ k * q + r = 2 ^ k * q ^^^ r := by
  have h1 : (2 ^ k * q ^^^ r) / 2 ^ k = q := by
    rw [Nat.xor_div_two_pow, Nat.mul_div_cancel_left _ (Nat.two_pow_pos k), Nat.div_eq_of_lt hr, Nat.xor_zero]
  have h2 : (2 ^ k * q ^^^ r) % 2 ^ k = r := by
    rw [Nat.xor_mod_two_pow, Nat.mul_mod_right, Nat.mod_eq_of_lt hr, Nat.zero_xor]
  have := Nat.div_add_mod (2 ^ k * q ^^^ r) (2 ^ k)
  rw [h1, h2] at this
  exact this

theorem steps_all : ∀ r : Fin 16, crcIter 4 r.val = stepsT.getD r.val 0 := by decide +kernel

/-- four halvings by the table -/
theorem crcIter_four (s : Nat) : crcIter 4 s = s / 16 ^^^ stepsT.getD (s % 16) 0 := by
  have e : s = 2 ^ 4 * (s / 16) + s % 16 := (Nat.div_add_mod s 16).symm
  have hr : s % 16 < 16 := Nat.mod_lt _ (by decide)
  rw [split_xor 4 _ _ hr] at e
  have h1 := steps_all ⟨s % 16, hr⟩
  simp only at h1
  rw [← h1]
  conv => lhs; rw [e]
  rw [crcIter_xor, crcIter_pow]

theorem stepsT_lt (r : Nat) : stepsT.getD r 0 < 4294967296 := by
  by_cases h : r < 16
  · exact (by decide +kernel : ∀ r : Fin 16, stepsT.getD r.val 0 < 4294967296) ⟨r, h⟩
  · simp [stepsT, List.getD, List.getElem?_eq_none (show [0, 498536548, 997073096, 651767980, 1994146192, 1802195444, 1303535960, 1342533948, 3988292384, 4027552580, 3604390888, 3412177804, 2607071920, 2262029012, 2685067896, 3183342108].length ≤ r from by simp; omega)]

theorem crcByte_lt {s : Nat} (c : UInt8) (h : s < 4294967296) : crcByte s c < 4294967296 := by
  have hc := c.toNat_lt
  exact crcIter_lt 8 (Nat.xor_lt_two_pow (n := 32) (by omega) (by omega))

theorem foldCrc_lt (l : List UInt8) : ∀ s, s < 4294967296 → l.foldl crcByte s < 4294967296 := by
  induction l with
  | nil => intro s h; exact h
  | cons c r ih => intro s h; exact ih _ (crcByte_lt c h)

theorem sumL_lt (l : List UInt8) : sumL l < 4294967296 := Nat.xor_lt_two_pow (n := 32) (foldCrc_lt l _ (by decide)) (by decide)

/-- bytes as one number, the first the lowest -/
def leNum : List UInt8 → Nat
  | [] => 0
  | c :: r => c.toNat + 256 * leNum r

theorem fold_crc (l : List UInt8) : ∀ s, l.foldl crcByte s = crcIter (8 * l.length) (s ^^^ leNum l) := by
  induction l with
  | nil => intro s; simp [leNum, crcIter]
  | cons c r ih =>
    intro s
    have hc := c.toNat_lt
    have e : leNum (c :: r) = 2 ^ 8 * leNum r ^^^ c.toNat := by
      rw [← split_xor 8 _ _ hc, leNum, Nat.add_comm]
    rw [List.foldl_cons, ih, List.length_cons, show 8 * (r.length + 1) = 8 + 8 * r.length by omega, crcIter_add, e, Nat.xor_comm (2 ^ 8 * leNum r), ← Nat.xor_assoc, crcIter_xor 8, crcIter_pow]
    rfl

theorem xor_cancel (a b i : Nat) : (a ^^^ i) ^^^ (b ^^^ i) = a ^^^ b := by
  apply Nat.eq_of_testBit_eq
  intro j
  simp only [Nat.testBit_xor]
  cases a.testBit j <;> cases b.testBit j <;> cases i.testBit j <;> rfl

/-- The sums of rows of one length differ by what their difference makes. -/
theorem sumL_xor {l m : List UInt8} (h : m.length = l.length) : sumL l ^^^ sumL m = crcIter (8 * l.length) (leNum l ^^^ leNum m) := by
  unfold sumL
  rw [fold_crc, fold_crc, h, xor_cancel, ← crcIter_xor, Nat.xor_comm 4294967295, Nat.xor_comm 4294967295, xor_cancel]

/-- Bits within 32 places turn the sum. -/
theorem turned_sum {n k x : Nat} (hk : k ≤ n) (hx : x < 4294967296) (h : crcIter n (2 ^ k * x) = 0) : x = 0 := by
  obtain ⟨m, rfl⟩ := Nat.exists_eq_add_of_le hk
  rw [crcIter_add, crcIter_pow] at h
  exact crcIter_zero m hx h
end Go.Proofs.YtoibhkmlebcepaaDoor

namespace Go.Proofs.YtoibhkmlebcepaaDoor
open Go Go.RowKit

/-- The table of steps lies where its initialiser lays it. -/
def Steps (w : World) : Prop := 0 < w.heap.size ∧ ∀ i, i < 16 → w.cell? ⟨0, i, none⟩ = some (.int .u32 (stepsT.getD i 0 : Int))

theorem Steps.below {w w' : World} (h : Steps w) (hb : Below w.heap.size w w') : Steps w' :=
  ⟨Nat.lt_of_lt_of_le h.1 hb.size, fun i hi => (hb.cell (p := ⟨0, i, none⟩) h.1).trans (h.2 i hi)⟩

theorem crc_in (h : Nat) (c : UInt8) (hh : h < 4294967296) : bits BinOp.xor .u32 (h : Int) (c.toNat : Int) = ((h ^^^ c.toNat : Nat) : Int) := by
  have hc := c.toNat_lt
  exact u32_xor_nat h c.toNat hh (by omega)

theorem crc_low (h : Nat) (hh : h < 4294967296) : bits BinOp.and .u32 (h : Int) 15 = ((h % 16 : Nat) : Int) := by
  have := u32_and_nat h 15 hh (by decide)
  simp only [Int.cast_ofNat_Int] at this
  rw [this, show (15 : Nat) = 2 ^ 4 - 1 from by decide, Nat.and_two_pow_sub_one_eq_mod]

theorem crc_half (h : Nat) (hh : h < 4294967296) : bits BinOp.xor .u32 ((h : Int) / 16) (stepsT.getD (h % 16) 0 : Int) = (crcIter 4 h : Int) := by
  have e : (h : Int) / 16 = ((h / 16 : Nat) : Int) := by omega
  rw [e, u32_xor_nat _ _ (by omega) (stepsT_lt _), ← crcIter_four]

def CrcRel (l : List UInt8) (h i : Value) : Prop := ∃ k : Nat, i = .int .i64 (k : Int) ∧ k ≤ l.length ∧ h = .int .u32 (((l.take k).foldl crcByte 4294967295 : Nat) : Int)

def TellsU32 (w : World) (n : Nat) (e : Ending) (w' : World) : Prop := e = .returned (.int .u32 (n : Int)) ∧ w = w'

theorem not_u32 (h : Nat) (hh : h < 4294967296) : bits BinOp.xor .u32 IntKind.u32.max (h : Int) = ((h ^^^ 4294967295 : Nat) : Int) := by
  rw [Nat.xor_comm]
  exact u32_xor_nat 4294967295 h (by decide) hh

set_option maxRecDepth 100000 in
set_option maxHeartbeats 1000000 in
theorem sum_any (w : World) (v : Value) (n : Nat) (l : List UInt8) (h : Reads w 1 v n (bcells l)) (hst : Steps w) :
    Calls Tryd.prog 37 #[v] w (TellsU32 w (sumL l)) := by
  obtain ⟨a, cap, rfl, h1, h2⟩ := h.le
  unfold maxLen at h2
  have hl : l.length = n := by have := h.1; simpa [bcells_length] using this
  have Hl := Lib.hid hl
  have HR := Lib.hid h
  have Hst := Lib.hid hst
  clear h hl hst
  go_enter Tryd.func37, Tryd.ntmps37
  go_wp2
  go_loop [3, 8] (fun h i => CrcRel l h i) (fun _ i => n - (intOf i).toNat)
  case atStart => exact ⟨0, rfl, Nat.zero_le _, rfl⟩
  case round =>
    obtain ⟨k, rfl, hk, rfl⟩ := hrel
    rw [Hl.out] at hk
    by_cases hlt : k < n
    · have hlt' : (k : Int) < n := by omega
      obtain ⟨b, off, cap', hv, _, _, _, hc⟩ := HR.out.head (by omega)
      cases hv
      have ck := hc k hlt
      have hsu : (l.take (k + 1)).foldl crcByte 4294967295 = crcByte ((l.take k).foldl crcByte 4294967295) (l.getD k 0) := by
        have e : l.take (k + 1) = l.take k ++ [l.getD k 0] := by
          rw [List.take_add_one, List.getElem?_eq_getElem (by rw [Hl.out]; exact hlt)]
          simp [List.getD, show k < l.length by rw [Hl.out]; exact hlt]
        rw [e, List.foldl_append, List.foldl_cons, List.foldl_nil]
      have hh := foldCrc_lt (l.take k) 4294967295 (by decide)
      generalize (l.take k).foldl crcByte 4294967295 = s at *
      generalize l.getD k 0 = c at *
      have q1 := crc_in s c hh
      have hc8 := c.toNat_lt
      have hr : s ^^^ c.toNat < 4294967296 := Nat.xor_lt_two_pow (n := 32) hh (by omega)
      have hcb : crcByte s c = crcIter 4 (crcIter 4 (s ^^^ c.toNat)) := crcIter_add 4 4 _
      rw [hcb] at hsu
      generalize s ^^^ c.toNat = r at *
      have q2 := crc_low r hr
      have q3 := crc_half r hr
      have hr4 := crcIter_lt 4 hr
      have t1 := Hst.out.2 (r % 16) (Nat.mod_lt _ (by decide))
      generalize stepsT.getD (r % 16) 0 = v1 at q3 t1
      generalize crcIter 4 r = r4 at *
      have q4 := crc_low r4 hr4
      have q5 := crc_half r4 hr4
      have t2 := Hst.out.2 (r4 % 16) (Nat.mod_lt _ (by decide))
      generalize stepsT.getD (r4 % 16) 0 = v2 at q5 t2
      have Hsu := Lib.hid hsu
      clear hsu hcb hc
      go_wp2
      exact ⟨⟨k + 1, by go_num, by rw [Hl.out]; omega, by rw [Hsu.out]⟩, by simp [intOf]; omega⟩
    · obtain rfl : n = k := by omega
      have hlt' : ¬ ((n : Int) < n) := by omega
      have e : List.take n l = l := List.take_of_length_le (by rw [Hl.out]; exact Nat.le_refl _)
      have E := Lib.hid e
      have hs := foldCrc_lt l 4294967295 (by decide)
      have hn := not_u32 _ hs
      have Hn := Lib.hid hn
      clear e hn hs
      go_wp2
      go_ret
      rw [E.out]
      refine ⟨?_, rfl⟩
      exact congrArg (fun z => Ending.returned (.int .u32 z)) Hn.out
end Go.Proofs.YtoibhkmlebcepaaDoor

namespace Go.Proofs.YtoibhkmlebcepaaDoor
open Go Go.RowKit

/-- a number's four bytes, the highest first -/
def be4 (N : Nat) : List UInt8 := [UInt8.ofNat (N / 16777216), UInt8.ofNat (N / 65536), UInt8.ofNat (N / 256), UInt8.ofNat N]

/-- the number of the first four bytes -/
def num4 (l : List UInt8) : Nat := (((l.getD 0 0).toNat * 256 + (l.getD 1 0).toNat) * 256 + (l.getD 2 0).toNat) * 256 + (l.getD 3 0).toNat

theorem num4_lt (l : List UInt8) : num4 l < 4294967296 := by
  have h0 := (l.getD 0 0).toNat_lt
  have h1 := (l.getD 1 0).toNat_lt
  have h2 := (l.getD 2 0).toNat_lt
  have h3 := (l.getD 3 0).toNat_lt
  unfold num4
  omega

theorem num4_be4 {N : Nat} (h : N < 4294967296) (r : List UInt8) : num4 (be4 N ++ r) = N := by
  simp [num4, be4]
  omega

/-- a frame -/
def sealL (l : List UInt8) : List UInt8 := be4 l.length ++ be4 (sumL l) ++ l

theorem sealL_length (l : List UInt8) : (sealL l).length = 8 + l.length := by simp [sealL, be4]; omega

def Grows (B : Nat) (w : World) (v : Value) (xs : List UInt8) (e : Ending) (w' : World) : Prop :=
  ∃ v', e = .returned v' ∧ w'.ownsRow B 5 1 v' xs.length (bcells xs) ∧ Below B w w' ∧ w.grownBy w' v.ownBlock ∧ Moves w v v'

set_option maxRecDepth 100000 in
set_option maxHeartbeats 1000000 in
theorem put4_any (B : Nat) (w : World) (v : Value) (xs : List UInt8) (N : Nat) (h : w.ownsRow B 5 1 v xs.length (bcells xs)) (hB : B ≤ w.heap.size) (hn : xs.length ≤ 1000000000) (hN : N < 4294967296) :
    Calls Tryd.prog 36 #[v, .int .u32 N] w (Grows B w v (xs ++ be4 N)) := by
  obtain ⟨i0, hi, hz0, hz1, hz2⟩ := info_parts info5
  have hbe : (xs ++ be4 N).length = xs.length + 4 := by simp [be4]
  have Hbe := Lib.hid hbe
  clear hbe
  go_enter Tryd.func36, Tryd.ntmps36
  go_wp2_with (at_builtin; go_must (refine wpList_append_owns_lits (w0 := w) rfl _ _ 28 rfl B 5 i0 (.int .u8 0) 1 Tryd.underlying28 hi hz0 hz1 hz2 rfl [.int .u8 ((N : Int) / 16777216), .int .u8 ((N : Int) / 65536 % 256), .int .u8 ((N : Int) / 256 % 256), .int .u8 ((N : Int) % 256)] 4 rfl h rfl rfl (fun u hu => by simp at hu; rcases hu with rfl | rfl | rfl | rfl <;> rfl) ?_ ?_ hB ?_))
  · unfold maxLen; omega
  · omega
  intro v' w1 f1 g1 b1 m1
  have e4 : bcells xs ++ [Value.int .u8 ((N : Int) / 16777216), .int .u8 ((N : Int) / 65536 % 256), .int .u8 ((N : Int) / 256 % 256), .int .u8 ((N : Int) % 256)] = bcells (xs ++ be4 N) := by
    simp [bcells, be4]
    omega
  rw [e4] at f1
  have F1 := Lib.hid f1
  clear f1 e4
  go_wp2
  go_ret
  refine ⟨_, rfl, ?_, b1, g1, m1⟩
  rw [Hbe.out]
  exact F1.out

def SealPost (w : World) (l : List UInt8) (e : Ending) (w' : World) : Prop :=
  ∃ g cap, e = .returned (.slice (some ⟨g, 0, none⟩) l.length cap) ∧ w'.ownsRow w.heap.size 5 1 (.slice (some ⟨g, 0, none⟩) l.length cap) l.length (bcells l) ∧ Below w.heap.size w w'

set_option maxRecDepth 100000 in
set_option maxHeartbeats 1000000 in
theorem seal_own (w : World) (v : Value) (n : Nat) (l : List UInt8) (h : Reads w 1 v n (bcells l)) (hn : n ≤ 100000000) (hst : Steps w) :
    Calls Tryd.prog 23 #[v] w (SealPost w (sealL l)) := by
  obtain ⟨i0, hi, hz0, hz1, hz2⟩ := info_parts info5
  obtain ⟨a, cap, rfl, h1, h2⟩ := h.le
  unfold maxLen at h2
  have hl : l.length = n := by have := h.1; simpa [bcells_length] using this
  have hsl := sealL_length l
  have hbe : ∀ N, (be4 N).length = 4 := fun N => rfl
  have hsum := sumL_lt l
  rw [hl] at hsl
  have Hl := Lib.hid hl
  have Hsl := Lib.hid hsl
  have HR := Lib.hid h
  have Hst := Lib.hid hst
  clear h hl hst hsl hbe
  go_enter Tryd.func23, Tryd.ntmps23
  go_wp2_with (at_make; go_must (refine wpList_make_own _ rfl _ _ 28 rfl w.heap.size 5 i0 (.int .u8 0) 1 Tryd.underlying28 hi hz0 hz1 .i64 .i64 _ (8 + n) rfl rfl ?_ ?_ ?_ ?_ ?_))
  · omega
  · rw [hz2]; omega
  · unfold maxLen; omega
  · exact Nat.le_refl _
  intro w1 f1 g1
  have b1 : Below w.heap.size w w1 := (Below.refl _ _).grown g1 (Nat.le_refl _) (fun k hk => by cases hk)
  have lt1 := (f1.lt w.heap.size rfl).2
  have HN : (n : Int) = ((n : Nat) : Int) := rfl
  go_wp2_with (go_at_call 36; go_must (refine (put4_any w.heap.size w1 _ [] n f1 (by omega) (by simp) (by omega)).mono ?_))
  rintro e w2 ⟨v2, rfl, f2, b2, g2, m2⟩
  have bs1 := b1.size
  have bs2 := b2.size
  have b12 := b1.trans b2
  have r2 := HR.out.below' b12
  have st2 := Hst.out.below b12
  go_wp2_with (go_at_call 37; go_must (refine (sum_any w2 _ n l r2 st2).mono ?_))
  rintro e w3 ⟨rfl, rfl⟩
  go_wp2_with (go_at_call 36; go_must (refine (put4_any w.heap.size w2 _ _ (sumL l) f2 (by omega) (by simp [be4]) hsum).mono ?_))
  rintro e w3 ⟨v3, rfl, f3, b3, g3, m3⟩
  have bs3 := b3.size
  have b13 := b12.trans b3
  have r3 := HR.out.below' b13
  have hsrc := Reads.src (P := Tryd.prog) (tx := 28) Tryd.underlying28 r3 (bcells_one l)
  have hl8 : (be4 n ++ be4 (sumL l)).length = 8 := rfl
  rw [hl8] at f3
  clear hl8 f2 f1 r2 st2 g1 g2 g3 b1 b2 b12 b3 HN
  go_wp2_with (at_builtin; go_must (refine wpList_append_owns rfl _ _ 28 28 rfl w.heap.size 5 i0 (.int .u8 0) 1 1 Tryd.underlying28 hi hz0 hz1 hz2 rfl _ _ _ rfl f3 _ _ _ rfl hsrc ?_ ?_ ?_ ?_))
  · unfold maxLen; omega
  · omega
  · omega
  intro v4 w4 f4 g4 b4 m4
  rw [← bcells_append] at f4
  have b14 := b13.trans b4
  have F4 := Lib.hid f4
  clear f4 hsrc
  have h9 : sealL l = be4 n ++ be4 (sumL l) ++ l := by rw [sealL, Hl.out]
  obtain ⟨g, cp, cur, rfl, hg⟩ : ∃ g cp cur, v4 = .slice (some ⟨g, 0, none⟩) (8 + n) cp ∧ cur = g := by
    rcases F4.out.2 with ⟨_, h0⟩ | ⟨g, cp, cur, hv, _⟩
    · omega
    · exact ⟨g, cp, g, hv, rfl⟩
  have H9 := Lib.hid h9
  clear hg h9
  go_wp2
  go_ret
  refine ⟨g, cp, ?_, ?_, b14⟩
  · rw [Hsl.out]; rfl
  · rw [Hsl.out, H9.out]; exact F4.out

theorem seal_any (w : World) (v : Value) (n : Nat) (l : List UInt8) (h : Reads w 1 v n (bcells l)) (hn : n ≤ 100000000) (hst : Steps w) :
    Calls Tryd.prog 23 #[v] w (GivesBytes w (sealL l)) :=
  (seal_own w v n l h hn hst).mono fun _ _ ⟨_, _, he, ho, hb⟩ => ⟨_, he, ⟨ownsRow.reads ho, .inr ho⟩, hb⟩
end Go.Proofs.YtoibhkmlebcepaaDoor

namespace Go.Proofs.YtoibhkmlebcepaaDoor
open Go Go.RowKit

theorem or_join (x y : Nat) (k : Nat) (hy : y < 2 ^ k) (h : 2 ^ k * x + y < 4294967296) : bits BinOp.or .u32 ((2 ^ k * x : Nat) : Int) (y : Int) = ((2 ^ k * x + y : Nat) : Int) := by
  rw [u32_or_nat _ _ (by omega) (by omega), Nat.two_pow_add_eq_or_of_lt hy]

theorem get_math (c0 c1 c2 c3 : UInt8) :
    bits BinOp.or .u32 (bits BinOp.or .u32 (bits BinOp.or .u32 ((c0.toNat : Int) * 16777216) ((c1.toNat : Int) * 65536)) ((c2.toNat : Int) * 256)) (c3.toNat : Int) = ((((c0.toNat * 256 + c1.toNat) * 256 + c2.toNat) * 256 + c3.toNat : Nat) : Int) := by
  have h0 := c0.toNat_lt
  have h1 := c1.toNat_lt
  have h2 := c2.toNat_lt
  have h3 := c3.toNat_lt
  have e0 : (c0.toNat : Int) * 16777216 = ((2 ^ 24 * c0.toNat : Nat) : Int) := by omega
  have e1 : (c1.toNat : Int) * 65536 = ((65536 * c1.toNat : Nat) : Int) := by omega
  have e2 : (c2.toNat : Int) * 256 = ((256 * c2.toNat : Nat) : Int) := by omega
  rw [e0, e1, e2, or_join c0.toNat _ 24 (by omega) (by omega)]
  have e3 : 2 ^ 24 * c0.toNat + 65536 * c1.toNat = 2 ^ 16 * (256 * c0.toNat + c1.toNat) := by omega
  rw [e3, or_join _ _ 16 (by omega) (by omega)]
  have e4 : 2 ^ 16 * (256 * c0.toNat + c1.toNat) + 256 * c2.toNat = 2 ^ 8 * (65536 * c0.toNat + 256 * c1.toNat + c2.toNat) := by omega
  rw [e4, or_join _ _ 8 (by omega) (by omega)]
  omega

def TellsU32Q (w : World) (n : Nat) (e : Ending) (w' : World) : Prop := e = .returned (.int .u32 (n : Int)) ∧ ∃ m, w' = w.drewN m

set_option maxRecDepth 100000 in
set_option maxHeartbeats 1000000 in
theorem get4_any (w : World) (v : Value) (n : Nat) (l : List UInt8) (h : Reads w 1 v n (bcells l)) (hn : 4 ≤ n) :
    Calls Tryd.prog 41 #[v] w (TellsU32Q w (num4 l)) := by
  obtain ⟨b, off, cap, rfl, h1, h2, hl, hc⟩ := h.head (by omega)
  unfold maxLen at h2
  have c0 := hc 0 (by omega)
  have c1 := hc 1 (by omega)
  have c2 := hc 2 (by omega)
  have c3 := hc 3 (by omega)
  have hm : num4 l = ((((l.getD 0 0).toNat * 256 + (l.getD 1 0).toNat) * 256 + (l.getD 2 0).toNat) * 256 + (l.getD 3 0).toNat) := rfl
  rw [hm]
  clear hm h hc
  generalize l.getD 0 0 = d0 at *
  generalize l.getD 1 0 = d1 at *
  generalize l.getD 2 0 = d2 at *
  generalize l.getD 3 0 = d3 at *
  have hg := get_math d0 d1 d2 d3
  have Hg := Lib.hid hg
  clear hg hl
  simp only [Nat.add_zero] at c0
  have i0 : (0 : Int) < n := by omega
  have i1 : (1 : Int) < n := by omega
  have i2 : (2 : Int) < n := by omega
  have i3 : (3 : Int) < n := by omega
  go_enter Tryd.func41, Tryd.ntmps41
  go_wp2_with fail
  go_quiet (fail)
  go_wp2
  go_ret
  refine ⟨?_, _, rfl⟩
  refine congrArg (fun z => Ending.returned (.int .u32 z)) (Eq.trans ?_ Hg.out)
  have h0 := d0.toNat_lt
  have h1 := d1.toNat_lt
  have h2 := d2.toNat_lt
  have h3 := d3.toNat_lt
  rw [show (d0.toNat : Int) % 4294967296 * 16777216 % 4294967296 = (d0.toNat : Int) * 16777216 from by omega, show (d1.toNat : Int) % 4294967296 * 65536 % 4294967296 = (d1.toNat : Int) * 65536 from by omega,
    show (d2.toNat : Int) % 4294967296 * 256 % 4294967296 = (d2.toNat : Int) * 256 from by omega, show (d3.toNat : Int) % 4294967296 = (d3.toNat : Int) from by omega]

/-- Bytes of a new block are handed back. -/
def GivesNew (w : World) (l : List UInt8) (e : Ending) (w' : World) : Prop :=
  ∃ v', e = .returned v' ∧ w'.ownsRow w.heap.size 5 1 v' l.length (bcells l) ∧ Below w.heap.size w w'

set_option maxRecDepth 100000 in
set_option maxHeartbeats 1000000 in
theorem clone_any (w : World) (x : Addr) (n cap : Nat) (l : List UInt8) (h : Reads w 1 (.slice (some x) n cap) n (bcells l)) (hn : n ≤ 1000000000) :
    Calls Tryd.prog 42 #[.slice (some x) n cap] w (GivesNew w l) := by
  obtain ⟨i0, hi, hz0, hz1, hz2⟩ := info_parts info5
  have hl : l.length = n := by have := h.1; simpa [bcells_length] using this
  have Hl := Lib.hid hl
  have HR := Lib.hid h
  have hsrc := Reads.src (P := Tryd.prog) (tx := 28) Tryd.underlying28 (h.alloc (.cells #[] 5)) (bcells_one l)
  have hf0 : (w.alloc (.cells #[] 5)).ownsRow w.heap.size 5 1 (.slice (some ⟨w.heap.size, 0, none⟩) 0 0) 0 [] := World.ownsRow_lit w #[] 0 (Nat.le_refl _) (Nat.zero_le _) rfl
  clear h hl
  have hnil := Lib.run_eql_slice_nil (P := Tryd.prog) w 28 5 (some x) n cap 0 0 Tryd.underlying28
  go_enter Tryd.func42, Tryd.ntmps42
  go_wp2_with (at_builtin; go_must (refine wpList_append_owns rfl _ _ 28 28 rfl w.heap.size 5 i0 (.int .u8 0) 1 1 Tryd.underlying28 hi hz0 hz1 hz2 rfl _ _ _ rfl hf0 _ _ _ rfl hsrc ?_ ?_ ?_ ?_))
  · unfold maxLen; omega
  · omega
  · simp
  intro v2 w2 f2 g2 b2 m2
  have b3 : Below w.heap.size w w2 := ((Below.refl _ _).alloc (Nat.le_refl _) _).trans b2
  have F2 := Lib.hid f2
  clear f2 m2
  go_wp2
  go_ret
  refine ⟨_, rfl, ?_, b3⟩
  have := F2.out
  simpa [Hl.out] using this
end Go.Proofs.YtoibhkmlebcepaaDoor

namespace Go.Proofs.YtoibhkmlebcepaaDoor
open Go Go.RowKit

/-- what a frame at the head of bytes is read as: the error, the payload -/
def nextL (b : List UInt8) : Nat × List UInt8 :=
  if b.length < 8 ∨ b.length - 8 < num4 b then (7, [])
  else if sumL ((b.drop 8).take (num4 b)) = num4 (b.drop 4) then (0, (b.drop 8).take (num4 b)) else (8, [])

/-- how many bytes of them -/
def nextN (b : List UInt8) : Nat := if (nextL b).1 = 0 then 8 + (nextL b).2.length else 0

def FNext (w : World) (b : List UInt8) (e : Ending) (w' : World) : Prop :=
  ∃ v', e = .returned (.tuple #[v', .int .i64 (nextN b : Int), .int .i64 ((nextL b).1 : Int)]) ∧
    w'.ownsRow w.heap.size 5 1 v' (nextL b).2.length (bcells (nextL b).2) ∧ Below w.heap.size w w'

theorem fresh_none (B : Nat) (w : World) (e : TypeId) (size : Nat) : Fresh B w e size (.slice none 0 0) 0 [] :=
  ⟨⟨by simp, none, 0, rfl, Nat.le_refl _, Nat.zero_le _, fun j u h => by simp at h⟩, .inl ⟨none, rfl⟩⟩

theorem FNext.short {w w' : World} {b : List UInt8} {e : Ending} (h : b.length < 8 ∨ b.length - 8 < num4 b) (he : e = .returned (.tuple #[.slice none 0 0, .int .i64 0, .int .i64 7])) (hb : Below w.heap.size w w') : FNext w b e w' := by
  have e1 : nextL b = (7, []) := if_pos h
  refine ⟨.slice none 0 0, ?_, ?_, hb⟩
  · rw [nextN, e1]; exact he
  · rw [e1]; exact World.ownsRow_nil _ _ _ _

theorem FNext.bad {w w' : World} {b : List UInt8} {e : Ending} (h : ¬ (b.length < 8 ∨ b.length - 8 < num4 b)) (hs : ¬ sumL ((b.drop 8).take (num4 b)) = num4 (b.drop 4)) (he : e = .returned (.tuple #[.slice none 0 0, .int .i64 0, .int .i64 8])) (hb : Below w.heap.size w w') : FNext w b e w' := by
  have e1 : nextL b = (8, []) := by rw [nextL, if_neg h, if_neg hs]
  refine ⟨.slice none 0 0, ?_, ?_, hb⟩
  · rw [nextN, e1]; exact he
  · rw [e1]; exact World.ownsRow_nil _ _ _ _

theorem FNext.good {w w' : World} {b p : List UInt8} {n : Nat} {v : Value} {e : Ending} (h : ¬ (b.length < 8 ∨ b.length - 8 < num4 b)) (hs : sumL ((b.drop 8).take (num4 b)) = num4 (b.drop 4)) (hp : (b.drop 8).take (num4 b) = p) (hn : p.length = n) (he : e = .returned (.tuple #[v, .int .i64 (8 + (n : Int)), .int .i64 0]))
    (hf : w'.ownsRow w.heap.size 5 1 v p.length (bcells p)) (hb : Below w.heap.size w w') : FNext w b e w' := by
  have e1 : nextL b = (0, p) := by rw [nextL, if_neg h, if_pos hs, hp]
  have e2 : nextN b = 8 + n := by rw [nextN, e1]; simp [hn]
  refine ⟨v, ?_, ?_, hb⟩
  · rw [e1, e2, he]; simp
  · rw [e1]; exact hf

theorem Fresh.mono {B B' : Nat} {w : World} {e : TypeId} {size n : Nat} {v : Value} {xs : List Value} (h : Fresh B' w e size v n xs) (hb : B ≤ B') : Fresh B w e size v n xs :=
  ⟨h.1, h.2.imp id fun k => World.ownsRow.mono k hb⟩

theorem Reads.drewN {w : World} {size n : Nat} {v : Value} {xs : List Value} (h : Reads w size v n xs) (k : Nat) : Reads (w.drewN k) size v n xs := h
theorem Steps.drewN {w : World} (h : Steps w) (k : Nat) : Steps (w.drewN k) := h

theorem sum_quiet {w : World} {k n : Nat} {v : Value} {l : List UInt8} (h : Reads w 1 v n (bcells l)) (hst : Steps w) :
    Calls Tryd.prog 37 #[v] (w.drewN k) fun e w'' => e = .returned (.int .u32 (sumL l : Int)) ∧ ∃ m, w'' = w.drewN m :=
  Calls.quiet_of_same ((sum_any (w.drewN k) v n l (h.drewN k) (hst.drewN k)).mono fun _ _ ⟨h1, h2⟩ => ⟨h1, h2.symm⟩)

theorem get_quiet {w : World} {k n : Nat} {v : Value} {l : List UInt8} (h : Reads w 1 v n (bcells l)) (hn : 4 ≤ n) :
    Calls Tryd.prog 41 #[v] (w.drewN k) fun e w'' => e = .returned (.int .u32 (num4 l : Int)) ∧ ∃ m, w'' = w.drewN m :=
  Calls.quiet_of ((get4_any (w.drewN k) v n l (h.drewN k) hn).mono fun _ _ h => h)

set_option maxRecDepth 100000 in
set_option maxHeartbeats 1000000 in
theorem fnext_any (w : World) (v : Value) (n : Nat) (l : List UInt8) (h : Reads w 1 v n (bcells l)) (hn : n ≤ 1000000000) (hst : Steps w) :
    Calls Tryd.prog 33 #[v] w (FNext w l) := by
  have hl : l.length = n := by have := h.1; simpa [bcells_length] using this
  by_cases h8 : n < 8
  · obtain ⟨a, cap, rfl, h1, h2⟩ := h.le
    unfold maxLen at h2
    have h8' : (n : Int) < 8 := by omega
    have Hl := Lib.hid hl
    clear hl h hst
    go_enter Tryd.func33, Tryd.ntmps33
    go_wp2
    go_ret3
    exact FNext.short (by rw [Hl.out]; omega) rfl (Below.refl _ _)
  · obtain ⟨b, off, cap, rfl, h1, h2, hl', hcell⟩ := h.head (by omega)
    clear hl' hcell
    unfold maxLen at h2
    have hnum := num4_lt l
    have h8' : ¬ (n : Int) < 8 := by omega
    by_cases hbig : n - 8 < num4 l
    · have hbig' : (n : Int) - 8 < (num4 l : Int) := by omega
      have Hl := Lib.hid hl
      have HR := Lib.hid h
      generalize hM : num4 l = M at *
      have HM := Lib.hid hM
      clear hl h hst hM
      go_enter Tryd.func33, Tryd.ntmps33
      go_wp2_with (go_at_call 41; go_must (refine (get4_any w _ n l HR.out (by omega)).mono ?_))
      rintro e w1 ⟨rfl, m, hw1⟩
      have hb1 : Below w.heap.size w w1 := by rw [hw1]; exact below_drewN (Below.refl _ _) m
      rw [HM.out]
      clear hw1
      go_wp2
      go_ret3
      exact FNext.short (by rw [Hl.out, HM.out]; omega) rfl hb1
    · have hbig' : ¬ ((n : Int) - 8 < (num4 l : Int)) := by omega
      have r4 := h.skip 4 (by omega)
      have r8 := h.skip 8 (by omega)
      obtain ⟨a', cap', hv', _, _, rp⟩ := r8.take (num4 l) (by omega)
      cases hv'
      have hplen : ((l.drop 8).take (num4 l)).length = num4 l := by
        have := rp.1; simpa [bcells_length] using this
      generalize hP : (l.drop 8).take (num4 l) = p at *
      have HP := Lib.hid hP
      have Hpl := Lib.hid hplen
      have Hl := Lib.hid hl
      have HR := Lib.hid h
      have hnn : ¬ (l.length < 8 ∨ l.length - 8 < num4 l) := by rw [hl]; omega
      have Hnn := Lib.hid hnn
      clear hnn hP hplen r8
      generalize hM : num4 l = M at *
      have HM := Lib.hid hM
      have R4 := Lib.hid r4
      have RP := Lib.hid rp
      have Hst := Lib.hid hst
      clear r4 rp hl h hst hM
      have hs2 := num4_lt (l.drop 4)
      have hs1 := sumL_lt p
      have hways : (((sumL p : Int) != (num4 (l.drop 4) : Int)) = false ∧ sumL p = num4 (l.drop 4)) ∨ (((sumL p : Int) != (num4 (l.drop 4) : Int)) = true ∧ ¬ sumL p = num4 (l.drop 4)) := by
        by_cases hh : sumL p = num4 (l.drop 4)
        · exact .inl ⟨by simp [hh], hh⟩
        · exact .inr ⟨by simp; omega, hh⟩
      by_cases hc8 : cap = 8
      · have hn8 : n = 8 := by omega
        have hM0 : M = 0 := by omega
        subst hM0
        subst hn8
        subst hc8
        have hp0 : p = [] := List.eq_nil_of_length_eq_zero Hpl.out
        subst hp0
        have rn : Reads w 1 (.slice (some ⟨b, off, none⟩) 0 0) 0 (bcells []) := ⟨rfl, _, 0, rfl, Nat.le_refl _, Nat.zero_le _, fun j u h => by simp [bcells] at h⟩
        have RN := Lib.hid rn
        clear rn
        rcases hways with ⟨hw, hh⟩ | ⟨hw, hh⟩
        · have Hh := Lib.hid hh
          clear hh hs1 hs2
          go_enter Tryd.func33, Tryd.ntmps33
          go_wp2_with (go_at_call 41; go_must (refine (get4_any w _ 8 l HR.out (by omega)).mono ?_))
          rintro e w1 ⟨rfl, m, hw1⟩
          have hb1 : Below w.heap.size w w1 := by rw [hw1]; exact below_drewN (Below.refl _ _) m
          rw [HM.out]
          clear hw1
          have rp1 := Lib.hid (RN.out.below' hb1)
          have r41 := Lib.hid (R4.out.below' hb1)
          have st1 := Lib.hid (Hst.out.below hb1)
          have hb1s := hb1.size
          go_wp2_with fail
          go_quiet (first | (go_at_call 37; exact sum_quiet rp1.out st1.out) | (go_at_call 41; exact get_quiet r41.out (by omega)))
          go_wp2_with (go_at_call 42; go_must (refine (clone_any (w1.drewN nq) _ 0 _ [] (rp1.out.drewN nq) (by omega)).mono ?_))
          rintro e w3 ⟨v3, rfl, f3, b3⟩
          have hb3 : Below w.heap.size w w3 := (below_drewN hb1 nq).trans (b3.mono hb1s)
          go_wp2
          go_ret3
          exact FNext.good (p := []) (by rw [HM.out]; exact Hnn.out) (by rw [HM.out, HP.out]; exact Hh.out) (by rw [HM.out]; exact HP.out) rfl rfl (World.ownsRow.mono f3 hb1s) hb3
        · have Hh := Lib.hid hh
          clear hh hs1 hs2
          go_enter Tryd.func33, Tryd.ntmps33
          go_wp2_with (go_at_call 41; go_must (refine (get4_any w _ 8 l HR.out (by omega)).mono ?_))
          rintro e w1 ⟨rfl, m, hw1⟩
          have hb1 : Below w.heap.size w w1 := by rw [hw1]; exact below_drewN (Below.refl _ _) m
          rw [HM.out]
          clear hw1
          have rp1 := Lib.hid (RN.out.below' hb1)
          have r41 := Lib.hid (R4.out.below' hb1)
          have st1 := Lib.hid (Hst.out.below hb1)
          go_wp2_with fail
          go_quiet (first | (go_at_call 37; exact sum_quiet rp1.out st1.out) | (go_at_call 41; exact get_quiet r41.out (by omega)))
          go_wp2
          go_ret3
          exact FNext.bad (by rw [HM.out]; exact Hnn.out) (by rw [HM.out, HP.out]; exact Hh.out) rfl (below_drewN hb1 nq)
      · have hc8' : ¬ ((cap : Int) = 8) := by omega
        have hc4' : ¬ ((cap : Int) = 4) := by omega
        have e1 : (8 : Int) + M ≤ n := by omega
        have hM9 : M ≤ 1000000000 := by omega
        rcases hways with ⟨hw, hh⟩ | ⟨hw, hh⟩
        · have Hh := Lib.hid hh
          clear hh hs1 hs2
          go_enter Tryd.func33, Tryd.ntmps33
          go_wp2_with (go_at_call 41; go_must (refine (get4_any w _ n l HR.out (by omega)).mono ?_))
          rintro e w1 ⟨rfl, m, hw1⟩
          have hb1 : Below w.heap.size w w1 := by rw [hw1]; exact below_drewN (Below.refl _ _) m
          rw [HM.out]
          clear hw1
          have rp1 := Lib.hid (RP.out.below' hb1)
          have r41 := Lib.hid (R4.out.below' hb1)
          have st1 := Lib.hid (Hst.out.below hb1)
          have hb1s := hb1.size
          go_wp2_with fail
          go_quiet (first | (go_at_call 37; exact sum_quiet rp1.out st1.out) | (go_at_call 41; exact get_quiet r41.out (by omega)))
          go_wp2_with (go_at_call 42; go_must (refine (clone_any (w1.drewN nq) _ M _ p (rp1.out.drewN nq) hM9).mono ?_))
          rintro e w3 ⟨v3, rfl, f3, b3⟩
          have hb3 : Below w.heap.size w w3 := (below_drewN hb1 nq).trans (b3.mono hb1s)
          go_wp2
          go_ret3
          exact FNext.good (by rw [HM.out]; exact Hnn.out) (by rw [HM.out, HP.out]; exact Hh.out) (by rw [HM.out]; exact HP.out) Hpl.out rfl (World.ownsRow.mono f3 hb1s) hb3
        · have Hh := Lib.hid hh
          clear hh hs1 hs2
          go_enter Tryd.func33, Tryd.ntmps33
          go_wp2_with (go_at_call 41; go_must (refine (get4_any w _ n l HR.out (by omega)).mono ?_))
          rintro e w1 ⟨rfl, m, hw1⟩
          have hb1 : Below w.heap.size w w1 := by rw [hw1]; exact below_drewN (Below.refl _ _) m
          rw [HM.out]
          clear hw1
          have rp1 := Lib.hid (RP.out.below' hb1)
          have r41 := Lib.hid (R4.out.below' hb1)
          have st1 := Lib.hid (Hst.out.below hb1)
          go_wp2_with fail
          go_quiet (first | (go_at_call 37; exact sum_quiet rp1.out st1.out) | (go_at_call 41; exact get_quiet r41.out (by omega)))
          go_wp2
          go_ret3
          exact FNext.bad (by rw [HM.out]; exact Hnn.out) (by rw [HM.out, HP.out]; exact Hh.out) rfl (below_drewN hb1 nq)
end Go.Proofs.YtoibhkmlebcepaaDoor

namespace Go.Proofs.YtoibhkmlebcepaaDoor
open Go.RowKit

set_option maxRecDepth 100000 in
set_option maxHeartbeats 400000 in
theorem refput_any (w : World) (v : Value) (xs : List UInt8) (N : Nat) (h : Reads w 1 v xs.length (bcells xs)) (hn : xs.length ≤ 1000000000) (hN : N < 18446744073709551616) :
    Calls Tryd.prog 26 #[v, .int .u64 N] w (GivesBytes w (xs ++ enc N)) := by
  obtain ⟨i0, hi, hz0, hz1, hz2⟩ := info_parts info5
  have hel := enc_length_le 9 N (by omega)
  have HN := Lib.hid hN
  have hsrc := Reads.src (P := Tryd.prog) (tx := 28) Tryd.underlying28 (h.alloc (.cells #[] 5)) (bcells_one xs)
  have hb0 : Below w.heap.size w (w.alloc (.cells #[] 5)) := (Below.refl _ _).alloc (Nat.le_refl _) _
  have hf0 := fresh_empty w 5 1
  clear hN
  go_enter Tryd.func26, Tryd.ntmps26
  go_wp2_with (at_builtin; go_must (refine wpList_append_fresh rfl _ _ 28 28 rfl w.heap.size 5 i0 (.int .u8 0) 1 1 Tryd.underlying28 hi hz0 hz1 hz2 rfl _ _ _ rfl hf0 _ _ _ rfl hsrc ?_ ?_ ?_ ?_))
  · unfold maxLen; omega
  · omega
  · simp
  intro v1 w1 f1 _ b1 _
  have b2 := hb0.trans b1
  go_wp2
  clear hf0 hb0 b1 hsrc h
  go_loopw [5, 1] (fun s m wr => PutRel w xs N s m wr) (fun _ m _ => (intOf m).toNat)
  case atStart => exact ⟨xs, N, rfl, Nat.le_refl _, by omega, rfl, f1, b2⟩
  case round =>
    obtain ⟨ys, M, rfl, hM, hk, heq, hfr, hb⟩ := hrel
    have hbs := hb.size
    have Heq := Lib.hid heq
    clear heq f1 b2 hel
    by_cases hc : M < 128
    · rw [enc_lt hc] at hk
      simp at hk
      have e1 : (M : Int) < 128 := by omega
      go_wp2_with (at_builtin; go_must (refine wpList_append_one (w0 := wr) rfl _ _ 28 rfl w.heap.size 5 i0 (.int .u8 0) 1 Tryd.underlying28 hi hz0 hz1 hz2 rfl hfr rfl rfl rfl ?_ ?_ hbs ?_))
      · unfold maxLen; omega
      · omega
      intro v' w1 f1 g1 b1 m1
      rw [bcells_snoc ys (UInt8.ofNat M) (by simp; omega)] at f1
      go_wp2
      go_ret
      rw [← enc_lt hc, ← Heq.out] at f1
      refine ⟨_, rfl, ?_, hb.trans b1⟩
      have e2 : (xs ++ enc N).length = ys.length + 1 := by rw [Heq.out, enc_lt hc]; simp
      rw [e2]
      exact f1
    · have e1 : (128 : Int) ≤ M := by omega
      have ew : IntKind.u64.wrap ((M : Int) / 128) = (M : Int) / 128 := by
        rw [IntKind.wrap_u64]
        have := HN.out
        omega
      go_wp2_with (at_builtin; go_must (refine wpList_append_one (w0 := wr) rfl _ _ 28 rfl w.heap.size 5 i0 (.int .u8 0) 1 Tryd.underlying28 hi hz0 hz1 hz2 rfl hfr rfl rfl rfl ?_ ?_ hbs ?_))
      · unfold maxLen; omega
      · omega
      intro v' w1 f1 g1 b1 m1
      rw [bcells_snoc ys (UInt8.ofNat (M % 128 + 128)) (by simp; omega)] at f1
      rw [enc_ge hc] at hk
      simp at hk
      go_wp2
      refine ⟨⟨ys ++ [UInt8.ofNat (M % 128 + 128)], M / 128, by simp, by omega, by simp; omega, ?_, by simpa using f1, hb.trans b1⟩, by simp [intOf]; omega⟩
      rw [Heq.out, enc_ge hc]
      simp
end Go.Proofs.YtoibhkmlebcepaaDoor

namespace Go.Proofs.YtoibhkmlebcepaaDoor
open Go.RowKit

set_option maxRecDepth 100000 in
set_option maxHeartbeats 400000 in
theorem puttext_any (w : World) (v : Value) (xs : List UInt8) (s : ByteArray) (h : Reads w 1 v xs.length (bcells xs)) (hn : xs.length ≤ 1000000000) (hs : s.size ≤ 1000000000) :
    Calls Tryd.prog 22 #[v, .string s] w (GivesBytes w (xs ++ enc s.size ++ s.data.toList)) := by
  obtain ⟨i0, hi, hz0, hz1, hz2⟩ := info_parts info5
  have hel := enc_length_le 9 s.size (by omega)
  have hsl : s.data.toList.length = s.size := Array.length_toList
  have Hsl := Lib.hid hsl
  clear hsl
  go_enter Tryd.func22, Tryd.ntmps22
  go_wp2_with (go_at_call 21; go_must (refine (put_any w v xs s.size h hn (by omega)).mono ?_))
  rintro e w1 ⟨v1, rfl, f1, b1⟩
  have bs1 := b1.size
  have hl1 : (xs ++ enc s.size).length = xs.length + (enc s.size).length := List.length_append
  generalize hL : xs ++ enc s.size = L at f1 hl1
  have HL := Lib.hid hL
  clear hL
  have hsrc := Src.ofString (P := Tryd.prog) (w := w1) (tx := 9) Tryd.underlying9 s
  go_wp2_with (at_builtin; go_must (refine wpList_append_fresh rfl _ _ 28 9 rfl w.heap.size 5 i0 (.int .u8 0) 1 1 Tryd.underlying28 hi hz0 hz1 hz2 rfl _ _ _ rfl f1 _ _ _ rfl hsrc ?_ ?_ ?_ ?_))
  · unfold maxLen; omega
  · omega
  · exact bs1
  intro v2 w2 f2 _ b2 _
  rw [bcells_byteCells, ← bcells_append] at f2
  go_wp2
  go_ret
  refine ⟨_, rfl, ?_, b1.trans b2⟩
  rw [HL.out, show (L ++ s.data.toList).length = xs.length + (enc s.size).length + s.size from by rw [List.length_append, Hsl.out, hl1]]
  exact f2

set_option maxRecDepth 100000 in
set_option maxHeartbeats 400000 in
theorem refputtext_any (w : World) (v : Value) (xs : List UInt8) (s : ByteArray) (h : Reads w 1 v xs.length (bcells xs)) (hn : xs.length ≤ 1000000000) (hs : s.size ≤ 1000000000) :
    Calls Tryd.prog 27 #[v, .string s] w (GivesBytes w (xs ++ enc s.size ++ s.data.toList)) := by
  obtain ⟨i0, hi, hz0, hz1, hz2⟩ := info_parts info5
  have hel := enc_length_le 9 s.size (by omega)
  have hsl : s.data.toList.length = s.size := Array.length_toList
  have Hsl := Lib.hid hsl
  clear hsl
  go_enter Tryd.func27, Tryd.ntmps27
  go_wp2_with (go_at_call 26; go_must (refine (refput_any w v xs s.size h hn (by omega)).mono ?_))
  rintro e w1 ⟨v1, rfl, f1, b1⟩
  have bs1 := b1.size
  have hl1 : (xs ++ enc s.size).length = xs.length + (enc s.size).length := List.length_append
  generalize hL : xs ++ enc s.size = L at f1 hl1
  have HL := Lib.hid hL
  clear hL
  have hsrc := Src.ofString (P := Tryd.prog) (w := w1) (tx := 9) Tryd.underlying9 s
  go_wp2_with (at_builtin; go_must (refine wpList_append_fresh rfl _ _ 28 9 rfl w.heap.size 5 i0 (.int .u8 0) 1 1 Tryd.underlying28 hi hz0 hz1 hz2 rfl _ _ _ rfl f1 _ _ _ rfl hsrc ?_ ?_ ?_ ?_))
  · unfold maxLen; omega
  · omega
  · exact bs1
  intro v2 w2 f2 _ b2 _
  rw [bcells_byteCells, ← bcells_append] at f2
  go_wp2
  go_ret
  refine ⟨_, rfl, ?_, b1.trans b2⟩
  rw [HL.out, show (L ++ s.data.toList).length = xs.length + (enc s.size).length + s.size from by rw [List.length_append, Hsl.out, hl1]]
  exact f2
end Go.Proofs.YtoibhkmlebcepaaDoor

namespace Go.Proofs.YtoibhkmlebcepaaDoor
open Go.RowKit

def GetTextPost (w : World) (S : List UInt8) (k : Nat) (e : Ending) (w' : World) : Prop :=
  e = .returned (.tuple #[.string ⟨S.toArray⟩, .int .i64 ((k + S.length : Nat) : Int), .int .i64 0]) ∧ w = w'

set_option maxRecDepth 100000 in
set_option maxHeartbeats 400000 in
theorem gettext_good (w : World) (v : Value) (n : Nat) (S r : List UInt8) (h : Reads w 1 v n (bcells (enc S.length ++ S ++ r))) (hS : S.length ≤ 1000000000) :
    Calls Tryd.prog 40 #[v] w (GetTextPost w S (enc S.length).length) := by
  have hep := enc_pos S.length
  have hel := enc_length_le 9 S.length (by omega)
  have hn : (enc S.length).length + S.length + r.length = n := by have := h.1; simp [bcells_length] at this; omega
  have hg : getGo 0 0 (enc S.length ++ S ++ r) = (S.length, (enc S.length).length, 0) := by
    have := getGo_enc_go 9 0 S.length 0 (S ++ r) (by omega) (by omega) (.inl rfl) (by omega)
    rw [List.append_assoc]
    simpa using this
  obtain ⟨b, off, cap, rfl, h1, h2, hl, hcell⟩ := h.head (by omega)
  clear hcell hl
  unfold maxLen at h2
  have hs := h.skip (enc S.length).length (by omega)
  rw [show (enc S.length ++ S ++ r).drop (enc S.length).length = S ++ r from by rw [List.append_assoc, List.drop_left]] at hs
  obtain ⟨a', cap', hv', _, _, ht⟩ := hs.take S.length (by omega)
  rw [List.take_left] at ht
  cases hv'
  have hcv := Reads.conv (P := Tryd.prog) (src := 28) (e := 5) (dst := 9) Tryd.underlying28 Tryd.underlying5 Tryd.underlying9 ht
  clear hs ht
  have Hget := Lib.hid (get_any w _ n _ h)
  rw [hg] at Hget
  clear h hg
  generalize hk : (enc S.length).length = k at *
  generalize hm : S.length = m at *
  clear hk
  have e1 : ¬ (n : Int) - k < m := by omega
  have e2 : (k : Int) + m ≤ n := by omega
  have e3 : (k : Int) ≤ n := by omega
  by_cases hck : cap = k
  · have hm0 : m = 0 := by omega
    have hS0 : S = [] := List.eq_nil_of_length_eq_zero (by omega)
    have hnk : n = k := by omega
    subst hm0
    subst hS0
    subst hnk
    subst hck
    have hr0 : Reads w 1 (.slice (some ⟨b, off, none⟩) 0 0) 0 (bcells []) := ⟨rfl, _, 0, rfl, Nat.le_refl _, Nat.zero_le _, fun j u h => by simp [bcells] at h⟩
    have hcv0 := Reads.conv (P := Tryd.prog) (src := 28) (e := 5) (dst := 9) Tryd.underlying28 Tryd.underlying5 Tryd.underlying9 hr0
    clear hcv
    go_enter Tryd.func40, Tryd.ntmps40
    go_wp2_with (go_at_call 38; go_must (refine Hget.out.mono ?_))
    rintro e w1 ⟨rfl, rfl⟩
    go_wp2
    go_ret3
    exact ⟨by simp, rfl⟩
  · have hck' : ¬ ((cap : Int) = k) := by omega
    go_enter Tryd.func40, Tryd.ntmps40
    go_wp2_with (go_at_call 38; go_must (refine Hget.out.mono ?_))
    rintro e w1 ⟨rfl, rfl⟩
    go_wp2
    go_ret3
    refine ⟨?_, rfl⟩
    subst hm
    rfl
end Go.Proofs.YtoibhkmlebcepaaDoor
