/- What the proof stands on, part 6. -/
import Derived.Test.YtfhdonidgegebaaDoorMg5
import Derived.Deep.QuietTactic
import Derived.BigQuiet
import Derived.Lib.SliceRun
import Derived.Lib.SlBytesConst
import Derived.Lib.SmallJoins
import Derived.Lib.IndexLaws
import Derived.Laws.BitsAllLaws
/- A block's entries, told by its cursor. -/
namespace Go.Proofs.YtfhdonidgegebaaDoor
open Go Go.RowKit

theorem getGo_enc {N : Nat} (h : N < 18446744073709551616) (r : List UInt8) : getGo 0 0 (enc N ++ r) = (N, (enc N).length, 0) := by
  have := getGo_enc_go 9 0 N 0 r (Nat.lt_of_lt_of_le h (by decide)) (by decide) (.inl rfl) (by simpa using h)
  simpa using this

theorem getText_enc {S : List UInt8} (h : S.length < 18446744073709551616) (r : List UInt8) : getText (enc S.length ++ (S ++ r)) = (S, (enc S.length).length + S.length, 0) := by
  unfold getText
  rw [getGo_enc h]
  simp only [if_true]
  have h1 : (enc S.length ++ (S ++ r)).length - (enc S.length).length = (S ++ r).length := by rw [List.length_append]; omega
  rw [h1, if_neg (by rw [List.length_append]; omega)]
  rw [List.drop_left, List.take_left]

theorem stepB_ent {n : Nat} {k key r : List UInt8} (h1 : n ≤ key.length) (h2 : n ≤ k.length) (h3 : key.take n = k.take n) (hk : k.length ≤ 1000000) : stepB (entL n k ++ r) key = some (r, k, n) := by
  have e1 : entL n k ++ r = enc n ++ (enc (k.drop n).length ++ (k.drop n ++ r)) := by
    unfold entL
    rw [List.length_drop]
    simp
  have hg : getGo 0 0 (entL n k ++ r) = (n, (enc n).length, 0) := by rw [e1]; exact getGo_enc (by omega) _
  have hd : (entL n k ++ r).drop (enc n).length = enc (k.drop n).length ++ (k.drop n ++ r) := by rw [e1, List.drop_left]
  have ht : getText (enc (k.drop n).length ++ (k.drop n ++ r)) = (k.drop n, (enc (k.drop n).length).length + (k.drop n).length, 0) := getText_enc (by rw [List.length_drop]; omega) r
  unfold stepB
  rw [hg]
  simp only [hd, ht]
  rw [if_pos ⟨trivial, h1, trivial⟩]
  congr 2
  · rw [← List.append_assoc, List.drop_append, List.drop_of_length_le (by simp), List.nil_append]
    simp
  · rw [h3, List.take_append_drop]

/-- The entries j .. j + d - 1. -/
def restTo (ks : List ByteArray) : Nat → Nat → List UInt8
  | _, 0 => []
  | j, d + 1 => entL (shareL ks j) (kb ks j) ++ restTo ks (j + 1) d

theorem body_rest (ks : List ByteArray) : ∀ (d j : Nat), bodyTo ks (j + d) = bodyTo ks j ++ restTo ks j d
  | 0, j => by simp [restTo]
  | d + 1, j => by
    rw [show j + (d + 1) = (j + 1) + d by omega, body_rest ks d (j + 1)]
    show (bodyTo ks j ++ entL (shareL ks j) (kb ks j)) ++ _ = _
    rw [List.append_assoc]
    rfl

theorem rest_ne (ks : List ByteArray) (j d : Nat) : restTo ks j (d + 1) ≠ [] := by
  intro h
  have h1 := congrArg List.length h
  have h2 := enc_pos (shareL ks j)
  unfold restTo entL at h1
  rw [List.length_append, List.length_append, List.length_nil] at h1
  omega

theorem places_at (ks : List ByteArray) : ∀ (m i : Nat), 16 * i < m → ∃ r, (placesTo ks m).drop (4 * i) = be4 (bodyTo ks (16 * i)).length ++ r
  | m + 1, i, h => by
    have hl := placesTo_length ks m
    show ∃ r, (placesTo ks m ++ if m % 16 = 0 then be4 (bodyTo ks m).length else []).drop (4 * i) = _
    by_cases hm : 16 * i < m
    · obtain ⟨r, hr⟩ := places_at ks m i hm
      rw [List.drop_append_of_le_length (by omega), hr]
      exact ⟨_, List.append_assoc _ _ _⟩
    · have he : 16 * i = m := by omega
      rw [if_pos (by omega), ← he]
      rw [show 4 * i = (placesTo ks (16 * i)).length by rw [he]; omega, List.drop_left]
      exact ⟨[], by simp⟩

theorem places_num {ks : List ByteArray} (hs : ∀ x ∈ ks, x.size ≤ 60000) (hn : ks.length ≤ 60000) {i : Nat} (h : 16 * i < ks.length) : num4 ((placesTo ks ks.length).drop (4 * i)) = (bodyTo ks (16 * i)).length := by
  obtain ⟨r, hr⟩ := places_at ks ks.length i h
  have := bodyTo_length hs (16 * i)
  rw [hr]
  exact num4_be4 (by omega) r

theorem parts_build {ks : List ByteArray} (hn : ks.length ≤ 60000) : partsL (buildL ks) = some (bodyTo ks ks.length, placesTo ks ks.length) := by
  have hl := placesTo_length ks ks.length
  obtain ⟨c, hc⟩ : ∃ c, (placesTo ks ks.length).length = 4 * c := ⟨(ks.length + 15) / 16, by omega⟩
  have hcb : c ≤ 60000 := by omega
  unfold buildL
  rw [hc, show 4 * c / 4 = c by omega]
  generalize placesTo ks ks.length = P at *
  generalize bodyTo ks ks.length = D at *
  have hlen : (D ++ P ++ be4 c).length = D.length + 4 * c + 4 := by simp [be4]; omega
  have hd : (D ++ P ++ be4 c).drop (D.length + 4 * c) = be4 c := by
    rw [show D.length + 4 * c = (D ++ P).length by rw [List.length_append]; omega, List.drop_left]
  have hnum : num4 (be4 c) = c := by
    have := num4_be4 (N := c) (by omega) []
    simpa using this
  unfold partsL
  rw [if_neg (by omega), hlen, show D.length + 4 * c + 4 - 4 = D.length + 4 * c by omega, hd, hnum, if_neg (by omega), show D.length + 4 * c - 4 * c = D.length by omega]
  congr 2
  · rw [List.append_assoc, List.take_left]
  · rw [List.append_assoc, List.drop_left, ← hc, List.take_left]

theorem kb_small {ks : List ByteArray} (hs : ∀ x ∈ ks, x.size ≤ 60000) (j : Nat) : (kb ks j).length ≤ 60000 := by
  unfold kb
  rw [Array.length_toList]
  by_cases hi : j < ks.length
  · rw [List.getD_eq_getElem?_getD, List.getElem?_eq_getElem hi]
    exact hs _ (List.getElem_mem hi)
  · rw [List.getD_eq_getElem?_getD, List.getElem?_eq_none (by omega)]
    decide

/-- The key ahead of the j-th entry, as a cursor has it. -/
def Ahead (ks : List ByteArray) (j : Nat) (key : List UInt8) : Prop := j % 16 = 0 ∨ key = kb ks (j - 1)

theorem step_rest {ks : List ByteArray} (hs : ∀ x ∈ ks, x.size ≤ 60000) {j d : Nat} {key : List UInt8} (h : Ahead ks j key) : stepB (restTo ks j (d + 1)) key = some (restTo ks (j + 1) d, kb ks j, shareL ks j) := by
  have hk := kb_small hs j
  show stepB (entL (shareL ks j) (kb ks j) ++ restTo ks (j + 1) d) key = _
  by_cases h0 : j % 16 = 0
  · have : shareL ks j = 0 := by unfold shareL; rw [if_pos h0]
    rw [this]
    exact stepB_ent (Nat.zero_le _) (Nat.zero_le _) rfl (by omega)
  · rcases h with h | rfl
    · exact absurd h h0
    · have : shareL ks j = comL (kb ks (j - 1)) (kb ks j) := by unfold shareL; rw [if_neg h0]
      rw [this]
      exact stepB_ent (comL_le _ _).1 (comL_le _ _).2 (comL_take _ _) (by omega)

theorem from_block {ks : List ByteArray} (hs : ∀ x ∈ ks, x.size ≤ 60000) (hn : ks.length ≤ 60000) {i : Nat} (h : 16 * i < ks.length) : fromL (bodyTo ks ks.length) (placesTo ks ks.length) i = (restTo ks (16 * i) (ks.length - 16 * i), false) := by
  unfold fromL
  rw [places_num hs hn h]
  obtain ⟨d, hd⟩ : ∃ d, ks.length - 16 * i = d + 1 := ⟨ks.length - 16 * i - 1, by omega⟩
  have hb := body_rest ks (d + 1) (16 * i)
  rw [show 16 * i + (d + 1) = ks.length by omega] at hb
  have hne := List.length_pos_iff.2 (rest_ne ks (16 * i) d)
  rw [hb, hd, if_neg (by rw [List.length_append]; omega), List.drop_left]
end Go.Proofs.YtfhdonidgegebaaDoor

/- Layer 3's plain mathematics. -/
namespace Go.Proofs.YtfhdonidgegebaaDoor

/-- one halving of a sum -/
def crcBit (s : Nat) : Nat := s / 2 ^^^ (if s % 2 = 1 then 3988292384 else 0)

/-- n halvings -/
def crcIter : Nat → Nat → Nat
  | 0, s => s
  | n + 1, s => crcIter n (crcBit s)

/-- a byte goes in -/
def crcByte (s : Nat) (c : UInt8) : Nat := crcIter 8 (s ^^^ c.toNat)

/-- the sum of bytes -/
def sumL (l : List UInt8) : Nat := l.foldl crcByte 4294967295 ^^^ 4294967295

/-- what four halvings make of the last four bits -/
def stepsT : List Nat := [0, 498536548, 997073096, 651767980, 1994146192, 1802195444, 1303535960, 1342533948, 3988292384, 4027552580, 3604390888, 3412177804, 2607071920, 2262029012, 2685067896, 3183342108]

theorem crcBit_xor (a b : Nat) : crcBit (a ^^^ b) = crcBit a ^^^ crcBit b := by
  have h1 : (a ^^^ b) / 2 = a / 2 ^^^ b / 2 := by
    have := Nat.xor_div_two_pow (a := a) (b := b) (n := 1)
    simpa using this
  have h2 : (a ^^^ b) % 2 = (a % 2) ^^^ (b % 2) := by
    have := Nat.xor_mod_two_pow (a := a) (b := b) (n := 1)
    simpa using this
  unfold crcBit
  rw [h1, h2]
  rcases Nat.mod_two_eq_zero_or_one a with ha | ha <;> rcases Nat.mod_two_eq_zero_or_one b with hb | hb <;> rw [ha, hb] <;> simp
  · rw [Nat.xor_assoc]
  · rw [Nat.xor_assoc, Nat.xor_assoc, Nat.xor_comm 3988292384]
  · rw [Nat.xor_assoc, ← Nat.xor_assoc 3988292384, Nat.xor_comm 3988292384 (b / 2), Nat.xor_assoc, Nat.xor_self, Nat.xor_zero]

theorem crcIter_xor (n a b : Nat) : crcIter n (a ^^^ b) = crcIter n a ^^^ crcIter n b := by
  induction n generalizing a b with
  | zero => rfl
  | succ n ih => rw [crcIter, crcBit_xor, ih]; rfl

theorem crcIter_add (m n s : Nat) : crcIter (m + n) s = crcIter n (crcIter m s) := by
  induction m generalizing s with
  | zero => rw [Nat.zero_add]; rfl
  | succ m ih => rw [Nat.succ_add, crcIter, ih]; rfl

theorem crcBit_two (x : Nat) : crcBit (2 * x) = x := by
  unfold crcBit
  rw [if_neg (by omega)]
  simp

theorem crcIter_pow (n x : Nat) : crcIter n (2 ^ n * x) = x := by
  induction n with
  | zero => simp [crcIter]
  | succ n ih =>
    have e : 2 ^ (n + 1) * x = 2 * (2 ^ n * x) := by rw [Nat.pow_succ, Nat.mul_comm (2 ^ n) 2, Nat.mul_assoc]
    rw [e, crcIter, crcBit_two, ih]

theorem crcBit_lt {s : Nat} (h : s < 4294967296) : crcBit s < 4294967296 := by
  unfold crcBit
  have h1 : s / 2 < 2 ^ 32 := by omega
  have h2 : (if s % 2 = 1 then 3988292384 else 0) < 2 ^ 32 := by split <;> decide
  exact Nat.xor_lt_two_pow h1 h2

theorem crcIter_lt (n : Nat) {s : Nat} (h : s < 4294967296) : crcIter n s < 4294967296 := by
  induction n generalizing s with
  | zero => exact h
  | succ n ih => exact ih (crcBit_lt h)

theorem crcBit_zero {s : Nat} (h : s < 4294967296) (hz : crcBit s = 0) : s = 0 := by
  unfold crcBit at hz
  by_cases h1 : s % 2 = 1
  · rw [if_pos h1] at hz
    have h2 : s / 2 = 3988292384 := by
      have := congrArg (· ^^^ 3988292384) hz
      simpa [Nat.xor_assoc] using this
    omega
  · rw [if_neg h1] at hz
    simp at hz
    omega

theorem crcIter_zero (n : Nat) {s : Nat} (h : s < 4294967296) (hz : crcIter n s = 0) : s = 0 := by
  induction n generalizing s with
  | zero => exact hz
  | succ n ih => exact crcBit_zero h (ih (crcBit_lt h) hz)

theorem split_xor (k q r : Nat) (hr : r < 2 ^ k) : 2 ^ k * q + r = 2 ^ k * q ^^^ r := by
  have h1 : (2 ^ k * q ^^^ r) / 2 ^ k = q := by
    rw [Nat.xor_div_two_pow, Nat.mul_div_cancel_left _ (Nat.two_pow_pos k), Nat.div_eq_of_lt hr, Nat.xor_zero]
  have h2 : (2 ^ k * q ^^^ r) % 2 ^ k = r := by
    rw [Nat.xor_mod_two_pow, Nat.mul_mod_right, Nat.mod_eq_of_lt hr, Nat.zero_xor]
  have := Nat.div_add_mod (2 ^ k * q ^^^ r) (2 ^ k)
  rw [h1, h2] at this
  exact this

theorem steps_all : ∀ r : Fin 16, crcIter 4 r.val = stepsT.getD r.val 0 := by decide +kernel

/-- four halvings by the table -/
theorem crcIter_four (s : Nat) : crcIter 4 s = s / 16 ^^^ stepsT.getD (s % 16) 0 := by
  have e : s = 2 ^ 4 * (s / 16) + s % 16 := (Nat.div_add_mod s 16).symm
  have hr : s % 16 < 16 := Nat.mod_lt _ (by decide)
  rw [split_xor 4 _ _ hr] at e
  have h1 := steps_all ⟨s % 16, hr⟩
  simp only at h1
  rw [← h1]
  conv => lhs; rw [e]
  rw [crcIter_xor, crcIter_pow]

theorem stepsT_lt (r : Nat) : stepsT.getD r 0 < 4294967296 := by
  by_cases h : r < 16
  · exact (by decide +kernel : ∀ r : Fin 16, stepsT.getD r.val 0 < 4294967296) ⟨r, h⟩
  · simp [stepsT, List.getD, List.getElem?_eq_none (show [0, 498536548, 997073096, 651767980, 1994146192, 1802195444, 1303535960, 1342533948, 3988292384, 4027552580, 3604390888, 3412177804, 2607071920, 2262029012, 2685067896, 3183342108].length ≤ r from by simp; omega)]

theorem crcByte_lt {s : Nat} (c : UInt8) (h : s < 4294967296) : crcByte s c < 4294967296 := by
  have hc := c.toNat_lt
  exact crcIter_lt 8 (Nat.xor_lt_two_pow (n := 32) (by omega) (by omega))

theorem foldCrc_lt (l : List UInt8) : ∀ s, s < 4294967296 → l.foldl crcByte s < 4294967296 := by
  induction l with
  | nil => intro s h; exact h
  | cons c r ih => intro s h; exact ih _ (crcByte_lt c h)

theorem sumL_lt (l : List UInt8) : sumL l < 4294967296 := Nat.xor_lt_two_pow (n := 32) (foldCrc_lt l _ (by decide)) (by decide)

/-- bytes as one number, the first the lowest -/
def leNum : List UInt8 → Nat
  | [] => 0
  | c :: r => c.toNat + 256 * leNum r

theorem fold_crc (l : List UInt8) : ∀ s, l.foldl crcByte s = crcIter (8 * l.length) (s ^^^ leNum l) := by
  induction l with
  | nil => intro s; simp [leNum, crcIter]
  | cons c r ih =>
    intro s
    have hc := c.toNat_lt
    have e : leNum (c :: r) = 2 ^ 8 * leNum r ^^^ c.toNat := by
      rw [← split_xor 8 _ _ hc, leNum, Nat.add_comm]
    rw [List.foldl_cons, ih, List.length_cons, show 8 * (r.length + 1) = 8 + 8 * r.length by omega, crcIter_add, e, Nat.xor_comm (2 ^ 8 * leNum r), ← Nat.xor_assoc, crcIter_xor 8, crcIter_pow]
    rfl

theorem xor_cancel (a b i : Nat) : (a ^^^ i) ^^^ (b ^^^ i) = a ^^^ b := by
  apply Nat.eq_of_testBit_eq
  intro j
  simp only [Nat.testBit_xor]
  cases a.testBit j <;> cases b.testBit j <;> cases i.testBit j <;> rfl

/-- The sums of rows of one length differ by what their difference makes. -/
theorem sumL_xor {l m : List UInt8} (h : m.length = l.length) : sumL l ^^^ sumL m = crcIter (8 * l.length) (leNum l ^^^ leNum m) := by
  unfold sumL
  rw [fold_crc, fold_crc, h, xor_cancel, ← crcIter_xor, Nat.xor_comm 4294967295, Nat.xor_comm 4294967295, xor_cancel]

/-- Bits within 32 places turn the sum. -/
theorem turned_sum {n k x : Nat} (hk : k ≤ n) (hx : x < 4294967296) (h : crcIter n (2 ^ k * x) = 0) : x = 0 := by
  obtain ⟨m, rfl⟩ := Nat.exists_eq_add_of_le hk
  rw [crcIter_add, crcIter_pow] at h
  exact crcIter_zero m hx h
end Go.Proofs.YtfhdonidgegebaaDoor

namespace Go.Proofs.YtfhdonidgegebaaDoor
open Go Go.RowKit

/-- The table of steps lies where its initialiser lays it. -/
def Steps (w : World) : Prop := 0 < w.heap.size ∧ ∀ i, i < 16 → w.cell? ⟨0, i, none⟩ = some (.int .u32 (stepsT.getD i 0 : Int))

theorem Steps.below {w w' : World} (h : Steps w) (hb : Below w.heap.size w w') : Steps w' :=
  ⟨Nat.lt_of_lt_of_le h.1 hb.size, fun i hi => (hb.cell (p := ⟨0, i, none⟩) h.1).trans (h.2 i hi)⟩

theorem crc_in (h : Nat) (c : UInt8) (hh : h < 4294967296) : bits BinOp.xor .u32 (h : Int) (c.toNat : Int) = ((h ^^^ c.toNat : Nat) : Int) := by
  have hc := c.toNat_lt
  exact u32_xor_nat h c.toNat hh (by omega)

theorem crc_low (h : Nat) (hh : h < 4294967296) : bits BinOp.and .u32 (h : Int) 15 = ((h % 16 : Nat) : Int) := by
  have := u32_and_nat h 15 hh (by decide)
  simp only [Int.cast_ofNat_Int] at this
  rw [this, show (15 : Nat) = 2 ^ 4 - 1 from by decide, Nat.and_two_pow_sub_one_eq_mod]

theorem crc_half (h : Nat) (hh : h < 4294967296) : bits BinOp.xor .u32 ((h : Int) / 16) (stepsT.getD (h % 16) 0 : Int) = (crcIter 4 h : Int) := by
  have e : (h : Int) / 16 = ((h / 16 : Nat) : Int) := by omega
  rw [e, u32_xor_nat _ _ (by omega) (stepsT_lt _), ← crcIter_four]

def CrcRel (l : List UInt8) (h i : Value) : Prop := ∃ k : Nat, i = .int .i64 (k : Int) ∧ k ≤ l.length ∧ h = .int .u32 (((l.take k).foldl crcByte 4294967295 : Nat) : Int)

def TellsU32 (w : World) (n : Nat) (e : Ending) (w' : World) : Prop := e = .returned (.int .u32 (n : Int)) ∧ w = w'

theorem not_u32 (h : Nat) (hh : h < 4294967296) : bits BinOp.xor .u32 IntKind.u32.max (h : Int) = ((h ^^^ 4294967295 : Nat) : Int) := by
  rw [Nat.xor_comm]
  exact u32_xor_nat 4294967295 h (by decide) hh

set_option maxRecDepth 100000 in
set_option maxHeartbeats 1000000 in
theorem sum_any (w : World) (v : Value) (n : Nat) (l : List UInt8) (h : Reads w 1 v n (bcells l)) (hst : Steps w) :
    Calls Tryd.prog 57 #[v] w (TellsU32 w (sumL l)) := by
  obtain ⟨a, cap, rfl, h1, h2⟩ := h.le
  unfold maxLen at h2
  have hl : l.length = n := by have := h.1; simpa [bcells_length] using this
  have Hl := Lib.hid hl
  have HR := Lib.hid h
  have Hst := Lib.hid hst
  clear h hl hst
  go_enter Tryd.func57, Tryd.ntmps57
  go_wp2
  go_loop [3, 8] (fun h i => CrcRel l h i) (fun _ i => n - (intOf i).toNat)
  case atStart => exact ⟨0, rfl, Nat.zero_le _, rfl⟩
  case round =>
    obtain ⟨k, rfl, hk, rfl⟩ := hrel
    rw [Hl.out] at hk
    by_cases hlt : k < n
    · have hlt' : (k : Int) < n := by omega
      obtain ⟨b, off, cap', hv, _, _, _, hc⟩ := HR.out.head (by omega)
      cases hv
      have ck := hc k hlt
      have hsu : (l.take (k + 1)).foldl crcByte 4294967295 = crcByte ((l.take k).foldl crcByte 4294967295) (l.getD k 0) := by
        have e : l.take (k + 1) = l.take k ++ [l.getD k 0] := by
          rw [List.take_add_one, List.getElem?_eq_getElem (by rw [Hl.out]; exact hlt)]
          simp [List.getD, show k < l.length by rw [Hl.out]; exact hlt]
        rw [e, List.foldl_append, List.foldl_cons, List.foldl_nil]
      have hh := foldCrc_lt (l.take k) 4294967295 (by decide)
      generalize (l.take k).foldl crcByte 4294967295 = s at *
      generalize l.getD k 0 = c at *
      have q1 := crc_in s c hh
      have hc8 := c.toNat_lt
      have hr : s ^^^ c.toNat < 4294967296 := Nat.xor_lt_two_pow (n := 32) hh (by omega)
      have hcb : crcByte s c = crcIter 4 (crcIter 4 (s ^^^ c.toNat)) := crcIter_add 4 4 _
      rw [hcb] at hsu
      generalize s ^^^ c.toNat = r at *
      have q2 := crc_low r hr
      have q3 := crc_half r hr
      have hr4 := crcIter_lt 4 hr
      have t1 := Hst.out.2 (r % 16) (Nat.mod_lt _ (by decide))
      generalize stepsT.getD (r % 16) 0 = v1 at q3 t1
      generalize crcIter 4 r = r4 at *
      have q4 := crc_low r4 hr4
      have q5 := crc_half r4 hr4
      have t2 := Hst.out.2 (r4 % 16) (Nat.mod_lt _ (by decide))
      generalize stepsT.getD (r4 % 16) 0 = v2 at q5 t2
      have Hsu := Lib.hid hsu
      clear hsu hcb hc
      go_wp2
      exact ⟨⟨k + 1, by go_num, by rw [Hl.out]; omega, by rw [Hsu.out]⟩, by simp [intOf]; omega⟩
    · obtain rfl : n = k := by omega
      have hlt' : ¬ ((n : Int) < n) := by omega
      have e : List.take n l = l := List.take_of_length_le (by rw [Hl.out]; exact Nat.le_refl _)
      have E := Lib.hid e
      have hs := foldCrc_lt l 4294967295 (by decide)
      have hn := not_u32 _ hs
      have Hn := Lib.hid hn
      clear e hn hs
      go_wp2
      go_ret
      rw [E.out]
      refine ⟨?_, rfl⟩
      exact congrArg (fun z => Ending.returned (.int .u32 z)) Hn.out
end Go.Proofs.YtfhdonidgegebaaDoor

namespace Go.Proofs.YtfhdonidgegebaaDoor
open Go Go.RowKit

/-- a frame -/
def sealL (l : List UInt8) : List UInt8 := be4 l.length ++ be4 (sumL l) ++ l

theorem sealL_length (l : List UInt8) : (sealL l).length = 8 + l.length := by simp [sealL, be4]; omega

def Grows (B : Nat) (w : World) (v : Value) (xs : List UInt8) (e : Ending) (w' : World) : Prop :=
  ∃ v', e = .returned v' ∧ w'.ownsRow B 5 1 v' xs.length (bcells xs) ∧ Below B w w' ∧ w.grownBy w' v.ownBlock ∧ Moves w v v'

set_option maxRecDepth 100000 in
set_option maxHeartbeats 1000000 in
theorem put4_any (B : Nat) (w : World) (v : Value) (xs : List UInt8) (N : Nat) (h : w.ownsRow B 5 1 v xs.length (bcells xs)) (hB : B ≤ w.heap.size) (hn : xs.length ≤ 1000000000) (hN : N < 4294967296) :
    Calls Tryd.prog 56 #[v, .int .u32 N] w (Grows B w v (xs ++ be4 N)) := by
  obtain ⟨i0, hi, hz0, hz1, hz2⟩ := info_parts info5
  have hbe : (xs ++ be4 N).length = xs.length + 4 := by simp [be4]
  have Hbe := Lib.hid hbe
  clear hbe
  go_enter Tryd.func56, Tryd.ntmps56
  go_wp2_with (at_builtin; go_must (refine wpList_append_owns_lits (w0 := w) rfl _ _ 24 rfl B 5 i0 (.int .u8 0) 1 Tryd.underlying24 hi hz0 hz1 hz2 rfl [.int .u8 ((N : Int) / 16777216), .int .u8 ((N : Int) / 65536 % 256), .int .u8 ((N : Int) / 256 % 256), .int .u8 ((N : Int) % 256)] 4 rfl h rfl rfl (fun u hu => by simp at hu; rcases hu with rfl | rfl | rfl | rfl <;> rfl) ?_ ?_ hB ?_))
  · unfold maxLen; omega
  · omega
  intro v' w1 f1 g1 b1 m1
  have e4 : bcells xs ++ [Value.int .u8 ((N : Int) / 16777216), .int .u8 ((N : Int) / 65536 % 256), .int .u8 ((N : Int) / 256 % 256), .int .u8 ((N : Int) % 256)] = bcells (xs ++ be4 N) := by
    simp [bcells, be4]
    omega
  rw [e4] at f1
  have F1 := Lib.hid f1
  clear f1 e4
  go_wp2
  go_ret
  refine ⟨_, rfl, ?_, b1, g1, m1⟩
  rw [Hbe.out]
  exact F1.out

def SealPost (w : World) (l : List UInt8) (e : Ending) (w' : World) : Prop :=
  ∃ g cap, e = .returned (.slice (some ⟨g, 0, none⟩) l.length cap) ∧ w'.ownsRow w.heap.size 5 1 (.slice (some ⟨g, 0, none⟩) l.length cap) l.length (bcells l) ∧ Below w.heap.size w w'

set_option maxRecDepth 100000 in
set_option maxHeartbeats 1000000 in
theorem seal_own (w : World) (v : Value) (n : Nat) (l : List UInt8) (h : Reads w 1 v n (bcells l)) (hn : n ≤ 100000000) (hst : Steps w) :
    Calls Tryd.prog 28 #[v] w (SealPost w (sealL l)) := by
  obtain ⟨i0, hi, hz0, hz1, hz2⟩ := info_parts info5
  obtain ⟨a, cap, rfl, h1, h2⟩ := h.le
  unfold maxLen at h2
  have hl : l.length = n := by have := h.1; simpa [bcells_length] using this
  have hsl := sealL_length l
  have hbe : ∀ N, (be4 N).length = 4 := fun N => rfl
  have hsum := sumL_lt l
  rw [hl] at hsl
  have Hl := Lib.hid hl
  have Hsl := Lib.hid hsl
  have HR := Lib.hid h
  have Hst := Lib.hid hst
  clear h hl hst hsl hbe
  go_enter Tryd.func28, Tryd.ntmps28
  go_wp2_with (at_make; go_must (refine wpList_make_own _ rfl _ _ 24 rfl w.heap.size 5 i0 (.int .u8 0) 1 Tryd.underlying24 hi hz0 hz1 .i64 .i64 _ (8 + n) rfl rfl ?_ ?_ ?_ ?_ ?_))
  · omega
  · rw [hz2]; omega
  · unfold maxLen; omega
  · exact Nat.le_refl _
  intro w1 f1 g1
  have b1 : Below w.heap.size w w1 := (Below.refl _ _).grown g1 (Nat.le_refl _) (fun k hk => by cases hk)
  have lt1 := (f1.lt w.heap.size rfl).2
  have HN : (n : Int) = ((n : Nat) : Int) := rfl
  go_wp2_with (go_at_call 56; go_must (refine (put4_any w.heap.size w1 _ [] n f1 (by omega) (by simp) (by omega)).mono ?_))
  rintro e w2 ⟨v2, rfl, f2, b2, g2, m2⟩
  have bs1 := b1.size
  have bs2 := b2.size
  have b12 := b1.trans b2
  have r2 := HR.out.below' b12
  have st2 := Hst.out.below b12
  go_wp2_with (go_at_call 57; go_must (refine (sum_any w2 _ n l r2 st2).mono ?_))
  rintro e w3 ⟨rfl, rfl⟩
  go_wp2_with (go_at_call 56; go_must (refine (put4_any w.heap.size w2 _ _ (sumL l) f2 (by omega) (by simp [be4]) hsum).mono ?_))
  rintro e w3 ⟨v3, rfl, f3, b3, g3, m3⟩
  have bs3 := b3.size
  have b13 := b12.trans b3
  have r3 := HR.out.below' b13
  have hsrc := Reads.src (P := Tryd.prog) (tx := 24) Tryd.underlying24 r3 (bcells_one l)
  have hl8 : (be4 n ++ be4 (sumL l)).length = 8 := rfl
  rw [hl8] at f3
  clear hl8 f2 f1 r2 st2 g1 g2 g3 b1 b2 b12 b3 HN
  go_wp2_with (at_builtin; go_must (refine wpList_append_owns rfl _ _ 24 24 rfl w.heap.size 5 i0 (.int .u8 0) 1 1 Tryd.underlying24 hi hz0 hz1 hz2 rfl _ _ _ rfl f3 _ _ _ rfl hsrc ?_ ?_ ?_ ?_))
  · unfold maxLen; omega
  · omega
  · omega
  intro v4 w4 f4 g4 b4 m4
  rw [← bcells_append] at f4
  have b14 := b13.trans b4
  have F4 := Lib.hid f4
  clear f4 hsrc
  have h9 : sealL l = be4 n ++ be4 (sumL l) ++ l := by rw [sealL, Hl.out]
  obtain ⟨g, cp, cur, rfl, hg⟩ : ∃ g cp cur, v4 = .slice (some ⟨g, 0, none⟩) (8 + n) cp ∧ cur = g := by
    rcases F4.out.2 with ⟨_, h0⟩ | ⟨g, cp, cur, hv, _⟩
    · omega
    · exact ⟨g, cp, g, hv, rfl⟩
  have H9 := Lib.hid h9
  clear hg h9
  go_wp2
  go_ret
  refine ⟨g, cp, ?_, ?_, b14⟩
  · rw [Hsl.out]; rfl
  · rw [Hsl.out, H9.out]; exact F4.out

theorem seal_any (w : World) (v : Value) (n : Nat) (l : List UInt8) (h : Reads w 1 v n (bcells l)) (hn : n ≤ 100000000) (hst : Steps w) :
    Calls Tryd.prog 28 #[v] w (GivesBytes w (sealL l)) :=
  (seal_own w v n l h hn hst).mono fun _ _ ⟨_, _, he, ho, hb⟩ => ⟨_, he, ⟨ownsRow.reads ho, .inr ho⟩, hb⟩
end Go.Proofs.YtfhdonidgegebaaDoor

namespace Go.Proofs.YtfhdonidgegebaaDoor
open Go Go.RowKit

theorem or_join (x y : Nat) (k : Nat) (hy : y < 2 ^ k) (h : 2 ^ k * x + y < 4294967296) : bits BinOp.or .u32 ((2 ^ k * x : Nat) : Int) (y : Int) = ((2 ^ k * x + y : Nat) : Int) := by
  rw [u32_or_nat _ _ (by omega) (by omega), Nat.two_pow_add_eq_or_of_lt hy]

theorem get_math (c0 c1 c2 c3 : UInt8) :
    bits BinOp.or .u32 (bits BinOp.or .u32 (bits BinOp.or .u32 ((c0.toNat : Int) * 16777216) ((c1.toNat : Int) * 65536)) ((c2.toNat : Int) * 256)) (c3.toNat : Int) = ((((c0.toNat * 256 + c1.toNat) * 256 + c2.toNat) * 256 + c3.toNat : Nat) : Int) := by
  have h0 := c0.toNat_lt
  have h1 := c1.toNat_lt
  have h2 := c2.toNat_lt
  have h3 := c3.toNat_lt
  have e0 : (c0.toNat : Int) * 16777216 = ((2 ^ 24 * c0.toNat : Nat) : Int) := by omega
  have e1 : (c1.toNat : Int) * 65536 = ((65536 * c1.toNat : Nat) : Int) := by omega
  have e2 : (c2.toNat : Int) * 256 = ((256 * c2.toNat : Nat) : Int) := by omega
  rw [e0, e1, e2, or_join c0.toNat _ 24 (by omega) (by omega)]
  have e3 : 2 ^ 24 * c0.toNat + 65536 * c1.toNat = 2 ^ 16 * (256 * c0.toNat + c1.toNat) := by omega
  rw [e3, or_join _ _ 16 (by omega) (by omega)]
  have e4 : 2 ^ 16 * (256 * c0.toNat + c1.toNat) + 256 * c2.toNat = 2 ^ 8 * (65536 * c0.toNat + 256 * c1.toNat + c2.toNat) := by omega
  rw [e4, or_join _ _ 8 (by omega) (by omega)]
  omega

def TellsU32Q (w : World) (n : Nat) (e : Ending) (w' : World) : Prop := e = .returned (.int .u32 (n : Int)) ∧ ∃ m, w' = w.drewN m

set_option maxRecDepth 100000 in
set_option maxHeartbeats 1000000 in
theorem get4_any (w : World) (v : Value) (n : Nat) (l : List UInt8) (h : Reads w 1 v n (bcells l)) (hn : 4 ≤ n) :
    Calls Tryd.prog 70 #[v] w (TellsU32Q w (num4 l)) := by
  obtain ⟨b, off, cap, rfl, h1, h2, hl, hc⟩ := h.head (by omega)
  unfold maxLen at h2
  have c0 := hc 0 (by omega)
  have c1 := hc 1 (by omega)
  have c2 := hc 2 (by omega)
  have c3 := hc 3 (by omega)
  have hm : num4 l = ((((l.getD 0 0).toNat * 256 + (l.getD 1 0).toNat) * 256 + (l.getD 2 0).toNat) * 256 + (l.getD 3 0).toNat) := rfl
  rw [hm]
  clear hm h hc
  generalize l.getD 0 0 = d0 at *
  generalize l.getD 1 0 = d1 at *
  generalize l.getD 2 0 = d2 at *
  generalize l.getD 3 0 = d3 at *
  have hg := get_math d0 d1 d2 d3
  have Hg := Lib.hid hg
  clear hg hl
  simp only [Nat.add_zero] at c0
  have i0 : (0 : Int) < n := by omega
  have i1 : (1 : Int) < n := by omega
  have i2 : (2 : Int) < n := by omega
  have i3 : (3 : Int) < n := by omega
  go_enter Tryd.func70, Tryd.ntmps70
  go_wp2_with fail
  go_quiet (fail)
  go_wp2
  go_ret
  refine ⟨?_, _, rfl⟩
  refine congrArg (fun z => Ending.returned (.int .u32 z)) (Eq.trans ?_ Hg.out)
  have h0 := d0.toNat_lt
  have h1 := d1.toNat_lt
  have h2 := d2.toNat_lt
  have h3 := d3.toNat_lt
  rw [show (d0.toNat : Int) % 4294967296 * 16777216 % 4294967296 = (d0.toNat : Int) * 16777216 from by omega, show (d1.toNat : Int) % 4294967296 * 65536 % 4294967296 = (d1.toNat : Int) * 65536 from by omega,
    show (d2.toNat : Int) % 4294967296 * 256 % 4294967296 = (d2.toNat : Int) * 256 from by omega, show (d3.toNat : Int) % 4294967296 = (d3.toNat : Int) from by omega]

/-- Bytes of a new block are handed back. -/
def GivesNew (w : World) (l : List UInt8) (e : Ending) (w' : World) : Prop :=
  ∃ v', e = .returned v' ∧ w'.ownsRow w.heap.size 5 1 v' l.length (bcells l) ∧ Below w.heap.size w w'

set_option maxRecDepth 100000 in
set_option maxHeartbeats 1000000 in
theorem clone_any (w : World) (x : Addr) (n cap : Nat) (l : List UInt8) (h : Reads w 1 (.slice (some x) n cap) n (bcells l)) (hn : n ≤ 1000000000) :
    Calls Tryd.prog 45 #[.slice (some x) n cap] w (GivesNew w l) := by
  obtain ⟨i0, hi, hz0, hz1, hz2⟩ := info_parts info5
  have hl : l.length = n := by have := h.1; simpa [bcells_length] using this
  have Hl := Lib.hid hl
  have HR := Lib.hid h
  have hsrc := Reads.src (P := Tryd.prog) (tx := 24) Tryd.underlying24 (h.alloc (.cells #[] 5)) (bcells_one l)
  have hf0 : (w.alloc (.cells #[] 5)).ownsRow w.heap.size 5 1 (.slice (some ⟨w.heap.size, 0, none⟩) 0 0) 0 [] := World.ownsRow_lit w #[] 0 (Nat.le_refl _) (Nat.zero_le _) rfl
  clear h hl
  have hnil := Lib.run_eql_slice_nil (P := Tryd.prog) w 24 5 (some x) n cap 0 0 Tryd.underlying24
  go_enter Tryd.func45, Tryd.ntmps45
  go_wp2_with (at_builtin; go_must (refine wpList_append_owns rfl _ _ 24 24 rfl w.heap.size 5 i0 (.int .u8 0) 1 1 Tryd.underlying24 hi hz0 hz1 hz2 rfl _ _ _ rfl hf0 _ _ _ rfl hsrc ?_ ?_ ?_ ?_))
  · unfold maxLen; omega
  · omega
  · simp
  intro v2 w2 f2 g2 b2 m2
  have b3 : Below w.heap.size w w2 := ((Below.refl _ _).alloc (Nat.le_refl _) _).trans b2
  have F2 := Lib.hid f2
  clear f2 m2
  go_wp2
  go_ret
  refine ⟨_, rfl, ?_, b3⟩
  have := F2.out
  simpa [Hl.out] using this
end Go.Proofs.YtfhdonidgegebaaDoor

namespace Go.Proofs.YtfhdonidgegebaaDoor
open Go Go.RowKit

/-- what a frame at the head of bytes is read as: the error, the payload -/
def nextL (b : List UInt8) : Nat × List UInt8 :=
  if b.length < 8 ∨ b.length - 8 < num4 b then (7, [])
  else if sumL ((b.drop 8).take (num4 b)) = num4 (b.drop 4) then (0, (b.drop 8).take (num4 b)) else (8, [])

/-- how many bytes of them -/
def nextN (b : List UInt8) : Nat := if (nextL b).1 = 0 then 8 + (nextL b).2.length else 0

def FNext (w : World) (b : List UInt8) (e : Ending) (w' : World) : Prop :=
  ∃ v', e = .returned (.tuple #[v', .int .i64 (nextN b : Int), .int .i64 ((nextL b).1 : Int)]) ∧
    w'.ownsRow w.heap.size 5 1 v' (nextL b).2.length (bcells (nextL b).2) ∧ Below w.heap.size w w'

theorem fresh_none (B : Nat) (w : World) (e : TypeId) (size : Nat) : Fresh B w e size (.slice none 0 0) 0 [] :=
  ⟨⟨by simp, none, 0, rfl, Nat.le_refl _, Nat.zero_le _, fun j u h => by simp at h⟩, .inl ⟨none, rfl⟩⟩

theorem FNext.short {w w' : World} {b : List UInt8} {e : Ending} (h : b.length < 8 ∨ b.length - 8 < num4 b) (he : e = .returned (.tuple #[.slice none 0 0, .int .i64 0, .int .i64 7])) (hb : Below w.heap.size w w') : FNext w b e w' := by
  have e1 : nextL b = (7, []) := if_pos h
  refine ⟨.slice none 0 0, ?_, ?_, hb⟩
  · rw [nextN, e1]; exact he
  · rw [e1]; exact World.ownsRow_nil _ _ _ _

theorem FNext.bad {w w' : World} {b : List UInt8} {e : Ending} (h : ¬ (b.length < 8 ∨ b.length - 8 < num4 b)) (hs : ¬ sumL ((b.drop 8).take (num4 b)) = num4 (b.drop 4)) (he : e = .returned (.tuple #[.slice none 0 0, .int .i64 0, .int .i64 8])) (hb : Below w.heap.size w w') : FNext w b e w' := by
  have e1 : nextL b = (8, []) := by rw [nextL, if_neg h, if_neg hs]
  refine ⟨.slice none 0 0, ?_, ?_, hb⟩
  · rw [nextN, e1]; exact he
  · rw [e1]; exact World.ownsRow_nil _ _ _ _

theorem FNext.good {w w' : World} {b p : List UInt8} {n : Nat} {v : Value} {e : Ending} (h : ¬ (b.length < 8 ∨ b.length - 8 < num4 b)) (hs : sumL ((b.drop 8).take (num4 b)) = num4 (b.drop 4)) (hp : (b.drop 8).take (num4 b) = p) (hn : p.length = n) (he : e = .returned (.tuple #[v, .int .i64 (8 + (n : Int)), .int .i64 0]))
    (hf : w'.ownsRow w.heap.size 5 1 v p.length (bcells p)) (hb : Below w.heap.size w w') : FNext w b e w' := by
  have e1 : nextL b = (0, p) := by rw [nextL, if_neg h, if_pos hs, hp]
  have e2 : nextN b = 8 + n := by rw [nextN, e1]; simp [hn]
  refine ⟨v, ?_, ?_, hb⟩
  · rw [e1, e2, he]; simp
  · rw [e1]; exact hf

theorem Fresh.mono {B B' : Nat} {w : World} {e : TypeId} {size n : Nat} {v : Value} {xs : List Value} (h : Fresh B' w e size v n xs) (hb : B ≤ B') : Fresh B w e size v n xs :=
  ⟨h.1, h.2.imp id fun k => World.ownsRow.mono k hb⟩

theorem Reads.drewN {w : World} {size n : Nat} {v : Value} {xs : List Value} (h : Reads w size v n xs) (k : Nat) : Reads (w.drewN k) size v n xs := h
theorem Steps.drewN {w : World} (h : Steps w) (k : Nat) : Steps (w.drewN k) := h

theorem sum_quiet {w : World} {k n : Nat} {v : Value} {l : List UInt8} (h : Reads w 1 v n (bcells l)) (hst : Steps w) :
    Calls Tryd.prog 57 #[v] (w.drewN k) fun e w'' => e = .returned (.int .u32 (sumL l : Int)) ∧ ∃ m, w'' = w.drewN m :=
  Calls.quiet_of_same ((sum_any (w.drewN k) v n l (h.drewN k) (hst.drewN k)).mono fun _ _ ⟨h1, h2⟩ => ⟨h1, h2.symm⟩)

theorem get_quiet {w : World} {k n : Nat} {v : Value} {l : List UInt8} (h : Reads w 1 v n (bcells l)) (hn : 4 ≤ n) :
    Calls Tryd.prog 70 #[v] (w.drewN k) fun e w'' => e = .returned (.int .u32 (num4 l : Int)) ∧ ∃ m, w'' = w.drewN m :=
  Calls.quiet_of ((get4_any (w.drewN k) v n l (h.drewN k) hn).mono fun _ _ h => h)

set_option maxRecDepth 100000 in
set_option maxHeartbeats 1000000 in
theorem fnext_any (w : World) (v : Value) (n : Nat) (l : List UInt8) (h : Reads w 1 v n (bcells l)) (hn : n ≤ 1000000000) (hst : Steps w) :
    Calls Tryd.prog 44 #[v] w (FNext w l) := by
  have hl : l.length = n := by have := h.1; simpa [bcells_length] using this
  by_cases h8 : n < 8
  · obtain ⟨a, cap, rfl, h1, h2⟩ := h.le
    unfold maxLen at h2
    have h8' : (n : Int) < 8 := by omega
    have Hl := Lib.hid hl
    clear hl h hst
    go_enter Tryd.func44, Tryd.ntmps44
    go_wp2
    go_ret3
    exact FNext.short (by rw [Hl.out]; omega) rfl (Below.refl _ _)
  · obtain ⟨b, off, cap, rfl, h1, h2, hl', hcell⟩ := h.head (by omega)
    clear hl' hcell
    unfold maxLen at h2
    have hnum := num4_lt l
    have h8' : ¬ (n : Int) < 8 := by omega
    by_cases hbig : n - 8 < num4 l
    · have hbig' : (n : Int) - 8 < (num4 l : Int) := by omega
      have Hl := Lib.hid hl
      have HR := Lib.hid h
      generalize hM : num4 l = M at *
      have HM := Lib.hid hM
      clear hl h hst hM
      go_enter Tryd.func44, Tryd.ntmps44
      go_wp2_with (go_at_call 70; go_must (refine (get4_any w _ n l HR.out (by omega)).mono ?_))
      rintro e w1 ⟨rfl, m, hw1⟩
      have hb1 : Below w.heap.size w w1 := by rw [hw1]; exact below_drewN (Below.refl _ _) m
      rw [HM.out]
      clear hw1
      go_wp2
      go_ret3
      exact FNext.short (by rw [Hl.out, HM.out]; omega) rfl hb1
    · have hbig' : ¬ ((n : Int) - 8 < (num4 l : Int)) := by omega
      have r4 := h.skip 4 (by omega)
      have r8 := h.skip 8 (by omega)
      obtain ⟨a', cap', hv', _, _, rp⟩ := r8.take (num4 l) (by omega)
      cases hv'
      have hplen : ((l.drop 8).take (num4 l)).length = num4 l := by
        have := rp.1; simpa [bcells_length] using this
      generalize hP : (l.drop 8).take (num4 l) = p at *
      have HP := Lib.hid hP
      have Hpl := Lib.hid hplen
      have Hl := Lib.hid hl
      have HR := Lib.hid h
      have hnn : ¬ (l.length < 8 ∨ l.length - 8 < num4 l) := by rw [hl]; omega
      have Hnn := Lib.hid hnn
      clear hnn hP hplen r8
      generalize hM : num4 l = M at *
      have HM := Lib.hid hM
      have R4 := Lib.hid r4
      have RP := Lib.hid rp
      have Hst := Lib.hid hst
      clear r4 rp hl h hst hM
      have hs2 := num4_lt (l.drop 4)
      have hs1 := sumL_lt p
      have hways : (((sumL p : Int) != (num4 (l.drop 4) : Int)) = false ∧ sumL p = num4 (l.drop 4)) ∨ (((sumL p : Int) != (num4 (l.drop 4) : Int)) = true ∧ ¬ sumL p = num4 (l.drop 4)) := by
        by_cases hh : sumL p = num4 (l.drop 4)
        · exact .inl ⟨by simp [hh], hh⟩
        · exact .inr ⟨by simp; omega, hh⟩
      by_cases hc8 : cap = 8
      · have hn8 : n = 8 := by omega
        have hM0 : M = 0 := by omega
        subst hM0
        subst hn8
        subst hc8
        have hp0 : p = [] := List.eq_nil_of_length_eq_zero Hpl.out
        subst hp0
        have rn : Reads w 1 (.slice (some ⟨b, off, none⟩) 0 0) 0 (bcells []) := ⟨rfl, _, 0, rfl, Nat.le_refl _, Nat.zero_le _, fun j u h => by simp [bcells] at h⟩
        have RN := Lib.hid rn
        clear rn
        rcases hways with ⟨hw, hh⟩ | ⟨hw, hh⟩
        · have Hh := Lib.hid hh
          clear hh hs1 hs2
          go_enter Tryd.func44, Tryd.ntmps44
          go_wp2_with (go_at_call 70; go_must (refine (get4_any w _ 8 l HR.out (by omega)).mono ?_))
          rintro e w1 ⟨rfl, m, hw1⟩
          have hb1 : Below w.heap.size w w1 := by rw [hw1]; exact below_drewN (Below.refl _ _) m
          rw [HM.out]
          clear hw1
          have rp1 := Lib.hid (RN.out.below' hb1)
          have r41 := Lib.hid (R4.out.below' hb1)
          have st1 := Lib.hid (Hst.out.below hb1)
          have hb1s := hb1.size
          go_wp2_with fail
          go_quiet (first | (go_at_call 57; exact sum_quiet rp1.out st1.out) | (go_at_call 70; exact get_quiet r41.out (by omega)))
          go_wp2_with (go_at_call 45; go_must (refine (clone_any (w1.drewN nq) _ 0 _ [] (rp1.out.drewN nq) (by omega)).mono ?_))
          rintro e w3 ⟨v3, rfl, f3, b3⟩
          have hb3 : Below w.heap.size w w3 := (below_drewN hb1 nq).trans (b3.mono hb1s)
          go_wp2
          go_ret3
          exact FNext.good (p := []) (by rw [HM.out]; exact Hnn.out) (by rw [HM.out, HP.out]; exact Hh.out) (by rw [HM.out]; exact HP.out) rfl rfl (World.ownsRow.mono f3 hb1s) hb3
        · have Hh := Lib.hid hh
          clear hh hs1 hs2
          go_enter Tryd.func44, Tryd.ntmps44
          go_wp2_with (go_at_call 70; go_must (refine (get4_any w _ 8 l HR.out (by omega)).mono ?_))
          rintro e w1 ⟨rfl, m, hw1⟩
          have hb1 : Below w.heap.size w w1 := by rw [hw1]; exact below_drewN (Below.refl _ _) m
          rw [HM.out]
          clear hw1
          have rp1 := Lib.hid (RN.out.below' hb1)
          have r41 := Lib.hid (R4.out.below' hb1)
          have st1 := Lib.hid (Hst.out.below hb1)
          go_wp2_with fail
          go_quiet (first | (go_at_call 57; exact sum_quiet rp1.out st1.out) | (go_at_call 70; exact get_quiet r41.out (by omega)))
          go_wp2
          go_ret3
          exact FNext.bad (by rw [HM.out]; exact Hnn.out) (by rw [HM.out, HP.out]; exact Hh.out) rfl (below_drewN hb1 nq)
      · have hc8' : ¬ ((cap : Int) = 8) := by omega
        have hc4' : ¬ ((cap : Int) = 4) := by omega
        have e1 : (8 : Int) + M ≤ n := by omega
        have hM9 : M ≤ 1000000000 := by omega
        rcases hways with ⟨hw, hh⟩ | ⟨hw, hh⟩
        · have Hh := Lib.hid hh
          clear hh hs1 hs2
          go_enter Tryd.func44, Tryd.ntmps44
          go_wp2_with (go_at_call 70; go_must (refine (get4_any w _ n l HR.out (by omega)).mono ?_))
          rintro e w1 ⟨rfl, m, hw1⟩
          have hb1 : Below w.heap.size w w1 := by rw [hw1]; exact below_drewN (Below.refl _ _) m
          rw [HM.out]
          clear hw1
          have rp1 := Lib.hid (RP.out.below' hb1)
          have r41 := Lib.hid (R4.out.below' hb1)
          have st1 := Lib.hid (Hst.out.below hb1)
          have hb1s := hb1.size
          go_wp2_with fail
          go_quiet (first | (go_at_call 57; exact sum_quiet rp1.out st1.out) | (go_at_call 70; exact get_quiet r41.out (by omega)))
          go_wp2_with (go_at_call 45; go_must (refine (clone_any (w1.drewN nq) _ M _ p (rp1.out.drewN nq) hM9).mono ?_))
          rintro e w3 ⟨v3, rfl, f3, b3⟩
          have hb3 : Below w.heap.size w w3 := (below_drewN hb1 nq).trans (b3.mono hb1s)
          go_wp2
          go_ret3
          exact FNext.good (by rw [HM.out]; exact Hnn.out) (by rw [HM.out, HP.out]; exact Hh.out) (by rw [HM.out]; exact HP.out) Hpl.out rfl (World.ownsRow.mono f3 hb1s) hb3
        · have Hh := Lib.hid hh
          clear hh hs1 hs2
          go_enter Tryd.func44, Tryd.ntmps44
          go_wp2_with (go_at_call 70; go_must (refine (get4_any w _ n l HR.out (by omega)).mono ?_))
          rintro e w1 ⟨rfl, m, hw1⟩
          have hb1 : Below w.heap.size w w1 := by rw [hw1]; exact below_drewN (Below.refl _ _) m
          rw [HM.out]
          clear hw1
          have rp1 := Lib.hid (RP.out.below' hb1)
          have r41 := Lib.hid (R4.out.below' hb1)
          have st1 := Lib.hid (Hst.out.below hb1)
          go_wp2_with fail
          go_quiet (first | (go_at_call 57; exact sum_quiet rp1.out st1.out) | (go_at_call 70; exact get_quiet r41.out (by omega)))
          go_wp2
          go_ret3
          exact FNext.bad (by rw [HM.out]; exact Hnn.out) (by rw [HM.out, HP.out]; exact Hh.out) rfl (below_drewN hb1 nq)
end Go.Proofs.YtfhdonidgegebaaDoor

namespace Go.Proofs.YtfhdonidgegebaaDoor
open Go Go.RowKit

theorem next_seal {l : List UInt8} (h : l.length < 4294967296) (r : List UInt8) : nextL (sealL l ++ r) = (0, l) := by
  have e0 : sealL l ++ r = be4 l.length ++ (be4 (sumL l) ++ l ++ r) := by simp [sealL]
  have e1 : num4 (sealL l ++ r) = l.length := by rw [e0, num4_be4 h]
  have e2 : (sealL l ++ r).length = 8 + l.length + r.length := by rw [List.length_append, sealL_length]
  have e3 : (sealL l ++ r).drop 8 = l ++ r := by simp [sealL, be4]
  have e4 : (sealL l ++ r).drop 4 = be4 (sumL l) ++ (l ++ r) := by simp [sealL, be4]
  unfold nextL
  rw [e1, e2, if_neg (by omega), e3, e4, num4_be4 (sumL_lt l), List.take_left, if_pos rfl]

theorem nextN_seal {l : List UInt8} (h : l.length < 4294967296) (r : List UInt8) : nextN (sealL l ++ r) = 8 + l.length := by
  rw [nextN, next_seal h]; rfl

theorem sum_fixed : sumL [49, 50, 51, 52, 53, 54, 55, 56, 57] = 3421780262 := by decide +kernel

theorem lits_read (w : World) (l : List UInt8) (n : Nat) (fr : Nat × Nat) (hl : l.length = n) (hn : n ≤ maxLen) : Reads (w.alloc (.cells (bcells l).toArray 5 fr)) 1 (.slice (some ⟨w.heap.size, 0, none⟩) n n) n (bcells l) := by
  refine ⟨by rw [bcells_length]; omega, _, n, rfl, Nat.le_refl _, hn, fun j u hj => ⟨_, _, rfl, by simp, ?_⟩⟩
  rw [show (0 + j) = j by omega, World.cell?_alloc_mark w _ _ fr j]
  simpa using hj
end Go.Proofs.YtfhdonidgegebaaDoor

/- Layer 12's plain mathematics. -/
namespace Go.Proofs.YtfhdonidgegebaaDoor

/-- one step of the hash -/
def hashStep (h : Nat) (c : UInt8) : Nat := (h ^^^ c.toNat) * 1099511628211 % 18446744073709551616

/-- the hash of a text's bytes -/
def hashL (l : List UInt8) : Nat := l.foldl hashStep 14695981039346656037

theorem hashStep_lt (h : Nat) (c : UInt8) : hashStep h c < 18446744073709551616 := Nat.mod_lt _ (by decide)

theorem foldHash_lt (l : List UInt8) : ∀ h, h < 18446744073709551616 → l.foldl hashStep h < 18446744073709551616 := by
  induction l with
  | nil => intro h hh; exact hh
  | cons c r ih => intro h _; exact ih _ (hashStep_lt h c)

theorem hashL_lt (l : List UInt8) : hashL l < 18446744073709551616 := foldHash_lt l _ (by decide)

/-- where the walk begins, and its step -/
def atOf (h : Nat) : Nat := h % 4294967296
def stepOf (h : Nat) : Nat := h / 4294967296 ||| 1

theorem atOf_lt (h : Nat) : atOf h < 4294967296 := Nat.mod_lt _ (by decide)
theorem stepOf_lt {h : Nat} (hh : h < 18446744073709551616) : stepOf h < 4294967296 := by
  have h1 : h / 4294967296 < 2 ^ 32 := by omega
  have := Nat.or_lt_two_pow h1 (show 1 < 2 ^ 32 by decide)
  simpa [stepOf] using this

/-- the i-th place of a walk that stands at x -/
def place (x y bits i : Nat) : Nat := (x + i * y) % bits

/-- is the bit set? -/
def bitAt (f : List UInt8) (p : Nat) : Bool := (f.getD (p / 8) 0).toNat.testBit (p % 8)

/-- set the bit -/
def setBit (f : List UInt8) (p : Nat) : List UInt8 := f.set (p / 8) (UInt8.ofNat ((f.getD (p / 8) 0).toNat ||| 2 ^ (p % 8)))

theorem setBit_length (f : List UInt8) (p : Nat) : (setBit f p).length = f.length := List.length_set

theorem or_bit_lt (c : UInt8) (p : Nat) : c.toNat ||| 2 ^ (p % 8) < 256 := by
  have h1 : c.toNat < 2 ^ 8 := c.toNat_lt
  have h2 : 2 ^ (p % 8) < 2 ^ 8 := Nat.pow_lt_pow_right (by decide) (Nat.mod_lt _ (by decide))
  exact Nat.or_lt_two_pow h1 h2

theorem bitAt_setBit {f : List UInt8} {p : Nat} (hp : p / 8 < f.length) (q : Nat) : bitAt (setBit f p) q = (bitAt f q || decide (q = p)) := by
  unfold bitAt setBit
  by_cases h : q / 8 = p / 8
  · have e1 : (f.set (p / 8) (UInt8.ofNat ((f.getD (p / 8) 0).toNat ||| 2 ^ (p % 8)))).getD (q / 8) 0 = UInt8.ofNat ((f.getD (p / 8) 0).toNat ||| 2 ^ (p % 8)) := by
      rw [h]; simp [List.getD, hp]
    rw [e1, h]
    have e2 : (UInt8.ofNat ((f.getD (p / 8) 0).toNat ||| 2 ^ (p % 8))).toNat = (f.getD (p / 8) 0).toNat ||| 2 ^ (p % 8) := by
      have := or_bit_lt (f.getD (p / 8) 0) p
      simp only [UInt8.toNat_ofNat']
      exact Nat.mod_eq_of_lt (by omega)
    rw [e2, Nat.testBit_or, Nat.testBit_two_pow]
    congr 1
    by_cases hq : q = p
    · subst hq; simp
    · have : p % 8 ≠ q % 8 := by omega
      simp [this, hq]
  · have e1 : (f.set (p / 8) (UInt8.ofNat ((f.getD (p / 8) 0).toNat ||| 2 ^ (p % 8)))).getD (q / 8) 0 = f.getD (q / 8) 0 := by
      simp only [List.getD, List.getElem?_set]
      rw [if_neg (by omega)]
    have hq : q ≠ p := by rintro rfl; exact h rfl
    rw [e1]; simp [hq]

/-- set the bits of k places -/
def setK (f : List UInt8) (x y bits : Nat) : Nat → List UInt8
  | 0 => f
  | k + 1 => setBit (setK f x y bits k) (place x y bits k)

theorem setK_length (f : List UInt8) (x y bits k : Nat) : (setK f x y bits k).length = f.length := by
  induction k with
  | zero => rfl
  | succ k ih => rw [setK, setBit_length, ih]

theorem place_lt {x y bits i n : Nat} (h : bits = 8 * n) (hn : 0 < n) : place x y bits i / 8 < n := by
  have : place x y bits i < bits := Nat.mod_lt _ (by omega)
  omega

theorem bitAt_setK {f : List UInt8} {x y bits n : Nat} (hl : f.length = n) (hb : bits = 8 * n) (hn : 0 < n) (k q : Nat) :
    bitAt (setK f x y bits k) q = true ↔ (bitAt f q = true ∨ ∃ i, i < k ∧ q = place x y bits i) := by
  induction k with
  | zero => simp [setK]
  | succ k ih =>
    rw [setK, bitAt_setBit (by rw [setK_length, hl]; exact place_lt hb hn)]
    simp only [Bool.or_eq_true, decide_eq_true_eq, ih]
    constructor
    · rintro ((h | ⟨i, hi, h⟩) | h)
      · exact .inl h
      · exact .inr ⟨i, by omega, h⟩
      · exact .inr ⟨k, by omega, h⟩
    · rintro (h | ⟨i, hi, h⟩)
      · exact .inl (.inl h)
      · by_cases hk : i = k
        · subst hk; exact .inr h
        · exact .inl (.inr ⟨i, by omega, h⟩)

/-- the bits of a key -/
def setKey (bits k : Nat) (f : List UInt8) (key : List UInt8) : List UInt8 := setK f (atOf (hashL key)) (stepOf (hashL key)) bits k

theorem setKey_length (bits k : Nat) (f key : List UInt8) : (setKey bits k f key).length = f.length := setK_length ..

/-- all keys' bits -/
def setAll (bits k : Nat) (f : List UInt8) (keys : List (List UInt8)) : List UInt8 := keys.foldl (setKey bits k) f

theorem setAll_length (bits k : Nat) (keys : List (List UInt8)) : ∀ f, (setAll bits k f keys).length = f.length := by
  induction keys with
  | nil => intro f; rfl
  | cons c r ih => intro f; exact (ih _).trans (setKey_length ..)

theorem bitAt_setAll {bits k n : Nat} (hb : bits = 8 * n) (hn : 0 < n) (keys : List (List UInt8)) : ∀ (f : List UInt8), f.length = n → ∀ q,
    bitAt (setAll bits k f keys) q = true ↔ (bitAt f q = true ∨ ∃ key ∈ keys, ∃ i, i < k ∧ q = place (atOf (hashL key)) (stepOf (hashL key)) bits i) := by
  induction keys with
  | nil => intro f _ q; simp [setAll]
  | cons c r ih =>
    intro f hl q
    have := ih (setKey bits k f c) (by rw [setKey_length, hl]) q
    show bitAt (setAll bits k (setKey bits k f c) r) q = true ↔ _
    rw [this, setKey, bitAt_setK hl hb hn]
    constructor
    · rintro ((h | h) | ⟨key, h1, h2⟩)
      · exact .inl h
      · exact .inr ⟨c, by simp, h⟩
      · exact .inr ⟨key, by simp [h1], h2⟩
    · rintro (h | ⟨key, h1, h2⟩)
      · exact .inl (.inl h)
      · rcases List.mem_cons.1 h1 with rfl | h1
        · exact .inl (.inr h2)
        · exact .inr ⟨key, h1, h2⟩

/-- the settings of a filter of n keys at b bits -/
def bOf (b : Int) : Nat := (min (max b 1) 40).toNat
def kOf (b : Int) : Nat := min (max (69 * bOf b / 100) 1) 30
def sizeOf' (n : Nat) (b : Int) : Nat := (max (n * bOf b) 64 + 7) / 8

theorem bOf_le (b : Int) : 1 ≤ bOf b ∧ bOf b ≤ 40 := by unfold bOf; omega
theorem kOf_le (b : Int) : 1 ≤ kOf b ∧ kOf b ≤ 30 := by unfold kOf; omega
theorem sizeOf'_ge (n : Nat) (b : Int) : 8 ≤ sizeOf' n b := by unfold sizeOf'; omega
theorem sizeOf'_le (n : Nat) (b : Int) : sizeOf' n b ≤ 5 * n + 8 := by
  have := bOf_le b
  have h : n * bOf b ≤ n * 40 := Nat.mul_le_mul_left _ this.2
  unfold sizeOf'; omega

/-- a filter -/
def makeL (keys : List (List UInt8)) (b : Int) : List UInt8 :=
  setAll (8 * sizeOf' keys.length b) (kOf b) (List.replicate (sizeOf' keys.length b) 0) keys ++ [UInt8.ofNat (kOf b)]

theorem makeL_length (keys : List (List UInt8)) (b : Int) : (makeL keys b).length = sizeOf' keys.length b + 1 := by
  simp [makeL, setAll_length]

/-- are all places of the walk set? -/
def allSet (f : List UInt8) (x y bits : Nat) : Nat → Bool
  | 0 => true
  | k + 1 => allSet f x y bits k && bitAt f (place x y bits k)

theorem allSet_iff {f : List UInt8} {x y bits : Nat} (k : Nat) : allSet f x y bits k = true ↔ ∀ i, i < k → bitAt f (place x y bits i) = true := by
  induction k with
  | zero => simp [allSet]
  | succ k ih =>
    simp only [allSet, Bool.and_eq_true, ih]
    constructor
    · rintro ⟨h1, h2⟩ i hi
      by_cases hk : i = k
      · subst hk; exact h2
      · exact h1 i (by omega)
    · intro h
      exact ⟨fun i hi => h i (by omega), h k (by omega)⟩

/-- may the key be in the filter? -/
def mayL (f : List UInt8) (key : List UInt8) : Bool :=
  if f.length < 9 ∨ (f.getD (f.length - 1) 0).toNat < 1 ∨ 30 < (f.getD (f.length - 1) 0).toNat then true
  else allSet f (atOf (hashL key)) (stepOf (hashL key)) (8 * (f.length - 1)) (f.getD (f.length - 1) 0).toNat

theorem bitAt_append {f g : List UInt8} {p : Nat} (h : p / 8 < f.length) : bitAt (f ++ g) p = bitAt f p := by
  unfold bitAt
  simp only [List.getD, List.getElem?_append_left h]

/-- What a filter was made of may be in it. -/
theorem may_make {keys : List (List UInt8)} {b : Int} {key : List UInt8} (h : key ∈ keys) : mayL (makeL keys b) key = true := by
  have hk := kOf_le b
  have hs := sizeOf'_ge keys.length b
  have hl := makeL_length keys b
  have hlast : (makeL keys b).getD ((makeL keys b).length - 1) 0 = UInt8.ofNat (kOf b) := by
    rw [hl, makeL]
    simp [List.getD, setAll_length]
  have hkk : (UInt8.ofNat (kOf b)).toNat = kOf b := by simp; omega
  unfold mayL
  rw [hlast, hkk, hl, if_neg (by omega), allSet_iff]
  intro i hi
  have hp : place (atOf (hashL key)) (stepOf (hashL key)) (8 * (sizeOf' keys.length b + 1 - 1)) i / 8 < sizeOf' keys.length b := place_lt (by simp) (by omega)
  rw [makeL, bitAt_append (by rw [setAll_length, List.length_replicate]; exact hp), bitAt_setAll (n := sizeOf' keys.length b) rfl (by omega) _ _ (by simp)]
  exact .inr ⟨key, h, i, hi, by simp⟩

/-- more bits, but for the last byte -/
def orL (f more : List UInt8) : Nat → List UInt8
  | 0 => f
  | i + 1 => (orL f more i).set i (UInt8.ofNat (((orL f more i).getD i 0).toNat ||| (more.getD i 0).toNat))

theorem orL_length (f more : List UInt8) (i : Nat) : (orL f more i).length = f.length := by
  induction i with
  | zero => rfl
  | succ i ih => rw [orL, List.length_set, ih]

theorem orL_getD {f more : List UInt8} (i : Nat) (j : Nat) (h : i ≤ j) : (orL f more i).getD j 0 = f.getD j 0 := by
  induction i with
  | zero => rfl
  | succ i ih =>
    rw [orL]
    simp only [List.getD, List.getElem?_set]
    rw [if_neg (by omega)]
    exact ih (by omega)

theorem or_ofNat (a b : UInt8) : (UInt8.ofNat (a.toNat ||| b.toNat)).toNat = a.toNat ||| b.toNat := by
  have : a.toNat ||| b.toNat < 2 ^ 8 := Nat.or_lt_two_pow a.toNat_lt b.toNat_lt
  simp only [UInt8.toNat_ofNat']
  exact Nat.mod_eq_of_lt (by omega)

theorem bitAt_orL {f more : List UInt8} (i p : Nat) (h : bitAt f p = true) : bitAt (orL f more i) p = true := by
  induction i with
  | zero => exact h
  | succ i ih =>
    unfold bitAt at ih ⊢
    rw [orL]
    by_cases hp : p / 8 = i
    · by_cases hl : i < (orL f more i).length
      · have e : ((orL f more i).set i (UInt8.ofNat (((orL f more i).getD i 0).toNat ||| (more.getD i 0).toNat))).getD (p / 8) 0 = UInt8.ofNat (((orL f more i).getD i 0).toNat ||| (more.getD i 0).toNat) := by
          rw [hp]; simp [List.getD, hl]
        rw [e, or_ofNat, Nat.testBit_or]
        rw [hp] at ih
        simp only [List.getD] at ih ⊢
        simp [ih]
      · rw [List.set_eq_of_length_le (by omega)]
        exact ih
    · have e : ((orL f more i).set i (UInt8.ofNat (((orL f more i).getD i 0).toNat ||| (more.getD i 0).toNat))).getD (p / 8) 0 = (orL f more i).getD (p / 8) 0 := by
        simp only [List.getD, List.getElem?_set]
        rw [if_neg (by omega)]
      rw [e]; exact ih

theorem allSet_orL {f more : List UInt8} (i x y bits k : Nat) (h : allSet f x y bits k = true) : allSet (orL f more i) x y bits k = true := by
  rw [allSet_iff] at h ⊢
  exact fun j hj => bitAt_orL i _ (h j hj)

/-- What may be in a filter may be in it with more bits set. -/
theorem may_more {f more ask : List UInt8} {i : Nat} (hi : i + 1 ≤ f.length) (h : mayL f ask = true) : mayL (orL f more i) ask = true := by
  have hl := orL_length f more i
  have hlast : (orL f more i).getD (f.length - 1) 0 = f.getD (f.length - 1) 0 := orL_getD i _ (by omega)
  unfold mayL at h ⊢
  rw [hl, hlast]
  split at h
  · next h1 => rw [if_pos h1]
  · next h1 => rw [if_neg h1]; exact allSet_orL i _ _ _ _ h
end Go.Proofs.YtfhdonidgegebaaDoor

/- Layer 2: inner keys, read. -/
namespace Go.Proofs.YtfhdonidgegebaaDoor
open Go

/-- the key with which an inner key begins, and what stands behind its end mark -/
def unesc : List UInt8 → Option (List UInt8 × List UInt8)
  | [] => none
  | [_] => none
  | c :: d :: r => if c = 0 then (if d = 1 then some ([], r) else if d = 255 then (unesc r).map fun x => (0 :: x.1, x.2) else none) else (unesc (d :: r)).map fun x => (c :: x.1, x.2)

theorem unesc_step {c : UInt8} {l : List UInt8} (hc : ¬ c = 0) : unesc (c :: l) = (unesc l).map fun x => (c :: x.1, x.2) := by
  cases l with
  | nil => rfl
  | cons d r => rw [unesc, if_neg hc]

theorem unesc_none {l : List UInt8} (h : ∀ k : Nat, l[k]? ≠ some 0) : unesc l = none := by
  induction l with
  | nil => rfl
  | cons c l ih =>
    have hc : ¬ c = 0 := fun e => h 0 (by simp [e])
    rw [unesc_step hc, ih fun k => by simpa using h (k + 1)]
    rfl

theorem unesc_at {l : List UInt8} {o : Nat} (h0 : l[o]? = some 0) (h : ∀ k : Nat, k < o → l[k]? ≠ some 0) :
    unesc l = match l[o + 1]? with
      | none => none
      | some d => if d = 1 then some (l.take o, l.drop (o + 2)) else if d = 255 then (unesc (l.drop (o + 2))).map fun x => (l.take o ++ 0 :: x.1, x.2) else none := by
  induction l generalizing o with
  | nil => simp at h0
  | cons c l ih =>
    cases o with
    | zero =>
      simp at h0
      subst h0
      cases l with
      | nil => rfl
      | cons d r =>
        simp [unesc]
    | succ o =>
      have hc : ¬ c = 0 := fun e => h 0 (by omega) (by simp [e])
      rw [unesc_step hc, ih (o := o) (by simpa using h0) fun k hk => by simpa using h (k + 1) (by omega)]
      simp only [List.getElem?_cons_succ]
      cases l[o + 1]? with
      | none => rfl
      | some d =>
        simp only
        split
        · simp
        · split
          · simp [Option.map_map, Function.comp_def]
          · rfl

theorem unesc_esc (p r : List UInt8) : unesc (esc p ++ ([0, 1] ++ r)) = some (p, r) := by
  induction p with
  | nil => simp [esc, unesc]
  | cons c p ih =>
    by_cases hc : c = 0
    · subst hc
      simp [esc, unesc]
      simpa using ih
    · rw [esc, if_neg hc, List.cons_append, unesc_step hc, ih]
      rfl
end Go.Proofs.YtfhdonidgegebaaDoor

/- Layer 2: inner keys, read whole. -/
namespace Go.Proofs.YtfhdonidgegebaaDoor
open Go

/-- the number that bytes make, the first one first -/
def beVal (l : List UInt8) : Nat := l.foldl (fun a c => a * 256 + c.toNat) 0

theorem beVal_snoc (l : List UInt8) (c : UInt8) : beVal (l ++ [c]) = beVal l * 256 + c.toNat := by
  simp [beVal, List.foldl_append]

theorem beVal_lt (l : List UInt8) : beVal l < 256 ^ l.length := by
  have h : ∀ (l : List UInt8) (a : Nat), l.foldl (fun a c => a * 256 + c.toNat) a < (a + 1) * 256 ^ l.length := by
    intro l
    induction l with
    | nil => intro a; simp
    | cons c l ih =>
      intro a
      have h1 := ih (a * 256 + c.toNat)
      have h2 := c.toNat_lt
      have h3 : (a * 256 + c.toNat + 1) * 256 ^ l.length ≤ ((a + 1) * 256) * 256 ^ l.length := Nat.mul_le_mul_right _ (by omega)
      simp only [List.foldl_cons, List.length_cons]
      rw [Nat.pow_succ, Nat.mul_comm (256 ^ l.length) 256, ← Nat.mul_assoc]
      omega
  simpa [beVal] using h l 0

/-- an entry: key, revision, whether it takes away -/
def outer (l : List UInt8) : Option (List UInt8 × Nat × Bool) :=
  match unesc l with
  | none => none
  | some (k, r) => if r.length = 9 ∧ (r.getD 8 0).toNat ≤ 1 then some (k, 18446744073709551615 - beVal (r.take 8), decide ((r.getD 8 0).toNat = 0)) else none
end Go.Proofs.YtfhdonidgegebaaDoor
