/- Layer 3's plain mathematics. -/
namespace Go.Proofs.YtoibhkmlebcepaaDoor

/-- one halving of a sum -/
def crcBit (s : Nat) : Nat := s / 2 ^^^ (if s % 2 = 1 then 3988292384 else 0)

/-- n halvings -/
def crcIter : Nat → Nat → Nat
  | 0, s => s
  | n + 1, s => crcIter n (crcBit s)

/-- a byte goes in -/
def crcByte (s : Nat) (c : UInt8) : Nat := crcIter 8 (s ^^^ c.toNat)

/-- the sum of bytes -/
def sumL (l : List UInt8) : Nat := l.foldl crcByte 4294967295 ^^^ 4294967295

/-- what four halvings make of the last four bits -/
def stepsT : List Nat := [0, 498536548, 997073096, 651767980, 1994146192, 1802195444, 1303535960, 1342533948, 3988292384, 4027552580, 3604390888, 3412177804, 2607071920, 2262029012, 2685067896, 3183342108]

theorem crcBit_xor (a b : Nat) : crcBit (a ^^^ b) = crcBit a ^^^ crcBit b := by
  have h1 : (a ^^^ b) / 2 = a / 2 ^^^ b / 2 := by
    have := Nat.xor_div_two_pow (a := a) (b := b) (n := 1)
    simpa using this
  have h2 : (a ^^^ b) % 2 = (a % 2) ^^^ (b % 2) := by
    have := Nat.xor_mod_two_pow (a := a) (b := b) (n := 1)
    simpa using this
  unfold crcBit
  rw [h1, h2]
  rcases Nat.mod_two_eq_zero_or_one a with ha | ha <;> rcases Nat.mod_two_eq_zero_or_one b with hb | hb <;> rw [ha, hb] <;> simp
  · rw [Nat.xor_assoc]
  · rw [Nat.xor_assoc, Nat.xor_assoc, Nat.xor_comm 3988292384]
  · rw [Nat.xor_assoc, ← Nat.xor_assoc 3988292384, Nat.xor_comm 3988292384 (b / 2), Nat.xor_assoc, Nat.xor_self, Nat.xor_zero]

theorem crcIter_xor (n a b : Nat) : crcIter n (a ^^^ b) = crcIter n a ^^^ crcIter n b := by
  induction n generalizing a b with
  | zero => rfl
  | succ n ih => rw [crcIter, crcBit_xor, ih]; rfl

theorem crcIter_add (m n s : Nat) : crcIter (m + n) s = crcIter n (crcIter m s) := by
  induction m generalizing s with
  | zero => rw [Nat.zero_add]; rfl
  | succ m ih => rw [Nat.succ_add, crcIter, ih]; rfl

theorem crcBit_two (x : Nat) : crcBit (2 * x) = x := by
  unfold crcBit
  rw [if_neg (by omega)]
  simp

theorem crcIter_pow (n x : Nat) : crcIter n (2 ^ n * x) = x := by
  induction n with
  | zero => simp [crcIter]
  | succ n ih =>
    have e : 2 ^ (n + 1) * x = 2 * (2 ^ n * x) := by rw [Nat.pow_succ, Nat.mul_comm (2 ^ n) 2, Nat.mul_assoc]
    rw [e, crcIter, crcBit_two, ih]

theorem crcBit_lt {s : Nat} (h : s < 4294967296) : crcBit s < 4294967296 := by
  unfold crcBit
  have h1 : s / 2 < 2 ^ 32 := by omega
  have h2 : (if s % 2 = 1 then 3988292384 else 0) < 2 ^ 32 := by split <;> decide
  exact Nat.xor_lt_two_pow h1 h2

theorem crcIter_lt (n : Nat) {s : Nat} (h : s < 4294967296) : crcIter n s < 4294967296 := by
  induction n generalizing s with
  | zero => exact h
  | succ n ih => exact ih (crcBit_lt h)

theorem crcBit_zero {s : Nat} (h : s < 4294967296) (hz : crcBit s = 0) : s = 0 := by
  unfold crcBit at hz
  by_cases h1 : s % 2 = 1
  · rw [if_pos h1] at hz
    have h2 : s / 2 = 3988292384 := by
      have := congrArg (· ^^^ 3988292384) hz
      simpa [Nat.xor_assoc] using this
    omega
  · rw [if_neg h1] at hz
    simp at hz
    omega

theorem crcIter_zero (n : Nat) {s : Nat} (h : s < 4294967296) (hz : crcIter n s = 0) : s = 0 := by
  induction n generalizing s with
  | zero => exact hz
  | succ n ih => exact crcBit_zero h (ih (crcBit_lt h) hz)

theorem split_xor (k q r : Nat) (hr : r < 2 ^ k) : 2 ^ k * q + r = 2 ^ k * q ^^^ r := by
  have h1 : (2 ^ k * q ^^^ r) / 2 ^ k = q := by
    rw [Nat.xor_div_two_pow, Nat.mul_div_cancel_left _ (Nat.two_pow_pos k), Nat.div_eq_of_lt hr, Nat.xor_zero]
  have h2 : (2 ^ k * q ^^^ r) % 2 ^ k = r := by
    rw [Nat.xor_mod_two_pow, Nat.mul_mod_right, Nat.mod_eq_of_lt hr, Nat.zero_xor]
  have := Nat.div_add_mod (2 ^ k * q ^^^ r) (2 ^ k)
  rw [h1, h2] at this
  exact this

theorem steps_all : ∀ r : Fin 16, crcIter 4 r.val = stepsT.getD r.val 0 := by decide +kernel

/-- four halvings by the table -/
theorem crcIter_four (s : Nat) : crcIter 4 s = s / 16 ^^^ stepsT.getD (s % 16) 0 := by
  have e : s = 2 ^ 4 * (s / 16) + s % 16 := (Nat.div_add_mod s 16).symm
  have hr : s % 16 < 16 := Nat.mod_lt _ (by decide)
  rw [split_xor 4 _ _ hr] at e
  have h1 := steps_all ⟨s % 16, hr⟩
  simp only at h1
  rw [← h1]
  conv => lhs; rw [e]
  rw [crcIter_xor, crcIter_pow]

theorem stepsT_lt (r : Nat) : stepsT.getD r 0 < 4294967296 := by
  by_cases h : r < 16
  · exact (by decide +kernel : ∀ r : Fin 16, stepsT.getD r.val 0 < 4294967296) ⟨r, h⟩
  · simp [stepsT, List.getD, List.getElem?_eq_none (show [0, 498536548, 997073096, 651767980, 1994146192, 1802195444, 1303535960, 1342533948, 3988292384, 4027552580, 3604390888, 3412177804, 2607071920, 2262029012, 2685067896, 3183342108].length ≤ r from by simp; omega)]

theorem crcByte_lt {s : Nat} (c : UInt8) (h : s < 4294967296) : crcByte s c < 4294967296 := by
  have hc := c.toNat_lt
  exact crcIter_lt 8 (Nat.xor_lt_two_pow (n := 32) (by omega) (by omega))

theorem foldCrc_lt (l : List UInt8) : ∀ s, s < 4294967296 → l.foldl crcByte s < 4294967296 := by
  induction l with
  | nil => intro s h; exact h
  | cons c r ih => intro s h; exact ih _ (crcByte_lt c h)

theorem sumL_lt (l : List UInt8) : sumL l < 4294967296 := Nat.xor_lt_two_pow (n := 32) (foldCrc_lt l _ (by decide)) (by decide)

/-- bytes as one number, the first the lowest -/
def leNum : List UInt8 → Nat
  | [] => 0
  | c :: r => c.toNat + 256 * leNum r

theorem fold_crc (l : List UInt8) : ∀ s, l.foldl crcByte s = crcIter (8 * l.length) (s ^^^ leNum l) := by
  induction l with
  | nil => intro s; simp [leNum, crcIter]
  | cons c r ih =>
    intro s
    have hc := c.toNat_lt
    have e : leNum (c :: r) = 2 ^ 8 * leNum r ^^^ c.toNat := by
      rw [← split_xor 8 _ _ hc, leNum, Nat.add_comm]
    rw [List.foldl_cons, ih, List.length_cons, show 8 * (r.length + 1) = 8 + 8 * r.length by omega, crcIter_add, e, Nat.xor_comm (2 ^ 8 * leNum r), ← Nat.xor_assoc, crcIter_xor 8, crcIter_pow]
    rfl

theorem xor_cancel (a b i : Nat) : (a ^^^ i) ^^^ (b ^^^ i) = a ^^^ b := by
  apply Nat.eq_of_testBit_eq
  intro j
  simp only [Nat.testBit_xor]
  cases a.testBit j <;> cases b.testBit j <;> cases i.testBit j <;> rfl

/-- The sums of rows of one length differ by what their difference makes. -/
theorem sumL_xor {l m : List UInt8} (h : m.length = l.length) : sumL l ^^^ sumL m = crcIter (8 * l.length) (leNum l ^^^ leNum m) := by
  unfold sumL
  rw [fold_crc, fold_crc, h, xor_cancel, ← crcIter_xor, Nat.xor_comm 4294967295, Nat.xor_comm 4294967295, xor_cancel]

/-- Bits within 32 places turn the sum. -/
theorem turned_sum {n k x : Nat} (hk : k ≤ n) (hx : x < 4294967296) (h : crcIter n (2 ^ k * x) = 0) : x = 0 := by
  obtain ⟨m, rfl⟩ := Nat.exists_eq_add_of_le hk
  rw [crcIter_add, crcIter_pow] at h
  exact crcIter_zero m hx h
end Go.Proofs.YtoibhkmlebcepaaDoor
