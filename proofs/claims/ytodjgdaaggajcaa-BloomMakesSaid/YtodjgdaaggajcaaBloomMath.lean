/- Layer 12's plain mathematics. -/
namespace Go.Proofs.Ytodjgdaaggajcaa

/-- one step of the hash -/
def hashStep (h : Nat) (c : UInt8) : Nat := (h ^^^ c.toNat) * 1099511628211 % 18446744073709551616

/-- the hash of a text's bytes -/
def hashL (l : List UInt8) : Nat := l.foldl hashStep 14695981039346656037

theorem hashStep_lt (h : Nat) (c : UInt8) : hashStep h c < 18446744073709551616 := Nat.mod_lt _ (by decide)

theorem foldHash_lt (l : List UInt8) : ∀ h, h < 18446744073709551616 → l.foldl hashStep h < 18446744073709551616 := by
  induction l with
  | nil => intro h hh; exact hh
  | cons c r ih => intro h _; exact ih _ (hashStep_lt h c)

theorem hashL_lt (l : List UInt8) : hashL l < 18446744073709551616 := foldHash_lt l _ (by decide)

/-- where the walk begins, and its step -/
def atOf (h : Nat) : Nat := h % 4294967296
def stepOf (h : Nat) : Nat := h / 4294967296 ||| 1

theorem atOf_lt (h : Nat) : atOf h < 4294967296 := Nat.mod_lt _ (by decide)
theorem stepOf_lt {h : Nat} (hh : h < 18446744073709551616) : stepOf h < 4294967296 := by
  have h1 : h / 4294967296 < 2 ^ 32 := by omega
  have := Nat.or_lt_two_pow h1 (show 1 < 2 ^ 32 by decide)
  simpa [stepOf] using this

/-- the i-th place of a walk that stands at x -/
def place (x y bits i : Nat) : Nat := (x + i * y) % bits

/-- is the bit set? -/
def bitAt (f : List UInt8) (p : Nat) : Bool := (f.getD (p / 8) 0).toNat.testBit (p % 8)

/-- set the bit -/
def setBit (f : List UInt8) (p : Nat) : List UInt8 := f.set (p / 8) (UInt8.ofNat ((f.getD (p / 8) 0).toNat ||| 2 ^ (p % 8)))

theorem setBit_length (f : List UInt8) (p : Nat) : (setBit f p).length = f.length := List.length_set

theorem or_bit_lt (c : UInt8) (p : Nat) : c.toNat ||| 2 ^ (p % 8) < 256 := by
  have h1 : c.toNat < 2 ^ 8 := c.toNat_lt
  have h2 : 2 ^ (p % 8) < 2 ^ 8 := Nat.pow_lt_pow_right (by decide) (Nat.mod_lt _ (by decide))
  exact Nat.or_lt_two_pow h1 h2

theorem bitAt_setBit {f : List UInt8} {p : Nat} (hp : p / 8 < f.length) (q : Nat) : bitAt (setBit f p) q = (bitAt f q || decide (q = p)) := by
  unfold bitAt setBit
  by_cases h : q / 8 = p / 8
  · have e1 : (f.set (p / 8) (UInt8.ofNat ((f.getD (p / 8) 0).toNat ||| 2 ^ (p % 8)))).getD (q / 8) 0 = UInt8.ofNat ((f.getD (p / 8) 0).toNat ||| 2 ^ (p % 8)) := by
      rw [h]; simp [List.getD, hp]
    rw [e1, h]
    have e2 : (UInt8.ofNat ((f.getD (p / 8) 0).toNat ||| 2 ^ (p % 8))).toNat = (f.getD (p / 8) 0).toNat ||| 2 ^ (p % 8) := by
      have := or_bit_lt (f.getD (p / 8) 0) p
      simp only [UInt8.toNat_ofNat']
      exact Nat.mod_eq_of_lt (by omega)
    rw [e2, Nat.testBit_or, Nat.testBit_two_pow]
    congr 1
    by_cases hq : q = p
    · subst hq; simp
    · have : p % 8 ≠ q % 8 := by omega
      simp [this, hq]
  · have e1 : (f.set (p / 8) (UInt8.ofNat ((f.getD (p / 8) 0).toNat ||| 2 ^ (p % 8)))).getD (q / 8) 0 = f.getD (q / 8) 0 := by
      simp only [List.getD, List.getElem?_set]
      rw [if_neg (by omega)]
    have hq : q ≠ p := by rintro rfl; exact h rfl
    rw [e1]; simp [hq]

/-- set the bits of k places -/
def setK (f : List UInt8) (x y bits : Nat) : Nat → List UInt8
  | 0 => f
  | k + 1 => setBit (setK f x y bits k) (place x y bits k)

theorem setK_length (f : List UInt8) (x y bits k : Nat) : (setK f x y bits k).length = f.length := by
  induction k with
  | zero => rfl
  | succ k ih => rw [setK, setBit_length, ih]

theorem place_lt {x y bits i n : Nat} (h : bits = 8 * n) (hn : 0 < n) : place x y bits i / 8 < n := by
  have : place x y bits i < bits := Nat.mod_lt _ (by omega)
  omega

theorem bitAt_setK {f : List UInt8} {x y bits n : Nat} (hl : f.length = n) (hb : bits = 8 * n) (hn : 0 < n) (k q : Nat) :
    bitAt (setK f x y bits k) q = true ↔ (bitAt f q = true ∨ ∃ i, i < k ∧ q = place x y bits i) := by
  induction k with
  | zero => simp [setK]
  | succ k ih =>
    rw [setK, bitAt_setBit (by rw [setK_length, hl]; exact place_lt hb hn)]
    simp only [Bool.or_eq_true, decide_eq_true_eq, ih]
    constructor
    · rintro ((h | ⟨i, hi, h⟩) | h)
      · exact .inl h
      · exact .inr ⟨i, by omega, h⟩
      · exact .inr ⟨k, by omega, h⟩
    · rintro (h | ⟨i, hi, h⟩)
      · exact .inl (.inl h)
      · by_cases hk : i = k
        · subst hk; exact .inr h
        · exact .inl (.inr ⟨i, by omega, h⟩)

/-- the bits of a key -/
def setKey (bits k : Nat) (f : List UInt8) (key : List UInt8) : List UInt8 := setK f (atOf (hashL key)) (stepOf (hashL key)) bits k

theorem setKey_length (bits k : Nat) (f key : List UInt8) : (setKey bits k f key).length = f.length := setK_length ..

/-- all keys' bits -/
def setAll (bits k : Nat) (f : List UInt8) (keys : List (List UInt8)) : List UInt8 := keys.foldl (setKey bits k) f

theorem setAll_length (bits k : Nat) (keys : List (List UInt8)) : ∀ f, (setAll bits k f keys).length = f.length := by
  induction keys with
  | nil => intro f; rfl
  | cons c r ih => intro f; exact (ih _).trans (setKey_length ..)

theorem bitAt_setAll {bits k n : Nat} (hb : bits = 8 * n) (hn : 0 < n) (keys : List (List UInt8)) : ∀ (f : List UInt8), f.length = n → ∀ q,
    bitAt (setAll bits k f keys) q = true ↔ (bitAt f q = true ∨ ∃ key ∈ keys, ∃ i, i < k ∧ q = place (atOf (hashL key)) (stepOf (hashL key)) bits i) := by
  induction keys with
  | nil => intro f _ q; simp [setAll]
  | cons c r ih =>
    intro f hl q
    have := ih (setKey bits k f c) (by rw [setKey_length, hl]) q
    show bitAt (setAll bits k (setKey bits k f c) r) q = true ↔ _
    rw [this, setKey, bitAt_setK hl hb hn]
    constructor
    · rintro ((h | h) | ⟨key, h1, h2⟩)
      · exact .inl h
      · exact .inr ⟨c, by simp, h⟩
      · exact .inr ⟨key, by simp [h1], h2⟩
    · rintro (h | ⟨key, h1, h2⟩)
      · exact .inl (.inl h)
      · rcases List.mem_cons.1 h1 with rfl | h1
        · exact .inl (.inr h2)
        · exact .inr ⟨key, h1, h2⟩

/-- the settings of a filter of n keys at b bits -/
def bOf (b : Int) : Nat := (min (max b 1) 40).toNat
def kOf (b : Int) : Nat := min (max (69 * bOf b / 100) 1) 30
def sizeOf' (n : Nat) (b : Int) : Nat := (max (n * bOf b) 64 + 7) / 8

theorem bOf_le (b : Int) : 1 ≤ bOf b ∧ bOf b ≤ 40 := by unfold bOf; omega
theorem kOf_le (b : Int) : 1 ≤ kOf b ∧ kOf b ≤ 30 := by unfold kOf; omega
theorem sizeOf'_ge (n : Nat) (b : Int) : 8 ≤ sizeOf' n b := by unfold sizeOf'; omega
theorem sizeOf'_le (n : Nat) (b : Int) : sizeOf' n b ≤ 5 * n + 8 := by
  have := bOf_le b
  have h : n * bOf b ≤ n * 40 := Nat.mul_le_mul_left _ this.2
  unfold sizeOf'; omega

/-- a filter -/
def makeL (keys : List (List UInt8)) (b : Int) : List UInt8 :=
  setAll (8 * sizeOf' keys.length b) (kOf b) (List.replicate (sizeOf' keys.length b) 0) keys ++ [UInt8.ofNat (kOf b)]

theorem makeL_length (keys : List (List UInt8)) (b : Int) : (makeL keys b).length = sizeOf' keys.length b + 1 := by
  simp [makeL, setAll_length]

/-- are all places of the walk set? -/
def allSet (f : List UInt8) (x y bits : Nat) : Nat → Bool
  | 0 => true
  | k + 1 => allSet f x y bits k && bitAt f (place x y bits k)

theorem allSet_iff {f : List UInt8} {x y bits : Nat} (k : Nat) : allSet f x y bits k = true ↔ ∀ i, i < k → bitAt f (place x y bits i) = true := by
  induction k with
  | zero => simp [allSet]
  | succ k ih =>
    simp only [allSet, Bool.and_eq_true, ih]
    constructor
    · rintro ⟨h1, h2⟩ i hi
      by_cases hk : i = k
      · subst hk; exact h2
      · exact h1 i (by omega)
    · intro h
      exact ⟨fun i hi => h i (by omega), h k (by omega)⟩

/-- may the key be in the filter? -/
def mayL (f : List UInt8) (key : List UInt8) : Bool :=
  if f.length < 9 ∨ (f.getD (f.length - 1) 0).toNat < 1 ∨ 30 < (f.getD (f.length - 1) 0).toNat then true
  else allSet f (atOf (hashL key)) (stepOf (hashL key)) (8 * (f.length - 1)) (f.getD (f.length - 1) 0).toNat

theorem bitAt_append {f g : List UInt8} {p : Nat} (h : p / 8 < f.length) : bitAt (f ++ g) p = bitAt f p := by
  unfold bitAt
  simp only [List.getD, List.getElem?_append_left h]

/-- What a filter was made of may be in it. -/
theorem may_make {keys : List (List UInt8)} {b : Int} {key : List UInt8} (h : key ∈ keys) : mayL (makeL keys b) key = true := by
  have hk := kOf_le b
  have hs := sizeOf'_ge keys.length b
  have hl := makeL_length keys b
  have hlast : (makeL keys b).getD ((makeL keys b).length - 1) 0 = UInt8.ofNat (kOf b) := by
    rw [hl, makeL]
    simp [List.getD, setAll_length]
  have hkk : (UInt8.ofNat (kOf b)).toNat = kOf b := by simp; omega
  unfold mayL
  rw [hlast, hkk, hl, if_neg (by omega), allSet_iff]
  intro i hi
  have hp : place (atOf (hashL key)) (stepOf (hashL key)) (8 * (sizeOf' keys.length b + 1 - 1)) i / 8 < sizeOf' keys.length b := place_lt (by simp) (by omega)
  rw [makeL, bitAt_append (by rw [setAll_length, List.length_replicate]; exact hp), bitAt_setAll (n := sizeOf' keys.length b) rfl (by omega) _ _ (by simp)]
  exact .inr ⟨key, h, i, hi, by simp⟩

/-- more bits, but for the last byte -/
def orL (f more : List UInt8) : Nat → List UInt8
  | 0 => f
  | i + 1 => (orL f more i).set i (UInt8.ofNat (((orL f more i).getD i 0).toNat ||| (more.getD i 0).toNat))

theorem orL_length (f more : List UInt8) (i : Nat) : (orL f more i).length = f.length := by
  induction i with
  | zero => rfl
  | succ i ih => rw [orL, List.length_set, ih]

theorem orL_getD {f more : List UInt8} (i : Nat) (j : Nat) (h : i ≤ j) : (orL f more i).getD j 0 = f.getD j 0 := by
  induction i with
  | zero => rfl
  | succ i ih =>
    rw [orL]
    simp only [List.getD, List.getElem?_set]
    rw [if_neg (by omega)]
    exact ih (by omega)

theorem or_ofNat (a b : UInt8) : (UInt8.ofNat (a.toNat ||| b.toNat)).toNat = a.toNat ||| b.toNat := by
  have : a.toNat ||| b.toNat < 2 ^ 8 := Nat.or_lt_two_pow a.toNat_lt b.toNat_lt
  simp only [UInt8.toNat_ofNat']
  exact Nat.mod_eq_of_lt (by omega)

theorem bitAt_orL {f more : List UInt8} (i p : Nat) (h : bitAt f p = true) : bitAt (orL f more i) p = true := by
  induction i with
  | zero => exact h
  | succ i ih =>
    unfold bitAt at ih ⊢
    rw [orL]
    by_cases hp : p / 8 = i
    · by_cases hl : i < (orL f more i).length
      · have e : ((orL f more i).set i (UInt8.ofNat (((orL f more i).getD i 0).toNat ||| (more.getD i 0).toNat))).getD (p / 8) 0 = UInt8.ofNat (((orL f more i).getD i 0).toNat ||| (more.getD i 0).toNat) := by
          rw [hp]; simp [List.getD, hl]
        rw [e, or_ofNat, Nat.testBit_or]
        rw [hp] at ih
        simp only [List.getD] at ih ⊢
        simp [ih]
      · rw [List.set_eq_of_length_le (by omega)]
        exact ih
    · have e : ((orL f more i).set i (UInt8.ofNat (((orL f more i).getD i 0).toNat ||| (more.getD i 0).toNat))).getD (p / 8) 0 = (orL f more i).getD (p / 8) 0 := by
        simp only [List.getD, List.getElem?_set]
        rw [if_neg (by omega)]
      rw [e]; exact ih

theorem allSet_orL {f more : List UInt8} (i x y bits k : Nat) (h : allSet f x y bits k = true) : allSet (orL f more i) x y bits k = true := by
  rw [allSet_iff] at h ⊢
  exact fun j hj => bitAt_orL i _ (h j hj)

/-- What may be in a filter may be in it with more bits set. -/
theorem may_more {f more ask : List UInt8} {i : Nat} (hi : i + 1 ≤ f.length) (h : mayL f ask = true) : mayL (orL f more i) ask = true := by
  have hl := orL_length f more i
  have hlast : (orL f more i).getD (f.length - 1) 0 = f.getD (f.length - 1) 0 := orL_getD i _ (by omega)
  unfold mayL at h ⊢
  rw [hl, hlast]
  split at h
  · next h1 => rw [if_pos h1]
  · next h1 => rw [if_neg h1]; exact allSet_orL i _ _ _ _ h
end Go.Proofs.Ytodjgdaaggajcaa
