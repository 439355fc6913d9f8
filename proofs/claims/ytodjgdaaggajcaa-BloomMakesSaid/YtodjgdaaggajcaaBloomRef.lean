import Derived.Test.YtodjgdaaggajcaaBloomFixed
namespace Go.Proofs.Ytodjgdaaggajcaa
open Go Go.RowKit

def TellsU64 (w : World) (n : Nat) (e : Ending) (w' : World) : Prop := e = .returned (.int .u64 (n : Int)) ∧ w = w'

theorem times_math (a b : Nat) :
    (((a % 4294967296 * (b % 4294967296) / 4294967296 + (a % 4294967296 * (b / 4294967296) % 4294967296 + a / 4294967296 * (b % 4294967296) % 4294967296) % 4294967296) % 4294967296) * 4294967296 + a % 4294967296 * (b % 4294967296) % 4294967296) = a * b % 18446744073709551616 := by
  have ha : a = a % 4294967296 + 4294967296 * (a / 4294967296) := by omega
  have hb : b = b % 4294967296 + 4294967296 * (b / 4294967296) := by omega
  have e : a * b = a % 4294967296 * (b % 4294967296) + 4294967296 * (a % 4294967296 * (b / 4294967296)) + 4294967296 * (a / 4294967296 * (b % 4294967296)) + 18446744073709551616 * (a / 4294967296 * (b / 4294967296)) := by
    generalize a % 4294967296 = l at *
    generalize a / 4294967296 = h at *
    generalize b % 4294967296 = x at *
    generalize b / 4294967296 = y at *
    subst ha hb
    simp only [Nat.add_mul, Nat.mul_add, Nat.mul_assoc]
    have e1 : l * (4294967296 * y) = 4294967296 * (l * y) := by rw [← Nat.mul_assoc, Nat.mul_comm l, Nat.mul_assoc]
    have e2 : h * (4294967296 * y) = 4294967296 * (h * y) := by rw [← Nat.mul_assoc, Nat.mul_comm h, Nat.mul_assoc]
    rw [e1, e2]
    omega
  rw [e]
  generalize a % 4294967296 * (b % 4294967296) = A
  generalize a % 4294967296 * (b / 4294967296) = B
  generalize a / 4294967296 * (b % 4294967296) = C
  generalize a / 4294967296 * (b / 4294967296) = D
  omega

theorem mul_le32 {x y : Nat} (hx : x < 4294967296) (hy : y < 4294967296) : ((x : Int) * (y : Int)) ≤ 18446744065119617025 ∧ 0 ≤ ((x : Int) * (y : Int)) := by
  have h := Nat.mul_le_mul (show x ≤ 4294967295 by omega) (show y ≤ 4294967295 by omega)
  have h2 : ((x * y : Nat) : Int) ≤ 18446744065119617025 := by omega
  rw [Int.natCast_mul] at h2
  exact ⟨h2, Int.mul_nonneg (by omega) (by omega)⟩

set_option maxRecDepth 100000 in
set_option maxHeartbeats 400000 in
theorem times_any (w : World) (a b : Nat) (ha : a < 18446744073709551616) (hb : b < 18446744073709551616) :
    Calls Try.prog 18 #[.int .u64 a, .int .u64 b] w (TellsU64 w (a * b % 18446744073709551616)) := by
  have q1 := mul_le32 (x := a % 4294967296) (y := b % 4294967296) (by omega) (by omega)
  have q2 := mul_le32 (x := a % 4294967296) (y := b / 4294967296) (by omega) (by omega)
  have q3 := mul_le32 (x := a / 4294967296) (y := b % 4294967296) (by omega) (by omega)
  simp only [Int.natCast_emod, Int.natCast_ediv, Int.cast_ofNat_Int] at q1 q2 q3
  go_enter Try.func18, Try.ntmps18
  go_wp2
  go_ret
  refine ⟨?_, rfl⟩
  rw [← times_math]
  refine congrArg Ending.returned (congrArg (Value.int IntKind.u64) ?_)
  simp only [Int.natCast_mul, Int.natCast_add, Int.natCast_emod, Int.natCast_ediv, Int.cast_ofNat_Int]
  generalize (a : Int) % 4294967296 * ((b : Int) % 4294967296) = A at *
  generalize (a : Int) % 4294967296 * ((b : Int) / 4294967296) = B at *
  generalize (a : Int) / 4294967296 * ((b : Int) % 4294967296) = C at *
  omega

set_option maxRecDepth 100000 in
set_option maxHeartbeats 400000 in
theorem refhash_any (w : World) (s : ByteArray) (hs : s.size ≤ 1000000000) :
    Calls Try.prog 13 #[.string s] w (TellsU64 w (hashL s.data.toList)) := by
  have hsl : s.data.toList.length = s.size := Array.length_toList
  have Hsl := Lib.hid hsl
  clear hsl
  go_enter Try.func13, Try.ntmps13
  go_wp2
  go_loop [3, 4] (fun h i => HashRel s.data.toList h i) (fun _ i => s.size - (intOf i).toNat)
  case atStart => exact ⟨0, rfl, Nat.zero_le _, rfl⟩
  case round =>
    obtain ⟨k, rfl, hk, rfl⟩ := hrel
    rw [Hsl.out] at hk
    by_cases hlt : k < s.size
    · have hgd : s.data.toList.getD k 0 = s[k] := by
        rw [List.getD_eq_getElem?_getD, List.getElem?_eq_getElem (by rw [Hsl.out]; exact hlt)]
        rfl
      have hsu := hashL_succ s.data.toList k (by rw [Hsl.out]; exact hlt)
      rw [hgd] at hsu
      have hh := hashL_lt (s.data.toList.take k)
      generalize hashL (s.data.toList.take k) = h at *
      have hc := s[k].toNat_lt
      have hx := bits_xor_u64_nat h s[k].toNat hh (by omega)
      have hxl : h ^^^ s[k].toNat < 18446744073709551616 := Nat.xor_lt_two_pow (n := 64) hh (by omega)
      have Hx := Lib.hid hx
      have Hsu := Lib.hid hsu
      clear hx hsu hgd
      go_wp2_with (go_at_call 18; go_must (rw [Hx.out]; refine (times_any w (h ^^^ s[k].toNat) 1099511628211 hxl (by decide)).mono ?_))
      rintro e w1 ⟨rfl, rfl⟩
      have hst : (h ^^^ s[k].toNat) * 1099511628211 % 18446744073709551616 = hashL (s.data.toList.take (k + 1)) := Hsu.out.symm
      rw [hst]
      clear hst
      go_wp2
      exact ⟨⟨k + 1, by go_num, by rw [Hsl.out]; omega, rfl⟩, by simp [intOf]; omega⟩
    · have e : List.take k s.data.toList = s.data.toList := List.take_of_length_le (by rw [Hsl.out]; omega)
      have E := Lib.hid e
      clear e
      go_wp2
      go_ret
      rw [E.out]
      exact ⟨rfl, rfl⟩

/-- the places of a key -/
def placesL (x y n k : Nat) : List Nat := (List.range k).map fun i => place x y n i

def ucells (l : List Nat) : List Value := l.map fun p : Nat => Value.int .u64 (p : Int)

theorem placesL_succ (x y n k : Nat) : placesL x y n (k + 1) = placesL x y n k ++ [place x y n k] := by
  simp [placesL, List.range_succ]

theorem info30 : (Try.prog.info? 30).map (fun i => (i.zero, i.size, i.bytes)) = some (some (.int .u64 0), 1, 8) := by kernel_rfl

def GivesPlaces (w : World) (l : List Nat) (e : Ending) (w' : World) : Prop :=
  ∃ v', e = .returned v' ∧ Reads w' 1 v' l.length (ucells l) ∧ Below w.heap.size w w' ∧ ∀ b, b < w.heap.size → v'.ownBlock ≠ some b

theorem fresh_start (B : Nat) (w : World) (e : TypeId) (size : Nat) : Fresh B w e size (.slice none 0 0) 0 [] :=
  ⟨Reads.none w size, .inl ⟨none, rfl⟩⟩

theorem step_or (h : Nat) : (if h / 4294967296 % 2 = 0 then h / 4294967296 + 1 else h / 4294967296) = stepOf h := by
  unfold stepOf
  generalize h / 4294967296 = y
  have h2 : y ||| 1 = 2 * (y / 2) + 1 := by
    apply Nat.eq_of_testBit_eq
    intro j
    rw [Nat.testBit_or]
    cases j with
    | zero => simp
    | succ j =>
      rw [Nat.testBit_succ, Nat.testBit_succ, Nat.testBit_succ]
      simp
      congr 1
      omega
  rw [h2]
  split <;> omega

def PlRel (w : World) (x y n K : Nat) (out c : Value) (wr : World) : Prop :=
  ∃ i : Nat, c = .int .i64 (i : Int) ∧ i ≤ K ∧ Fresh w.heap.size wr 30 1 out i (ucells (placesL x y n i)) ∧ Below w.heap.size w wr ∧ ∀ b, b < w.heap.size → out.ownBlock ≠ some b

set_option maxRecDepth 100000 in
set_option maxHeartbeats 1000000 in
theorem places_any (w : World) (s : ByteArray) (K n : Nat) (hs : s.size ≤ 1000000000) (hK : K ≤ 1000) (hn : 0 < n) (hn' : n ≤ 1000000000000) :
    Calls Try.prog 17 #[.string s, .int .i64 K, .int .u64 n] w (GivesPlaces w (placesL (atOf (hashL s.data.toList)) (stepOf (hashL s.data.toList)) n K)) := by
  obtain ⟨i0, hi, hz0, hz1, hz2⟩ := info_parts info30
  have hh := hashL_lt s.data.toList
  have hx := atOf_lt (hashL s.data.toList)
  have hy := stepOf_lt hh
  have hst := step_or (hashL s.data.toList)
  have hat : (hashL s.data.toList : Int) % 4294967296 = (atOf (hashL s.data.toList) : Int) := by unfold atOf; simp
  have href := fun w => refhash_any w s hs
  generalize hashL s.data.toList = h at *
  generalize atOf h = x at *
  generalize stepOf h = y at *
  have Href := Lib.hid href
  have Hst := Lib.hid hst
  have Hat := Lib.hid hat
  clear href hst hat
  have hways : ((((h : Int) / 4294967296 % 2) == 0) = true ∧ (h : Int) / 4294967296 + 1 = (y : Int)) ∨ ((((y : Int) % 2) == 0) = false ∧ (h : Int) / 4294967296 = (y : Int)) := by
    have := Hst.out
    by_cases hodd : h / 4294967296 % 2 = 0
    · rw [if_pos hodd] at this
      exact .inl ⟨by simp; omega, by omega⟩
    · rw [if_neg hodd] at this
      exact .inr ⟨by simp; omega, by omega⟩
  rcases hways with ⟨ho, hy1⟩ | ⟨ho, hy1⟩
  all_goals
    go_enter Try.func17, Try.ntmps17
    go_wp2_with (go_at_call 13; go_must (refine (Href.out _).mono ?_))
    rintro e w1 ⟨rfl, rfl⟩
    go_wp2
    go_loopw [10, 11] (fun out c wr => PlRel w x y n K out c wr) (fun _ c _ => K - (intOf c).toNat)
    case atStart => exact ⟨0, rfl, Nat.zero_le _, fresh_start _ _ _ _, Below.refl _ _, fun _ _ => by simp [Value.ownBlock]⟩
    case round =>
      obtain ⟨i, rfl, hi', hf, hb, hob⟩ := hrel
      have Hob := Lib.hid hob
      clear hob
      clear ho hy1
      by_cases hik : i < K
      · have hik' : (i : Int) < K := by omega
        have hm1 : i * y ≤ 1000 * 4294967296 := Nat.mul_le_mul (by omega) (by omega)
        have hm2 : (i : Int) * (y : Int) ≤ 4294967296000 := by
          rw [← Int.natCast_mul]
          omega
        have hm3 : 0 ≤ (i : Int) * (y : Int) := Int.mul_nonneg (by omega) (by omega)
        have hbs := hb.size
        have hpl : ucells (placesL x y n i) ++ [Value.int .u64 (((x : Int) + (i : Int) * (y : Int)) % (n : Int))] = ucells (placesL x y n (i + 1)) := by
          rw [placesL_succ]
          simp [ucells, place]
        have Hpl := Lib.hid hpl
        clear hpl
        go_wp2_with (at_builtin; go_must (refine wpList_append_one (w0 := wr) rfl _ _ 37 rfl w.heap.size 30 i0 (.int .u64 0) 8 Try.underlying37 hi hz0 hz1 hz2 rfl hf rfl rfl rfl ?_ ?_ hbs ?_))
        · unfold maxLen; omega
        · omega
        intro v' w1 f1 g1 b1 m1
        rw [Hat.out, Hpl.out] at f1
        have hb1 := hb.trans b1
        have hob1 := Lib.hid (fun b (hb' : b < w.heap.size) => m1 b (by omega) (Hob.out b hb'))
        go_wp2
        exact ⟨⟨i + 1, by go_num, by omega, f1, hb1, hob1.out⟩, by simp [intOf]; omega⟩
      · obtain rfl : i = K := by omega
        have hik' : ¬ ((i : Int) < i) := by omega
        have hl : (placesL x y n i).length = i := by simp [placesL]
        have Hl := Lib.hid hl
        have HF := Lib.hid hf
        clear hl hf
        go_wp2
        go_ret
        refine ⟨_, rfl, ?_, hb, Hob.out⟩
        rw [Hl.out]
        exact HF.out.1
end Go.Proofs.Ytodjgdaaggajcaa
