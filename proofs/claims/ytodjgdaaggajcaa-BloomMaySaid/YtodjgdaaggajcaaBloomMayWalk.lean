import Derived.Test.YtodjgdaaggajcaaBloomStep
namespace Go.Proofs.Ytodjgdaaggajcaa
open Go Go.RowKit

theorem and_two_pow (n i : Nat) : n &&& 2 ^ i = if n.testBit i then 2 ^ i else 0 := by
  apply Nat.eq_of_testBit_eq
  intro j
  rw [Nat.testBit_and, Nat.testBit_two_pow]
  by_cases h : i = j
  · subst h
    by_cases hb : n.testBit i = true
    · simp [hb]
    · simp at hb; simp [hb]
  · by_cases hb : n.testBit i = true
    · simp [h, hb]
    · simp [h, hb]

theorem and_bit (c : UInt8) (p : Nat) : bits BinOp.and .u8 (c.toNat : Int) ((2 ^ (p % 8) : Nat) : Int) = if c.toNat.testBit (p % 8) then ((2 ^ (p % 8) : Nat) : Int) else 0 := by
  have h2 : 2 ^ (p % 8) < 2 ^ 8 := Nat.pow_lt_pow_right (by decide) (Nat.mod_lt _ (by decide))
  have hc := c.toNat_lt
  rw [u8_and_nat c.toNat _ (by omega) (by simpa using h2), and_two_pow]
  by_cases hb : c.toNat.testBit (p % 8) = true
  · rw [if_pos hb, if_pos hb]
  · rw [if_neg hb, if_neg hb]; rfl

theorem bit_is (f : List UInt8) (p : Nat) (h : bitAt f p = true) : (bits BinOp.and .u8 ((f.getD (p / 8) 0).toNat : Int) ((2 : Int) ^ (p % 8)) == 0) = false := by
  unfold bitAt at h
  rw [show ((2 : Int) ^ (p % 8)) = ((2 ^ (p % 8) : Nat) : Int) from by simp]
  rw [and_bit, if_pos h]
  have : 0 < 2 ^ (p % 8) := Nat.pow_pos (by decide)
  have h0 : ¬ (2 : Nat) ^ (p % 8) = 0 := by omega
  rw [beq_eq_false_iff_ne]
  exact_mod_cast h0

theorem bit_not (f : List UInt8) (p : Nat) (h : bitAt f p = false) : (bits BinOp.and .u8 ((f.getD (p / 8) 0).toNat : Int) ((2 : Int) ^ (p % 8)) == 0) = true := by
  unfold bitAt at h
  rw [show ((2 : Int) ^ (p % 8)) = ((2 ^ (p % 8) : Nat) : Int) from by simp]
  rw [and_bit, if_neg (by rw [h]; decide)]
  rfl

/-- A walk's struct that has just been stored. -/
theorem walk_stored (w : World) (z0 z1 z2 a b c : Value) (t : TypeId) :
    ((((w.alloc (.cells #[z0, z1, z2] t)).setCell ⟨w.heap.size, 0, none⟩ a).setCell ⟨w.heap.size, 1, none⟩ b).setCell ⟨w.heap.size, 2, none⟩ c).heap[w.heap.size]? = some (.cells #[a, b, c] t (0, 0)) := by
  have h0 := heap_alloc_new w (.cells #[z0, z1, z2] t)
  have h1 := heap_setCell_same _ _ 0 _ _ a h0
  have h2 := heap_setCell_same _ _ 1 _ _ b h1
  have h3 := heap_setCell_same _ _ 2 _ _ c h2
  rw [h3]
  simp

def MayRel (w : World) (f : List UInt8) (g x y n : Nat) (c : Value) (wr : World) : Prop :=
  ∃ i : Nat, c = .int .u8 (i : Int) ∧ i ≤ (f.getD (f.length - 1) 0).toNat ∧ allSet f x y n i = true ∧
    wr.heap[g]? = some (.cells #[.int .u64 ((x + i * y : Nat) : Int), .int .u64 (y : Int), .int .u64 (n : Int)] 33 (0, 0)) ∧ Below w.heap.size w wr

set_option maxRecDepth 100000 in
set_option maxHeartbeats 1000000 in
theorem may_any (w : World) (v : Value) (n : Nat) (f : List UInt8) (s : ByteArray) (h : Reads w 1 v n (bcells f)) (hn : n ≤ 1000000) (hs : s.size ≤ 1000000000) :
    Calls Try.prog 10 #[v, .string s] w (GivesBool w (mayL f s.data.toList)) := by
  have hfl : f.length = n := by have := h.1; simpa [bcells_length] using this
  by_cases h9 : n < 9
  · have hm : mayL f s.data.toList = true := by unfold mayL; rw [if_pos (by omega)]
    rw [hm]
    obtain ⟨a, cap, rfl, h1, h2⟩ := h.le
    unfold maxLen at h2
    clear hm h hfl
    have h9' : (n : Int) < 9 := by omega
    go_enter Try.func10, Try.ntmps10
    go_wp2
    go_ret
    exact ⟨rfl, Below.refl _ _⟩
  · obtain ⟨b, off, cap, rfl, h1, h2, hfl', hcell⟩ := h.head (by omega)
    clear hfl'
    unfold maxLen at h2
    have cl := hcell (n - 1) (by omega)
    rw [show (((off + (n - 1) : Nat))) = off + (n - 1) from rfl] at cl
    have hb0 : b < w.heap.size := World.block_lt_of_cell? _ _ cl
    have h9' : ¬ (n : Int) < 9 := by omega
    have e1 : ((n : Int) - 1).toNat = n - 1 := by omega
    generalize hK : (f.getD (n - 1) 0) = K at cl
    by_cases hk1 : K.toNat < 1
    · have hm : mayL f s.data.toList = true := by unfold mayL; rw [hfl, hK, if_pos (by omega)]
      rw [hm]
      clear hm h hfl hcell hK h9
      have hk' : (K.toNat : Int) < 1 := by omega
      go_enter Try.func10, Try.ntmps10
      go_wp2
      go_ret
      exact ⟨rfl, Below.refl _ _⟩
    · by_cases hk2 : 30 < K.toNat
      · have hm : mayL f s.data.toList = true := by unfold mayL; rw [hfl, hK, if_pos (by omega)]
        rw [hm]
        clear hm h hfl hcell hK h9
        have hk' : ¬ (K.toNat : Int) < 1 := by omega
        have hk3 : (30 : Int) < K.toNat := by omega
        go_enter Try.func10, Try.ntmps10
        go_wp2
        go_ret
        exact ⟨rfl, Below.refl _ _⟩
      · have hm : mayL f s.data.toList = allSet f (atOf (hashL s.data.toList)) (stepOf (hashL s.data.toList)) (8 * (n - 1)) K.toNat := by unfold mayL; rw [hfl, hK, if_neg (by omega)]
        rw [hm]
        clear hm
        have hh := hashL_lt s.data.toList
        have hx := atOf_lt (hashL s.data.toList)
        have hy := stepOf_lt hh
        have hst := fun w N hN => start_any w s N (8 * (n - 1)) hN hs (by omega)
        generalize atOf (hashL s.data.toList) = x at *
        generalize stepOf (hashL s.data.toList) = y at *
        have hk' : ¬ (K.toNat : Int) < 1 := by omega
        have hk3 : ¬ (30 : Int) < K.toNat := by omega
        have Hst := Lib.hid hst
        have Hfl := Lib.hid hfl
        have HK := Lib.hid hK
        have HR := Lib.hid h
        clear hst hh h hcell hfl hK
        generalize hN8 : 8 * (n - 1) = M at *
        have HN8 := Lib.hid hN8
        clear hN8
        go_enter Try.func10, Try.ntmps10
        go_wp2_with (go_at_call 15; go_must (refine (Hst.out _ _ ?_).mono ?_))
        · have := HN8.out; omega
        rintro e w1 ⟨rfl, b1⟩
        have hs1 := b1.size
        have cl1 := (b1.cell (p := ⟨b, off + (n - 1), none⟩) hb0).trans cl
        have b2 : Below w.heap.size w (w1.alloc (.cells #[.int .u64 (x : Int), .int .u64 (y : Int), .int .u64 (M : Int)] 33)) := b1.alloc (b1.size) _
        have cl2 := (b2.cell (p := ⟨b, off + (n - 1), none⟩) hb0).trans cl
        have B2 := Lib.hid b2
        clear b1 b2 cl1
        go_wp2
        go_loopw [37] (fun c wr => MayRel w f w1.heap.size x y M c wr) (fun c _ => 255 - (intOf c).toNat)
        case atStart =>
          exact ⟨0, rfl, Nat.zero_le _, rfl, by simpa using heap_alloc_new w1 _, B2.out⟩
        case round =>
          obtain ⟨i, rfl, hi, hall, hg, hb⟩ := hrel
          rw [Hfl.out, HK.out] at hi
          have hall' := Lib.hid hall
          clear hall
          by_cases hlt : i < K.toNat
          · have hlt' : (i : Int) < K.toNat := by omega
            have hM := HN8.out
            have him : i * y ≤ 30 * y := Nat.mul_le_mul_right _ (by omega)
            clear cl cl2
            go_wp2_with (go_at_call 16; go_must (refine (next_any wr w1.heap.size (x + i * y) y M hg (by omega) (by omega) (by omega)).mono ?_))
            rintro e w2 ⟨rfl, hg2, gr2⟩
            have hpl : (x + i * y) % M < M := Nat.mod_lt _ (by omega)
            have hp8 : (x + i * y) % M / 8 < n := by omega
            have hb2 : Below w.heap.size w w2 := hb.grown gr2 (by have := hb.size; omega) (fun k hk => by cases hk; omega)
            have hsum : x + i * y + y = x + (i + 1) * y := by rw [Nat.add_mul]; omega
            rw [hsum] at hg2
            have cp := (HR.out.below hb2 (fun b' hb' => by cases hb'; exact hb0)).bcell ((x + i * y) % M / 8) hp8
            have hall1 : allSet f x y M (i + 1) = (allSet f x y M i && bitAt f ((x + i * y) % M)) := rfl
            have bi := bit_is f ((x + i * y) % M)
            have bn := bit_not f ((x + i * y) % M)
            generalize (x + i * y) % M = p at *
            generalize f.getD (p / 8) 0 = c at cp bi bn
            have Hall1 := Lib.hid hall1
            have HM8 := Lib.hid hM
            clear hall1 hsum hM hg hb gr2 him
            by_cases hbit : bitAt f p = true
            · have bi' := bi hbit
              have Hbit := Lib.hid hbit
              clear bi bn hbit
              go_wp2
              refine ⟨⟨i + 1, by go_num, by rw [Hfl.out, HK.out]; omega, ?_, hg2, hb2⟩, by simp [intOf]; omega⟩
              rw [Hall1.out, hall'.out, Hbit.out]; rfl
            · have hbf : bitAt f p = false := by simpa using hbit
              have bi' := bn hbf
              have Hbit := Lib.hid hbf
              have hKle : allSet f x y M K.toNat = false := by
                cases hc : allSet f x y M K.toNat with
                | false => rfl
                | true =>
                  have h1 := (allSet_iff _).1 hc
                  have h2 : allSet f x y M (i + 1) = true := (allSet_iff _).2 fun j hj => h1 j (by omega)
                  rw [Hall1.out, hbf] at h2
                  simp at h2
              have HKle := Lib.hid hKle
              clear bi bn hbit hbf hKle
              go_wp2
              go_ret
              rw [HKle.out]
              exact ⟨rfl, hb2⟩
          · obtain rfl : i = K.toNat := by omega
            have hlt' : ¬ (K.toNat : Int) < K.toNat := by omega
            clear hg
            go_wp2
            go_ret
            rw [hall'.out]
            exact ⟨rfl, hb⟩
end Go.Proofs.Ytodjgdaaggajcaa
