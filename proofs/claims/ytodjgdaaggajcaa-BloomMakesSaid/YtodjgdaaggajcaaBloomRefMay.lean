import Derived.Test.YtodjgdaaggajcaaBloomRef
namespace Go.Proofs.Ytodjgdaaggajcaa
open Go Go.RowKit

theorem reads_at {w : World} {a : Option Addr} {n cap : Nat} {xs : List Value} (h : Reads w 1 (.slice a n cap) n xs) {j : Nat} {u : Value} (hj : xs[j]? = some u) :
    ∃ b off, a = some ⟨b, off, none⟩ ∧ b < w.heap.size ∧ w.cell? ⟨b, off + j, none⟩ = some u := by
  obtain ⟨_, a', cap', hv, _, _, h3⟩ := h
  cases hv
  obtain ⟨b, off, rfl, hb, hc⟩ := h3 j u hj
  exact ⟨b, off, rfl, hb, hc⟩

theorem ucells_at {x y n k i : Nat} (h : i < k) : (ucells (placesL x y n k))[i]? = some (.int .u64 (place x y n i : Int)) := by
  simp [ucells, placesL, h]

def RMayRel (f : List UInt8) (x y n K : Nat) (c : Value) : Prop := ∃ i : Nat, c = .int .i64 (i : Int) ∧ i ≤ K ∧ allSet f x y n i = true

theorem shr_bit (c : UInt8) (p : Nat) : ((c.toNat : Int) / 2 ^ (p % 8)) % 2 = if c.toNat.testBit (p % 8) then 1 else 0 := by
  have e : ((c.toNat : Int) / 2 ^ (p % 8)) % 2 = ((c.toNat / 2 ^ (p % 8) % 2 : Nat) : Int) := by simp
  rw [e, Nat.testBit_eq_decide_div_mod_eq]
  rcases Nat.mod_two_eq_zero_or_one (c.toNat / 2 ^ (p % 8)) with h | h <;> simp [h]

set_option maxRecDepth 100000 in
set_option maxHeartbeats 1000000 in
theorem refmay_any (w : World) (v : Value) (n : Nat) (f : List UInt8) (s : ByteArray) (h : Reads w 1 v n (bcells f)) (hn : n ≤ 1000000) (hs : s.size ≤ 1000000000) :
    Calls Try.prog 11 #[v, .string s] w (GivesBool w (mayL f s.data.toList)) := by
  have hfl : f.length = n := by have := h.1; simpa [bcells_length] using this
  by_cases h9 : n < 9
  · have hm : mayL f s.data.toList = true := by unfold mayL; rw [if_pos (by omega)]
    rw [hm]
    obtain ⟨a, cap, rfl, h1, h2⟩ := h.le
    unfold maxLen at h2
    clear hm h hfl
    have h9' : (n : Int) - 1 < 8 := by omega
    go_enter Try.func11, Try.ntmps11
    go_wp2
    go_ret
    exact ⟨rfl, Below.refl _ _⟩
  · obtain ⟨b, off, cap, rfl, h1, h2, hfl', hcell⟩ := h.head (by omega)
    clear hfl'
    unfold maxLen at h2
    have cl := hcell (n - 1) (by omega)
    have hb0 : b < w.heap.size := World.block_lt_of_cell? _ _ cl
    have h9' : ¬ ((n : Int) - 1 < 8) := by omega
    have e1 : ((n : Int) - 1).toNat = n - 1 := by omega
    generalize hK : (f.getD (n - 1) 0) = K at cl
    by_cases hk1 : K.toNat < 1
    · have hm : mayL f s.data.toList = true := by unfold mayL; rw [hfl, hK, if_pos (by omega)]
      rw [hm]
      clear hm h hfl hcell hK h9
      have hk' : (K.toNat : Int) < 1 := by omega
      go_enter Try.func11, Try.ntmps11
      go_wp2
      go_ret
      exact ⟨rfl, Below.refl _ _⟩
    · by_cases hk2 : 30 < K.toNat
      · have hm : mayL f s.data.toList = true := by unfold mayL; rw [hfl, hK, if_pos (by omega)]
        rw [hm]
        clear hm h hfl hcell hK h9
        have hk' : ¬ (K.toNat : Int) < 1 := by omega
        have hk3 : (30 : Int) < K.toNat := by omega
        go_enter Try.func11, Try.ntmps11
        go_wp2
        go_ret
        exact ⟨rfl, Below.refl _ _⟩
      · have hm : mayL f s.data.toList = allSet f (atOf (hashL s.data.toList)) (stepOf (hashL s.data.toList)) (8 * (n - 1)) K.toNat := by unfold mayL; rw [hfl, hK, if_neg (by omega)]
        rw [hm]
        clear hm
        have hpl := fun w => places_any w s K.toNat (8 * (n - 1)) hs (by omega) (by omega) (by omega)
        generalize atOf (hashL s.data.toList) = x at *
        generalize stepOf (hashL s.data.toList) = y at *
        have hk' : ¬ (K.toNat : Int) < 1 := by omega
        have hk3 : ¬ (30 : Int) < K.toNat := by omega
        have hN8 : 8 * ((n : Int) - 1) = ((8 * (n - 1) : Nat) : Int) := by omega
        have Hpl := Lib.hid hpl
        have Hfl := Lib.hid hfl
        have HR := Lib.hid h
        clear hpl h hcell hfl hK
        generalize hM : 8 * (n - 1) = M at *
        have HM := Lib.hid hM
        clear hM
        go_enter Try.func11, Try.ntmps11
        go_wp2_with (go_at_call 17; go_must (refine (Hpl.out _).mono ?_))
        rintro e w1 ⟨vp, rfl, rp, b1, _⟩
        obtain ⟨ap, cpp, rfl, hp1, hp2⟩ := rp.le
        unfold maxLen at hp2
        have hpl1 : (placesL x y M K.toNat).length = K.toNat := by simp [placesL]
        rw [hpl1] at rp hp1 ⊢
        have RP := Lib.hid rp
        have B1 := Lib.hid b1
        clear rp b1 hpl1 hN8
        go_wp2
        go_loop [38] (fun c => RMayRel f x y M K.toNat c) (fun c => 255 - (intOf c).toNat)
        case atStart => exact ⟨0, rfl, Nat.zero_le _, rfl⟩
        case round =>
          obtain ⟨i, rfl, hi, hall⟩ := hrel
          have Hall := Lib.hid hall
          clear hall
          by_cases hlt : i < K.toNat
          · have hlt' : (i : Int) < K.toNat := by omega
            obtain ⟨bp, op, rfl, hbp, hcp⟩ := reads_at RP.out (ucells_at hlt)
            have hpl : place x y M i < M := Nat.mod_lt _ (by have := HM.out; omega)
            have hp8 : place x y M i / 8 < n := by have := HM.out; omega
            have cp := (HR.out.below' B1.out).bcell (place x y M i / 8) hp8
            have hall1 : allSet f x y M (i + 1) = (allSet f x y M i && bitAt f (place x y M i)) := rfl
            have hsb := shr_bit (f.getD (place x y M i / 8) 0) (place x y M i)
            have hbit : bitAt f (place x y M i) = (f.getD (place x y M i / 8) 0).toNat.testBit (place x y M i % 8) := rfl
            generalize place x y M i = p at *
            generalize f.getD (p / 8) 0 = c at *
            have Hall1 := Lib.hid hall1
            have Hsb := Lib.hid hsb
            have Hbit := Lib.hid hbit
            have hp8' : (p : Int) / 8 < n := by omega
            have hp8'' : ((p : Int) / 8).toNat = p / 8 := by omega
            clear hall1 hsb hbit
            have htm : ((c.toNat : Int) / 2 ^ (p % 8)).tmod 2 = ((c.toNat : Int) / 2 ^ (p % 8)) % 2 := Int.tmod_eq_emod_of_nonneg (Int.ediv_nonneg (by omega) (Int.pow_nonneg (by decide)))
            by_cases hb : c.toNat.testBit (p % 8) = true
            · have ht : (((c.toNat : Int) / 2 ^ (p % 8)).tmod 2 == 0) = false := by rw [htm, Hsb.out, if_pos hb]; rfl
              have Hb := Lib.hid hb
              clear htm hb
              go_wp2
              refine ⟨⟨i + 1, by go_num, by omega, ?_⟩, by simp [intOf]; omega⟩
              rw [Hall1.out, Hall.out, Hbit.out, Hb.out]
              rfl
            · have ht : (((c.toNat : Int) / 2 ^ (p % 8)).tmod 2 == 0) = true := by rw [htm, Hsb.out, if_neg hb]; rfl
              have hKle : allSet f x y M K.toNat = false := by
                cases hc : allSet f x y M K.toNat with
                | false => rfl
                | true =>
                  have h1 := (allSet_iff _).1 hc
                  have h2 : allSet f x y M (i + 1) = true := (allSet_iff _).2 fun j hj => h1 j (by omega)
                  rw [Hall1.out, Hbit.out] at h2
                  simp [hb] at h2
              have HKle := Lib.hid hKle
              clear htm hb hKle
              go_wp2
              go_ret
              rw [HKle.out]
              exact ⟨rfl, B1.out⟩
          · obtain rfl : i = K.toNat := by omega
            have hlt' : ¬ ((K.toNat : Int) < K.toNat) := by omega
            go_wp2
            go_ret
            rw [Hall.out]
            exact ⟨rfl, B1.out⟩
end Go.Proofs.Ytodjgdaaggajcaa
