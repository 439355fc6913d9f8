import Derived.Test.YthjimldojdhccaaRows
import Derived.Test.YthjimldojdhccaaMga
namespace Go.Proofs.Ythjimldojdhccaa
open Go.RowKit

set_option maxHeartbeats 400000 in
theorem behind_any (a : Option Addr) (n cap : Nat) (h1 : n ≤ cap) (_h2 : cap ≤ maxLen) (w : World) :
    Calls Try.prog 53 #[.slice a n cap] w fun e w' => e = .returned (.slice a n n) ∧ w = w' := by
  unfold maxLen at _h2
  go_enter Try.func53, Try.ntmps53
  go_wp2
  go_ret
  exact ⟨rfl, rfl⟩

theorem or128_all : ∀ r : Fin 256, bits BinOp.or .u8 ((r.val : Nat) : Int) 128 = ((r.val % 128 + 128 : Nat) : Int) := by decide +kernel

theorem or128 (M : Nat) : bits BinOp.or .u8 ((M : Int) % 256) 128 = ((UInt8.ofNat (M % 128 + 128)).toNat : Int) := by
  have h := or128_all ⟨M % 256, Nat.mod_lt _ (by omega)⟩
  have e : ((M % 256 : Nat) : Int) = (M : Int) % 256 := by omega
  simp only [e] at h
  rw [h]
  simp
  omega

def PutRel (w : World) (xs : List UInt8) (N : Nat) (s m : Value) (wr : World) : Prop :=
  ∃ (ys : List UInt8) (M : Nat), m = .int .u64 (M : Int) ∧ M ≤ N ∧ ys.length + (enc M).length ≤ xs.length + 10 ∧ xs ++ enc N = ys ++ enc M ∧ Fresh w.heap.size wr 5 1 s ys.length (bcells ys) ∧ Below w.heap.size w wr

set_option maxHeartbeats 400000 in
set_option maxRecDepth 100000 in
theorem put_any (w : World) (v : Value) (xs : List UInt8) (N : Nat) (h : Reads w 1 v xs.length (bcells xs)) (hn : xs.length ≤ 1000000000) (hN : N < 18446744073709551616) :
    Calls Try.prog 40 #[v, .int .u64 N] w (GivesBytes w (xs ++ enc N)) := by
  obtain ⟨i0, hi, hz0, hz1, hz2⟩ := info_parts info5
  have hel := enc_length_le 9 N (by omega)
  obtain ⟨hl, a, cap, rfl, h1, h2, h3⟩ := h
  have hf : Fresh w.heap.size w 5 1 (.slice a xs.length xs.length) xs.length (bcells xs) := ⟨⟨hl, a, _, rfl, Nat.le_refl _, Nat.le_trans h1 h2, h3⟩, .inl ⟨a, rfl⟩⟩
  have HN := Lib.hid hN
  clear hl h3 hN
  go_enter Try.func40, Try.ntmps40
  go_wp2_with (go_at_call 53; refine (behind_any _ _ _ h1 h2 _).mono ?_; rintro e w' ⟨rfl, rfl⟩)
  clear h1 h2
  go_loopw [0, 1] (fun s m wr => PutRel w xs N s m wr) (fun _ m _ => (intOf m).toNat)
  case atStart => exact ⟨xs, N, rfl, Nat.le_refl _, by omega, rfl, hf, Below.refl _ _⟩
  case round =>
    obtain ⟨ys, M, rfl, hM, hk, heq, hfr, hb⟩ := hrel
    have hbs := hb.size
    have Heq := Lib.hid heq
    clear heq hf hel
    by_cases hc : M < 128
    · rw [enc_lt hc] at hk
      simp at hk
      have e1 : (M : Int) < 128 := by omega
      go_wp2_with (at_builtin; go_must (refine wpList_append_one (w0 := wr) rfl _ _ 29 rfl w.heap.size 5 i0 (.int .u8 0) 1 Try.underlying29 hi hz0 hz1 hz2 rfl hfr rfl rfl rfl ?_ ?_ hbs ?_))
      · unfold maxLen; omega
      · omega
      intro v' w1 f1 g1 b1 m1
      rw [bcells_snoc ys (UInt8.ofNat M) (by simp; omega)] at f1
      go_wp2
      go_ret
      rw [← enc_lt hc, ← Heq.out] at f1
      refine ⟨_, rfl, ?_, hb.trans b1⟩
      have e2 : (xs ++ enc N).length = ys.length + 1 := by rw [Heq.out, enc_lt hc]; simp
      rw [e2]
      exact f1
    · have e1 : (128 : Int) ≤ M := by omega
      go_wp2_with (at_builtin; go_must (refine wpList_append_one (w0 := wr) rfl _ _ 29 rfl w.heap.size 5 i0 (.int .u8 0) 1 Try.underlying29 hi hz0 hz1 hz2 rfl hfr rfl rfl rfl ?_ ?_ hbs ?_))
      · unfold maxLen; omega
      · omega
      intro v' w1 f1 g1 b1 m1
      rw [bcells_snoc ys _ (or128 M)] at f1
      rw [enc_ge hc] at hk
      simp at hk
      go_wp2
      refine ⟨⟨ys ++ [UInt8.ofNat (M % 128 + 128)], M / 128, by simp, by omega, by simp; omega, ?_, by simpa using f1, hb.trans b1⟩, by simp [intOf]; omega⟩
      rw [Heq.out, enc_ge hc]
      simp

theorem get_step (V k : Nat) (c : UInt8) (hV : V < 128 ^ k) (hk : k < 10) :
    bits BinOp.or .u64 (V : Int) (IntKind.u64.wrap (IntKind.u64.wrap (bits BinOp.and .u8 (c.toNat : Int) 127) * 2 ^ (7 * k))) = ((V + c.toNat % 128 * 128 ^ k % 18446744073709551616 : Nat) : Int) := by
  have hc := c.toNat_lt
  have e128 : (128 : Nat) ^ k = 2 ^ (7 * k) := by rw [Nat.pow_mul]
  have e1 := u8_and_nat c.toNat 127 (by omega) (by omega)
  rw [nat_mask7] at e1
  simp only [Int.cast_ofNat_Int] at e1
  rw [e1, IntKind.wrap_u64, IntKind.wrap_u64]
  have e2 : ((c.toNat % 128 : Nat) : Int) % 18446744073709551616 * 2 ^ (7 * k) % 18446744073709551616 = ((c.toNat % 128 * 128 ^ k % 18446744073709551616 : Nat) : Int) := by
    rw [e128, show ((c.toNat % 128 : Nat) : Int) % 18446744073709551616 = ((c.toNat % 128 : Nat) : Int) by omega]
    simp
  rw [e2]
  have hV' : V < 18446744073709551616 := Nat.lt_of_lt_of_le hV (by
    rw [e128]
    exact Nat.le_trans (Nat.pow_le_pow_right (by omega) (show 7 * k ≤ 63 by omega)) (by decide))
  rw [bits_or_u64_nat _ _ hV' (Nat.mod_lt _ (by omega)), Nat.or_comm, nat_join (7 * k), Nat.add_comm]
  · have hd : 2 ^ (7 * k) ∣ 18446744073709551616 := by
      have : (18446744073709551616 : Nat) = 2 ^ (7 * k) * 2 ^ (64 - 7 * k) := by rw [← Nat.pow_add, show 7 * k + (64 - 7 * k) = 64 by omega]
      exact ⟨_, this⟩
    rw [e128, Nat.mod_mod_of_dvd _ hd]
    simp
  · rw [← e128]; exact hV

def GetPost (w : World) (r : Nat × Nat × Nat) (e : Ending) (w' : World) : Prop :=
  e = .returned (.tuple #[.int .u64 (r.1 : Int), .int .i64 (r.2.1 : Int), .int .i64 (r.2.2 : Int)]) ∧ w = w'

def GetRel (l : List UInt8) (v c : Value) : Prop :=
  ∃ (k V : Nat), c = .int .i64 (k : Int) ∧ v = .int .u64 (V : Int) ∧ k ≤ l.length ∧ k ≤ 10 ∧ V < 128 ^ k ∧ getGo 0 0 l = getGo k V (l.drop k)

set_option maxRecDepth 100000 in
set_option maxHeartbeats 400000 in
theorem get_any (w : World) (v : Value) (n : Nat) (l : List UInt8) (h : Reads w 1 v n (bcells l)) :
    Calls Try.prog 43 #[v] w (GetPost w (getGo 0 0 l)) := by
  by_cases hp : n = 0
  · obtain ⟨hl, a, cap, rfl, h1, h2, h3⟩ := h
    subst hp
    have : l = [] := by simpa [bcells_length] using hl
    subst this
    clear h3 hl
    unfold maxLen at h2
    go_enter Try.func43, Try.ntmps43
    go_wp2
    refine wp_loop_rounds 1 ?_
    rw [rounds_succ]
    go_wp2
    go_ret3
    exact ⟨rfl, rfl⟩
  · obtain ⟨b, off, cap, rfl, h1, h2, hl, hcell⟩ := h.head (by omega)
    unfold maxLen at h2
    clear h
    by_cases hm : n ≤ 10
    · have hm' : (n : Int) ≤ 10 := by omega
      go_enter Try.func43, Try.ntmps43
      go_wp2
      go_loop [5, 11] (fun v c => GetRel l v c) (fun _ c => 20 - (intOf c).toNat)
      case atStart => exact ⟨0, 0, rfl, rfl, by omega, by omega, by simp, rfl⟩
      case round =>
        obtain ⟨k, V, rfl, rfl, hk, hk10, hV, heq⟩ := hrel
        have hcell' : k < n → w.cell? ⟨b, off + k, none⟩ = some (.int .u8 ((l.getD k 0).toNat : Int)) := fun h => hcell k h
        have Heq := Lib.hid heq
        have Hc := Lib.hid hcell
        have HV := Lib.hid hV
        clear heq hcell hV
        by_cases hkn : k < n
        · have c0 := hcell' hkn
          generalize hc : l.getD k 0 = c at c0
          have Hcc := Lib.hid hc
          clear hc hcell'
          have hcl := c.toNat_lt
          have hs := get_step V k c HV.out (by omega)
          have Hs := Lib.hid hs
          clear hs
          by_cases h128 : 128 ≤ c.toNat
          · go_wp2_with fail
            rw [Hs.out]
            refine ⟨⟨k + 1, _, by go_num, rfl, by omega, by omega, get_grows HV.out, ?_⟩, by simp [intOf]; omega⟩
            have h1 := Hcc.out
            rw [Heq.out, getGo_more (by omega) (by omega) (by rw [h1]; exact h128), h1]
          · by_cases g1 : 0 < k ∧ c.toNat = 0
            · have g2 : ((0 : Int) < k) := by omega
              have g3 : (((c.toNat : Int)) == 0) = true := by simp; omega
              go_wp2_with fail
              go_ret3
              refine ⟨?_, rfl⟩
              rw [Heq.out, getGo_bad (by omega) (by omega) (by rw [Hcc.out]; exact h128) (by rw [Hcc.out]; omega)]
              rfl
            · by_cases g4 : k = 9 ∧ 1 < c.toNat
              · have g2 : ((0 : Int) < k) := by omega
                have g3 : (((c.toNat : Int)) == 0) = false := by simp; omega
                have g5 : ((k : Int) == 9) = true := by simp; omega
                have g6 : (1 : Int) < c.toNat := by omega
                have G1 := Lib.hid g1
                have G4 := Lib.hid g4
                clear g1 g4
                go_wp2_with fail
                go_ret3
                refine ⟨?_, rfl⟩
                have g4 := G4.out
                rw [Heq.out, getGo_bad (by omega) (by omega) (by rw [Hcc.out]; exact h128) (by rw [Hcc.out]; omega)]
                rfl
              · have G1 := Lib.hid g1
                have G4 := Lib.hid g4
                clear g1 g4
                by_cases g2 : 0 < k
                · have g2' : ((0 : Int) < k) := by omega
                  have g3 : (((c.toNat : Int)) == 0) = false := by have := G1.out; simp; omega
                  by_cases g5 : k = 9
                  · have g5' : ((k : Int) == 9) = true := by simp; omega
                    have g6 : ¬ (1 : Int) < c.toNat := by have := G4.out; omega
                    have G5 := Lib.hid g5
                    clear g5
                    go_wp2_with fail
                    go_ret3
                    refine ⟨?_, rfl⟩
                    have g1 := G1.out
                    have g4 := G4.out
                    rw [Heq.out, getGo_good (by omega) (by omega) (by rw [Hcc.out]; exact h128) (by rw [Hcc.out]; omega), Hcc.out, Hs.out]
                    simp
                  · have g5' : ((k : Int) == 9) = false := by simp; omega
                    go_wp2_with fail
                    go_ret3
                    refine ⟨?_, rfl⟩
                    have g1 := G1.out
                    have g4 := G4.out
                    rw [Heq.out, getGo_good (by omega) (by omega) (by rw [Hcc.out]; exact h128) (by rw [Hcc.out]; omega), Hcc.out, Hs.out]
                    simp
                · have g2' : ¬ ((0 : Int) < k) := by omega
                  have g5' : ((k : Int) == 9) = false := by simp; omega
                  go_wp2_with fail
                  go_ret3
                  refine ⟨?_, rfl⟩
                  have g1 := G1.out
                  have g4 := G4.out
                  rw [Heq.out, getGo_good (by omega) (by omega) (by rw [Hcc.out]; exact h128) (by rw [Hcc.out]; omega), Hcc.out, Hs.out]
                  simp
        · have hkn' : ¬ ((k : Int) < n) := by omega
          by_cases h10 : n = 10
          · have h10' : ((10 : Int) ≤ n) := by omega
            have H10 := Lib.hid h10
            clear h10
            go_wp2_with fail
            go_ret3
            refine ⟨?_, rfl⟩
            rw [Heq.out, getGo_end (by omega)]
            have := H10.out
            rw [if_pos (by omega)]
            rfl
          · have h10' : ¬ ((10 : Int) ≤ n) := by omega
            go_wp2_with fail
            go_ret3
            refine ⟨?_, rfl⟩
            rw [Heq.out, getGo_end (by omega), if_neg (by omega)]
            rfl
    · have hm' : ¬ (n : Int) ≤ 10 := by omega
      go_enter Try.func43, Try.ntmps43
      go_wp2
      go_loop [5, 11] (fun v c => GetRel l v c) (fun _ c => 20 - (intOf c).toNat)
      case atStart => exact ⟨0, 0, rfl, rfl, by omega, by omega, by simp, rfl⟩
      case round =>
        obtain ⟨k, V, rfl, rfl, hk, hk10, hV, heq⟩ := hrel
        have hcell' : k < n → w.cell? ⟨b, off + k, none⟩ = some (.int .u8 ((l.getD k 0).toNat : Int)) := fun h => hcell k h
        have Heq := Lib.hid heq
        have Hc := Lib.hid hcell
        have HV := Lib.hid hV
        clear heq hcell hV
        by_cases hkn : k < 10
        · have c0 := hcell' (by omega)
          generalize hc : l.getD k 0 = c at c0
          have Hcc := Lib.hid hc
          clear hc hcell'
          have hcl := c.toNat_lt
          have hs := get_step V k c HV.out (by omega)
          have Hs := Lib.hid hs
          clear hs
          by_cases h128 : 128 ≤ c.toNat
          · go_wp2_with fail
            rw [Hs.out]
            refine ⟨⟨k + 1, _, by go_num, rfl, by omega, by omega, get_grows HV.out, ?_⟩, by simp [intOf]; omega⟩
            have h1 := Hcc.out
            rw [Heq.out, getGo_more (by omega) (by omega) (by rw [h1]; exact h128), h1]
          · by_cases g1 : 0 < k ∧ c.toNat = 0
            · have g2 : ((0 : Int) < k) := by omega
              have g3 : (((c.toNat : Int)) == 0) = true := by simp; omega
              go_wp2_with fail
              go_ret3
              refine ⟨?_, rfl⟩
              rw [Heq.out, getGo_bad (by omega) (by omega) (by rw [Hcc.out]; exact h128) (by rw [Hcc.out]; omega)]
              rfl
            · by_cases g4 : k = 9 ∧ 1 < c.toNat
              · have g2 : ((0 : Int) < k) := by omega
                have g3 : (((c.toNat : Int)) == 0) = false := by simp; omega
                have g5 : ((k : Int) == 9) = true := by simp; omega
                have g6 : (1 : Int) < c.toNat := by omega
                have G1 := Lib.hid g1
                have G4 := Lib.hid g4
                clear g1 g4
                go_wp2_with fail
                go_ret3
                refine ⟨?_, rfl⟩
                have g4 := G4.out
                rw [Heq.out, getGo_bad (by omega) (by omega) (by rw [Hcc.out]; exact h128) (by rw [Hcc.out]; omega)]
                rfl
              · have G1 := Lib.hid g1
                have G4 := Lib.hid g4
                clear g1 g4
                by_cases g2 : 0 < k
                · have g2' : ((0 : Int) < k) := by omega
                  have g3 : (((c.toNat : Int)) == 0) = false := by have := G1.out; simp; omega
                  by_cases g5 : k = 9
                  · have g5' : ((k : Int) == 9) = true := by simp; omega
                    have g6 : ¬ (1 : Int) < c.toNat := by have := G4.out; omega
                    have G5 := Lib.hid g5
                    clear g5
                    go_wp2_with fail
                    go_ret3
                    refine ⟨?_, rfl⟩
                    have g1 := G1.out
                    have g4 := G4.out
                    rw [Heq.out, getGo_good (by omega) (by omega) (by rw [Hcc.out]; exact h128) (by rw [Hcc.out]; omega), Hcc.out, Hs.out]
                    simp
                  · have g5' : ((k : Int) == 9) = false := by simp; omega
                    go_wp2_with fail
                    go_ret3
                    refine ⟨?_, rfl⟩
                    have g1 := G1.out
                    have g4 := G4.out
                    rw [Heq.out, getGo_good (by omega) (by omega) (by rw [Hcc.out]; exact h128) (by rw [Hcc.out]; omega), Hcc.out, Hs.out]
                    simp
                · have g2' : ¬ ((0 : Int) < k) := by omega
                  have g5' : ((k : Int) == 9) = false := by simp; omega
                  go_wp2_with fail
                  go_ret3
                  refine ⟨?_, rfl⟩
                  have g1 := G1.out
                  have g4 := G4.out
                  rw [Heq.out, getGo_good (by omega) (by omega) (by rw [Hcc.out]; exact h128) (by rw [Hcc.out]; omega), Hcc.out, Hs.out]
                  simp
        · have hkn' : ¬ ((k : Int) < 10) := by omega
          have h10' : ((10 : Int) ≤ n) := by omega
          obtain rfl : k = 10 := by omega
          go_wp2_with fail
          go_ret3
          refine ⟨?_, rfl⟩
          rw [Heq.out, getGo_ten]
          rfl
end Go.Proofs.Ythjimldojdhccaa
