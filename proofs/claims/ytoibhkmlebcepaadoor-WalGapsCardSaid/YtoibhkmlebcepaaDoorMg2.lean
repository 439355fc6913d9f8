/- What the proof stands on, part 2. -/
import Derived.Test.YtoibhkmlebcepaaDoorMg1
import Derived.Test.YtoibhkmlebcepaaDoorRows
namespace Go.Proofs.YtoibhkmlebcepaaDoor
open Go.RowKit

set_option maxHeartbeats 400000 in
theorem behind_any (a : Option Addr) (n cap : Nat) (h1 : n ≤ cap) (_h2 : cap ≤ maxLen) (w : World) :
    Calls Tryd.prog 35 #[.slice a n cap] w fun e w' => e = .returned (.slice a n n) ∧ w = w' := by
  unfold maxLen at _h2
  go_enter Tryd.func35, Tryd.ntmps35
  go_wp2
  go_ret
  exact ⟨rfl, rfl⟩

theorem or128_all : ∀ r : Fin 256, bits BinOp.or .u8 ((r.val : Nat) : Int) 128 = ((r.val % 128 + 128 : Nat) : Int) := by decide +kernel

theorem or128 (M : Nat) : bits BinOp.or .u8 ((M : Int) % 256) 128 = ((UInt8.ofNat (M % 128 + 128)).toNat : Int) := by
  have h := or128_all ⟨M % 256, Nat.mod_lt _ (by omega)⟩
  have e : ((M % 256 : Nat) : Int) = (M : Int) % 256 := by omega
  simp only [e] at h
  rw [h]
  simp
  omega

def PutRel (w : World) (xs : List UInt8) (N : Nat) (s m : Value) (wr : World) : Prop :=
  ∃ (ys : List UInt8) (M : Nat), m = .int .u64 (M : Int) ∧ M ≤ N ∧ ys.length + (enc M).length ≤ xs.length + 10 ∧ xs ++ enc N = ys ++ enc M ∧ Fresh w.heap.size wr 5 1 s ys.length (bcells ys) ∧ Below w.heap.size w wr

set_option maxHeartbeats 400000 in
set_option maxRecDepth 100000 in
theorem put_any (w : World) (v : Value) (xs : List UInt8) (N : Nat) (h : Reads w 1 v xs.length (bcells xs)) (hn : xs.length ≤ 1000000000) (hN : N < 18446744073709551616) :
    Calls Tryd.prog 21 #[v, .int .u64 N] w (GivesBytes w (xs ++ enc N)) := by
  obtain ⟨i0, hi, hz0, hz1, hz2⟩ := info_parts info5
  have hel := enc_length_le 9 N (by omega)
  obtain ⟨hl, a, cap, rfl, h1, h2, h3⟩ := h
  have hf : Fresh w.heap.size w 5 1 (.slice a xs.length xs.length) xs.length (bcells xs) := ⟨⟨hl, a, _, rfl, Nat.le_refl _, Nat.le_trans h1 h2, h3⟩, .inl ⟨a, rfl⟩⟩
  have HN := Lib.hid hN
  clear hl h3 hN
  go_enter Tryd.func21, Tryd.ntmps21
  go_wp2_with (go_at_call 35; refine (behind_any _ _ _ h1 h2 _).mono ?_; rintro e w' ⟨rfl, rfl⟩)
  clear h1 h2
  go_loopw [0, 1] (fun s m wr => PutRel w xs N s m wr) (fun _ m _ => (intOf m).toNat)
  case atStart => exact ⟨xs, N, rfl, Nat.le_refl _, by omega, rfl, hf, Below.refl _ _⟩
  case round =>
    obtain ⟨ys, M, rfl, hM, hk, heq, hfr, hb⟩ := hrel
    have hbs := hb.size
    have Heq := Lib.hid heq
    clear heq hf hel
    by_cases hc : M < 128
    · rw [enc_lt hc] at hk
      simp at hk
      have e1 : (M : Int) < 128 := by omega
      go_wp2_with (at_builtin; go_must (refine wpList_append_one (w0 := wr) rfl _ _ 28 rfl w.heap.size 5 i0 (.int .u8 0) 1 Tryd.underlying28 hi hz0 hz1 hz2 rfl hfr rfl rfl rfl ?_ ?_ hbs ?_))
      · unfold maxLen; omega
      · omega
      intro v' w1 f1 g1 b1 m1
      rw [bcells_snoc ys (UInt8.ofNat M) (by simp; omega)] at f1
      go_wp2
      go_ret
      rw [← enc_lt hc, ← Heq.out] at f1
      refine ⟨_, rfl, ?_, hb.trans b1⟩
      have e2 : (xs ++ enc N).length = ys.length + 1 := by rw [Heq.out, enc_lt hc]; simp
      rw [e2]
      exact f1
    · have e1 : (128 : Int) ≤ M := by omega
      go_wp2_with (at_builtin; go_must (refine wpList_append_one (w0 := wr) rfl _ _ 28 rfl w.heap.size 5 i0 (.int .u8 0) 1 Tryd.underlying28 hi hz0 hz1 hz2 rfl hfr rfl rfl rfl ?_ ?_ hbs ?_))
      · unfold maxLen; omega
      · omega
      intro v' w1 f1 g1 b1 m1
      rw [bcells_snoc ys _ (or128 M)] at f1
      rw [enc_ge hc] at hk
      simp at hk
      go_wp2
      refine ⟨⟨ys ++ [UInt8.ofNat (M % 128 + 128)], M / 128, by simp, by omega, by simp; omega, ?_, by simpa using f1, hb.trans b1⟩, by simp [intOf]; omega⟩
      rw [Heq.out, enc_ge hc]
      simp

theorem get_step (V k : Nat) (c : UInt8) (hV : V < 128 ^ k) (hk : k < 10) :
    bits BinOp.or .u64 (V : Int) (IntKind.u64.wrap (IntKind.u64.wrap (bits BinOp.and .u8 (c.toNat : Int) 127) * 2 ^ (7 * k))) = ((V + c.toNat % 128 * 128 ^ k % 18446744073709551616 : Nat) : Int) := by
  have hc := c.toNat_lt
  have e128 : (128 : Nat) ^ k = 2 ^ (7 * k) := by rw [Nat.pow_mul]
  have e1 := u8_and_nat c.toNat 127 (by omega) (by omega)
  rw [nat_mask7] at e1
  simp only [Int.cast_ofNat_Int] at e1
  rw [e1, IntKind.wrap_u64, IntKind.wrap_u64]
  have e2 : ((c.toNat % 128 : Nat) : Int) % 18446744073709551616 * 2 ^ (7 * k) % 18446744073709551616 = ((c.toNat % 128 * 128 ^ k % 18446744073709551616 : Nat) : Int) := by
    rw [e128, show ((c.toNat % 128 : Nat) : Int) % 18446744073709551616 = ((c.toNat % 128 : Nat) : Int) by omega]
    simp
  rw [e2]
  have hV' : V < 18446744073709551616 := Nat.lt_of_lt_of_le hV (by
    rw [e128]
    exact Nat.le_trans (Nat.pow_le_pow_right (by omega) (show 7 * k ≤ 63 by omega)) (by decide))
  rw [bits_or_u64_nat _ _ hV' (Nat.mod_lt _ (by omega)), Nat.or_comm, nat_join (7 * k), Nat.add_comm]
  · have hd : 2 ^ (7 * k) ∣ 18446744073709551616 := by
      have : (18446744073709551616 : Nat) = 2 ^ (7 * k) * 2 ^ (64 - 7 * k) := by rw [← Nat.pow_add, show 7 * k + (64 - 7 * k) = 64 by omega]
      exact ⟨_, this⟩
    rw [e128, Nat.mod_mod_of_dvd _ hd]
    simp
  · rw [← e128]; exact hV

def GetPost (w : World) (r : Nat × Nat × Nat) (e : Ending) (w' : World) : Prop :=
  e = .returned (.tuple #[.int .u64 (r.1 : Int), .int .i64 (r.2.1 : Int), .int .i64 (r.2.2 : Int)]) ∧ w = w'

def GetRel (l : List UInt8) (v c : Value) : Prop :=
  ∃ (k V : Nat), c = .int .i64 (k : Int) ∧ v = .int .u64 (V : Int) ∧ k ≤ l.length ∧ k ≤ 10 ∧ V < 128 ^ k ∧ getGo 0 0 l = getGo k V (l.drop k)

set_option maxRecDepth 100000 in
set_option maxHeartbeats 400000 in
theorem get_any (w : World) (v : Value) (n : Nat) (l : List UInt8) (h : Reads w 1 v n (bcells l)) :
    Calls Tryd.prog 38 #[v] w (GetPost w (getGo 0 0 l)) := by
  by_cases hp : n = 0
  · obtain ⟨hl, a, cap, rfl, h1, h2, h3⟩ := h
    subst hp
    have : l = [] := by simpa [bcells_length] using hl
    subst this
    clear h3 hl
    unfold maxLen at h2
    go_enter Tryd.func38, Tryd.ntmps38
    go_wp2
    refine wp_loop_rounds 1 ?_
    rw [rounds_succ]
    go_wp2
    go_ret3
    exact ⟨rfl, rfl⟩
  · obtain ⟨b, off, cap, rfl, h1, h2, hl, hcell⟩ := h.head (by omega)
    unfold maxLen at h2
    clear h
    by_cases hm : n ≤ 10
    · have hm' : (n : Int) ≤ 10 := by omega
      go_enter Tryd.func38, Tryd.ntmps38
      go_wp2
      go_loop [5, 11] (fun v c => GetRel l v c) (fun _ c => 20 - (intOf c).toNat)
      case atStart => exact ⟨0, 0, rfl, rfl, by omega, by omega, by simp, rfl⟩
      case round =>
        obtain ⟨k, V, rfl, rfl, hk, hk10, hV, heq⟩ := hrel
        have hcell' : k < n → w.cell? ⟨b, off + k, none⟩ = some (.int .u8 ((l.getD k 0).toNat : Int)) := fun h => hcell k h
        have Heq := Lib.hid heq
        have Hc := Lib.hid hcell
        have HV := Lib.hid hV
        clear heq hcell hV
        by_cases hkn : k < n
        · have c0 := hcell' hkn
          generalize hc : l.getD k 0 = c at c0
          have Hcc := Lib.hid hc
          clear hc hcell'
          have hcl := c.toNat_lt
          have hs := get_step V k c HV.out (by omega)
          have Hs := Lib.hid hs
          clear hs
          by_cases h128 : 128 ≤ c.toNat
          · go_wp2_with fail
            rw [Hs.out]
            refine ⟨⟨k + 1, _, by go_num, rfl, by omega, by omega, get_grows HV.out, ?_⟩, by simp [intOf]; omega⟩
            have h1 := Hcc.out
            rw [Heq.out, getGo_more (by omega) (by omega) (by rw [h1]; exact h128), h1]
          · by_cases g1 : 0 < k ∧ c.toNat = 0
            · have g2 : ((0 : Int) < k) := by omega
              have g3 : (((c.toNat : Int)) == 0) = true := by simp; omega
              go_wp2_with fail
              go_ret3
              refine ⟨?_, rfl⟩
              rw [Heq.out, getGo_bad (by omega) (by omega) (by rw [Hcc.out]; exact h128) (by rw [Hcc.out]; omega)]
              rfl
            · by_cases g4 : k = 9 ∧ 1 < c.toNat
              · have g2 : ((0 : Int) < k) := by omega
                have g3 : (((c.toNat : Int)) == 0) = false := by simp; omega
                have g5 : ((k : Int) == 9) = true := by simp; omega
                have g6 : (1 : Int) < c.toNat := by omega
                have G1 := Lib.hid g1
                have G4 := Lib.hid g4
                clear g1 g4
                go_wp2_with fail
                go_ret3
                refine ⟨?_, rfl⟩
                have g4 := G4.out
                rw [Heq.out, getGo_bad (by omega) (by omega) (by rw [Hcc.out]; exact h128) (by rw [Hcc.out]; omega)]
                rfl
              · have G1 := Lib.hid g1
                have G4 := Lib.hid g4
                clear g1 g4
                by_cases g2 : 0 < k
                · have g2' : ((0 : Int) < k) := by omega
                  have g3 : (((c.toNat : Int)) == 0) = false := by have := G1.out; simp; omega
                  by_cases g5 : k = 9
                  · have g5' : ((k : Int) == 9) = true := by simp; omega
                    have g6 : ¬ (1 : Int) < c.toNat := by have := G4.out; omega
                    have G5 := Lib.hid g5
                    clear g5
                    go_wp2_with fail
                    go_ret3
                    refine ⟨?_, rfl⟩
                    have g1 := G1.out
                    have g4 := G4.out
                    rw [Heq.out, getGo_good (by omega) (by omega) (by rw [Hcc.out]; exact h128) (by rw [Hcc.out]; omega), Hcc.out, Hs.out]
                    simp
                  · have g5' : ((k : Int) == 9) = false := by simp; omega
                    go_wp2_with fail
                    go_ret3
                    refine ⟨?_, rfl⟩
                    have g1 := G1.out
                    have g4 := G4.out
                    rw [Heq.out, getGo_good (by omega) (by omega) (by rw [Hcc.out]; exact h128) (by rw [Hcc.out]; omega), Hcc.out, Hs.out]
                    simp
                · have g2' : ¬ ((0 : Int) < k) := by omega
                  have g5' : ((k : Int) == 9) = false := by simp; omega
                  go_wp2_with fail
                  go_ret3
                  refine ⟨?_, rfl⟩
                  have g1 := G1.out
                  have g4 := G4.out
                  rw [Heq.out, getGo_good (by omega) (by omega) (by rw [Hcc.out]; exact h128) (by rw [Hcc.out]; omega), Hcc.out, Hs.out]
                  simp
        · have hkn' : ¬ ((k : Int) < n) := by omega
          by_cases h10 : n = 10
          · have h10' : ((10 : Int) ≤ n) := by omega
            have H10 := Lib.hid h10
            clear h10
            go_wp2_with fail
            go_ret3
            refine ⟨?_, rfl⟩
            rw [Heq.out, getGo_end (by omega)]
            have := H10.out
            rw [if_pos (by omega)]
            rfl
          · have h10' : ¬ ((10 : Int) ≤ n) := by omega
            go_wp2_with fail
            go_ret3
            refine ⟨?_, rfl⟩
            rw [Heq.out, getGo_end (by omega), if_neg (by omega)]
            rfl
    · have hm' : ¬ (n : Int) ≤ 10 := by omega
      go_enter Tryd.func38, Tryd.ntmps38
      go_wp2
      go_loop [5, 11] (fun v c => GetRel l v c) (fun _ c => 20 - (intOf c).toNat)
      case atStart => exact ⟨0, 0, rfl, rfl, by omega, by omega, by simp, rfl⟩
      case round =>
        obtain ⟨k, V, rfl, rfl, hk, hk10, hV, heq⟩ := hrel
        have hcell' : k < n → w.cell? ⟨b, off + k, none⟩ = some (.int .u8 ((l.getD k 0).toNat : Int)) := fun h => hcell k h
        have Heq := Lib.hid heq
        have Hc := Lib.hid hcell
        have HV := Lib.hid hV
        clear heq hcell hV
        by_cases hkn : k < 10
        · have c0 := hcell' (by omega)
          generalize hc : l.getD k 0 = c at c0
          have Hcc := Lib.hid hc
          clear hc hcell'
          have hcl := c.toNat_lt
          have hs := get_step V k c HV.out (by omega)
          have Hs := Lib.hid hs
          clear hs
          by_cases h128 : 128 ≤ c.toNat
          · go_wp2_with fail
            rw [Hs.out]
            refine ⟨⟨k + 1, _, by go_num, rfl, by omega, by omega, get_grows HV.out, ?_⟩, by simp [intOf]; omega⟩
            have h1 := Hcc.out
            rw [Heq.out, getGo_more (by omega) (by omega) (by rw [h1]; exact h128), h1]
          · by_cases g1 : 0 < k ∧ c.toNat = 0
            · have g2 : ((0 : Int) < k) := by omega
              have g3 : (((c.toNat : Int)) == 0) = true := by simp; omega
              go_wp2_with fail
              go_ret3
              refine ⟨?_, rfl⟩
              rw [Heq.out, getGo_bad (by omega) (by omega) (by rw [Hcc.out]; exact h128) (by rw [Hcc.out]; omega)]
              rfl
            · by_cases g4 : k = 9 ∧ 1 < c.toNat
              · have g2 : ((0 : Int) < k) := by omega
                have g3 : (((c.toNat : Int)) == 0) = false := by simp; omega
                have g5 : ((k : Int) == 9) = true := by simp; omega
                have g6 : (1 : Int) < c.toNat := by omega
                have G1 := Lib.hid g1
                have G4 := Lib.hid g4
                clear g1 g4
                go_wp2_with fail
                go_ret3
                refine ⟨?_, rfl⟩
                have g4 := G4.out
                rw [Heq.out, getGo_bad (by omega) (by omega) (by rw [Hcc.out]; exact h128) (by rw [Hcc.out]; omega)]
                rfl
              · have G1 := Lib.hid g1
                have G4 := Lib.hid g4
                clear g1 g4
                by_cases g2 : 0 < k
                · have g2' : ((0 : Int) < k) := by omega
                  have g3 : (((c.toNat : Int)) == 0) = false := by have := G1.out; simp; omega
                  by_cases g5 : k = 9
                  · have g5' : ((k : Int) == 9) = true := by simp; omega
                    have g6 : ¬ (1 : Int) < c.toNat := by have := G4.out; omega
                    have G5 := Lib.hid g5
                    clear g5
                    go_wp2_with fail
                    go_ret3
                    refine ⟨?_, rfl⟩
                    have g1 := G1.out
                    have g4 := G4.out
                    rw [Heq.out, getGo_good (by omega) (by omega) (by rw [Hcc.out]; exact h128) (by rw [Hcc.out]; omega), Hcc.out, Hs.out]
                    simp
                  · have g5' : ((k : Int) == 9) = false := by simp; omega
                    go_wp2_with fail
                    go_ret3
                    refine ⟨?_, rfl⟩
                    have g1 := G1.out
                    have g4 := G4.out
                    rw [Heq.out, getGo_good (by omega) (by omega) (by rw [Hcc.out]; exact h128) (by rw [Hcc.out]; omega), Hcc.out, Hs.out]
                    simp
                · have g2' : ¬ ((0 : Int) < k) := by omega
                  have g5' : ((k : Int) == 9) = false := by simp; omega
                  go_wp2_with fail
                  go_ret3
                  refine ⟨?_, rfl⟩
                  have g1 := G1.out
                  have g4 := G4.out
                  rw [Heq.out, getGo_good (by omega) (by omega) (by rw [Hcc.out]; exact h128) (by rw [Hcc.out]; omega), Hcc.out, Hs.out]
                  simp
        · have hkn' : ¬ ((k : Int) < 10) := by omega
          have h10' : ((10 : Int) ≤ n) := by omega
          obtain rfl : k = 10 := by omega
          go_wp2_with fail
          go_ret3
          refine ⟨?_, rfl⟩
          rw [Heq.out, getGo_ten]
          rfl
end Go.Proofs.YtoibhkmlebcepaaDoor

namespace Go.Proofs.YtoibhkmlebcepaaDoor

set_option maxRecDepth 100000 in
theorem getGo_ok : ∀ (l : List UInt8) (i V v n : Nat), V < 128 ^ i → getGo i V l = (v, n, 0) → i < n ∧ n ≤ i + l.length ∧ n ≤ 10 ∧ v < 18446744073709551616
  | [], i, V, v, n, _, h => by
    rw [getGo] at h
    simp only [Prod.mk.injEq] at h
    split at h <;> omega
  | c :: r, i, V, v, n, hV, h => by
    rw [getGo] at h
    split at h
    · simp at h
    · rename_i h10
      split at h
      · have := getGo_ok r (i + 1) _ v n (get_grows hV) h
        simp only [List.length_cons]
        omega
      · split at h
        · simp at h
        · rename_i hc hb
          simp only [Prod.mk.injEq] at h
          obtain ⟨rfl, rfl, _⟩ := h
          simp only [List.length_cons]
          refine ⟨by omega, by omega, by omega, ?_⟩
          have hg := get_grows (c := c.toNat) hV
          by_cases h9 : i = 9
          · subst h9
            have hc1 : c.toNat ≤ 1 := by omega
            have e1 : c.toNat % 128 = c.toNat := by omega
            rw [e1]
            have h2 : c.toNat * 128 ^ 9 ≤ 1 * 128 ^ 9 := Nat.mul_le_mul_right _ hc1
            exact Nat.lt_of_lt_of_le (Nat.add_lt_add_of_lt_of_le hV (Nat.le_trans (Nat.mod_le _ _) h2)) (by decide)
          · have : 128 ^ (i + 1) ≤ 128 ^ 9 := Nat.pow_le_pow_right (by omega) (by omega)
            exact Nat.lt_of_lt_of_le hg (Nat.le_trans this (by decide))

/-- what codec.GetText comes to: the text, how many bytes, the error -/
def getText (l : List UInt8) : List UInt8 × Nat × Nat :=
  if (getGo 0 0 l).2.2 = 0 then
    if l.length - (getGo 0 0 l).2.1 < (getGo 0 0 l).1 then ([], 0, 7)
    else ((l.drop (getGo 0 0 l).2.1).take (getGo 0 0 l).1, (getGo 0 0 l).2.1 + (getGo 0 0 l).1, 0)
  else ([], 0, (getGo 0 0 l).2.2)
end Go.Proofs.YtoibhkmlebcepaaDoor

namespace Go.Proofs.YtoibhkmlebcepaaDoor
open Go.RowKit

def GetTextAny (w : World) (r : List UInt8 × Nat × Nat) (e : Ending) (w' : World) : Prop :=
  e = .returned (.tuple #[.string ⟨r.1.toArray⟩, .int .i64 (r.2.1 : Int), .int .i64 (r.2.2 : Int)]) ∧ w = w'

set_option maxRecDepth 100000 in
set_option maxHeartbeats 400000 in
theorem gettext_any (w : World) (v : Value) (n : Nat) (l : List UInt8) (h : Reads w 1 v n (bcells l)) :
    Calls Tryd.prog 40 #[v] w (GetTextAny w (getText l)) := by
  have hll : l.length = n := by have := h.1; simpa [bcells_length] using this
  obtain ⟨a0, cap0, hv0, h1, h2⟩ := h.le
  unfold maxLen at h2
  have hget := get_any w _ n _ h
  unfold getText
  have hok := getGo_ok l 0 0
  generalize getGo 0 0 l = r at hget hok
  obtain ⟨m, k, er⟩ := r
  simp only
  by_cases he : er = 0
  · subst he
    obtain ⟨hk0, hkl, hk10, hm⟩ := hok m k (by decide) rfl
    rw [if_pos rfl]
    have Hget := Lib.hid hget
    clear hget hok
    by_cases hs : l.length - k < m
    · rw [if_pos hs]
      have e1 : ((n : Int) - k) < m := by omega
      have e3 : (k : Int) ≤ n := by omega
      have Hll := Lib.hid hll
      clear hll hkl hs
      subst hv0
      go_enter Tryd.func40, Tryd.ntmps40
      go_wp2_with (go_at_call 38; go_must (refine Hget.out.mono ?_))
      rintro e w1 ⟨rfl, rfl⟩
      go_wp2
      go_ret3
      exact ⟨rfl, rfl⟩
    · rw [if_neg hs]
      obtain ⟨b, off, cap, rfl, _, _, _, _⟩ := h.head (by omega)
      cases hv0
      have hsk := h.skip k (by omega)
      obtain ⟨a', cap', hv', _, _, ht⟩ := hsk.take m (by omega)
      cases hv'
      have hcv := Reads.conv (P := Tryd.prog) (src := 28) (e := 5) (dst := 9) Tryd.underlying28 Tryd.underlying5 Tryd.underlying9 ht
      generalize hT : (l.drop k).take m = T at *
      clear hsk ht h
      have e1 : ¬ (n : Int) - k < m := by omega
      have e2 : (k : Int) + m ≤ n := by omega
      have e3 : (k : Int) ≤ n := by omega
      by_cases hck : cap0 = k
      · have hm0 : m = 0 := by omega
        have hnk : n = k := by omega
        have hT0 : T = [] := by rw [← hT, hm0]; rfl
        subst hm0
        subst hT0
        subst hnk
        subst hck
        have hr0 : Reads w 1 (.slice (some ⟨b, off, none⟩) 0 0) 0 (bcells []) := ⟨rfl, _, 0, rfl, Nat.le_refl _, Nat.zero_le _, fun j u h => by simp [bcells] at h⟩
        have hcv0 := Reads.conv (P := Tryd.prog) (src := 28) (e := 5) (dst := 9) Tryd.underlying28 Tryd.underlying5 Tryd.underlying9 hr0
        clear hcv hT hll hs
        go_enter Tryd.func40, Tryd.ntmps40
        go_wp2_with (go_at_call 38; go_must (refine Hget.out.mono ?_))
        rintro e w1 ⟨rfl, rfl⟩
        go_wp2
        go_ret3
        exact ⟨by simp, rfl⟩
      · have hck' : ¬ ((cap0 : Int) = k) := by omega
        clear hT hll hs
        go_enter Tryd.func40, Tryd.ntmps40
        go_wp2_with (go_at_call 38; go_must (refine Hget.out.mono ?_))
        rintro e w1 ⟨rfl, rfl⟩
        go_wp2
        go_ret3
        exact ⟨by simp, rfl⟩
  · rw [if_neg he]
    have e1 : (((er : Int)) == 0) = false := by simp; omega
    have Hget := Lib.hid hget
    clear hget hok hll h1 h2 h
    subst hv0
    go_enter Tryd.func40, Tryd.ntmps40
    go_wp2_with (go_at_call 38; go_must (refine Hget.out.mono ?_))
    rintro e w1 ⟨rfl, rfl⟩
    go_wp2
    go_ret3
    exact ⟨rfl, rfl⟩
end Go.Proofs.YtoibhkmlebcepaaDoor

namespace Go.Proofs.YtoibhkmlebcepaaDoor
open Go Go.RowKit

/-- The reader in block g has l left. -/
def RdrAt (B : Nat) (w : World) (g : Nat) (l : List UInt8) (bad : Bool) : Prop :=
  ∃ v, w.heap[g]? = some (.cells #[v, .bool bad] 57 (0, 0)) ∧ Sl B w v l ∧ B ≤ g

theorem two_stored {w : World} {g : Nat} {x y : Value} {t : TypeId} (h : w.heap[g]? = some (.cells #[x, y] t (0, 0))) (u v : Value) :
    ((w.setCell ⟨g, 0, none⟩ u).setCell ⟨g, 1, none⟩ v).heap[g]? = some (.cells #[u, v] t (0, 0)) := by
  rw [heap_setCell_same _ _ 1 _ _ _ (heap_setCell_same _ _ 0 _ _ _ h)]
  rfl

theorem getGo_err : ∀ (l : List UInt8) (i V : Nat), ¬ (getGo i V l).2.2 = 0 → (getGo i V l).2.1 ≤ l.length
  | [], i, V, _ => by rw [getGo]; exact Nat.zero_le _
  | c :: r, i, V, h => by
    rw [getGo] at h ⊢
    split
    · exact Nat.zero_le _
    · rename_i h10
      rw [if_neg h10] at h
      split
      · rename_i hc
        rw [if_pos hc] at h
        exact Nat.le_trans (getGo_err r _ _ h) (by simp)
      · rename_i hc
        rw [if_neg hc] at h
        split
        · exact Nat.zero_le _
        · rename_i hb
          rw [if_neg hb] at h
          exact absurd rfl h

theorem getGo_used (l : List UInt8) : (getGo 0 0 l).2.1 ≤ l.length := by
  by_cases h : (getGo 0 0 l).2.2 = 0
  · have he : getGo 0 0 l = ((getGo 0 0 l).1, (getGo 0 0 l).2.1, 0) := Prod.ext rfl (Prod.ext rfl h)
    have := getGo_ok l 0 0 _ _ (by decide) he
    omega
  · exact getGo_err l 0 0 h

theorem getText_used (l : List UInt8) : (getText l).2.1 ≤ l.length := by
  unfold getText
  split
  · rename_i h
    split
    · exact Nat.zero_le _
    · have := getGo_used l
      show (getGo 0 0 l).2.1 + (getGo 0 0 l).1 ≤ l.length
      omega
  · exact Nat.zero_le _

def OverPost (B : Nat) (w : World) (g : Nat) (l : List UInt8) (bad : Bool) (x : Value) (e : Ending) (w' : World) : Prop :=
  e = .returned x ∧ RdrAt B w' g l bad ∧ Touch w w' [g]

set_option maxRecDepth 100000 in
set_option maxHeartbeats 400000 in
theorem over_any (B : Nat) (w : World) (g : Nat) (l : List UInt8) (bad : Bool) (k e : Nat) (h : RdrAt B w g l bad) (hk : k ≤ l.length) (hl : l.length ≤ 1000000000) :
    Calls Tryd.prog 39 #[.pointer (some ⟨g, 0, none⟩), .int .i64 (k : Int), .int .i64 (e : Int)] w (OverPost B w g (l.drop k) (bad || decide (e ≠ 0)) (.tuple #[])) := by
  obtain ⟨v, hg, hs, hB⟩ := h
  have hcut := hs.cut hk
  have hst := two_stored hg (cutV v k) (.bool (bad || decide (e ≠ 0)))
  have c0 := Lib.cell_of_heap hg 0
  have c1 := Lib.cell_of_heap hg 1
  have f0 := Lib.frozen_of_heap hg
  simp at c0 c1
  have hne : ((e : Int) != 0) = decide (e ≠ 0) := by
    by_cases h : e = 0
    · subst h; rfl
    · simp [h]
  have htc : Touch w ((w.setCell ⟨g, 0, none⟩ (cutV v k)).setCell ⟨g, 1, none⟩ (.bool (bad || decide (e ≠ 0)))) [g] := ((Touch.refl w [g]).setCell (p := ⟨g, 0, none⟩) (.inl (by simp)) _).setCell (p := ⟨g, 1, none⟩) (.inl (by simp)) _
  have hfin : OverPost B w g (l.drop k) (bad || decide (e ≠ 0)) (.tuple #[]) (.returned (.tuple #[])) ((w.setCell ⟨g, 0, none⟩ (cutV v k)).setCell ⟨g, 1, none⟩ (.bool (bad || decide (e ≠ 0)))) :=
    ⟨rfl, ⟨_, hst, htc.sl hcut hB, hB⟩, htc⟩
  have HF := Lib.hid hfin
  have hlt : g < w.heap.size := (Array.getElem?_eq_some_iff.1 hg).1
  clear hfin htc hst hcut hg
  generalize hd : decide (e ≠ 0) = d at *
  rcases hs with ⟨⟨ax, rfl⟩, rfl⟩ | ⟨b, off, cap, rfl, _, _, hr⟩
  · have hk0 : k = 0 := by simpa using hk
    subst hk0
    rw [cutV_zero] at HF
    go_enter Tryd.func39, Tryd.ntmps39
    rcases ax with _ | ax <;> cases bad <;> cases d
    all_goals
      go_wp2
      exact bodyPost_end (by simp [results, Tryd.results39]) rfl HF.out
  · obtain ⟨_, _, hv, hc1, hc2⟩ := hr.le
    cases hv
    unfold maxLen at hc2
    rw [cutV_some] at HF
    have hkI : (k : Int) ≤ (l.length : Int) := by omega
    have hle1 : ((l.length - k : Nat) : Int) = (l.length : Int) - (k : Int) := by omega
    have hle2 : ((cap - k : Nat) : Int) = (cap : Int) - (k : Int) := by omega
    by_cases hck : cap = k
    · rw [if_pos hck] at HF
      have hz1 : l.length - k = 0 := by omega
      have hz2 : cap - k = 0 := by omega
      rw [hz1, hz2] at HF
      have hlk : l.length = k := by omega
      subst hck
      rw [hlk] at c0
      go_enter Tryd.func39, Tryd.ntmps39
      cases bad <;> cases d
      all_goals
        go_wp2
        exact bodyPost_end (by simp [results, Tryd.results39]) rfl HF.out
    · rw [if_neg hck] at HF
      have hck' : ¬ ((cap : Int) = k) := by omega
      go_enter Tryd.func39, Tryd.ntmps39
      cases bad <;> cases d
      all_goals
        go_wp2
        exact bodyPost_end (by simp [results, Tryd.results39]) rfl HF.out

set_option maxRecDepth 100000 in
set_option maxHeartbeats 400000 in
theorem rdnumber_any (B : Nat) (w : World) (g : Nat) (l : List UInt8) (bad : Bool) (h : RdrAt B w g l bad) (hl : l.length ≤ 1000000000) :
    Calls Tryd.prog 28 #[.pointer (some ⟨g, 0, none⟩)] w (OverPost B w g (l.drop (getGo 0 0 l).2.1) (bad || decide ((getGo 0 0 l).2.2 ≠ 0)) (.int .u64 ((getGo 0 0 l).1 : Int))) := by
  have hget := fun v (hs : Sl B w v l) => get_any w v _ l hs.reads
  have hk : (getGo 0 0 l).2.1 ≤ l.length := getGo_used l
  have hov := over_any B w g l bad (getGo 0 0 l).2.1 (getGo 0 0 l).2.2 h hk hl
  obtain ⟨v, hg, hs, hB⟩ := h
  have hge := hget v hs
  generalize getGo 0 0 l = r at *
  obtain ⟨N, k, e⟩ := r
  dsimp only at hov hk ⊢
  have HO := Lib.hid hov
  have HG := Lib.hid hge
  have c0 := Lib.cell_of_heap hg 0
  simp at c0
  have hlt : g < w.heap.size := (Array.getElem?_eq_some_iff.1 hg).1
  clear hov hge hget hg
  go_enter Tryd.func28, Tryd.ntmps28
  go_wp2_with (go_at_call 38; go_must (refine HG.out.mono ?_))
  rintro e1 w1 ⟨rfl, rfl⟩
  go_wp2_with (go_at_call 39; go_must (refine HO.out.mono ?_))
  rintro e2 w2 ⟨rfl, r2, t2⟩
  go_wp2
  go_ret
  exact ⟨rfl, r2, t2⟩

set_option maxRecDepth 100000 in
set_option maxHeartbeats 400000 in
theorem text_any (B : Nat) (w : World) (g : Nat) (l : List UInt8) (bad : Bool) (h : RdrAt B w g l bad) (hl : l.length ≤ 1000000000) :
    Calls Tryd.prog 30 #[.pointer (some ⟨g, 0, none⟩)] w (OverPost B w g (l.drop (getText l).2.1) (bad || decide ((getText l).2.2 ≠ 0)) (.string ⟨(getText l).1.toArray⟩)) := by
  have hget := fun v (hs : Sl B w v l) => gettext_any w v _ l hs.reads
  have hk : (getText l).2.1 ≤ l.length := getText_used l
  have hov := over_any B w g l bad (getText l).2.1 (getText l).2.2 h hk hl
  obtain ⟨v, hg, hs, hB⟩ := h
  have hge := hget v hs
  generalize getText l = r at *
  obtain ⟨N, k, e⟩ := r
  dsimp only at hov hk ⊢
  have HO := Lib.hid hov
  have HG := Lib.hid hge
  have c0 := Lib.cell_of_heap hg 0
  simp at c0
  have hlt : g < w.heap.size := (Array.getElem?_eq_some_iff.1 hg).1
  clear hov hge hget hg
  go_enter Tryd.func30, Tryd.ntmps30
  go_wp2_with (go_at_call 40; go_must (refine HG.out.mono ?_))
  rintro e1 w1 ⟨rfl, rfl⟩
  go_wp2_with (go_at_call 39; go_must (refine HO.out.mono ?_))
  rintro e2 w2 ⟨rfl, r2, t2⟩
  go_wp2
  go_ret
  exact ⟨rfl, r2, t2⟩

/-- What truth tells, how many bytes, whether it is wrong. -/
def truthL (l : List UInt8) : Bool × Nat × Bool :=
  match l with
  | [] => (false, 0, true)
  | c :: _ => if 1 < c.toNat then (false, 0, true) else (c == 1, 1, false)

set_option maxRecDepth 100000 in
set_option maxHeartbeats 400000 in
theorem truth_any (B : Nat) (w : World) (g : Nat) (l : List UInt8) (bad : Bool) (h : RdrAt B w g l bad) (hl : l.length ≤ 1000000000) :
    Calls Tryd.prog 29 #[.pointer (some ⟨g, 0, none⟩)] w (OverPost B w g (l.drop (truthL l).2.1) (bad || (truthL l).2.2) (.bool (truthL l).1)) := by
  obtain ⟨v, hg, hs, hB⟩ := h
  have hlt : g < w.heap.size := (Array.getElem?_eq_some_iff.1 hg).1
  have c0 := Lib.cell_of_heap hg 0
  have c1 := Lib.cell_of_heap hg 1
  have f0 := Lib.frozen_of_heap hg
  simp at c0 c1
  have hbad : OverPost B w g l true (.bool false) (.returned (.bool false)) (w.setCell ⟨g, 1, none⟩ (.bool true)) := by
    have htc : Touch w (w.setCell ⟨g, 1, none⟩ (.bool true)) [g] := (Touch.refl w [g]).setCell (p := ⟨g, 1, none⟩) (.inl (by simp)) _
    refine ⟨rfl, ⟨v, ?_, htc.sl hs hB, hB⟩, htc⟩
    rw [heap_setCell_same _ _ 1 _ _ _ hg]
    rfl
  have hgood : ∀ (c : UInt8) (b : Bool), 1 ≤ l.length → OverPost B w g (l.drop 1) bad (.bool b) (.returned (.bool b)) (w.setCell ⟨g, 0, none⟩ (cutV v 1)) := by
    intro c b h1
    have htc : Touch w (w.setCell ⟨g, 0, none⟩ (cutV v 1)) [g] := (Touch.refl w [g]).setCell (p := ⟨g, 0, none⟩) (.inl (by simp)) _
    refine ⟨rfl, ⟨_, ?_, htc.sl (hs.cut h1) hB, hB⟩, htc⟩
    rw [heap_setCell_same _ _ 0 _ _ _ hg]
    rfl
  have HBd := Lib.hid hbad
  have HGd := Lib.hid hgood
  clear hbad hgood hg
  cases l with
  | nil =>
    have hv : ∃ a cap, v = .slice a 0 cap := by
      rcases hs with ⟨⟨ax, rfl⟩, _⟩ | ⟨b, off, cap, rfl, _⟩
      · exact ⟨_, _, rfl⟩
      · exact ⟨_, _, rfl⟩
    obtain ⟨a, cap, rfl⟩ := hv
    go_enter Tryd.func29, Tryd.ntmps29
    go_wp2
    go_ret
    have := HBd.out
    simpa [truthL] using this
  | cons c r =>
    rcases hs with ⟨_, hn⟩ | ⟨b, off, cap, rfl, hbB, hbw, hr⟩
    · cases hn
    · replace hbB := hbB (by simp)
      replace hbw := hbw (by simp)
      have hcc : w.cell? ⟨b, off, none⟩ = some (.int .u8 (c.toNat : Int)) := by
        have := hr.bcell 0 (by simp)
        simpa using this
      obtain ⟨_, _, hv, hc1, hc2⟩ := hr.le
      cases hv
      unfold maxLen at hc2
      have hlen : (c :: r).length = r.length + 1 := rfl
      rw [hlen] at c0 hc1 hl
      have hgb : g ≠ b := by omega
      have HR := Lib.hid hr
      have hbg : b ≠ g := by omega
      have hg1 := fun bb => HGd.out c bb (by simp)
      rw [cutV_some, hlen, Nat.add_sub_cancel] at hg1
      have HG1 := Lib.hid hg1
      clear hr hlen HGd hg1
      by_cases h1 : 1 < c.toNat
      · have h1I : (1 : Int) < c.toNat := by omega
        go_enter Tryd.func29, Tryd.ntmps29
        go_wp2
        go_ret
        have := HBd.out
        simpa [truthL, h1] using this
      · have h1I : ¬ (1 : Int) < c.toNat := by omega
        have hceq : ((c.toNat : Int) == 1) = (c == 1) := by
          by_cases h : c = 1
          · subst h; rfl
          · have h2 : (c == 1) = false := beq_eq_false_iff_ne.2 h
            have h3 : ¬ ((c.toNat : Int) = 1) := fun e => h (UInt8.toNat_inj.1 (by show c.toNat = 1; omega))
            rw [h2]
            simpa using h3
        by_cases hck : cap = 1
        · rw [if_pos hck] at HG1
          have hr0 : r.length = 0 := by omega
          have hcz : cap - 1 = 0 := by omega
          rw [hr0, hcz] at HG1
          rw [hr0] at c0
          subst hck
          clear HR hcz hr0
          go_enter Tryd.func29, Tryd.ntmps29
          go_wp2
          go_ret
          have := HG1.out (c == 1)
          simpa [truthL, h1] using this
        · rw [if_neg hck] at HG1
          have hck' : ¬ ((cap : Int) = 1) := by omega
          have hle2 : ((cap - 1 : Nat) : Int) = (cap : Int) - 1 := by omega
          clear HR
          go_enter Tryd.func29, Tryd.ntmps29
          go_wp2
          go_ret
          have := HG1.out (c == 1)
          simpa [truthL, h1] using this
end Go.Proofs.YtoibhkmlebcepaaDoor

/- Rows of the call's own, appended to: they stay the call's own. -/
namespace Go.Proofs.YtoibhkmlebcepaaDoor
open Go Go.RowKit

theorem run_append_owns {P : Program} {w : World} (B : Nat) (t tx ty e : TypeId) (i : TypeInfo) (z : Value) (size bytes : Nat) (ht : P.underlying t = some (.slice e)) (hi : P.info? e = some i) (hz : i.zero = some z)
    (hsize : i.size = size) (hby : i.bytes = bytes) (hzs : z.cells.size = size)
    (v : Value) (n : Nat) (xs : List Value) (h0 : w.ownsRow B e size v n xs) (x : Value) (m : Nat) (news : List Value) (hs : Src P size tx x m news w)
    (h63 : n + m ≤ maxLen) (hbytes : (n + m) * bytes ≤ 140737488355328) (hB : B ≤ w.heap.size) :
    ∃ v' w', (Builtin.append_ #[t, tx] ty #[v, x]).run P w = .ok v' w' ∧ w'.ownsRow B e size v' (n + m) (xs ++ news) ∧ w.grownBy w' v.ownBlock ∧ Below B w w' ∧ Moves w v v' := by
  subst hsize
  subst hby
  have h : Fresh B w e i.size v n xs := ⟨ownsRow.reads h0, .inr h0⟩
  have hsmall : n + m ≤ 9223372036854775807 := by simp only [maxLen] at h63; omega
  have hnl := hs.newsLen
  have hxl := h.1.1
  have hlen : (xs ++ news).length = (n + m) * i.size := by rw [List.length_append, hxl, hnl, Nat.add_mul]
  have grow : ∀ (bs : Option Addr) (sc : Nat), v = .slice bs n sc → sc < n + m →
      ∃ v' w', (Builtin.append_ #[t, tx] ty #[v, x]).run P w = .ok v' w' ∧ w'.ownsRow B e i.size v' (n + m) (xs ++ news) ∧ w.grownBy w' v.ownBlock ∧ Below B w w' ∧ Moves w v v' := by
    rintro bs sc hv hg
    have hold := h.1.firstCells (P := P) w.drew rfl
    subst hv
    have hrun := run_append_grow_src (P := P) w t tx ty e i z ht hi hz bs n sc xs hold x m news hs hg (by omega) (growslice_fits hg hbytes)
    have hge := grownCap_ge w (n + m) sc e
    have hcm := grownCap_le_maxLen w (n + m) sc e h63
    have hblk : ∀ k, k < w.heap.size → (w.drew.alloc (.cells ((xs ++ news).toArray ++ Builtin.zeroCells z.cells (grownCap w (n + m) sc e - (n + m))) e)).heap[k]? = w.heap[k]? := fun k hk => Below.heap_alloc w.drew _ k hk
    have hown : (w.drew.alloc (.cells ((xs ++ news).toArray ++ Builtin.zeroCells z.cells (grownCap w (n + m) sc e - (n + m))) e)).ownsRow B e i.size (.slice (some ⟨w.heap.size, 0, none⟩) (n + m) (grownCap w (n + m) sc e)) (n + m) (xs ++ news) := by
      refine ⟨hlen, .inr ⟨w.heap.size, _, _, rfl, hB, heap_alloc_new w.drew _, hge, hcm, ?_, ?_⟩⟩
      · rw [Array.size_append, List.size_toArray, hlen, size_zeroCells, hzs, ← Nat.add_mul]
        congr 1
        omega
      · simp only [Array.toList_append]
        rw [← hlen]
        exact List.take_left
    exact ⟨_, _, hrun, hown, ⟨rfl, rfl, rfl, by simp, fun k hk _ => hblk k hk⟩, ⟨rfl, rfl, rfl, by simp, fun k hk => hblk k (by omega)⟩, fun b hb _ => by simp [Value.ownBlock]; omega⟩
  by_cases hm : m = 0
  · subst hm
    have hn : news = [] := List.eq_nil_of_length_eq_zero (by simpa using hnl)
    subst hn
    obtain ⟨_, a, cap, rfl, h1, h2, h3⟩ := h.1
    exact ⟨_, w, run_append_nothing (P := P) w t tx ty e i ht hi a n cap h1 x hs, by simpa using h0, World.grownBy.refl _ _, Below.refl _ _, fun _ _ h => h⟩
  · have hown := h0
    · rcases hown.2 with ⟨hv, h0⟩ | ⟨g, cap, cur, hv, hbg, hg, hnc, hcm, hcs, htake⟩
      · subst h0
        exact grow none 0 hv (by omega)
      · by_cases hroom : n + m ≤ cap
        · subst hv
          have hfit : n * i.size + news.length ≤ cur.size := by rw [hnl, hcs, ← Nat.add_mul]; exact Nat.mul_le_mul_right _ hroom
          have hc : ∀ j, j < news.length → (w.cell? ⟨g, 0 + n * i.size + j, none⟩).isSome = true := by
            intro j hj
            have hlt : n * i.size + j < cur.size := by omega
            simp [World.cell?, hg, Array.getElem?_eq_getElem hlt]
          have hf : ∀ j, j < news.length → w.frozen? ⟨g, 0 + n * i.size + j, none⟩ = false := by
            intro j hj
            simp [World.frozen?, hg]
          have hrun := run_append_room_src (P := P) w t tx ty e i ht hi g 0 n cap x m news hs hroom hc hf
          have hk := World.keptBut_setCells g (may := fun p => p.block = g) news (0 + n * i.size) w (fun _ _ => rfl)
          have hblk : ∀ k, k < w.heap.size → k ≠ g → (w.setCells g (0 + n * i.size) news).heap[k]? = w.heap[k]? := fun k hk1 hk2 => World.heap_setCells_other w g _ news hk1 hk2
          have hcell : ∀ j u, (xs ++ news)[j]? = some u → (w.setCells g (0 + n * i.size) news).cell? ⟨g, 0 + j, none⟩ = some u := by
            intro j u hj
            by_cases hjx : j < xs.length
            · rw [World.cell?_setCells_out g _ _ _ _ (fun _ _ => Or.inl (by show 0 + j < 0 + n * i.size; omega))]
              rw [List.getElem?_append_left hjx] at hj
              have := hown.cells (g := g) rfl j u hj
              rwa [Addr.add_lit] at this
            · rw [List.getElem?_append_right (by omega)] at hj
              obtain ⟨hjl, hju⟩ := List.getElem?_eq_some_iff.1 hj
              have := World.cell?_setCells_in g news (0 + n * i.size) w hc (j - xs.length) hjl
              rw [show 0 + n * i.size + (j - xs.length) = 0 + j by omega] at this
              rw [this, hju]
          obtain ⟨cur', hc1, hc2⟩ := heap_setCells_same g e (0, 0) news (0 + n * i.size) w cur hg
          have hown' : (w.setCells g (0 + n * i.size) news).ownsRow B e i.size (.slice (some ⟨g, 0, none⟩) (n + m) cap) (n + m) (xs ++ news) := by
            refine ⟨hlen, .inr ⟨g, cap, cur', rfl, hbg, hc1, hroom, hcm, by rw [hc2, hcs], ?_⟩⟩
            have hl1 : (n + m) * i.size ≤ cap * i.size := Nat.mul_le_mul_right _ hroom
            apply List.ext_getElem?
            intro j
            by_cases hj : j < (xs ++ news).length
            · have hr := hcell j _ (List.getElem?_eq_getElem hj)
              rw [List.getElem?_eq_getElem hj, ← hr, List.getElem?_take_of_lt (by omega)]
              unfold World.cell?
              rw [hc1]
              simp
            · rw [List.getElem?_eq_none (by rw [List.length_take]; omega), List.getElem?_eq_none (by omega)]
          exact ⟨_, _, hrun, hown', ⟨World.os_setCells _ _ _ _, tape_setCells _ _ _ _, World.output_setCells _ _ _ _, hk.size, fun k hk1 hk2 => hblk k hk1 (fun e => hk2 (by simp [Value.ownBlock, e]))⟩, ⟨World.os_setCells _ _ _ _, tape_setCells _ _ _ _, World.output_setCells _ _ _ _, hk.size, fun k hk1 => hblk k (by omega) (by omega)⟩, fun _ _ h => h⟩
        · exact grow _ cap hv (by omega)

/-- 'append(s, x...)' for the walk. -/
theorem wpList_append_owns {P : Program} {w : World} {ops : Array Oper} {rest : List Oper} {o : Oper} {a : Act} {Q : Exit → Act → World → Prop} (hgd : o.guard = none) (s x : Operand) (t tx : TypeId)
    (ho : o.op = .call { callee := .builtin .append, args := #[s, x], argTypes := #[t, tx] })
    (B : Nat) (e : TypeId) (i : TypeInfo) (z : Value) (size bytes : Nat) (ht : P.underlying t = some (.slice e)) (hi : P.info? e = some i) (hz : i.zero = some z)
    (hsize : i.size = size) (hby : i.bytes = bytes) (hzs : z.cells.size = size)
    (v : Value) (n : Nat) (xs : List Value) (hs : a.eval s = v) (hown : w.ownsRow B e size v n xs)
    (xv : Value) (m : Nat) (news : List Value) (hx : a.eval x = xv) (hsrc : Src P size tx xv m news w)
    (h63 : n + m ≤ maxLen) (hbytes : (n + m) * bytes ≤ 140737488355328) (hB : B ≤ w.heap.size)
    (h : ∀ v' w', w'.ownsRow B e size v' (n + m) (xs ++ news) → w.grownBy w' v.ownBlock → Below B w w' → Moves w v v' → wpList P ops Q rest (a.put o.dst v') w') : wpList P ops Q (o :: rest) a w := by
  refine wpList_plain hgd fun K hK => ?_
  obtain ⟨v', w', hr, h2, h3, h4, h5⟩ := run_append_owns (P := P) B t tx o.type e i z size bytes ht hi hz hsize hby hzs v n xs hown xv m news hsrc h63 hbytes hB
  unfold Oper.wp execOp
  simp only [ho, resolve, invoke, builtin, Sem.run_bind, Sem.run_pure, Result.andThen_ok, List.map_toArray, List.map_cons, List.map_nil, hs, hx, hr]
  exact hK _ _ (h v' w' h2 h3 h4 h5)

/-- 'append(s, x, ..)' of cells that have just been laid in a block of their own. -/
theorem wpList_append_owns_lits {P : Program} {w0 : World} {ops : Array Oper} {rest : List Oper} {o : Oper} {a : Act} {Q : Exit → Act → World → Prop} (hgd : o.guard = none) (s x : Operand) (t : TypeId)
    (ho : o.op = .call { callee := .builtin .append, args := #[s, x], argTypes := #[t, t] })
    (B : Nat) (e : TypeId) (i : TypeInfo) (z : Value) (bytes : Nat) (ht : P.underlying t = some (.slice e)) (hi : P.info? e = some i) (hz : i.zero = some z)
    (hsize : i.size = 1) (hby : i.bytes = bytes) (hzs : z.cells.size = 1)
    {v : Value} {n : Nat} {xs : List Value} (us : List Value) (m : Nat) (hl : us.length = m) (hown : w0.ownsRow B e 1 v n xs) (hs : a.eval s = v) (hx : a.eval x = .slice (some ⟨w0.heap.size, 0, none⟩) m m) (h1 : ∀ u ∈ us, u.oneCell' = true)
    (h63 : n + m ≤ maxLen) (hbytes : (n + m) * bytes ≤ 140737488355328) (hB : B ≤ w0.heap.size)
    (h : ∀ v' w', w'.ownsRow B e 1 v' (n + m) (xs ++ us) → w0.grownBy w' v.ownBlock → Below B w0 w' → Moves w0 v v' → wpList P ops Q rest (a.put o.dst v') w') : wpList P ops Q (o :: rest) a (w0.alloc (.cells us.toArray e)) := by
  refine wpList_append_owns hgd s x t t ho B e i z 1 bytes ht hi hz hsize hby hzs v n xs hs (hown.alloc _) _ m us hx (Src.ofLits ht w0 m us hl h1) h63 hbytes (by simp; omega) (fun v' w' k1 k2 k3 k4 => h v' w' k1 ((World.grownBy_alloc w0 _ _).trans k2) (((Below.refl _ _).alloc hB _).trans k3) (fun b hb => k4 b (by simp; omega)))

end Go.Proofs.YtoibhkmlebcepaaDoor

/- Rows of structs: appended to cell by cell. -/
namespace Go.Proofs.YtoibhkmlebcepaaDoor
open Go Go.RowKit

/-- 'append(s, x, ..)' of structs of size cells each that have just been laid in a block of their own. -/
theorem wpList_append_rows {P : Program} {w0 : World} {ops : Array Oper} {rest : List Oper} {o : Oper} {a : Act} {Q : Exit → Act → World → Prop} (hgd : o.guard = none) (s x : Operand) (t : TypeId)
    (ho : o.op = .call { callee := .builtin .append, args := #[s, x], argTypes := #[t, t] })
    (B : Nat) (e : TypeId) (i : TypeInfo) (z : Value) (size bytes : Nat) (ht : P.underlying t = some (.slice e)) (hi : P.info? e = some i) (hz : i.zero = some z)
    (hsize : i.size = size) (hby : i.bytes = bytes) (hzs : z.cells.size = size)
    {v : Value} {n : Nat} {xs : List Value} (us : List Value) (m : Nat) (hl : us.length = m * size) (hown : Fresh B w0 e size v n xs) (hs : a.eval s = v) (hx : a.eval x = .slice (some ⟨w0.heap.size, 0, none⟩) m m) (h1 : ∀ u ∈ us, u.oneCell' = true)
    (h63 : n + m ≤ maxLen) (hbytes : (n + m) * bytes ≤ 140737488355328) (hB : B ≤ w0.heap.size)
    (h : ∀ v' w', Fresh B w' e size v' (n + m) (xs ++ us) → w0.grownBy w' v.ownBlock → Below B w0 w' → Moves w0 v v' → wpList P ops Q rest (a.put o.dst v') w') : wpList P ops Q (o :: rest) a (w0.alloc (.cells us.toArray e)) := by
  refine wpList_append_fresh hgd s x t t ho B e i z size bytes ht hi hz hsize hby hzs v n xs hs (hown.alloc _) _ m us hx ?_ h63 hbytes (by simp; omega) (fun v' w' k1 k2 k3 k4 => h v' w' k1 ((World.grownBy_alloc w0 _ _).trans k2) (((Below.refl _ _).alloc hB _).trans k3) (fun b hb => k4 b (by simp; omega)))
  refine Src.ofSlice _ ht _ _ _ _ hl ?_ h1
  intro j y hj
  rw [Addr.add_lit]
  rw [show (0 + j) = j by omega]
  rw [World.cell?_alloc_new w0 _ _ j]
  simpa using hj

/-- 'append(s, x, ..)' of structs of size cells each that have just been laid in a block of their own. -/
theorem wpList_append_rows_own {P : Program} {w0 : World} {ops : Array Oper} {rest : List Oper} {o : Oper} {a : Act} {Q : Exit → Act → World → Prop} (hgd : o.guard = none) (s x : Operand) (t : TypeId)
    (ho : o.op = .call { callee := .builtin .append, args := #[s, x], argTypes := #[t, t] })
    (B : Nat) (e : TypeId) (i : TypeInfo) (z : Value) (size bytes : Nat) (ht : P.underlying t = some (.slice e)) (hi : P.info? e = some i) (hz : i.zero = some z)
    (hsize : i.size = size) (hby : i.bytes = bytes) (hzs : z.cells.size = size)
    {v : Value} {n : Nat} {xs : List Value} (us : List Value) (m : Nat) (hl : us.length = m * size) (hown : w0.ownsRow B e size v n xs) (hs : a.eval s = v) (hx : a.eval x = .slice (some ⟨w0.heap.size, 0, none⟩) m m) (h1 : ∀ u ∈ us, u.oneCell' = true)
    (h63 : n + m ≤ maxLen) (hbytes : (n + m) * bytes ≤ 140737488355328) (hB : B ≤ w0.heap.size)
    (h : ∀ v' w', w'.ownsRow B e size v' (n + m) (xs ++ us) → w0.grownBy w' v.ownBlock → Below B w0 w' → Moves w0 v v' → wpList P ops Q rest (a.put o.dst v') w') : wpList P ops Q (o :: rest) a (w0.alloc (.cells us.toArray e)) := by
  refine wpList_append_owns hgd s x t t ho B e i z size bytes ht hi hz hsize hby hzs v n xs hs (hown.alloc _) _ m us hx ?_ h63 hbytes (by simp; omega) (fun v' w' k1 k2 k3 k4 => h v' w' k1 ((World.grownBy_alloc w0 _ _).trans k2) (((Below.refl _ _).alloc hB _).trans k3) (fun b hb => k4 b (by simp; omega)))
  refine Src.ofSlice _ ht _ _ _ _ hl ?_ h1
  intro j y hj
  rw [Addr.add_lit]
  rw [show (0 + j) = j by omega]
  rw [World.cell?_alloc_new w0 _ _ j]
  simpa using hj

theorem owns_other {w : World} {B n s g : Nat} {e e' : TypeId} {v : Value} {xs : List Value} {cs : Array Value} {fz : Nat × Nat} (h : w.ownsRow B e s v n xs) (hg : w.heap[g]? = some (.cells cs e' fz)) (he : e' ≠ e) : v.ownBlock ≠ some g := by
  rcases h.2 with ⟨rfl, _⟩ | ⟨g', cap, cur, rfl, _, hh, _⟩
  · simp [Value.ownBlock]
  · intro h
    simp [Value.ownBlock] at h
    subst h
    rw [hg] at hh
    injection hh with hh
    injection hh with _ h2 _
    exact he h2

/-- A block of other cells stays as a row grows. -/
theorem grown_other {w w' : World} {B n s g : Nat} {e e' : TypeId} {v : Value} {xs : List Value} {cs : Array Value} {fz : Nat × Nat} (h : w.ownsRow B e s v n xs) (hgr : w.grownBy w' v.ownBlock) (hg : w.heap[g]? = some (.cells cs e' fz)) (he : e' ≠ e) : w'.heap[g]? = some (.cells cs e' fz) :=
  (hgr.block g (Array.getElem?_eq_some_iff.1 hg).1 (fun h' => owns_other h hg he h'.symm)).trans hg

theorem owns_nil (w : World) (B : Nat) (e : TypeId) (s : Nat) : w.ownsRow B e s (.slice none 0 0) 0 [] := ⟨by simp, .inl ⟨rfl, rfl⟩⟩

theorem owns_below {w w' : World} {B n s : Nat} {e : TypeId} {v : Value} {xs : List Value} (h : w.ownsRow B e s v n xs) (hb : Below w.heap.size w w') : w'.ownsRow B e s v n xs :=
  h.kept (row := none) ⟨hb.os, hb.tape, hb.output, hb.size, fun k hk _ => hb.block k hk⟩ (by cases v.ownBlock <;> simp)

/-- Cells of rows, one behind the other. -/
theorem flat_cell {α : Type} (f : α → List Value) (s : Nat) (hf : ∀ x, (f x).length = s) : ∀ (l : List α) (k : Nat) (x : α), l[k]? = some x → ∀ j, j < s → (l.flatMap f)[k * s + j]? = (f x)[j]?
  | [], k, x, h, _, _ => by simp at h
  | y :: l, 0, x, h, j, hj => by
    simp at h
    subst h
    rw [List.flatMap_cons, Nat.zero_mul, Nat.zero_add, List.getElem?_append_left (by rw [hf]; exact hj)]
  | y :: l, k + 1, x, h, j, hj => by
    rw [List.flatMap_cons, List.getElem?_append_right (by rw [hf, Nat.add_mul, Nat.one_mul]; omega), hf]
    rw [show (k + 1) * s + j - s = k * s + j by rw [Nat.add_mul, Nat.one_mul]; omega]
    exact flat_cell f s hf l k x (by simpa using h) j hj

theorem flat_length {α : Type} (f : α → List Value) (s : Nat) (hf : ∀ x, (f x).length = s) : ∀ (l : List α), (l.flatMap f).length = l.length * s
  | [] => by simp
  | y :: l => by rw [List.flatMap_cons, List.length_append, hf, flat_length f s hf l, List.length_cons, Nat.add_mul]; omega

/-- A cell of a slice of rows. -/
theorem Reads.at {w : World} {s n cap : Nat} {a : Option Addr} {xs : List Value} (h : Reads w s (.slice a n cap) n xs) {j : Nat} {u : Value} (hj : xs[j]? = some u) :
    ∃ b off, a = some ⟨b, off, none⟩ ∧ b < w.heap.size ∧ w.cell? ⟨b, off + j, none⟩ = some u := by
  obtain ⟨hl, a', cap', hv, _, _, h3⟩ := h
  cases hv
  exact h3 j u hj
end Go.Proofs.YtoibhkmlebcepaaDoor

namespace Go.Proofs.YtoibhkmlebcepaaDoor
open Go Go.RowKit

/-- A value is told; nothing old is changed. -/
def GivesVal (w : World) (v : Value) (e : Ending) (w' : World) : Prop := e = .returned v ∧ Below w.heap.size w w'

theorem below_block {B : Nat} {w w' : World} (h : Below B w w') {g : Nat} {o : Obj} (hg : w.heap[g]? = some o) (hB : g < B) : w'.heap[g]? = some o := (h.block g hB).trans hg
end Go.Proofs.YtoibhkmlebcepaaDoor

namespace Go.Proofs.YtoibhkmlebcepaaDoor
open Go Go.RowKit

structure Ent where
  key : ByteArray
  rev : Nat
  del : Bool

def ecell (x : Ent) : List Value := [.string x.key, .int .u64 (x.rev : Int), .bool x.del]
def ecells (l : List Ent) : List Value := l.flatMap ecell
theorem ecell_length (x : Ent) : (ecell x).length = 3 := rfl

def entOk (rev : Nat) (x : Ent) : Bool := decide (x.rev = rev) && decide (x.key.size ≤ 65536)
def sizeOk (rev n : Nat) : Bool := decide (1 ≤ rev) && (decide (1 ≤ n) && decide (n ≤ 256))
def rightB (rev : Nat) (l : List Ent) : Bool := l.all (entOk rev) && sizeOk rev l.length

theorem all_bad {rev : Nat} {l : List Ent} {k : Nat} {x : Ent} (h : l[k]? = some x) (hx : entOk rev x = false) : rightB rev l = false := by
  unfold rightB
  have : l.all (entOk rev) = false := by
    rw [List.all_eq_false]
    exact ⟨x, List.mem_of_getElem? h, by rw [hx]; decide⟩
  rw [this]
  rfl

theorem all_good {rev : Nat} {l : List Ent} {k : Nat} {x : Ent} (h : l[k]? = some x) (hx : entOk rev x = true) (ha : (l.take k).all (entOk rev) = true) : (l.take (k + 1)).all (entOk rev) = true := by
  rw [List.take_add_one, List.all_append, ha, h]
  simp [hx]

/-- The cells of the k-th entry. -/
theorem ent_cells {w : World} {a : Option Addr} {n cap : Nat} {l : List Ent} (h : Reads w 3 (.slice a n cap) n (ecells l)) {k : Nat} {x : Ent} (hx : l[k]? = some x) :
    ∃ g off, a = some ⟨g, off, none⟩ ∧ g < w.heap.size ∧ w.cell? ⟨g, off + k * 3, none⟩ = some (.string x.key) ∧ w.cell? ⟨g, off + k * 3 + 1, none⟩ = some (.int .u64 (x.rev : Int)) ∧ w.cell? ⟨g, off + k * 3 + 2, none⟩ = some (.bool x.del) := by
  have hc : ∀ j u, (ecell x)[j]? = some u → ∃ b off, a = some ⟨b, off, none⟩ ∧ b < w.heap.size ∧ w.cell? ⟨b, off + k * 3 + j, none⟩ = some u := by
    intro j u hj
    have hj3 : j < 3 := (List.getElem?_eq_some_iff.1 hj).1
    obtain ⟨b, off, ha, hlb, hc⟩ := h.at (j := k * 3 + j) (u := u) (by
      unfold ecells
      rw [flat_cell ecell 3 ecell_length l k x hx j hj3]
      exact hj)
    exact ⟨b, off, ha, hlb, by rw [Nat.add_assoc]; exact hc⟩
  obtain ⟨g, off, rfl, hg, c0⟩ := hc 0 _ rfl
  obtain ⟨g1, off1, h1, _, c1⟩ := hc 1 _ rfl
  cases h1
  obtain ⟨g2, off2, h2, _, c2⟩ := hc 2 _ rfl
  cases h2
  exact ⟨g, off, rfl, hg, c0, c1, c2⟩

theorem below_reads {B s n : Nat} {w w' : World} {v : Value} {xs : List Value} (h : Reads w s v n xs) (hb : Below B w w') (hB : w.heap.size ≤ B) : Reads w' s v n xs :=
  h.below' (hb.mono hB)

end Go.Proofs.YtoibhkmlebcepaaDoor

namespace Go.Proofs.YtoibhkmlebcepaaDoor
open Go Go.RowKit

def MayRel (w : World) (rev : Nat) (sv : Value) (l : List Ent) (n : Nat) (i : Value) (wr : World) : Prop :=
  ∃ k : Nat, i = .int .i64 (k : Int) ∧ k ≤ n ∧ (l.take k).all (entOk rev) = true ∧ Below w.heap.size w wr ∧ wr.heap[w.heap.size]? = some (.cells #[.int .u64 (rev : Int), sv] 25 (0, 0))

theorem u64_ne (a b : Nat) : ((a : Int) != (b : Int)) = !decide (a = b) := by
  by_cases h : a = b
  · subst h; simp
  · rw [decide_eq_false h]
    simp
    omega

set_option maxRecDepth 100000 in
set_option maxHeartbeats 1000000 in
theorem maybe_any (w : World) (rev : Nat) (a : Option Addr) (n cap : Nat) (l : List Ent) (h : Reads w 3 (.slice a n cap) n (ecells l)) (hl : l.length = n) (hcap : n ≤ cap ∧ cap ≤ maxLen) (hks : ∀ x ∈ l, x.key.size ≤ maxLen) :
    Calls Tryd.prog 20 #[.agg #[.int .u64 (rev : Int), .slice a n cap]] w (GivesVal w (.bool (rightB rev l))) := by
  have HL := Lib.hid hl
  have HR := Lib.hid h
  have HK := Lib.hid hks
  unfold maxLen at hcap
  clear h hl hks
  have hg0 := heap_alloc_new w (.cells #[.int .u64 (rev : Int), .slice a n cap] 25)
  have hb0 : Below w.heap.size w (w.alloc (.cells #[.int .u64 (rev : Int), .slice a n cap] 25)) := (Below.refl _ w).alloc (Nat.le_refl _) _
  have HG0 := Lib.hid hg0
  have HB0 := Lib.hid hb0
  clear hg0 hb0
  go_enter Tryd.func20, Tryd.ntmps20
  go_wp2
  go_loopw [8] (fun i wr => MayRel w rev (.slice a n cap) l n i wr) (fun i _ => n - (intOf i).toNat)
  case atStart => exact ⟨0, rfl, Nat.zero_le _, rfl, HB0.out, HG0.out⟩
  case round =>
    obtain ⟨k, rfl, hk, hall, hb, hg⟩ := hrel
    have hbs := hb.size
    have q0 := Lib.cell_of_heap hg 0
    have q1 := Lib.cell_of_heap hg 1
    simp at q0 q1
    have hlt0 : w.heap.size < wr.heap.size := (Array.getElem?_eq_some_iff.1 hg).1
    have HB := Lib.hid hb
    have HG := Lib.hid hg
    have HA := Lib.hid hall
    clear hb hg hall HG0 HB0
    by_cases hlt : k < n
    · obtain ⟨x, hx⟩ : ∃ x, l[k]? = some x := ⟨l[k]'(by rw [HL.out]; exact hlt), List.getElem?_eq_getElem _⟩
      obtain ⟨g, off, rfl, hgl, c0, c1, c2⟩ := ent_cells (HR.out.below' HB.out) hx
      have hsz := HK.out x (List.mem_of_getElem? hx)
      unfold maxLen at hsz
      have hbad := fun h => all_bad (rev := rev) hx h
      have hgood := fun h => all_good hx h HA.out
      have hkI : (k : Int) < n := by omega
      have hne := u64_ne x.rev rev
      unfold entOk at hbad hgood
      obtain ⟨key, r, d⟩ := x
      dsimp only at c0 c1 c2 hsz hbad hgood hne
      have HBa := Lib.hid hbad
      have HGo := Lib.hid hgood
      clear hbad hgood hx
      by_cases hr : r = rev
      · rw [decide_eq_true hr] at hne
        by_cases hz : key.size ≤ 65536
        · have hzI : ¬ (65536 : Int) < key.size := by omega
          have HGG := Lib.hid (HGo.out (by rw [decide_eq_true hr, decide_eq_true hz]; rfl))
          subst hr
          clear hne
          go_wp2
          refine ⟨⟨k + 1, by go_num, by omega, HGG.out, HB.out.alloc hbs _, (heap_alloc_old _ _ hlt0).trans HG.out⟩, by simp [intOf]; omega⟩
        · have hzI : (65536 : Int) < key.size := by omega
          have HBB := Lib.hid (HBa.out (by rw [decide_eq_false hz]; simp))
          subst hr
          clear hne
          go_wp2
          go_ret
          rw [HBB.out]
          exact ⟨rfl, HB.out.alloc hbs _⟩
      · rw [decide_eq_false hr] at hne
        have HBB := Lib.hid (HBa.out (by rw [decide_eq_false hr]; simp))
        have hne2 : ((r : Int) != (rev : Int)) = true := by rw [hne]; rfl
        clear hne hr
        go_wp2
        go_ret
        rw [HBB.out]
        exact ⟨rfl, HB.out.alloc hbs _⟩
    · obtain rfl : k = n := by omega
      have hkI : ¬ ((k : Int) < k) := by omega
      have htk : l.take k = l := by rw [← HL.out]; exact List.take_length
      have hA := HA.out
      rw [htk] at hA
      have hrb : rightB rev l = sizeOk rev k := by unfold rightB; rw [hA, HL.out]; rfl
      have HRb := Lib.hid hrb
      clear htk hA hrb
      by_cases h1 : 1 ≤ rev
      · have h1I : (1 : Int) ≤ rev := by omega
        by_cases h2 : 1 ≤ k
        · have h2I : (1 : Int) ≤ k := by omega
          by_cases h3 : k ≤ 256
          · have h3I : (k : Int) ≤ 256 := by omega
            have hs : sizeOk rev k = true := by unfold sizeOk; rw [decide_eq_true h1, decide_eq_true h2, decide_eq_true h3]; rfl
            have HS := Lib.hid hs
            clear hs
            go_wp2
            go_ret
            rw [HRb.out, HS.out]
            exact ⟨rfl, HB.out⟩
          · have h3I : ¬ (k : Int) ≤ 256 := by omega
            have hs : sizeOk rev k = false := by unfold sizeOk; rw [decide_eq_false h3]; simp
            have HS := Lib.hid hs
            clear hs
            go_wp2
            go_ret
            rw [HRb.out, HS.out]
            exact ⟨rfl, HB.out⟩
        · have h2I : ¬ (1 : Int) ≤ k := by omega
          have hs : sizeOk rev k = false := by unfold sizeOk; rw [decide_eq_false h2]; simp
          have HS := Lib.hid hs
          clear hs
          go_wp2
          go_ret
          rw [HRb.out, HS.out]
          exact ⟨rfl, HB.out⟩
      · have h1I : ¬ (1 : Int) ≤ rev := by omega
        have hs : sizeOk rev k = false := by unfold sizeOk; rw [decide_eq_false h1]; simp
        have HS := Lib.hid hs
        clear hs
        go_wp2
        go_ret
        rw [HRb.out, HS.out]
        exact ⟨rfl, HB.out⟩
end Go.Proofs.YtoibhkmlebcepaaDoor
