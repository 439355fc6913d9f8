/- What the proof stands on, part 3. -/
import Derived.Test.YtfhdonidgegebaaDoorMg2
import Derived.BigQuiet
import Derived.Deep.QuietTactic
import Derived.Test.YtfhdonidgegebaaDoorRows
/- Rows of strings, held against each other. -/
namespace Go.Proofs.YtfhdonidgegebaaDoor
open Go Go.RowKit

theorem str_eq (x y : ByteArray) : (x.toList == y.toList) = decide (x = y) := by
  rw [Go.ByteArray.toList_eq, Go.ByteArray.toList_eq]
  by_cases h : x = y
  · subst h
    simp
  · rw [decide_eq_false h, beq_eq_false_iff_ne]
    exact fun e => h (Go.WideShapes.bytes_inj e)

def SameSRel (w : World) (l m : List ByteArray) (v : Value) (wr : World) : Prop := ∃ k : Nat, v = .int .i64 (k : Int) ∧ k ≤ l.length ∧ l.take k = m.take k ∧ Below w.heap.size w wr

theorem below_quiet {B : Nat} {w wr : World} (h : Below B w wr) (n : Nat) : Below B w (wr.drewN n) := ⟨h.os, h.tape, h.output, h.size, h.block⟩

set_option maxRecDepth 100000 in
set_option maxHeartbeats 2000000 in
theorem sames_any (w : World) (a a2 : Option Addr) (n n2 cap cap2 : Nat) (l m : List ByteArray) (h : Reads w 1 (.slice a n cap) n (scells l)) (k : Reads w 1 (.slice a2 n2 cap2) n2 (scells m)) :
    Calls Tryd.prog 17 #[.slice a n cap, .slice a2 n2 cap2] w (GivesBool w (decide (l = m))) := by
  have hll : l.length = n := by have := h.1; rw [scells_length] at this; omega
  have hml : m.length = n2 := by have := k.1; rw [scells_length] at this; omega
  obtain ⟨_, _, hv, hc1, hc2⟩ := h.le
  cases hv
  unfold maxLen at hc2
  have HR := Lib.hid h
  have HK := Lib.hid k
  have HL := Lib.hid hll
  have HM := Lib.hid hml
  clear h k
  by_cases hn : n = n2
  · subst hn
    clear hll hml
    go_enter Tryd.func17, Tryd.ntmps17
    go_wp2
    go_loopw [13] (fun v wr => SameSRel w l m v wr) (fun v _ => n - (intOf v).toNat)
    case atStart => exact ⟨0, rfl, Nat.zero_le _, by simp, Below.refl _ _⟩
    case round =>
      obtain ⟨i, rfl, hil, htk, hb⟩ := hrel
      rw [HL.out] at hil
      have HB := Lib.hid hb
      have HT := Lib.hid htk
      clear hb htk
      by_cases hin : i < n
      · have hinI : (i : Int) < n := by omega
        obtain ⟨b, off, x, rfl, hx, hbx, hcx⟩ := (HR.out.below' HB.out).scell i hin
        obtain ⟨b2, off2, y, rfl, hy, hby, hcy⟩ := (HK.out.below' HB.out).scell i hin
        have hxy := str_eq x y
        by_cases he : x = y
        · subst he
          have hd : (x.toList == x.toList) = true := by rw [str_eq]; simp
          have HX := Lib.hid hx
          have HY := Lib.hid hy
          clear hx hy hxy
          go_wp2
          go_quiet (fail)
          go_wp2
          refine ⟨⟨i + 1, by go_num, by rw [HL.out]; omega, ?_, below_quiet HB.out _⟩, by simp [intOf]; omega⟩
          rw [List.take_add_one, List.take_add_one, HX.out, HY.out, HT.out]
        · rw [decide_eq_false he] at hxy
          have hne : decide (l = m) = false := by
            rw [decide_eq_false]
            intro e
            subst e
            rw [hx] at hy
            exact he (Option.some.inj hy)
          have HN := Lib.hid hne
          clear hx hy hne
          go_wp2
          go_quiet (fail)
          go_wp2
          go_ret
          rw [HN.out]
          exact ⟨rfl, below_quiet HB.out _⟩
      · have hinI : ¬ ((i : Int) < n) := by omega
        have hlm : decide (l = m) = true := by
          rw [decide_eq_true_eq]
          have h1 := HT.out
          rw [List.take_of_length_le (by rw [HL.out]; omega), List.take_of_length_le (by rw [HM.out]; omega)] at h1
          exact h1
        have HN := Lib.hid hlm
        clear hlm
        go_wp2
        go_ret
        rw [HN.out]
        exact ⟨rfl, HB.out⟩
  · have hnI : ((n : Int) == n2) = false := by simp; omega
    have hne : decide (l = m) = false := by
      rw [decide_eq_false]
      intro e
      subst e
      omega
    have HN := Lib.hid hne
    clear hne hll hml
    go_enter Tryd.func17, Tryd.ntmps17
    go_wp2
    go_ret
    rw [HN.out]
    exact ⟨rfl, Below.refl _ _⟩

/-- How two strings stand. -/
theorem bl_cases (x y : ByteArray) : (bl x y = true ∧ bl y x = false ∧ x ≠ y) ∨ (bl x y = false ∧ bl y x = false ∧ x = y) ∨ (bl x y = false ∧ bl y x = true ∧ x ≠ y) := by
  cases h : bl x y with
  | true => exact .inl ⟨rfl, bl_asymm h, bl_ne h⟩
  | false =>
    cases k : bl y x with
    | true => exact .inr (.inr ⟨rfl, rfl, fun e => bl_ne k e.symm⟩)
    | false => exact .inr (.inl ⟨rfl, rfl, bl_total h k⟩)

def RisesRel (w : World) (l : List ByteArray) (v : Value) (wr : World) : Prop := ∃ k : Nat, v = .int .i64 (k : Int) ∧ 1 ≤ k ∧ k ≤ l.length + 1 ∧ stepsUp l k ∧ Below w.heap.size w wr

theorem steps_more {l : List ByteArray} {k : Nat} {x y : ByteArray} (h : stepsUp l k) (hx : l[k - 1]? = some x) (hy : l[k]? = some y) (hxy : bl x y = true) : stepsUp l (k + 1) := by
  intro i h0 hi p q hp hq
  by_cases hik : i < k
  · exact h i h0 hik p q hp hq
  · obtain rfl : i = k := by omega
    rw [hx] at hp
    rw [hy] at hq
    cases hp
    cases hq
    exact hxy

theorem steps_one (l : List ByteArray) : stepsUp l 1 := fun i h0 hi => by omega

end Go.Proofs.YtfhdonidgegebaaDoor

namespace Go.Proofs.YtfhdonidgegebaaDoor
open Go.RowKit

set_option maxHeartbeats 400000 in
theorem behind_any (a : Option Addr) (n cap : Nat) (h1 : n ≤ cap) (_h2 : cap ≤ maxLen) (w : World) :
    Calls Tryd.prog 79 #[.slice a n cap] w fun e w' => e = .returned (.slice a n n) ∧ w = w' := by
  unfold maxLen at _h2
  go_enter Tryd.func79, Tryd.ntmps79
  go_wp2
  go_ret
  exact ⟨rfl, rfl⟩

theorem or128_all : ∀ r : Fin 256, bits BinOp.or .u8 ((r.val : Nat) : Int) 128 = ((r.val % 128 + 128 : Nat) : Int) := by decide +kernel

theorem or128 (M : Nat) : bits BinOp.or .u8 ((M : Int) % 256) 128 = ((UInt8.ofNat (M % 128 + 128)).toNat : Int) := by
  have h := or128_all ⟨M % 256, Nat.mod_lt _ (by omega)⟩
  have e : ((M % 256 : Nat) : Int) = (M : Int) % 256 := by omega
  simp only [e] at h
  rw [h]
  simp
  omega

def PutRel (w : World) (xs : List UInt8) (N : Nat) (s m : Value) (wr : World) : Prop :=
  ∃ (ys : List UInt8) (M : Nat), m = .int .u64 (M : Int) ∧ M ≤ N ∧ ys.length + (enc M).length ≤ xs.length + 10 ∧ xs ++ enc N = ys ++ enc M ∧ Fresh w.heap.size wr 5 1 s ys.length (bcells ys) ∧ Below w.heap.size w wr

set_option maxHeartbeats 400000 in
set_option maxRecDepth 100000 in
theorem put_any (w : World) (v : Value) (xs : List UInt8) (N : Nat) (h : Reads w 1 v xs.length (bcells xs)) (hn : xs.length ≤ 1000000000) (hN : N < 18446744073709551616) :
    Calls Tryd.prog 54 #[v, .int .u64 N] w (GivesBytes w (xs ++ enc N)) := by
  obtain ⟨i0, hi, hz0, hz1, hz2⟩ := info_parts info5
  have hel := enc_length_le 9 N (by omega)
  obtain ⟨hl, a, cap, rfl, h1, h2, h3⟩ := h
  have hf : Fresh w.heap.size w 5 1 (.slice a xs.length xs.length) xs.length (bcells xs) := ⟨⟨hl, a, _, rfl, Nat.le_refl _, Nat.le_trans h1 h2, h3⟩, .inl ⟨a, rfl⟩⟩
  have HN := Lib.hid hN
  clear hl h3 hN
  go_enter Tryd.func54, Tryd.ntmps54
  go_wp2_with (go_at_call 79; refine (behind_any _ _ _ h1 h2 _).mono ?_; rintro e w' ⟨rfl, rfl⟩)
  clear h1 h2
  go_loopw [0, 1] (fun s m wr => PutRel w xs N s m wr) (fun _ m _ => (intOf m).toNat)
  case atStart => exact ⟨xs, N, rfl, Nat.le_refl _, by omega, rfl, hf, Below.refl _ _⟩
  case round =>
    obtain ⟨ys, M, rfl, hM, hk, heq, hfr, hb⟩ := hrel
    have hbs := hb.size
    have Heq := Lib.hid heq
    clear heq hf hel
    by_cases hc : M < 128
    · rw [enc_lt hc] at hk
      simp at hk
      have e1 : (M : Int) < 128 := by omega
      go_wp2_with (at_builtin; go_must (refine wpList_append_one (w0 := wr) rfl _ _ 24 rfl w.heap.size 5 i0 (.int .u8 0) 1 Tryd.underlying24 hi hz0 hz1 hz2 rfl hfr rfl rfl rfl ?_ ?_ hbs ?_))
      · unfold maxLen; omega
      · omega
      intro v' w1 f1 g1 b1 m1
      rw [bcells_snoc ys (UInt8.ofNat M) (by simp; omega)] at f1
      go_wp2
      go_ret
      rw [← enc_lt hc, ← Heq.out] at f1
      refine ⟨_, rfl, ?_, hb.trans b1⟩
      have e2 : (xs ++ enc N).length = ys.length + 1 := by rw [Heq.out, enc_lt hc]; simp
      rw [e2]
      exact f1
    · have e1 : (128 : Int) ≤ M := by omega
      go_wp2_with (at_builtin; go_must (refine wpList_append_one (w0 := wr) rfl _ _ 24 rfl w.heap.size 5 i0 (.int .u8 0) 1 Tryd.underlying24 hi hz0 hz1 hz2 rfl hfr rfl rfl rfl ?_ ?_ hbs ?_))
      · unfold maxLen; omega
      · omega
      intro v' w1 f1 g1 b1 m1
      rw [bcells_snoc ys _ (or128 M)] at f1
      rw [enc_ge hc] at hk
      simp at hk
      go_wp2
      refine ⟨⟨ys ++ [UInt8.ofNat (M % 128 + 128)], M / 128, by simp, by omega, by simp; omega, ?_, by simpa using f1, hb.trans b1⟩, by simp [intOf]; omega⟩
      rw [Heq.out, enc_ge hc]
      simp

theorem get_step (V k : Nat) (c : UInt8) (hV : V < 128 ^ k) (hk : k < 10) :
    bits BinOp.or .u64 (V : Int) (IntKind.u64.wrap (IntKind.u64.wrap (bits BinOp.and .u8 (c.toNat : Int) 127) * 2 ^ (7 * k))) = ((V + c.toNat % 128 * 128 ^ k % 18446744073709551616 : Nat) : Int) := by
  have hc := c.toNat_lt
  have e128 : (128 : Nat) ^ k = 2 ^ (7 * k) := by rw [Nat.pow_mul]
  have e1 := u8_and_nat c.toNat 127 (by omega) (by omega)
  rw [nat_mask7] at e1
  simp only [Int.cast_ofNat_Int] at e1
  rw [e1, IntKind.wrap_u64, IntKind.wrap_u64]
  have e2 : ((c.toNat % 128 : Nat) : Int) % 18446744073709551616 * 2 ^ (7 * k) % 18446744073709551616 = ((c.toNat % 128 * 128 ^ k % 18446744073709551616 : Nat) : Int) := by
    rw [e128, show ((c.toNat % 128 : Nat) : Int) % 18446744073709551616 = ((c.toNat % 128 : Nat) : Int) by omega]
    simp
  rw [e2]
  have hV' : V < 18446744073709551616 := Nat.lt_of_lt_of_le hV (by
    rw [e128]
    exact Nat.le_trans (Nat.pow_le_pow_right (by omega) (show 7 * k ≤ 63 by omega)) (by decide))
  rw [bits_or_u64_nat _ _ hV' (Nat.mod_lt _ (by omega)), Nat.or_comm, nat_join (7 * k), Nat.add_comm]
  · have hd : 2 ^ (7 * k) ∣ 18446744073709551616 := by
      have : (18446744073709551616 : Nat) = 2 ^ (7 * k) * 2 ^ (64 - 7 * k) := by rw [← Nat.pow_add, show 7 * k + (64 - 7 * k) = 64 by omega]
      exact ⟨_, this⟩
    rw [e128, Nat.mod_mod_of_dvd _ hd]
    simp
  · rw [← e128]; exact hV

def GetPost (w : World) (r : Nat × Nat × Nat) (e : Ending) (w' : World) : Prop :=
  e = .returned (.tuple #[.int .u64 (r.1 : Int), .int .i64 (r.2.1 : Int), .int .i64 (r.2.2 : Int)]) ∧ w = w'

def GetRel (l : List UInt8) (v c : Value) : Prop :=
  ∃ (k V : Nat), c = .int .i64 (k : Int) ∧ v = .int .u64 (V : Int) ∧ k ≤ l.length ∧ k ≤ 10 ∧ V < 128 ^ k ∧ getGo 0 0 l = getGo k V (l.drop k)

set_option maxRecDepth 100000 in
set_option maxHeartbeats 400000 in
theorem get_any (w : World) (v : Value) (n : Nat) (l : List UInt8) (h : Reads w 1 v n (bcells l)) :
    Calls Tryd.prog 82 #[v] w (GetPost w (getGo 0 0 l)) := by
  by_cases hp : n = 0
  · obtain ⟨hl, a, cap, rfl, h1, h2, h3⟩ := h
    subst hp
    have : l = [] := by simpa [bcells_length] using hl
    subst this
    clear h3 hl
    unfold maxLen at h2
    go_enter Tryd.func82, Tryd.ntmps82
    go_wp2
    refine wp_loop_rounds 1 ?_
    rw [rounds_succ]
    go_wp2
    go_ret3
    exact ⟨rfl, rfl⟩
  · obtain ⟨b, off, cap, rfl, h1, h2, hl, hcell⟩ := h.head (by omega)
    unfold maxLen at h2
    clear h
    by_cases hm : n ≤ 10
    · have hm' : (n : Int) ≤ 10 := by omega
      go_enter Tryd.func82, Tryd.ntmps82
      go_wp2
      go_loop [5, 11] (fun v c => GetRel l v c) (fun _ c => 20 - (intOf c).toNat)
      case atStart => exact ⟨0, 0, rfl, rfl, by omega, by omega, by simp, rfl⟩
      case round =>
        obtain ⟨k, V, rfl, rfl, hk, hk10, hV, heq⟩ := hrel
        have hcell' : k < n → w.cell? ⟨b, off + k, none⟩ = some (.int .u8 ((l.getD k 0).toNat : Int)) := fun h => hcell k h
        have Heq := Lib.hid heq
        have Hc := Lib.hid hcell
        have HV := Lib.hid hV
        clear heq hcell hV
        by_cases hkn : k < n
        · have c0 := hcell' hkn
          generalize hc : l.getD k 0 = c at c0
          have Hcc := Lib.hid hc
          clear hc hcell'
          have hcl := c.toNat_lt
          have hs := get_step V k c HV.out (by omega)
          have Hs := Lib.hid hs
          clear hs
          by_cases h128 : 128 ≤ c.toNat
          · go_wp2_with fail
            rw [Hs.out]
            refine ⟨⟨k + 1, _, by go_num, rfl, by omega, by omega, get_grows HV.out, ?_⟩, by simp [intOf]; omega⟩
            have h1 := Hcc.out
            rw [Heq.out, getGo_more (by omega) (by omega) (by rw [h1]; exact h128), h1]
          · by_cases g1 : 0 < k ∧ c.toNat = 0
            · have g2 : ((0 : Int) < k) := by omega
              have g3 : (((c.toNat : Int)) == 0) = true := by simp; omega
              go_wp2_with fail
              go_ret3
              refine ⟨?_, rfl⟩
              rw [Heq.out, getGo_bad (by omega) (by omega) (by rw [Hcc.out]; exact h128) (by rw [Hcc.out]; omega)]
              rfl
            · by_cases g4 : k = 9 ∧ 1 < c.toNat
              · have g2 : ((0 : Int) < k) := by omega
                have g3 : (((c.toNat : Int)) == 0) = false := by simp; omega
                have g5 : ((k : Int) == 9) = true := by simp; omega
                have g6 : (1 : Int) < c.toNat := by omega
                have G1 := Lib.hid g1
                have G4 := Lib.hid g4
                clear g1 g4
                go_wp2_with fail
                go_ret3
                refine ⟨?_, rfl⟩
                have g4 := G4.out
                rw [Heq.out, getGo_bad (by omega) (by omega) (by rw [Hcc.out]; exact h128) (by rw [Hcc.out]; omega)]
                rfl
              · have G1 := Lib.hid g1
                have G4 := Lib.hid g4
                clear g1 g4
                by_cases g2 : 0 < k
                · have g2' : ((0 : Int) < k) := by omega
                  have g3 : (((c.toNat : Int)) == 0) = false := by have := G1.out; simp; omega
                  by_cases g5 : k = 9
                  · have g5' : ((k : Int) == 9) = true := by simp; omega
                    have g6 : ¬ (1 : Int) < c.toNat := by have := G4.out; omega
                    have G5 := Lib.hid g5
                    clear g5
                    go_wp2_with fail
                    go_ret3
                    refine ⟨?_, rfl⟩
                    have g1 := G1.out
                    have g4 := G4.out
                    rw [Heq.out, getGo_good (by omega) (by omega) (by rw [Hcc.out]; exact h128) (by rw [Hcc.out]; omega), Hcc.out, Hs.out]
                    simp
                  · have g5' : ((k : Int) == 9) = false := by simp; omega
                    go_wp2_with fail
                    go_ret3
                    refine ⟨?_, rfl⟩
                    have g1 := G1.out
                    have g4 := G4.out
                    rw [Heq.out, getGo_good (by omega) (by omega) (by rw [Hcc.out]; exact h128) (by rw [Hcc.out]; omega), Hcc.out, Hs.out]
                    simp
                · have g2' : ¬ ((0 : Int) < k) := by omega
                  have g5' : ((k : Int) == 9) = false := by simp; omega
                  go_wp2_with fail
                  go_ret3
                  refine ⟨?_, rfl⟩
                  have g1 := G1.out
                  have g4 := G4.out
                  rw [Heq.out, getGo_good (by omega) (by omega) (by rw [Hcc.out]; exact h128) (by rw [Hcc.out]; omega), Hcc.out, Hs.out]
                  simp
        · have hkn' : ¬ ((k : Int) < n) := by omega
          by_cases h10 : n = 10
          · have h10' : ((10 : Int) ≤ n) := by omega
            have H10 := Lib.hid h10
            clear h10
            go_wp2_with fail
            go_ret3
            refine ⟨?_, rfl⟩
            rw [Heq.out, getGo_end (by omega)]
            have := H10.out
            rw [if_pos (by omega)]
            rfl
          · have h10' : ¬ ((10 : Int) ≤ n) := by omega
            go_wp2_with fail
            go_ret3
            refine ⟨?_, rfl⟩
            rw [Heq.out, getGo_end (by omega), if_neg (by omega)]
            rfl
    · have hm' : ¬ (n : Int) ≤ 10 := by omega
      go_enter Tryd.func82, Tryd.ntmps82
      go_wp2
      go_loop [5, 11] (fun v c => GetRel l v c) (fun _ c => 20 - (intOf c).toNat)
      case atStart => exact ⟨0, 0, rfl, rfl, by omega, by omega, by simp, rfl⟩
      case round =>
        obtain ⟨k, V, rfl, rfl, hk, hk10, hV, heq⟩ := hrel
        have hcell' : k < n → w.cell? ⟨b, off + k, none⟩ = some (.int .u8 ((l.getD k 0).toNat : Int)) := fun h => hcell k h
        have Heq := Lib.hid heq
        have Hc := Lib.hid hcell
        have HV := Lib.hid hV
        clear heq hcell hV
        by_cases hkn : k < 10
        · have c0 := hcell' (by omega)
          generalize hc : l.getD k 0 = c at c0
          have Hcc := Lib.hid hc
          clear hc hcell'
          have hcl := c.toNat_lt
          have hs := get_step V k c HV.out (by omega)
          have Hs := Lib.hid hs
          clear hs
          by_cases h128 : 128 ≤ c.toNat
          · go_wp2_with fail
            rw [Hs.out]
            refine ⟨⟨k + 1, _, by go_num, rfl, by omega, by omega, get_grows HV.out, ?_⟩, by simp [intOf]; omega⟩
            have h1 := Hcc.out
            rw [Heq.out, getGo_more (by omega) (by omega) (by rw [h1]; exact h128), h1]
          · by_cases g1 : 0 < k ∧ c.toNat = 0
            · have g2 : ((0 : Int) < k) := by omega
              have g3 : (((c.toNat : Int)) == 0) = true := by simp; omega
              go_wp2_with fail
              go_ret3
              refine ⟨?_, rfl⟩
              rw [Heq.out, getGo_bad (by omega) (by omega) (by rw [Hcc.out]; exact h128) (by rw [Hcc.out]; omega)]
              rfl
            · by_cases g4 : k = 9 ∧ 1 < c.toNat
              · have g2 : ((0 : Int) < k) := by omega
                have g3 : (((c.toNat : Int)) == 0) = false := by simp; omega
                have g5 : ((k : Int) == 9) = true := by simp; omega
                have g6 : (1 : Int) < c.toNat := by omega
                have G1 := Lib.hid g1
                have G4 := Lib.hid g4
                clear g1 g4
                go_wp2_with fail
                go_ret3
                refine ⟨?_, rfl⟩
                have g4 := G4.out
                rw [Heq.out, getGo_bad (by omega) (by omega) (by rw [Hcc.out]; exact h128) (by rw [Hcc.out]; omega)]
                rfl
              · have G1 := Lib.hid g1
                have G4 := Lib.hid g4
                clear g1 g4
                by_cases g2 : 0 < k
                · have g2' : ((0 : Int) < k) := by omega
                  have g3 : (((c.toNat : Int)) == 0) = false := by have := G1.out; simp; omega
                  by_cases g5 : k = 9
                  · have g5' : ((k : Int) == 9) = true := by simp; omega
                    have g6 : ¬ (1 : Int) < c.toNat := by have := G4.out; omega
                    have G5 := Lib.hid g5
                    clear g5
                    go_wp2_with fail
                    go_ret3
                    refine ⟨?_, rfl⟩
                    have g1 := G1.out
                    have g4 := G4.out
                    rw [Heq.out, getGo_good (by omega) (by omega) (by rw [Hcc.out]; exact h128) (by rw [Hcc.out]; omega), Hcc.out, Hs.out]
                    simp
                  · have g5' : ((k : Int) == 9) = false := by simp; omega
                    go_wp2_with fail
                    go_ret3
                    refine ⟨?_, rfl⟩
                    have g1 := G1.out
                    have g4 := G4.out
                    rw [Heq.out, getGo_good (by omega) (by omega) (by rw [Hcc.out]; exact h128) (by rw [Hcc.out]; omega), Hcc.out, Hs.out]
                    simp
                · have g2' : ¬ ((0 : Int) < k) := by omega
                  have g5' : ((k : Int) == 9) = false := by simp; omega
                  go_wp2_with fail
                  go_ret3
                  refine ⟨?_, rfl⟩
                  have g1 := G1.out
                  have g4 := G4.out
                  rw [Heq.out, getGo_good (by omega) (by omega) (by rw [Hcc.out]; exact h128) (by rw [Hcc.out]; omega), Hcc.out, Hs.out]
                  simp
        · have hkn' : ¬ ((k : Int) < 10) := by omega
          have h10' : ((10 : Int) ≤ n) := by omega
          obtain rfl : k = 10 := by omega
          go_wp2_with fail
          go_ret3
          refine ⟨?_, rfl⟩
          rw [Heq.out, getGo_ten]
          rfl
end Go.Proofs.YtfhdonidgegebaaDoor

namespace Go.Proofs.YtfhdonidgegebaaDoor
open Go.RowKit

set_option maxRecDepth 100000 in
set_option maxHeartbeats 400000 in
theorem refput_any (w : World) (v : Value) (xs : List UInt8) (N : Nat) (h : Reads w 1 v xs.length (bcells xs)) (hn : xs.length ≤ 1000000000) (hN : N < 18446744073709551616) :
    Calls Tryd.prog 34 #[v, .int .u64 N] w (GivesBytes w (xs ++ enc N)) := by
  obtain ⟨i0, hi, hz0, hz1, hz2⟩ := info_parts info5
  have hel := enc_length_le 9 N (by omega)
  have HN := Lib.hid hN
  have hsrc := Reads.src (P := Tryd.prog) (tx := 24) Tryd.underlying24 (h.alloc (.cells #[] 5)) (bcells_one xs)
  have hb0 : Below w.heap.size w (w.alloc (.cells #[] 5)) := (Below.refl _ _).alloc (Nat.le_refl _) _
  have hf0 := fresh_empty w 5 1
  clear hN
  go_enter Tryd.func34, Tryd.ntmps34
  go_wp2_with (at_builtin; go_must (refine wpList_append_fresh rfl _ _ 24 24 rfl w.heap.size 5 i0 (.int .u8 0) 1 1 Tryd.underlying24 hi hz0 hz1 hz2 rfl _ _ _ rfl hf0 _ _ _ rfl hsrc ?_ ?_ ?_ ?_))
  · unfold maxLen; omega
  · omega
  · simp
  intro v1 w1 f1 _ b1 _
  have b2 := hb0.trans b1
  go_wp2
  clear hf0 hb0 b1 hsrc h
  go_loopw [5, 1] (fun s m wr => PutRel w xs N s m wr) (fun _ m _ => (intOf m).toNat)
  case atStart => exact ⟨xs, N, rfl, Nat.le_refl _, by omega, rfl, f1, b2⟩
  case round =>
    obtain ⟨ys, M, rfl, hM, hk, heq, hfr, hb⟩ := hrel
    have hbs := hb.size
    have Heq := Lib.hid heq
    clear heq f1 b2 hel
    by_cases hc : M < 128
    · rw [enc_lt hc] at hk
      simp at hk
      have e1 : (M : Int) < 128 := by omega
      go_wp2_with (at_builtin; go_must (refine wpList_append_one (w0 := wr) rfl _ _ 24 rfl w.heap.size 5 i0 (.int .u8 0) 1 Tryd.underlying24 hi hz0 hz1 hz2 rfl hfr rfl rfl rfl ?_ ?_ hbs ?_))
      · unfold maxLen; omega
      · omega
      intro v' w1 f1 g1 b1 m1
      rw [bcells_snoc ys (UInt8.ofNat M) (by simp; omega)] at f1
      go_wp2
      go_ret
      rw [← enc_lt hc, ← Heq.out] at f1
      refine ⟨_, rfl, ?_, hb.trans b1⟩
      have e2 : (xs ++ enc N).length = ys.length + 1 := by rw [Heq.out, enc_lt hc]; simp
      rw [e2]
      exact f1
    · have e1 : (128 : Int) ≤ M := by omega
      have ew : IntKind.u64.wrap ((M : Int) / 128) = (M : Int) / 128 := by
        rw [IntKind.wrap_u64]
        have := HN.out
        omega
      go_wp2_with (at_builtin; go_must (refine wpList_append_one (w0 := wr) rfl _ _ 24 rfl w.heap.size 5 i0 (.int .u8 0) 1 Tryd.underlying24 hi hz0 hz1 hz2 rfl hfr rfl rfl rfl ?_ ?_ hbs ?_))
      · unfold maxLen; omega
      · omega
      intro v' w1 f1 g1 b1 m1
      rw [bcells_snoc ys (UInt8.ofNat (M % 128 + 128)) (by simp; omega)] at f1
      rw [enc_ge hc] at hk
      simp at hk
      go_wp2
      refine ⟨⟨ys ++ [UInt8.ofNat (M % 128 + 128)], M / 128, by simp, by omega, by simp; omega, ?_, by simpa using f1, hb.trans b1⟩, by simp [intOf]; omega⟩
      rw [Heq.out, enc_ge hc]
      simp
end Go.Proofs.YtfhdonidgegebaaDoor

namespace Go.Proofs.YtfhdonidgegebaaDoor
open Go.RowKit

set_option maxRecDepth 100000 in
set_option maxHeartbeats 400000 in
theorem puttext_any (w : World) (v : Value) (xs : List UInt8) (s : ByteArray) (h : Reads w 1 v xs.length (bcells xs)) (hn : xs.length ≤ 1000000000) (hs : s.size ≤ 1000000000) :
    Calls Tryd.prog 55 #[v, .string s] w (GivesBytes w (xs ++ enc s.size ++ s.data.toList)) := by
  obtain ⟨i0, hi, hz0, hz1, hz2⟩ := info_parts info5
  have hel := enc_length_le 9 s.size (by omega)
  have hsl : s.data.toList.length = s.size := Array.length_toList
  have Hsl := Lib.hid hsl
  clear hsl
  go_enter Tryd.func55, Tryd.ntmps55
  go_wp2_with (go_at_call 54; go_must (refine (put_any w v xs s.size h hn (by omega)).mono ?_))
  rintro e w1 ⟨v1, rfl, f1, b1⟩
  have bs1 := b1.size
  have hl1 : (xs ++ enc s.size).length = xs.length + (enc s.size).length := List.length_append
  generalize hL : xs ++ enc s.size = L at f1 hl1
  have HL := Lib.hid hL
  clear hL
  have hsrc := Src.ofString (P := Tryd.prog) (w := w1) (tx := 9) Tryd.underlying9 s
  go_wp2_with (at_builtin; go_must (refine wpList_append_fresh rfl _ _ 24 9 rfl w.heap.size 5 i0 (.int .u8 0) 1 1 Tryd.underlying24 hi hz0 hz1 hz2 rfl _ _ _ rfl f1 _ _ _ rfl hsrc ?_ ?_ ?_ ?_))
  · unfold maxLen; omega
  · omega
  · exact bs1
  intro v2 w2 f2 _ b2 _
  rw [bcells_byteCells, ← bcells_append] at f2
  go_wp2
  go_ret
  refine ⟨_, rfl, ?_, b1.trans b2⟩
  rw [HL.out, show (L ++ s.data.toList).length = xs.length + (enc s.size).length + s.size from by rw [List.length_append, Hsl.out, hl1]]
  exact f2

set_option maxRecDepth 100000 in
set_option maxHeartbeats 400000 in
theorem refputtext_any (w : World) (v : Value) (xs : List UInt8) (s : ByteArray) (h : Reads w 1 v xs.length (bcells xs)) (hn : xs.length ≤ 1000000000) (hs : s.size ≤ 1000000000) :
    Calls Tryd.prog 37 #[v, .string s] w (GivesBytes w (xs ++ enc s.size ++ s.data.toList)) := by
  obtain ⟨i0, hi, hz0, hz1, hz2⟩ := info_parts info5
  have hel := enc_length_le 9 s.size (by omega)
  have hsl : s.data.toList.length = s.size := Array.length_toList
  have Hsl := Lib.hid hsl
  clear hsl
  go_enter Tryd.func37, Tryd.ntmps37
  go_wp2_with (go_at_call 34; go_must (refine (refput_any w v xs s.size h hn (by omega)).mono ?_))
  rintro e w1 ⟨v1, rfl, f1, b1⟩
  have bs1 := b1.size
  have hl1 : (xs ++ enc s.size).length = xs.length + (enc s.size).length := List.length_append
  generalize hL : xs ++ enc s.size = L at f1 hl1
  have HL := Lib.hid hL
  clear hL
  have hsrc := Src.ofString (P := Tryd.prog) (w := w1) (tx := 9) Tryd.underlying9 s
  go_wp2_with (at_builtin; go_must (refine wpList_append_fresh rfl _ _ 24 9 rfl w.heap.size 5 i0 (.int .u8 0) 1 1 Tryd.underlying24 hi hz0 hz1 hz2 rfl _ _ _ rfl f1 _ _ _ rfl hsrc ?_ ?_ ?_ ?_))
  · unfold maxLen; omega
  · omega
  · exact bs1
  intro v2 w2 f2 _ b2 _
  rw [bcells_byteCells, ← bcells_append] at f2
  go_wp2
  go_ret
  refine ⟨_, rfl, ?_, b1.trans b2⟩
  rw [HL.out, show (L ++ s.data.toList).length = xs.length + (enc s.size).length + s.size from by rw [List.length_append, Hsl.out, hl1]]
  exact f2
end Go.Proofs.YtfhdonidgegebaaDoor

namespace Go.Proofs.YtfhdonidgegebaaDoor
open Go Go.RowKit


/-- a number's four bytes, the highest first -/
def be4 (N : Nat) : List UInt8 := [UInt8.ofNat (N / 16777216), UInt8.ofNat (N / 65536), UInt8.ofNat (N / 256), UInt8.ofNat N]

/-- the number of the first four bytes -/
def num4 (l : List UInt8) : Nat := (((l.getD 0 0).toNat * 256 + (l.getD 1 0).toNat) * 256 + (l.getD 2 0).toNat) * 256 + (l.getD 3 0).toNat

theorem num4_lt (l : List UInt8) : num4 l < 4294967296 := by
  have h0 := (l.getD 0 0).toNat_lt
  have h1 := (l.getD 1 0).toNat_lt
  have h2 := (l.getD 2 0).toNat_lt
  have h3 := (l.getD 3 0).toNat_lt
  unfold num4
  omega

theorem num4_be4 {N : Nat} (h : N < 4294967296) (r : List UInt8) : num4 (be4 N ++ r) = N := by
  simp [num4, be4]
  omega

end Go.Proofs.YtfhdonidgegebaaDoor

/- A block: its bytes. -/
namespace Go.Proofs.YtfhdonidgegebaaDoor
open Go Go.RowKit

/-- How many first bytes two texts share. -/
def comL : List UInt8 → List UInt8 → Nat
  | a :: la, b :: lb => if a = b then comL la lb + 1 else 0
  | _, _ => 0

theorem comL_le : ∀ (a b : List UInt8), comL a b ≤ a.length ∧ comL a b ≤ b.length
  | [], _ => by simp [comL]
  | _ :: _, [] => by simp [comL]
  | a :: la, b :: lb => by
    have := comL_le la lb
    unfold comL
    split <;> simp <;> omega

theorem comL_take : ∀ (a b : List UInt8), a.take (comL a b) = b.take (comL a b)
  | [], _ => by simp [comL]
  | _ :: _, [] => by simp [comL]
  | a :: la, b :: lb => by
    have := comL_take la lb
    unfold comL
    split
    · rename_i h
      simp [h, this]
    · simp

/-- So far they are the same. -/
def upTo (a b : List UInt8) (n : Nat) : Prop := n ≤ a.length ∧ n ≤ b.length ∧ a.take n = b.take n

theorem comL_stop : ∀ (a b : List UInt8) (n : Nat), upTo a b n → (a.length ≤ n ∨ b.length ≤ n ∨ a[n]? ≠ b[n]?) → comL a b = n
  | [], b, n, h, _ => by
    have := h.1
    simp at this
    subst this
    simp [comL]
  | a :: la, [], n, h, _ => by
    have := h.2.1
    simp at this
    subst this
    simp [comL]
  | a :: la, b :: lb, 0, h, hs => by
    simp at hs
    unfold comL
    rw [if_neg hs]
  | a :: la, b :: lb, n + 1, ⟨h1, h2, h3⟩, hs => by
    simp at h3 hs h1 h2
    unfold comL
    rw [if_pos h3.1, comL_stop la lb n ⟨h1, h2, h3.2⟩ (by simpa using hs)]

theorem upTo_step {a b : List UInt8} {n : Nat} {x : UInt8} (h : upTo a b n) (ha : a[n]? = some x) (hb : b[n]? = some x) : upTo a b (n + 1) := by
  refine ⟨(List.getElem?_eq_some_iff.1 ha).1, (List.getElem?_eq_some_iff.1 hb).1, ?_⟩
  rw [List.take_add_one, List.take_add_one, h.2.2, ha, hb]

theorem comL_comm : ∀ (a b : List UInt8), comL a b = comL b a
  | [], b => by cases b <;> simp [comL]
  | _ :: _, [] => by simp [comL]
  | a :: la, b :: lb => by
    unfold comL
    by_cases h : a = b
    · rw [if_pos h, if_pos h.symm, comL_comm la lb]
    · rw [if_neg h, if_neg (fun e => h e.symm)]

def kb (ks : List ByteArray) (i : Nat) : List UInt8 := (ks.getD i ⟨#[]⟩).data.toList

/-- A key's entry, that shares n bytes with the one ahead. -/
def entL (n : Nat) (k : List UInt8) : List UInt8 := enc n ++ (enc (k.length - n) ++ k.drop n)

def shareL (ks : List ByteArray) (i : Nat) : Nat := if i % 16 = 0 then 0 else comL (kb ks (i - 1)) (kb ks i)

def bodyTo (ks : List ByteArray) : Nat → List UInt8
  | 0 => []
  | i + 1 => bodyTo ks i ++ entL (shareL ks i) (kb ks i)

def placesTo (ks : List ByteArray) : Nat → List UInt8
  | 0 => []
  | i + 1 => placesTo ks i ++ if i % 16 = 0 then be4 (bodyTo ks i).length else []

def buildL (ks : List ByteArray) : List UInt8 := bodyTo ks ks.length ++ placesTo ks ks.length ++ be4 ((placesTo ks ks.length).length / 4)

theorem shareL_le (ks : List ByteArray) (i : Nat) : shareL ks i ≤ (kb ks i).length := by
  unfold shareL
  split
  · exact Nat.zero_le _
  · exact (comL_le _ _).2

theorem entL_length {n : Nat} {k : List UInt8} (h : n ≤ k.length) (hk : k.length ≤ 1000000) : (entL n k).length ≤ 20 + k.length := by
  have h1 := enc_length_le 9 n (by omega)
  have h2 := enc_length_le 9 (k.length - n) (by omega)
  unfold entL
  simp
  omega

theorem bodyTo_length {ks : List ByteArray} (h : ∀ x ∈ ks, x.size ≤ 60000) : ∀ i, (bodyTo ks i).length ≤ i * 60020
  | 0 => Nat.le_refl _
  | i + 1 => by
    have ih := bodyTo_length h i
    have hk : (kb ks i).length ≤ 60000 := by
      unfold kb
      rw [Array.length_toList]
      by_cases hi : i < ks.length
      · rw [List.getD_eq_getElem?_getD, List.getElem?_eq_getElem hi]
        exact h _ (List.getElem_mem hi)
      · rw [List.getD_eq_getElem?_getD, List.getElem?_eq_none (by omega)]
        decide
    have := entL_length (shareL_le ks i) (by omega)
    unfold bodyTo
    simp
    omega

theorem placesTo_length (ks : List ByteArray) : ∀ i, (placesTo ks i).length = (i + 15) / 16 * 4
  | 0 => rfl
  | i + 1 => by
    have ih := placesTo_length ks i
    unfold placesTo
    rw [List.length_append, ih]
    split
    · simp [be4]
      omega
    · simp
      omega

theorem kb_at {ks : List ByteArray} {i : Nat} {x : ByteArray} (h : ks[i]? = some x) : kb ks i = x.data.toList := by
  unfold kb
  rw [List.getD_eq_getElem?_getD, h]
  rfl
end Go.Proofs.YtfhdonidgegebaaDoor

/- Common. -/
namespace Go.Proofs.YtfhdonidgegebaaDoor
open Go Go.RowKit

def ComRel (w : World) (a b : List UInt8) (i : Value) (wr : World) : Prop := ∃ n : Nat, i = .int .i64 (n : Int) ∧ upTo a b n ∧ Below w.heap.size w wr

set_option maxRecDepth 100000 in
set_option maxHeartbeats 2000000 in
theorem common_any (w : World) (a b : ByteArray) (hmax : a.size ≤ 10000000000) : Calls Tryd.prog 53 #[.string a, .string b] w (GivesVal w (.int .i64 (comL a.data.toList b.data.toList : Int))) := by
  have hla : a.data.toList.length = a.size := Array.length_toList
  have hlb : b.data.toList.length = b.size := Array.length_toList
  have HA := Lib.hid hla
  have HB := Lib.hid hlb
  clear hla hlb
  go_enter Tryd.func53, Tryd.ntmps53
  go_wp2
  go_loopw [5] (fun i wr => ComRel w a.data.toList b.data.toList i wr) (fun i _ => a.size - (intOf i).toNat)
  case atStart => exact ⟨0, rfl, ⟨Nat.zero_le _, Nat.zero_le _, by simp⟩, Below.refl _ _⟩
  case round =>
    obtain ⟨n, rfl, hu, hb⟩ := hrel
    have hn1 := hu.1
    have hn2 := hu.2.1
    rw [HA.out] at hn1
    rw [HB.out] at hn2
    have HBl := Lib.hid hb
    have HU := Lib.hid hu
    clear hb hu
    by_cases h1 : n < a.size
    · have h1I : (n : Int) < a.size := by omega
      by_cases h2 : n < b.size
      · have h2I : (n : Int) < b.size := by omega
        have hga : a.data.toList[n]? = some (a[n]'h1) := by rw [Array.getElem?_toList, Array.getElem?_eq_getElem h1]; rfl
        have hgb : b.data.toList[n]? = some (b[n]'h2) := by rw [Array.getElem?_toList, Array.getElem?_eq_getElem h2]; rfl
        by_cases hxy : a[n]'h1 = b[n]'h2
        · have heq : (((a[n]'h1).toNat : Int) == ((b[n]'h2).toNat : Int)) = true := by rw [hxy]; simp
          have HStep := Lib.hid (upTo_step HU.out hga (by rw [hxy]; exact hgb))
          clear hxy hga hgb
          go_wp2
          go_quiet (fail)
          go_wp2
          exact ⟨⟨n + 1, by go_num, HStep.out, below_quiet HBl.out nq⟩, by simp [intOf]; omega⟩
        · have heq : (((a[n]'h1).toNat : Int) == ((b[n]'h2).toNat : Int)) = false := by
            rw [beq_eq_false_iff_ne]
            intro e
            exact hxy (UInt8.toNat_inj.1 (by omega))
          have hst : comL a.data.toList b.data.toList = n := comL_stop _ _ _ HU.out (.inr (.inr (by rw [hga, hgb]; simpa using hxy)))
          have HSt := Lib.hid hst
          clear hxy hga hgb hst
          go_wp2
          go_quiet (fail)
          go_wp2
          go_ret
          exact ⟨by rw [HSt.out]; rfl, below_quiet HBl.out nq⟩
      · have h2I : ¬ (n : Int) < b.size := by omega
        have hst : comL a.data.toList b.data.toList = n := comL_stop _ _ _ HU.out (.inr (.inl (by rw [HB.out]; omega)))
        have HSt := Lib.hid hst
        clear hst
        go_wp2
        go_quiet (fail)
        go_wp2
        go_ret
        exact ⟨by rw [HSt.out]; rfl, below_quiet HBl.out nq⟩
    · have h1I : ¬ (n : Int) < a.size := by omega
      have hst : comL a.data.toList b.data.toList = n := comL_stop _ _ _ HU.out (.inl (by rw [HA.out]; omega))
      have HSt := Lib.hid hst
      clear hst
      go_wp2
      go_quiet (fail)
      go_wp2
      go_ret
      exact ⟨by rw [HSt.out]; rfl, below_quiet HBl.out nq⟩

set_option maxRecDepth 100000 in
set_option maxHeartbeats 2000000 in
theorem rcommon_any (w : World) (a b : ByteArray) (hmax : a.size ≤ 10000000000) : Calls Tryd.prog 63 #[.string a, .string b] w (GivesVal w (.int .i64 (comL a.data.toList b.data.toList : Int))) := by
  have hla : a.data.toList.length = a.size := Array.length_toList
  have hlb : b.data.toList.length = b.size := Array.length_toList
  have HA := Lib.hid hla
  have HB := Lib.hid hlb
  clear hla hlb
  go_enter Tryd.func63, Tryd.ntmps63
  go_wp2
  go_loopw [5] (fun i wr => ComRel w a.data.toList b.data.toList i wr) (fun i _ => a.size - (intOf i).toNat)
  case atStart => exact ⟨0, rfl, ⟨Nat.zero_le _, Nat.zero_le _, by simp⟩, Below.refl _ _⟩
  case round =>
    obtain ⟨n, rfl, hu, hb⟩ := hrel
    have hn1 := hu.1
    have hn2 := hu.2.1
    rw [HA.out] at hn1
    rw [HB.out] at hn2
    have HBl := Lib.hid hb
    have HU := Lib.hid hu
    clear hb hu
    by_cases h1 : n < a.size
    · have h1I : (n : Int) < a.size := by omega
      by_cases h2 : n < b.size
      · have h2I : (n : Int) < b.size := by omega
        have hga : a.data.toList[n]? = some (a[n]'h1) := by rw [Array.getElem?_toList, Array.getElem?_eq_getElem h1]; rfl
        have hgb : b.data.toList[n]? = some (b[n]'h2) := by rw [Array.getElem?_toList, Array.getElem?_eq_getElem h2]; rfl
        by_cases hxy : a[n]'h1 = b[n]'h2
        · have heq : (((a[n]'h1).toNat : Int) == ((b[n]'h2).toNat : Int)) = true := by rw [hxy]; simp
          have HStep := Lib.hid (upTo_step HU.out hga (by rw [hxy]; exact hgb))
          clear hxy hga hgb
          go_wp2
          go_quiet (fail)
          go_wp2
          exact ⟨⟨n + 1, by go_num, HStep.out, below_quiet HBl.out nq⟩, by simp [intOf]; omega⟩
        · have heq : (((a[n]'h1).toNat : Int) == ((b[n]'h2).toNat : Int)) = false := by
            rw [beq_eq_false_iff_ne]
            intro e
            exact hxy (UInt8.toNat_inj.1 (by omega))
          have hst : comL a.data.toList b.data.toList = n := comL_stop _ _ _ HU.out (.inr (.inr (by rw [hga, hgb]; simpa using hxy)))
          have HSt := Lib.hid hst
          clear hxy hga hgb hst
          go_wp2
          go_quiet (fail)
          go_wp2
          go_ret
          exact ⟨by rw [HSt.out]; rfl, below_quiet HBl.out nq⟩
      · have h2I : ¬ (n : Int) < b.size := by omega
        have hst : comL a.data.toList b.data.toList = n := comL_stop _ _ _ HU.out (.inr (.inl (by rw [HB.out]; omega)))
        have HSt := Lib.hid hst
        clear hst
        go_wp2
        go_quiet (fail)
        go_wp2
        go_ret
        exact ⟨by rw [HSt.out]; rfl, below_quiet HBl.out nq⟩
    · have h1I : ¬ (n : Int) < a.size := by omega
      have hst : comL a.data.toList b.data.toList = n := comL_stop _ _ _ HU.out (.inl (by rw [HA.out]; omega))
      have HSt := Lib.hid hst
      clear hst
      go_wp2
      go_quiet (fail)
      go_wp2
      go_ret
      exact ⟨by rw [HSt.out]; rfl, below_quiet HBl.out nq⟩
end Go.Proofs.YtfhdonidgegebaaDoor

/- put and get. -/
namespace Go.Proofs.YtfhdonidgegebaaDoor
open Go Go.RowKit

def Grows13 (B : Nat) (w : World) (v : Value) (xs : List UInt8) (e : Ending) (w' : World) : Prop :=
  ∃ v', e = .returned v' ∧ w'.ownsRow B 5 1 v' xs.length (bcells xs) ∧ Below B w w' ∧ w.grownBy w' v.ownBlock ∧ Moves w v v'

set_option maxRecDepth 100000 in
set_option maxHeartbeats 1000000 in
theorem put13_any (B : Nat) (w : World) (v : Value) (xs : List UInt8) (N : Nat) (h : w.ownsRow B 5 1 v xs.length (bcells xs)) (hB : B ≤ w.heap.size) (hn : xs.length ≤ 10000000000) (hN : N < 4294967296) :
    Calls Tryd.prog 52 #[v, .int .i64 N] w (Grows13 B w v (xs ++ be4 N)) := by
  obtain ⟨i0, hi, hz0, hz1, hz2⟩ := info_parts info5
  have hbe : (xs ++ be4 N).length = xs.length + 4 := by simp [be4]
  have Hbe := Lib.hid hbe
  clear hbe
  go_enter Tryd.func52, Tryd.ntmps52
  go_wp2_with (at_builtin; go_must (refine wpList_append_owns_lits (w0 := w) rfl _ _ 24 rfl B 5 i0 (.int .u8 0) 1 Tryd.underlying24 hi hz0 hz1 hz2 rfl [.int .u8 ((N : Int) / 16777216), .int .u8 ((N : Int) / 65536 % 256), .int .u8 ((N : Int) / 256 % 256), .int .u8 ((N : Int) % 256)] 4 rfl h rfl rfl (fun u hu => by simp at hu; rcases hu with rfl | rfl | rfl | rfl <;> rfl) ?_ ?_ hB ?_))
  · unfold maxLen; omega
  · omega
  intro v' w1 f1 g1 b1 m1
  have e4 : bcells xs ++ [Value.int .u8 ((N : Int) / 16777216), .int .u8 ((N : Int) / 65536 % 256), .int .u8 ((N : Int) / 256 % 256), .int .u8 ((N : Int) % 256)] = bcells (xs ++ be4 N) := by
    simp [bcells, be4]
    omega
  rw [e4] at f1
  have F1 := Lib.hid f1
  clear f1 e4
  go_wp2
  go_ret
  refine ⟨_, rfl, ?_, b1, g1, m1⟩
  rw [Hbe.out]
  exact F1.out
end Go.Proofs.YtfhdonidgegebaaDoor

/- Rows of structs: appended to cell by cell. -/
namespace Go.Proofs.YtfhdonidgegebaaDoor
open Go Go.RowKit

/-- 'append(s, x, ..)' of structs of size cells each that have just been laid in a block of their own. -/
theorem wpList_append_rows {P : Program} {w0 : World} {ops : Array Oper} {rest : List Oper} {o : Oper} {a : Act} {Q : Exit → Act → World → Prop} (hgd : o.guard = none) (s x : Operand) (t : TypeId)
    (ho : o.op = .call { callee := .builtin .append, args := #[s, x], argTypes := #[t, t] })
    (B : Nat) (e : TypeId) (i : TypeInfo) (z : Value) (size bytes : Nat) (ht : P.underlying t = some (.slice e)) (hi : P.info? e = some i) (hz : i.zero = some z)
    (hsize : i.size = size) (hby : i.bytes = bytes) (hzs : z.cells.size = size)
    {v : Value} {n : Nat} {xs : List Value} (us : List Value) (m : Nat) (hl : us.length = m * size) (hown : Fresh B w0 e size v n xs) (hs : a.eval s = v) (hx : a.eval x = .slice (some ⟨w0.heap.size, 0, none⟩) m m) (h1 : ∀ u ∈ us, u.oneCell' = true)
    (h63 : n + m ≤ maxLen) (hbytes : (n + m) * bytes ≤ 140737488355328) (hB : B ≤ w0.heap.size)
    (h : ∀ v' w', Fresh B w' e size v' (n + m) (xs ++ us) → w0.grownBy w' v.ownBlock → Below B w0 w' → Moves w0 v v' → wpList P ops Q rest (a.put o.dst v') w') : wpList P ops Q (o :: rest) a (w0.alloc (.cells us.toArray e)) := by
  refine wpList_append_fresh hgd s x t t ho B e i z size bytes ht hi hz hsize hby hzs v n xs hs (hown.alloc _) _ m us hx ?_ h63 hbytes (by simp; omega) (fun v' w' k1 k2 k3 k4 => h v' w' k1 ((World.grownBy_alloc w0 _ _).trans k2) (((Below.refl _ _).alloc hB _).trans k3) (fun b hb => k4 b (by simp; omega)))
  refine Src.ofSlice _ ht _ _ _ _ hl ?_ h1
  intro j y hj
  rw [Addr.add_lit]
  rw [show (0 + j) = j by omega]
  rw [World.cell?_alloc_new w0 _ _ j]
  simpa using hj

/-- 'append(s, x, ..)' of structs of size cells each that have just been laid in a block of their own. -/
theorem wpList_append_rows_own {P : Program} {w0 : World} {ops : Array Oper} {rest : List Oper} {o : Oper} {a : Act} {Q : Exit → Act → World → Prop} (hgd : o.guard = none) (s x : Operand) (t : TypeId)
    (ho : o.op = .call { callee := .builtin .append, args := #[s, x], argTypes := #[t, t] })
    (B : Nat) (e : TypeId) (i : TypeInfo) (z : Value) (size bytes : Nat) (ht : P.underlying t = some (.slice e)) (hi : P.info? e = some i) (hz : i.zero = some z)
    (hsize : i.size = size) (hby : i.bytes = bytes) (hzs : z.cells.size = size)
    {v : Value} {n : Nat} {xs : List Value} (us : List Value) (m : Nat) (hl : us.length = m * size) (hown : w0.ownsRow B e size v n xs) (hs : a.eval s = v) (hx : a.eval x = .slice (some ⟨w0.heap.size, 0, none⟩) m m) (h1 : ∀ u ∈ us, u.oneCell' = true)
    (h63 : n + m ≤ maxLen) (hbytes : (n + m) * bytes ≤ 140737488355328) (hB : B ≤ w0.heap.size)
    (h : ∀ v' w', w'.ownsRow B e size v' (n + m) (xs ++ us) → w0.grownBy w' v.ownBlock → Below B w0 w' → Moves w0 v v' → wpList P ops Q rest (a.put o.dst v') w') : wpList P ops Q (o :: rest) a (w0.alloc (.cells us.toArray e)) := by
  refine wpList_append_owns hgd s x t t ho B e i z size bytes ht hi hz hsize hby hzs v n xs hs (hown.alloc _) _ m us hx ?_ h63 hbytes (by simp; omega) (fun v' w' k1 k2 k3 k4 => h v' w' k1 ((World.grownBy_alloc w0 _ _).trans k2) (((Below.refl _ _).alloc hB _).trans k3) (fun b hb => k4 b (by simp; omega)))
  refine Src.ofSlice _ ht _ _ _ _ hl ?_ h1
  intro j y hj
  rw [Addr.add_lit]
  rw [show (0 + j) = j by omega]
  rw [World.cell?_alloc_new w0 _ _ j]
  simpa using hj

theorem owns_other {w : World} {B n s g : Nat} {e e' : TypeId} {v : Value} {xs : List Value} {cs : Array Value} {fz : Nat × Nat} (h : w.ownsRow B e s v n xs) (hg : w.heap[g]? = some (.cells cs e' fz)) (he : e' ≠ e) : v.ownBlock ≠ some g := by
  rcases h.2 with ⟨rfl, _⟩ | ⟨g', cap, cur, rfl, _, hh, _⟩
  · simp [Value.ownBlock]
  · intro h
    simp [Value.ownBlock] at h
    subst h
    rw [hg] at hh
    injection hh with hh
    injection hh with _ h2 _
    exact he h2

/-- A block of other cells stays as a row grows. -/
theorem grown_other {w w' : World} {B n s g : Nat} {e e' : TypeId} {v : Value} {xs : List Value} {cs : Array Value} {fz : Nat × Nat} (h : w.ownsRow B e s v n xs) (hgr : w.grownBy w' v.ownBlock) (hg : w.heap[g]? = some (.cells cs e' fz)) (he : e' ≠ e) : w'.heap[g]? = some (.cells cs e' fz) :=
  (hgr.block g (Array.getElem?_eq_some_iff.1 hg).1 (fun h' => owns_other h hg he h'.symm)).trans hg

theorem owns_nil (w : World) (B : Nat) (e : TypeId) (s : Nat) : w.ownsRow B e s (.slice none 0 0) 0 [] := ⟨by simp, .inl ⟨rfl, rfl⟩⟩

theorem owns_below {w w' : World} {B n s : Nat} {e : TypeId} {v : Value} {xs : List Value} (h : w.ownsRow B e s v n xs) (hb : Below w.heap.size w w') : w'.ownsRow B e s v n xs :=
  h.kept (row := none) ⟨hb.os, hb.tape, hb.output, hb.size, fun k hk _ => hb.block k hk⟩ (by cases v.ownBlock <;> simp)

/-- Cells of rows, one behind the other. -/
theorem flat_cell {α : Type} (f : α → List Value) (s : Nat) (hf : ∀ x, (f x).length = s) : ∀ (l : List α) (k : Nat) (x : α), l[k]? = some x → ∀ j, j < s → (l.flatMap f)[k * s + j]? = (f x)[j]?
  | [], k, x, h, _, _ => by simp at h
  | y :: l, 0, x, h, j, hj => by
    simp at h
    subst h
    rw [List.flatMap_cons, Nat.zero_mul, Nat.zero_add, List.getElem?_append_left (by rw [hf]; exact hj)]
  | y :: l, k + 1, x, h, j, hj => by
    rw [List.flatMap_cons, List.getElem?_append_right (by rw [hf, Nat.add_mul, Nat.one_mul]; omega), hf]
    rw [show (k + 1) * s + j - s = k * s + j by rw [Nat.add_mul, Nat.one_mul]; omega]
    exact flat_cell f s hf l k x (by simpa using h) j hj

theorem flat_length {α : Type} (f : α → List Value) (s : Nat) (hf : ∀ x, (f x).length = s) : ∀ (l : List α), (l.flatMap f).length = l.length * s
  | [] => by simp
  | y :: l => by rw [List.flatMap_cons, List.length_append, hf, flat_length f s hf l, List.length_cons, Nat.add_mul]; omega

/-- A cell of a slice of rows. -/
theorem Reads.at {w : World} {s n cap : Nat} {a : Option Addr} {xs : List Value} (h : Reads w s (.slice a n cap) n xs) {j : Nat} {u : Value} (hj : xs[j]? = some u) :
    ∃ b off, a = some ⟨b, off, none⟩ ∧ b < w.heap.size ∧ w.cell? ⟨b, off + j, none⟩ = some u := by
  obtain ⟨hl, a', cap', hv, _, _, h3⟩ := h
  cases hv
  exact h3 j u hj

/-- 'append(s, x)' of structs that have just been laid in block N. -/
theorem wpList_append_rows_at {P : Program} {w0 : World} {ops : Array Oper} {rest : List Oper} {o : Oper} {a : Act} {Q : Exit → Act → World → Prop} (hgd : o.guard = none) (s x : Operand) (t : TypeId)
    (ho : o.op = .call { callee := .builtin .append, args := #[s, x], argTypes := #[t, t] })
    (B : Nat) (e : TypeId) (i : TypeInfo) (z : Value) (size bytes : Nat) (ht : P.underlying t = some (.slice e)) (hi : P.info? e = some i) (hz : i.zero = some z)
    (hsize : i.size = size) (hby : i.bytes = bytes) (hzs : z.cells.size = size)
    {v : Value} {n : Nat} {xs : List Value} (us : List Value) (m : Nat) (hl : us.length = m * size) {N : Nat} (hN : w0.heap.size = N) (hown : w0.ownsRow B e size v n xs) (hs : a.eval s = v) (hx : a.eval x = .slice (some ⟨N, 0, none⟩) m m) (h1 : ∀ u ∈ us, u.oneCell' = true)
    (h63 : n + m ≤ maxLen) (hbytes : (n + m) * bytes ≤ 140737488355328) (hB : B ≤ w0.heap.size)
    (h : ∀ v' w', w'.ownsRow B e size v' (n + m) (xs ++ us) → w0.grownBy w' v.ownBlock → Below B w0 w' → Moves w0 v v' → wpList P ops Q rest (a.put o.dst v') w') : wpList P ops Q (o :: rest) a (w0.alloc (.cells us.toArray e)) := by
  subst hN
  exact wpList_append_rows_own hgd s x t ho B e i z size bytes ht hi hz hsize hby hzs us m hl hown hs hx h1 h63 hbytes hB h
end Go.Proofs.YtfhdonidgegebaaDoor
