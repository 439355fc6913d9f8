import Derived.Test.YthjimldojdhccaaZGetText
namespace Go.Proofs.Ythjimldojdhccaa
open Go Go.RowKit

def dig (l : List UInt8) (j : Nat) : Nat := (l.getD j 0).toNat % 128

/-- The number of the first k bytes' low ends. -/
def low (l : List UInt8) : Nat → Nat
  | 0 => 0
  | k + 1 => low l k + dig l k * 128 ^ k

/-- The number of m bytes' low ends from the j-th on. -/
def hor (l : List UInt8) : Nat → Nat → Nat
  | _, 0 => 0
  | j, m + 1 => dig l j + 128 * hor l (j + 1) m

theorem low_hor (l : List UInt8) : ∀ (m j : Nat), low l (j + m) = low l j + 128 ^ j * hor l j m
  | 0, j => by simp [hor]
  | m + 1, j => by
    have ih := low_hor l m (j + 1)
    rw [show j + (m + 1) = j + 1 + m by omega, ih, low, hor, Nat.pow_succ, Nat.mul_add, Nat.mul_comm (dig l j), Nat.mul_assoc, Nat.add_assoc]

theorem hor_le (l : List UInt8) (j m : Nat) : hor l j m ≤ low l (j + m) := by
  rw [low_hor]
  have : 1 * hor l j m ≤ 128 ^ j * hor l j m := Nat.mul_le_mul_right _ (Nat.pow_pos (by decide))
  omega

theorem low_lt (l : List UInt8) : ∀ k, low l k < 128 ^ k
  | 0 => by simp [low]
  | k + 1 => by
    have ih := low_lt l k
    have h1 : dig l k ≤ 127 := by unfold dig; omega
    have h2 : dig l k * 128 ^ k ≤ 127 * 128 ^ k := Nat.mul_le_mul_right _ h1
    rw [low, Nat.pow_succ]
    omega

theorem dig_small (l : List UInt8) (k : Nat) (h : k < 9 ∨ (k = 9 ∧ (l.getD k 0).toNat ≤ 1)) : dig l k * 128 ^ k < 18446744073709551616 := by
  rcases h with h | ⟨rfl, h⟩
  · have h1 : dig l k ≤ 127 := by unfold dig; omega
    have h2 : 128 ^ k ≤ 128 ^ 8 := Nat.pow_le_pow_right (by decide) (by omega)
    have h3 := Nat.mul_le_mul h1 h2
    exact Nat.lt_of_le_of_lt h3 (by decide)
  · have h1 : dig l 9 ≤ 1 := by unfold dig; omega
    have h2 := Nat.mul_le_mul_right (128 ^ 9) h1
    exact Nat.lt_of_le_of_lt h2 (by decide)

theorem low_small (l : List UInt8) (k : Nat) (h : k < 9 ∨ (k = 9 ∧ (l.getD k 0).toNat ≤ 1)) : low l (k + 1) < 18446744073709551616 := by
  rcases h with h | ⟨rfl, h⟩
  · exact Nat.lt_of_lt_of_le (low_lt l (k + 1)) (Nat.le_trans (Nat.pow_le_pow_right (by decide) (show k + 1 ≤ 9 by omega)) (by decide))
  · have h1 : dig l 9 ≤ 1 := by unfold dig; omega
    have h2 := Nat.mul_le_mul_right (128 ^ 9) h1
    have h3 := low_lt l 9
    rw [low]
    exact Nat.lt_of_lt_of_le (Nat.add_lt_add_of_lt_of_le h3 h2) (by decide)

/-- While bytes of 128 or more are met, up to ten. -/
def scanned (l : List UInt8) (k : Nat) : Prop := getGo 0 0 l = getGo k (low l k) (l.drop k)

theorem scanned_zero (l : List UInt8) : scanned l 0 := rfl

theorem scanned_step {l : List UInt8} {k : Nat} (h : scanned l k) (hk : k < l.length) (h10 : k < 9) (hc : 128 ≤ (l.getD k 0).toNat) : scanned l (k + 1) := by
  unfold scanned at h ⊢
  have hs := dig_small l k (.inl h10)
  unfold dig at hs
  rw [h, getGo_more hk (by omega) hc, Nat.mod_eq_of_lt hs]
  rfl

theorem scanned_ten {l : List UInt8} (h : scanned l 9) (hk : 9 < l.length) (hc : 128 ≤ (l.getD 9 0).toNat) : getGo 0 0 l = (0, 0, 9) := by
  unfold scanned at h
  rw [h, getGo_more hk (by decide) hc]
  cases l.drop (9 + 1) with
  | nil => rfl
  | cons c r => rw [getGo]; rfl

theorem scanned_end {l : List UInt8} {k : Nat} (h : scanned l k) (hk : k = l.length) (h10 : k < 10) : getGo 0 0 l = (0, 0, 7) := by
  unfold scanned at h
  rw [h, List.drop_of_length_le (by omega), getGo, if_neg (by omega)]

theorem scanned_bad {l : List UInt8} {k : Nat} (h : scanned l k) (hk : k < l.length) (h10 : k < 10) (hc : ¬ 128 ≤ (l.getD k 0).toNat) (hb : (0 < k ∧ (l.getD k 0).toNat = 0) ∨ (k = 9 ∧ 1 < (l.getD k 0).toNat)) : getGo 0 0 l = (0, 0, 9) := by
  unfold scanned at h
  rw [h, getGo_bad hk h10 hc hb]

theorem scanned_good {l : List UInt8} {k : Nat} (h : scanned l k) (hk : k < l.length) (h10 : k < 10) (hc : ¬ 128 ≤ (l.getD k 0).toNat) (hb : ¬ ((0 < k ∧ (l.getD k 0).toNat = 0) ∨ (k = 9 ∧ 1 < (l.getD k 0).toNat))) : getGo 0 0 l = (low l (k + 1), k + 1, 0) := by
  unfold scanned at h
  have hs := dig_small l k (by omega)
  unfold dig at hs
  rw [h, getGo_good hk h10 hc hb, Nat.mod_eq_of_lt hs]
  rfl

def ScanRel (l : List UInt8) (i : Value) : Prop := ∃ k : Nat, i = .int .i64 (k : Int) ∧ k ≤ l.length ∧ k < 10 ∧ scanned l k
def HorRel (l : List UInt8) (k : Nat) (v i : Value) : Prop := ∃ j : Nat, i = .int .i64 ((j : Int) - 1) ∧ j ≤ k + 1 ∧ v = .int .u64 ((hor l j (k + 1 - j) : Nat) : Int)

theorem hor_step (l : List UInt8) (k j : Nat) (h : j < k + 1) : hor l j (k + 1 - j) = hor l (j + 1) (k + 1 - (j + 1)) * 128 + dig l j := by
  rw [show k + 1 - j = (k + 1 - (j + 1)) + 1 by omega, hor, Nat.mul_comm, Nat.add_comm]

theorem hor_bound (l : List UInt8) (k j : Nat) (h : j ≤ k + 1) (hl : low l (k + 1) < 18446744073709551616) : hor l j (k + 1 - j) < 18446744073709551616 := by
  have := hor_le l j (k + 1 - j)
  rw [show j + (k + 1 - j) = k + 1 by omega] at this
  omega

set_option maxRecDepth 100000 in
set_option maxHeartbeats 1000000 in
theorem refget_any (w : World) (v : Value) (n : Nat) (l : List UInt8) (h : Reads w 1 v n (bcells l)) :
    Calls Try.prog 44 #[v] w (GetPost w (getGo 0 0 l)) := by
  by_cases hp : n = 0
  · obtain ⟨hl, a, cap, rfl, h1, h2, h3⟩ := h
    subst hp
    have : l = [] := by simpa [bcells_length] using hl
    subst this
    clear h3 hl
    unfold maxLen at h2
    go_enter Try.func44, Try.ntmps44
    go_wp2
    refine wp_loop_rounds 1 ?_
    rw [rounds_succ]
    go_wp2
    go_ret3
    exact ⟨rfl, rfl⟩
  · obtain ⟨b, off, cap, rfl, h1, h2, hl, hcell⟩ := h.head (by omega)
    unfold maxLen at h2
    clear h
    have HL := Lib.hid hl
    go_enter Try.func44, Try.ntmps44
    go_wp2
    go_loop [5] (fun i => ScanRel l i) (fun i => 20 - (intOf i).toNat)
    case atStart => exact ⟨0, rfl, Nat.zero_le _, by decide, scanned_zero l⟩
    case round =>
      obtain ⟨k, rfl, hk, hk10, hsc⟩ := hrel
      have HS := Lib.hid hsc
      have hcell' : k < n → w.cell? ⟨b, off + k, none⟩ = some (.int .u8 ((l.getD k 0).toNat : Int)) := fun h => hcell k h
      have Hc := Lib.hid hcell
      clear hsc hcell
      by_cases hkn : k < n
      · have c0 := hcell' hkn
        clear hcell'
        generalize hc : l.getD k 0 = c at c0
        have Hcc := Lib.hid hc
        clear hc
        by_cases h128 : 128 ≤ c.toNat
        · by_cases h9 : k = 9
          · have g9 : ((k : Int) + 1 == 10) = true := by simp; omega
            have H9 := Lib.hid h9
            clear h9
            go_wp2
            go_ret3
            refine ⟨?_, rfl⟩
            have e9 := H9.out
            subst e9
            rw [scanned_ten HS.out (by omega) (by rw [Hcc.out]; exact h128)]
            rfl
          · have g9 : ((k : Int) + 1 == 10) = false := by simp; omega
            go_wp2
            exact ⟨⟨k + 1, by go_num, by omega, by omega, scanned_step HS.out (by omega) (by omega) (by rw [Hcc.out]; exact h128)⟩, by simp [intOf]; omega⟩
        · have gk : ((k : Int) == (n : Int)) = false := by simp; omega
          by_cases hb : (0 < k ∧ c.toNat = 0) ∨ (k = 9 ∧ 1 < c.toNat)
          · have hgo := scanned_bad HS.out (by omega) hk10 (by rw [Hcc.out]; exact h128) (by rw [Hcc.out]; exact hb)
            have HG := Lib.hid hgo
            clear hgo
            by_cases g1 : 0 < k ∧ c.toNat = 0
            · have g2 : ((0 : Int) < k) := by omega
              have g3 : (((c.toNat : Int)) == 0) = true := by simp; omega
              clear hb g1
              go_wp2
              go_ret3
              refine ⟨?_, rfl⟩
              rw [HG.out]
              rfl
            · have g5 : ((k : Int) == 9) = true := by simp; omega
              have g6 : (1 : Int) < c.toNat := by omega
              have g3 : (((c.toNat : Int)) == 0) = false := by simp; omega
              clear hb g1
              go_wp2
              go_ret3
              refine ⟨?_, rfl⟩
              rw [HG.out]
              rfl
          · have hgo := scanned_good HS.out (by omega) hk10 (by rw [Hcc.out]; exact h128) (by rw [Hcc.out]; exact hb)
            have hlow := low_small l k (by rw [Hcc.out]; omega)
            have HG := Lib.hid hgo
            have HLo := Lib.hid hlow
            have hpick : (((c.toNat : Int) == 0) = false ∧ (((k : Int) == 9) = false ∨ (((k : Int) == 9) = true ∧ ¬ (1 : Int) < c.toNat))) ∨ (((c.toNat : Int) == 0) = true ∧ ¬ (0 : Int) < k ∧ ((k : Int) == 9) = false) := by
              by_cases z : c.toNat = 0
              · right
                refine ⟨by simp; omega, by omega, by simp; omega⟩
              · left
                refine ⟨by simp; omega, ?_⟩
                by_cases e : k = 9
                · right
                  exact ⟨by simp; omega, by omega⟩
                · left
                  simp
                  omega
            clear hgo hlow hb
            have hhb := fun j hj => hor_bound l k j hj HLo.out
            have HHb := Lib.hid hhb
            have hkn2 : k + 1 ≤ n := by omega
            clear hhb
            rcases hpick with ⟨z1, z2 | ⟨z2, z3⟩⟩ | ⟨z1, z2, z3⟩
            all_goals
              go_wp2
              go_loop [6, 7] (fun v i => HorRel l k v i) (fun _ i => (intOf i + 1).toNat)
              case atStart => exact ⟨k + 1, by go_num, Nat.le_refl _, by rw [Nat.sub_self]; rfl⟩
              case round =>
                obtain ⟨j, rfl, hj, rfl⟩ := hrel
                by_cases hj0 : j = 0
                · subst hj0
                  have g0 : ¬ (0 : Int) ≤ -1 := by decide
                  have hfin : hor l 0 (k + 1 - 0) = low l (k + 1) := by
                    have h1 := low_hor l (k + 1) 0
                    rw [Nat.zero_add] at h1
                    rw [h1]
                    simp [low]
                  have HFi := Lib.hid hfin
                  clear hfin
                  generalize hor l 0 (k + 1 - 0) = X at *
                  go_wp2
                  go_ret3
                  refine ⟨?_, rfl⟩
                  rw [HG.out, HFi.out]
                  first | rfl | (simp; omega)
                · obtain ⟨m, rfl⟩ : ∃ m, j = m + 1 := ⟨j - 1, by omega⟩
                  have d0 := Hc.out m (by omega)
                  have hst := hor_step l k m (by omega)
                  have hb1 := HHb.out m (by omega)
                  have hdg : dig l m = (l.getD m 0).toNat % 128 := rfl
                  rw [hst, hdg] at hb1
                  rw [hdg] at hst
                  generalize l.getD m 0 = cm at *
                  generalize hor l (m + 1) (k + 1 - (m + 1)) = X at *
                  have hmi : ((m + 1 : Nat) : Int) - 1 = (m : Int) := by omega
                  have hst' := Lib.hid hst
                  clear hst hdg
                  rw [hmi]
                  go_wp2
                  exact ⟨⟨m, rfl, by omega, by rw [hst'.out]; simp⟩, by simp [intOf]⟩
      · obtain rfl : k = n := by omega
        have hkn' : ¬ ((k : Int) < k) := by omega
        clear hcell'
        go_wp2
        go_ret3
        refine ⟨?_, rfl⟩
        rw [scanned_end HS.out HL.out.symm hk10]
        rfl

set_option maxRecDepth 100000 in
set_option maxHeartbeats 400000 in
theorem refgettext_any (w : World) (v : Value) (n : Nat) (l : List UInt8) (h : Reads w 1 v n (bcells l)) :
    Calls Try.prog 45 #[v] w (GetTextAny w (getText l)) := by
  have hll : l.length = n := by have := h.1; simpa [bcells_length] using this
  obtain ⟨a0, cap0, hv0, h1, h2⟩ := h.le
  unfold maxLen at h2
  have hget := refget_any w _ n _ h
  unfold getText
  have hok := getGo_ok l 0 0
  generalize getGo 0 0 l = r at hget hok
  obtain ⟨m, k, er⟩ := r
  simp only
  by_cases he : er = 0
  · subst he
    obtain ⟨hk0, hkl, hk10, hm⟩ := hok m k (by decide) rfl
    rw [if_pos rfl]
    have Hget := Lib.hid hget
    clear hget hok
    by_cases hs : l.length - k < m
    · rw [if_pos hs]
      have e1 : ((n : Int) - k) < m := by omega
      have e3 : (k : Int) ≤ n := by omega
      have Hll := Lib.hid hll
      clear hll hkl hs
      subst hv0
      go_enter Try.func45, Try.ntmps45
      go_wp2_with (go_at_call 44; go_must (refine Hget.out.mono ?_))
      rintro e w1 ⟨rfl, rfl⟩
      go_wp2
      go_ret3
      exact ⟨rfl, rfl⟩
    · rw [if_neg hs]
      obtain ⟨b, off, cap, rfl, _, _, _, _⟩ := h.head (by omega)
      cases hv0
      have hsk := h.skip k (by omega)
      obtain ⟨a', cap', hv', _, _, ht⟩ := hsk.take m (by omega)
      cases hv'
      have hcv := Reads.conv (P := Try.prog) (src := 29) (e := 5) (dst := 9) Try.underlying29 Try.underlying5 Try.underlying9 ht
      generalize hT : (l.drop k).take m = T at *
      clear hsk ht h
      have e1 : ¬ (n : Int) - k < m := by omega
      have e2 : (k : Int) + m ≤ n := by omega
      have e3 : (k : Int) ≤ n := by omega
      by_cases hck : cap0 = k
      · have hm0 : m = 0 := by omega
        have hnk : n = k := by omega
        have hT0 : T = [] := by rw [← hT, hm0]; rfl
        subst hm0
        subst hT0
        subst hnk
        subst hck
        have hr0 : Reads w 1 (.slice (some ⟨b, off, none⟩) 0 0) 0 (bcells []) := ⟨rfl, _, 0, rfl, Nat.le_refl _, Nat.zero_le _, fun j u h => by simp [bcells] at h⟩
        have hcv0 := Reads.conv (P := Try.prog) (src := 29) (e := 5) (dst := 9) Try.underlying29 Try.underlying5 Try.underlying9 hr0
        clear hcv hT hll hs
        go_enter Try.func45, Try.ntmps45
        go_wp2_with (go_at_call 44; go_must (refine Hget.out.mono ?_))
        rintro e w1 ⟨rfl, rfl⟩
        go_wp2
        go_ret3
        exact ⟨by simp, rfl⟩
      · have hck' : ¬ ((cap0 : Int) = k) := by omega
        clear hT hll hs
        go_enter Try.func45, Try.ntmps45
        go_wp2_with (go_at_call 44; go_must (refine Hget.out.mono ?_))
        rintro e w1 ⟨rfl, rfl⟩
        go_wp2
        go_ret3
        exact ⟨by simp, rfl⟩
  · rw [if_neg he]
    have e1 : (((er : Int)) == 0) = false := by simp; omega
    have Hget := Lib.hid hget
    clear hget hok hll h1 h2 h
    subst hv0
    go_enter Try.func45, Try.ntmps45
    go_wp2_with (go_at_call 44; go_must (refine Hget.out.mono ?_))
    rintro e w1 ⟨rfl, rfl⟩
    go_wp2
    go_ret3
    exact ⟨rfl, rfl⟩
end Go.Proofs.Ythjimldojdhccaa
