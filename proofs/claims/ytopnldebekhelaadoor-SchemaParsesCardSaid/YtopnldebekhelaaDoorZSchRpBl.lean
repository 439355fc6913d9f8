/- sentryref05.blank, lines: which lines a text has, and which say nothing. -/
import Derived.Test.YtopnldebekhelaaDoorZSchRpTok
namespace Go.Proofs.YtopnldebekhelaaDoor
open Go Go.RowKit

def blR : List UInt8 → Bool
  | [] => true
  | c :: r => if blankU c = true then blR r else decide (c = 47) && decide (r.head? = some 47)

theorem has2 (c : UInt8) (r : List UInt8) : Lib.hasPrefix (c :: r) [47, 47] = (decide (c = 47) && decide (r.head? = some 47)) := by
  unfold Lib.hasPrefix
  cases r with
  | nil => simp [List.isPrefixOf]
  | cons d r =>
    simp only [List.isPrefixOf, List.head?_cons]
    have e1 : ((47 : UInt8) == c) = decide (c = 47) := by by_cases h : c = 47 <;> simp [h]; exact fun e => h e.symm
    have e2 : ((47 : UInt8) == d) = decide (some d = some 47) := by by_cases h : d = 47 <;> simp [h]; exact fun e => h e.symm
    rw [e1, e2]
    simp

theorem con9 (c : UInt8) : ([32, 9] : List UInt8).contains c = blankU c := by
  unfold blankU
  by_cases h1 : c = 32 <;> by_cases h2 : c = 9 <;> simp [h1, h2]

theorem blR_snoc (c : UInt8) (hc : blankU c = true) : ∀ l : List UInt8, blR (l ++ [c]) = blR l
  | [] => by simp [blR, hc]
  | d :: l => by
    rw [List.cons_append, blR, blR]
    split
    · exact blR_snoc c hc l
    · cases l with
      | nil =>
        have : c ≠ 47 := fun e => by rw [e] at hc; exact absurd hc (by decide)
        simp [this]
      | cons e l => rfl
theorem blR_right : ∀ (n : Nat) (l : List UInt8), l.length = n → blR (Lib.trimRightS l [32, 9]) = blR l
  | 0, l, h => by rw [List.eq_nil_of_length_eq_zero h]; rfl
  | n + 1, l, h => by
    rcases List.eq_nil_or_concat l with rfl | ⟨m, c, rfl⟩
    · rfl
    · rw [List.concat_eq_append] at h ⊢
      rw [List.length_append, List.length_singleton] at h
      unfold Lib.trimRightS
      rw [List.reverse_append, List.reverse_singleton, List.singleton_append, List.dropWhile_cons, con9]
      by_cases hc : blankU c = true
      · rw [if_pos hc, blR_snoc c hc]
        exact blR_right n m (by omega)
      · rw [if_neg hc, List.reverse_cons, List.reverse_reverse]
theorem blR_left : ∀ l : List UInt8, saysNone (Lib.trimLeftS l [32, 9]) = blR l
  | [] => rfl
  | c :: r => by
    unfold Lib.trimLeftS
    rw [List.dropWhile_cons, con9, blR]
    by_cases hc : blankU c = true
    · rw [if_pos hc, if_pos hc]
      exact blR_left r
    · rw [if_neg hc, if_neg hc]
      unfold saysNone
      rw [has2]
      rfl
theorem blR_eq (l : List UInt8) : saysNone (trimB l) = blR l := by
  unfold trimB Lib.trimS
  rw [blR_left, blR_right _ l rfl]

theorem blR_at {l : List UInt8} {i : Nat} {c : UInt8} (h : l[i]? = some c) : blR (l.drop i) = if blankU c = true then blR (l.drop (i + 1)) else decide (c = 47) && decide (l[i + 1]? = some 47) := by
  rw [dropAt h, blR, List.head?_drop]

def BlRel (l : List UInt8) (w : World) (iv : Value) (wr : World) : Prop := ∃ i : Nat, iv = .int .i64 (i : Int) ∧ i ≤ l.length ∧ blR l = blR (l.drop i) ∧ w = wr

theorem two_sl {a b : UInt8} : ((tk [a, b]).toList == [47, 47]) = (decide (a = 47) && decide (b = 47)) := by
  rw [Lib.toList_data, tk_data]
  by_cases h1 : a = 47 <;> by_cases h2 : b = 47 <;> simp [h1, h2]

set_option maxRecDepth 100000 in
set_option maxHeartbeats 4000000 in
theorem blank_any (w : World) (l : List UInt8) (hl6 : l.length ≤ 65536) : Calls Tryd.prog 19 #[.string (tk l)] w (SameBool w (blR l)) := by
  obtain ⟨L, hL⟩ : ∃ L, l.length = L := ⟨_, rfl⟩
  have HL := Lib.hid hL
  have htk : (tk l).size = L := by rw [tk_size, hL]
  rw [hL] at hl6
  clear hL
  go_enter Tryd.func19, Tryd.ntmps19
  go_wp2
  go_loopw [3] (fun iv wr => BlRel l w iv wr) (fun iv _ => L - (intOf iv).toNat)
  case atStart => exact ⟨0, rfl, Nat.zero_le _, rfl, rfl⟩
  case round =>
    obtain ⟨i, rfl, hin, hbl, rfl⟩ := hrel
    rw [HL.out] at hin
    have HBl := Lib.hid hbl
    clear hbl
    by_cases hlt : i < L
    · have hltI : (i : Int) < L := by omega
      have h0I : (0 : Int) ≤ i := by omega
      obtain ⟨c, hc⟩ : ∃ c, l[i]? = some c := ⟨l[i]'(by rw [HL.out]; exact hlt), List.getElem?_eq_getElem _⟩
      have hgc : ∀ h : i < (tk l).size, (tk l)[i]'h = c := fun h => tkGet hc h
      have HCi := Lib.hid hc
      have HAt := Lib.hid (blR_at hc)
      clear hc
      by_cases h32 : c = 32
      · subst h32
        have HN := Lib.hid (show blR l = blR (l.drop (i + 1)) by rw [HBl.out, HAt.out]; rfl)
        go_wp2
        exact ⟨⟨i + 1, by go_num, by rw [HL.out]; omega, HN.out, rfl⟩, by simp [intOf]; omega⟩
      · have n32 : ((c.toNat : Int) == 32) = false := by
          have : c.toNat ≠ 32 := fun e => h32 (by rw [← UInt8.toNat_inj, e]; rfl)
          simp; omega
        by_cases h9 : c = 9
        · subst h9
          have HN := Lib.hid (show blR l = blR (l.drop (i + 1)) by rw [HBl.out, HAt.out]; rfl)
          go_wp2
          exact ⟨⟨i + 1, by go_num, by rw [HL.out]; omega, HN.out, rfl⟩, by simp [intOf]; omega⟩
        · have n9 : ((c.toNat : Int) == 9) = false := by
            have : c.toNat ≠ 9 := fun e => h9 (by rw [← UInt8.toNat_inj, e]; rfl)
            simp; omega
          have m32 : ((c.toNat : Int) != 32) = true := by rw [bne, n32]; rfl
          have m9 : ((c.toNat : Int) != 9) = true := by rw [bne, n9]; rfl
          have hbk : ¬ blankU c = true := by unfold blankU; simp [h32, h9]
          rw [if_neg hbk] at HAt
          by_cases hn1 : i + 1 < L
          · have hn1I : (i : Int) + 1 < L := by omega
            have hn2I : (i : Int) + 2 ≤ L := by omega
            have h02 : (i : Int) ≤ i + 2 := by omega
            obtain ⟨f, hf⟩ : ∃ f, l[i + 1]? = some f := ⟨l[i + 1]'(by rw [HL.out]; exact hn1), List.getElem?_eq_getElem _⟩
            have hex : (tk l).extract i (i + 2) = tk [c, f] := by rw [tkExt, dropAt HCi.out, dropAt hf, show i + 2 - i = 2 by omega]; rfl
            have htwo := two_sl (a := c) (b := f)
            have HFin := Lib.hid (show blR l = ((tk [c, f]).toList == [47, 47]) by
              rw [HBl.out, HAt.out, htwo, hf]
              simp)
            clear hf htwo
            go_wp2
            go_ret
            rw [HFin.out]
            exact ⟨rfl, rfl⟩
          · have hn1I : ¬ (i : Int) + 1 < L := by omega
            have HFin := Lib.hid (show blR l = false by
              rw [HBl.out, HAt.out, List.getElem?_eq_none (by rw [HL.out]; omega)]
              simp)
            go_wp2
            go_ret
            rw [HFin.out]
            exact ⟨rfl, rfl⟩
    · obtain rfl : i = L := by omega
      have hltI : ¬ (i : Int) < i := by omega
      have HFin := Lib.hid (show blR l = true by rw [HBl.out, List.drop_of_length_le (by rw [HL.out]; exact Nat.le_refl _)]; rfl)
      go_wp2
      go_ret
      rw [HFin.out]
      exact ⟨rfl, rfl⟩
end Go.Proofs.YtopnldebekhelaaDoor
