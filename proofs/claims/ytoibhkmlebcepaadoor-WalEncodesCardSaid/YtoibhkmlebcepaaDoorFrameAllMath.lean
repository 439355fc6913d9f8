import Derived.Test.YtoibhkmlebcepaaDoorFrameTrip
namespace Go.Proofs.YtoibhkmlebcepaaDoor
open Go

theorem nextL_ok {b : List UInt8} (h : (nextL b).1 = 0) : 8 ≤ b.length ∧ nextN b = 8 + (nextL b).2.length ∧ nextN b ≤ b.length := by
  have hN : nextN b = 8 + (nextL b).2.length := by rw [nextN, if_pos h]
  by_cases h1 : b.length < 8 ∨ b.length - 8 < num4 b
  · have e1 : nextL b = (7, []) := if_pos h1
    rw [e1] at h
    cases h
  · by_cases h2 : sumL ((b.drop 8).take (num4 b)) = num4 (b.drop 4)
    · have e1 : nextL b = (0, (b.drop 8).take (num4 b)) := by rw [nextL, if_neg h1, if_pos h2]
      rw [hN, e1]
      refine ⟨by omega, rfl, ?_⟩
      simp only [List.length_take, List.length_drop]
      omega
    · have e1 : nextL b = (8, []) := by rw [nextL, if_neg h1, if_neg h2]
      rw [e1] at h
      cases h

/-- all frames at the head of bytes, and where they end -/
def allL (b : List UInt8) : List (List UInt8) × Nat :=
  if _h : (nextL b).1 = 0 then ((nextL b).2 :: (allL (b.drop (nextN b))).1, nextN b + (allL (b.drop (nextN b))).2) else ([], 0)
termination_by b.length
decreasing_by
  all_goals
    have := nextL_ok (by assumption)
    simp only [List.length_drop]
    omega

theorem allL_more {b : List UInt8} (h : (nextL b).1 = 0) : allL b = ((nextL b).2 :: (allL (b.drop (nextN b))).1, nextN b + (allL (b.drop (nextN b))).2) := by
  conv => lhs; rw [allL]
  rw [dif_pos h]

theorem allL_stop {b : List UInt8} (h : ¬ (nextL b).1 = 0) : allL b = ([], 0) := by
  rw [allL, dif_neg h]

/-- frames behind one another -/
def seals (ps : List (List UInt8)) : List UInt8 := ps.flatMap sealL

theorem seals_cons (p : List UInt8) (r : List (List UInt8)) : seals (p :: r) = sealL p ++ seals r := rfl

theorem seals_snoc (ps : List (List UInt8)) (p : List UInt8) : seals (ps ++ [p]) = seals ps ++ sealL p := by simp [seals]

/-- where the first m frames end -/
def endAt (ps : List (List UInt8)) (m : Nat) : Nat := (seals (ps.take m)).length

/-- A frame that is cut isn't read. -/
theorem next_cut {p : List UInt8} (h : p.length < 4294967296) {c : Nat} (hc : c < 8 + p.length) : ¬ (nextL ((sealL p).take c)).1 = 0 := by
  have hl : ((sealL p).take c).length = c := by rw [List.length_take, sealL_length]; omega
  have hs : nextL ((sealL p).take c) = (7, []) := by
    apply if_pos
    rw [hl]
    by_cases h8 : c < 8
    · exact .inl h8
    · right
      have e1 : (sealL p).take c = be4 p.length ++ ((be4 (sumL p) ++ p).take (c - 4)) := by
        have e2 : sealL p = be4 p.length ++ (be4 (sumL p) ++ p) := by simp [sealL]
        rw [e2, List.take_append, List.take_of_length_le (by simp [be4]; omega)]
        rfl
      rw [e1, num4_be4 h]
      omega
  rw [hs]
  decide

theorem all_cut {ps : List (List UInt8)} (hp : ∀ p ∈ ps, p.length < 4294967296) : ∀ (cut m : Nat), m ≤ ps.length → endAt ps m ≤ cut → (m < ps.length → cut < endAt ps (m + 1)) → cut ≤ (seals ps).length →
    allL ((seals ps).take cut) = (ps.take m, endAt ps m) := by
  induction ps with
  | nil =>
    intro cut m hm h1 h2 h3
    have e : (seals []).take cut = [] := by simp [seals]
    rw [e, allL_stop (by decide +kernel)]
    simp [endAt, seals]
  | cons p r ih =>
    intro cut m hm h1 h2 h3
    have hpl := hp p (by simp)
    have hsl := sealL_length p
    rw [seals_cons] at h3 ⊢
    cases m with
    | zero =>
      have hc : cut < 8 + p.length := by
        have := h2 (by simp)
        simp [endAt, seals, hsl] at this
        omega
      rw [List.take_append_of_le_length (by omega), allL_stop (next_cut hpl hc)]
      simp [endAt, seals]
    | succ m =>
      have e0 : ∀ j, endAt (p :: r) (j + 1) = 8 + p.length + endAt r j := by
        intro j
        unfold endAt
        rw [List.take_succ_cons, seals_cons, List.length_append, hsl]
      rw [e0] at h1
      have hc : 8 + p.length ≤ cut := by omega
      have e1 : (sealL p ++ seals r).take cut = sealL p ++ (seals r).take (cut - (8 + p.length)) := by
        rw [List.take_append, List.take_of_length_le (by omega), hsl]
      have hn := next_seal hpl ((seals r).take (cut - (8 + p.length)))
      have hN := nextN_seal hpl ((seals r).take (cut - (8 + p.length)))
      have hd : (sealL p ++ (seals r).take (cut - (8 + p.length))).drop (8 + p.length) = (seals r).take (cut - (8 + p.length)) := by
        rw [← hsl, List.drop_left]
      have hi := ih (fun q hq => hp q (by simp [hq])) (cut - (8 + p.length)) m (by simp at hm; omega) (by omega) (fun hlt => by
        have := h2 (by simp; omega)
        rw [e0] at this
        omega) (by rw [List.length_append, hsl] at h3; omega)
      rw [e1, allL_more (by rw [hn]), hn, hN, hd, hi, e0]
      simp

/-- how many of the first j frames are whole within the cut -/
def wholeN (ps : List (List UInt8)) (cut : Nat) : Nat → Nat
  | 0 => 0
  | j + 1 => if endAt ps (j + 1) ≤ cut then j + 1 else wholeN ps cut j

theorem wholeN_spec (ps : List (List UInt8)) (cut j : Nat) : wholeN ps cut j ≤ j ∧ endAt ps (wholeN ps cut j) ≤ cut ∧ ∀ i, wholeN ps cut j < i → i ≤ j → cut < endAt ps i := by
  induction j with
  | zero => exact ⟨Nat.le_refl _, by simp [wholeN, endAt, seals], fun i h1 h2 => by simp [wholeN] at h1; omega⟩
  | succ j ih =>
    rw [wholeN]
    by_cases h : endAt ps (j + 1) ≤ cut
    · rw [if_pos h]
      exact ⟨Nat.le_refl _, h, fun i h1 h2 => by omega⟩
    · rw [if_neg h]
      refine ⟨by omega, ih.2.1, fun i h1 h2 => ?_⟩
      by_cases hi : i = j + 1
      · subst hi; omega
      · exact ih.2.2 i h1 (by omega)

theorem all_whole {ps : List (List UInt8)} (hp : ∀ p ∈ ps, p.length < 4294967296) (cut : Nat) (hc : cut ≤ (seals ps).length) :
    allL ((seals ps).take cut) = (ps.take (wholeN ps cut ps.length), endAt ps (wholeN ps cut ps.length)) := by
  obtain ⟨h1, h2, h3⟩ := wholeN_spec ps cut ps.length
  exact all_cut hp cut _ h1 h2 (fun hlt => h3 _ (by omega) (by omega)) hc

theorem endAt_succ {ps : List (List UInt8)} {j : Nat} {p : List UInt8} (h : ps[j]? = some p) : endAt ps (j + 1) = endAt ps j + (8 + p.length) := by
  unfold endAt
  rw [List.take_add_one, h]
  simp only [Option.toList_some]
  rw [seals_snoc, List.length_append, sealL_length]

theorem endAt_le {ps : List (List UInt8)} (hp : ∀ p ∈ ps, p.length ≤ 300) (m : Nat) : endAt ps m ≤ 308 * m := by
  induction m with
  | zero => simp [endAt, seals]
  | succ m ih =>
    cases h : ps[m]? with
    | none =>
      have : endAt ps (m + 1) = endAt ps m := by
        unfold endAt
        rw [List.take_add_one, h]
        simp
      omega
    | some p =>
      have := hp p (List.mem_of_getElem? h)
      rw [endAt_succ h]
      omega
end Go.Proofs.YtoibhkmlebcepaaDoor
