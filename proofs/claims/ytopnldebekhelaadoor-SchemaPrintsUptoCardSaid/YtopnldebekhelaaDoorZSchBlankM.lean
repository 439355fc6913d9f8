/- A printed schema with other line ends says the same. -/
import Derived.Test.YtopnldebekhelaaDoorZSchTrip
namespace Go.Proofs.YtopnldebekhelaaDoor
open Go Go.RowKit

/-- The five line ends. -/
def blE : Nat → List UInt8
  | 0 => [10]
  | 1 => [32, 9, 10]
  | 2 => [10, 10]
  | 3 => [10, 47, 47, 32, 116, 121, 112, 101, 32, 120, 10]
  | _ => [10, 32, 9]

/-- The text with other line ends; n of them have been. -/
def blG (how : List Nat) : Nat → List UInt8 → List UInt8
  | _, [] => []
  | n, c :: r => if c = 10 then blE (how.getD n 0 % 5) ++ blG how (n + 1) r else c :: blG how n r

theorem blG_line (how : List Nat) : ∀ (l : List UInt8) (n : Nat) (rest : List UInt8), (10 : UInt8) ∉ l → blG how n (l ++ 10 :: rest) = l ++ (blE (how.getD n 0 % 5) ++ blG how (n + 1) rest)
  | [], n, rest, _ => by rw [List.nil_append, blG, if_pos rfl, List.nil_append]
  | c :: l, n, rest, h => by
    have hc : c ≠ 10 := fun e => h (by simp [e])
    rw [List.cons_append, blG, if_neg hc, blG_line how l n rest (fun hm => h (by simp [hm])), List.cons_append]

def Says (S : List Ty) (l : List UInt8) (S' : List Ty) : Prop := ∃ a T, toks l = a :: T ∧ nameB a = true ∧ lineF S (a :: T) = some S'

theorem type_says {S : List Ty} {n : ByteArray} (hn : isRefB n = true) : Says S (typeS ++ n.data.toList) (S ++ [⟨n, []⟩]) := by
  refine ⟨cType, [n], ?_, by decide, ?_⟩
  · show toks (cType.data.toList ++ (32 :: n.data.toList)) = _
    rw [toks_name (by decide) (ends_blank _), toks_blank rfl]
    have := toks_name (ref_name hn).1 ends_nil
    rw [List.append_nil] at this
    rw [this, toks_nil]
  · unfold lineF
    rw [if_pos (show ([cType, n] : List ByteArray).headD cNone = cType from rfl), if_pos ⟨hn, rfl⟩]
    rfl

theorem rel_says {S : List Ty} {t : Ty} {r : Rl} {s : List UInt8} (hn : isRelB r.name = true) (hs : textF 0 0 r.rule = some s) : Says (S ++ [t]) (r.name.data.toList ++ eqS ++ s) (S ++ [⟨t.name, t.rels ++ [r]⟩]) := by
  refine ⟨r.name, cEq :: (tokT 0 r.rule), ?_, (rel_name hn).1, ?_⟩
  · rw [List.append_assoc, toks_name (rel_name hn).1 (show EndsN (eqS ++ s) from ends_blank _)]
    show r.name :: toks (32 :: 61 :: 32 :: s) = _
    rw [toks_blank rfl, toks_mark (by decide) (by decide) (by decide), toks_blank rfl]
    have := toks_text 0 0 r.rule s [] hs ends_nil
    rw [List.append_nil, toks_nil, List.append_nil] at this
    rw [this]
    rfl
  · have hr := rule_back r.rule s hs [] ⟨⟨by decide, by decide⟩, by decide⟩
    rw [List.append_nil] at hr
    unfold lineF
    rw [if_neg (show ¬ (r.name :: cEq :: tokT 0 r.rule).headD cNone = cType from (rel_name hn).2), if_pos ⟨hn, rfl, by simp⟩]
    show (match ruleF 8 (tokT 0 r.rule) with | some (t', U) => if U.headD cNone = cNone then some (addRl (S ++ [t]) ⟨r.name, t'⟩) else none | none => none) = _
    rw [hr]
    dsimp only
    rw [if_pos (show ([] : List ByteArray).headD cNone = cNone from rfl), addRl_snoc]

def Pre (p : List UInt8) : Prop := p = [] ∨ p = [32, 9]

theorem says_line {S S' : List Ty} {l pre bs : List UInt8} (h : Says S l S') (hp : Pre pre) (hb : allBlank bs) (i : Nat) (ls : List (List UInt8)) : parseL i S ((pre ++ l ++ bs) :: ls) = parseL (i + 1) S' ls := by
  obtain ⟨a, T, h1, h2, h3⟩ := h
  refine parse_line (a := a) (T := T) ?_ h2 h3
  rw [toks_app _ _ _ (Nat.le_refl _) hb, ← h1]
  rcases hp with rfl | rfl
  · rfl
  · show toks (32 :: 9 :: l) = _
    rw [toks_blank rfl, toks_blank rfl]

theorem skip_none (i : Nat) (S : List Ty) (ls : List (List UInt8)) : parseL i S ([] :: ls) = parseL (i + 1) S ls := by rw [parseL, if_pos (by decide)]
theorem skip_mark (i : Nat) (S : List Ty) (ls : List (List UInt8)) : parseL i S ([47, 47, 32, 116, 121, 112, 101, 32, 120] :: ls) = parseL (i + 1) S ls := by rw [parseL, if_pos (by decide)]

theorem pre_no10 {p l : List UInt8} (hp : Pre p) (hl : (10 : UInt8) ∉ l) : (10 : UInt8) ∉ p ++ l := by
  rcases hp with rfl | rfl
  · exact hl
  · simp at hl ⊢
    exact hl

theorem end_line {S S' : List Ty} {l : List UInt8} (h : Says S l S') (hl : (10 : UInt8) ∉ l) {pre : List UInt8} (hp : Pre pre) (k i : Nat) (R : List UInt8) :
    ∃ j pre', Pre pre' ∧ parseL i S (linesL (pre ++ (l ++ (blE k ++ R)))) = parseL j S' (linesL (pre' ++ R)) := by
  have h0 := pre_no10 hp hl
  have hw := says_line h hp (bs := []) (fun c hc => by cases hc) i
  rw [List.append_nil] at hw
  match k with
  | 0 =>
    refine ⟨i + 1, [], .inl rfl, ?_⟩
    rw [show pre ++ (l ++ (blE 0 ++ R)) = (pre ++ l) ++ 10 :: R by simp [blE], linesL_app _ _ h0, hw]
    rfl
  | 1 =>
    refine ⟨i + 1, [], .inl rfl, ?_⟩
    rw [show pre ++ (l ++ (blE 1 ++ R)) = (pre ++ l ++ [32, 9]) ++ 10 :: R by simp [blE], linesL_app _ _ (by simp at h0 ⊢; exact h0), says_line h hp (bs := [32, 9]) (fun c hc => by simp at hc; rcases hc with rfl | rfl <;> rfl) i]
    rfl
  | 2 =>
    refine ⟨i + 1 + 1, [], .inl rfl, ?_⟩
    rw [show pre ++ (l ++ (blE 2 ++ R)) = (pre ++ l) ++ 10 :: ([] ++ 10 :: R) by simp [blE], linesL_app _ _ h0, linesL_app _ _ (by simp), hw, skip_none]
    rfl
  | 3 =>
    refine ⟨i + 1 + 1, [], .inl rfl, ?_⟩
    rw [show pre ++ (l ++ (blE 3 ++ R)) = (pre ++ l) ++ 10 :: ([47, 47, 32, 116, 121, 112, 101, 32, 120] ++ 10 :: R) by simp [blE], linesL_app _ _ h0, linesL_app _ _ (by decide), hw, skip_mark]
    rfl
  | k + 4 =>
    refine ⟨i + 1, [32, 9], .inr rfl, ?_⟩
    rw [show pre ++ (l ++ (blE (k + 4) ++ R)) = (pre ++ l) ++ 10 :: ([32, 9] ++ R) by simp [blE], linesL_app _ _ h0, hw]

theorem rels_blank (how : List Nat) : ∀ (rs : List Rl) (x : List UInt8), relsT rs = some x → ∀ (i m : Nat) (S : List Ty) (n : ByteArray) (r0 : List Rl) (rest pre : List UInt8), Pre pre →
    ∃ j m' pre', Pre pre' ∧ parseL i (S ++ [⟨n, r0⟩]) (linesL (pre ++ blG how m (x ++ rest))) = parseL j (S ++ [⟨n, r0 ++ rs⟩]) (linesL (pre' ++ blG how m' rest))
  | [], x, e, i, m, S, n, r0, rest, pre, hp => by
    rw [relsT] at e
    cases e
    exact ⟨i, m, pre, hp, by simp⟩
  | r :: rs, x, e, i, m, S, n, r0, rest, pre, hp => by
    rw [relsT] at e
    split at e
    · rename_i hn
      cases h1 : textF 0 0 r.rule with
      | none => rw [h1] at e; cases e
      | some s =>
        rw [h1] at e
        cases h2 : relsT rs with
        | none => rw [h2] at e; cases e
        | some y =>
          rw [h2] at e
          simp only [Option.bind_some, Option.map_some, Option.some.injEq] at e
          subst e
          have e1 : r.name.data.toList ++ eqS ++ s ++ [10] ++ y ++ rest = (r.name.data.toList ++ eqS ++ s) ++ 10 :: (y ++ rest) := by simp
          rw [e1, blG_line how _ _ _ (rel_no10 hn h1)]
          obtain ⟨j, pre1, hp1, hj⟩ := end_line (rel_says (S := S) (t := ⟨n, r0⟩) hn h1) (rel_no10 hn h1) hp (how.getD m 0 % 5) i (blG how (m + 1) (y ++ rest))
          rw [hj]
          obtain ⟨j2, m2, pre2, hp2, hj2⟩ := rels_blank how rs y h2 j (m + 1) S n (r0 ++ [r]) rest pre1 hp1
          refine ⟨j2, m2, pre2, hp2, ?_⟩
          show parseL j (S ++ [⟨n, r0 ++ [r]⟩]) _ = _
          rw [hj2]
          simp
    · cases e

theorem print_blank (how : List Nat) : ∀ (S : List Ty) (x : List UInt8), printT S = some x → ∀ (i m : Nat) (S0 : List Ty) (pre : List UInt8), Pre pre → ∃ j, parseL i S0 (linesL (pre ++ blG how m x)) = (some (S0 ++ S), j)
  | [], x, e, i, m, S0, pre, hp => by
    rw [printT] at e
    cases e
    refine ⟨0, ?_⟩
    rw [blG, List.append_nil, List.append_nil]
    rcases hp with rfl | rfl
    · rw [linesL, parseL, if_pos (by decide), parseL]
    · rw [show linesL [32, 9] = [[32, 9]] from rfl, parseL, if_pos (by decide), parseL]
  | t :: ts, x, e, i, m, S0, pre, hp => by
    rw [printT] at e
    split at e
    · rename_i hn
      cases h1 : relsT t.rels with
      | none => rw [h1] at e; cases e
      | some y =>
        rw [h1] at e
        cases h2 : printT ts with
        | none => rw [h2] at e; cases e
        | some z =>
          rw [h2] at e
          simp only [Option.bind_some, Option.map_some, Option.some.injEq] at e
          subst e
          have e1 : typeS ++ t.name.data.toList ++ [10] ++ y ++ z = (typeS ++ t.name.data.toList) ++ 10 :: (y ++ z) := by simp
          rw [e1, blG_line how _ _ _ (type_no10 hn)]
          obtain ⟨j, pre1, hp1, hj⟩ := end_line (type_says (S := S0) hn) (type_no10 hn) hp (how.getD m 0 % 5) i (blG how (m + 1) (y ++ z))
          rw [hj]
          obtain ⟨j2, m2, pre2, hp2, hj2⟩ := rels_blank how t.rels y h1 j (m + 1) S0 t.name [] z pre1 hp1
          rw [hj2]
          obtain ⟨j3, hj3⟩ := print_blank how ts z h2 j2 m2 (S0 ++ [⟨t.name, [] ++ t.rels⟩]) pre2 hp2
          refine ⟨j3, ?_⟩
          rw [hj3]
          simp
    · cases e

/-- A printed schema with other line ends is parsed as it was. -/
theorem parse_blank (how : List Nat) {S : List Ty} {x : List UInt8} (h : printT S = some x) (hl : (blG how 0 x).length ≤ 65536) : parseS (tk (blG how 0 x)) = (S, 0, 0) := by
  unfold parseS
  rw [tk_size, if_neg (by omega), tk_data]
  obtain ⟨j, hj⟩ := print_blank how S x h 0 0 [] [] (.inl rfl)
  rw [List.nil_append] at hj
  rw [hj]
  rfl
end Go.Proofs.YtopnldebekhelaaDoor
