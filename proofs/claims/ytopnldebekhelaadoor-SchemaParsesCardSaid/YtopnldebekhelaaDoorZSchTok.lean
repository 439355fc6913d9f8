/- The signs of what is printed. -/
import Derived.Test.YtopnldebekhelaaDoorZSchText
namespace Go.Proofs.YtopnldebekhelaaDoor
open Go Go.RowKit

def blankU (c : UInt8) : Bool := c == 32 || c == 9

theorem trimL_cons (c : UInt8) (r : List UInt8) : trimL (c :: r) = if blankU c = true then trimL r else c :: r := by
  unfold trimL Lib.trimLeftS blankU
  rw [List.dropWhile_cons]
  have e : ([32, 9] : List UInt8).contains c = (c == 32 || c == 9) := by
    by_cases h1 : c = 32 <;> by_cases h2 : c = 9 <;> simp [h1, h2]
  rw [e]

theorem okB_not {c : UInt8} (h : okB c = true) : blankU c = false ∧ c ≠ 62 ∧ c ≠ 10 ∧ c ≠ 47 ∧ c ≠ 124 ∧ c ≠ 38 ∧ c ≠ 40 ∧ c ≠ 41 ∧ c ≠ 61 := by
  have hn : ∀ n : Nat, c.toNat = n → c = UInt8.ofNat n := fun n e => by rw [← e]; simp
  unfold okB at h
  simp at h
  have hb : ∀ m : UInt8, c = m → c.toNat = m.toNat := fun m e => by rw [e]
  unfold blankU
  refine ⟨?_, ?_, ?_, ?_, ?_, ?_, ?_, ?_, ?_⟩
  · cases h1 : (c == 32) with
    | true => have := hb 32 (by simpa using h1); simp at this; omega
    | false =>
      cases h2 : (c == 9) with
      | true => have := hb 9 (by simpa using h2); simp at this; omega
      | false => rfl
  all_goals
    intro e
    have := hb _ e
    simp at this
    omega

theorem toks_blank {c : UInt8} (h : blankU c = true) (r : List UInt8) : toks (c :: r) = toks r := by
  by_cases hr : trimL r = []
  · rw [toks_none hr, toks_none (by rw [trimL_cons, if_pos h]; exact hr)]
  · rw [toks_some hr, toks_some (by rw [trimL_cons, if_pos h]; exact hr)]
    rw [trimL_cons, if_pos h]

theorem arrowB_cons (c : UInt8) (r : List UInt8) : arrowB (c :: r) = (decide (c = 45) && decide (r.head? = some 62)) := by
  unfold arrowB Lib.hasPrefix
  cases r with
  | nil => simp [List.isPrefixOf]
  | cons d r =>
    simp only [List.isPrefixOf, List.head?_cons]
    have e1 : (45 == c) = decide (c = 45) := by by_cases h : c = 45 <;> simp [h]; exact fun e => h e.symm
    have e2 : (62 == d) = decide (some d = some 62) := by by_cases h : d = 62 <;> simp [h]; exact fun e => h e.symm
    rw [e1, e2]
    simp

/-- Where a name ends. -/
def EndsN (rest : List UInt8) : Prop := nlen rest = 0 ∧ rest.head? ≠ some 62

theorem nlen_name : ∀ (a rest : List UInt8), a.all okB = true → EndsN rest → nlen (a ++ rest) = a.length
  | [], rest, _, h => h.1
  | c :: a, rest, ha, h => by
    rw [List.all_cons, Bool.and_eq_true] at ha
    have ih := nlen_name a rest ha.2 h
    rw [List.cons_append, nlen]
    have h2 : (a ++ rest).head? ≠ some 62 := by
      cases a with
      | nil => exact h.2
      | cons d a =>
        have := (okB_not (by have := ha.2; rw [List.all_cons, Bool.and_eq_true] at this; exact this.1 : okB d = true)).2.1
        simpa using this
    have h3 : arrowB (c :: (a ++ rest)) = false := by rw [arrowB_cons, decide_eq_false h2, Bool.and_false]
    rw [if_pos ⟨ha.1, h3⟩, ih]
    rfl

theorem name_bytes {s : ByteArray} (h : nameB s = true) : s.data.toList.all okB = true ∧ s.data.toList ≠ [] ∧ s.size ≤ 32 := by
  unfold nameB nameL at h
  simp only [Bool.and_eq_true, decide_eq_true_eq] at h
  have : s.data.toList.length = s.size := Array.length_toList
  exact ⟨h.1.1, fun e => by rw [e] at h; simp at h, by omega⟩

theorem toks_name {s : ByteArray} (h : nameB s = true) {rest : List UInt8} (hr : EndsN rest) : toks (s.data.toList ++ rest) = s :: toks rest := by
  obtain ⟨h1, h2, _⟩ := name_bytes h
  have hn := nlen_name _ rest h1 hr
  cases hs : s.data.toList with
  | nil => exact absurd hs h2
  | cons c a =>
    rw [hs] at h1 hn
    have hc := (okB_not (by rw [List.all_cons, Bool.and_eq_true] at h1; exact h1.1 : okB c = true)).1
    have ht : trimL (c :: a ++ rest) = c :: a ++ rest := by rw [List.cons_append, trimL_cons, if_neg (by rw [hc]; decide)]
    have hlen : tlen (c :: a ++ rest) = (c :: a).length := by
      unfold tlen
      have har : arrowB (c :: a ++ rest) = false := by
        cases hq : arrowB (c :: a ++ rest) with
        | false => rfl
        | true =>
          rw [List.cons_append, nlen, if_neg (fun h => by rw [List.cons_append] at hq; rw [h.2] at hq; cases hq)] at hn
          simp at hn
      rw [if_neg (by rw [har]; decide), hn, if_neg (fun h => by have := h.1; simp at this)]
    rw [toks_some (by rw [ht]; simp), ht, hlen, List.take_left, List.drop_left, ← hs, tk_of]

theorem toks_mark {c : UInt8} (h : okB c = false) (hb : blankU c = false) (h45 : c ≠ 45) (rest : List UInt8) : toks (c :: rest) = tk [c] :: toks rest := by
  have ht : trimL (c :: rest) = c :: rest := by rw [trimL_cons, if_neg (by rw [hb]; decide)]
  have har : arrowB (c :: rest) = false := by rw [arrowB_cons]; simp [h45]
  have hn : nlen (c :: rest) = 0 := by rw [nlen, if_neg (fun h2 => by rw [h] at h2; exact absurd h2.1 (by decide))]
  have hl : tlen (c :: rest) = 1 := by
    unfold tlen
    rw [if_neg (by rw [har]; decide), if_pos ⟨hn, by simp⟩]
  rw [toks_some (by rw [ht]; simp), ht, hl]
  rfl

theorem toks_arrow (rest : List UInt8) : toks (arrowS ++ rest) = cArrow :: toks rest := by
  have ht : trimL (arrowS ++ rest) = arrowS ++ rest := by
    show trimL (45 :: 62 :: rest) = _
    rw [trimL_cons, if_neg (by decide)]; rfl
  have hl : tlen (arrowS ++ rest) = 2 := by
    unfold tlen
    rw [if_pos (by show arrowB (45 :: 62 :: rest) = true; rw [arrowB_cons]; simp)]
  rw [toks_some (by rw [ht]; simp [arrowS]), ht, hl]
  rfl

theorem ends_blank (r : List UInt8) : EndsN (32 :: r) := ⟨by rw [nlen, if_neg (fun h => absurd h.1 (by decide))], by simp⟩
theorem ends_shut (r : List UInt8) : EndsN (41 :: r) := ⟨by rw [nlen, if_neg (fun h => absurd h.1 (by decide))], by simp⟩
theorem ends_nil : EndsN [] := ⟨rfl, by simp⟩
theorem ends_arrow (r : List UInt8) : EndsN (arrowS ++ r) := ⟨by show nlen (45 :: 62 :: r) = 0; rw [nlen, arrowB_cons]; simp, by simp [arrowS]⟩

mutual
/-- The signs of a rule's text. -/
def tokT (above : Int) : Tr RuH → List ByteArray
  | .mk h ps => if h.kind = 4 then (if above = 5 then cOpen :: (tokG 4 cPipe true ps ++ [cShut]) else tokG 4 cPipe true ps)
    else if h.kind = 5 then tokG 5 cAmp true ps
    else if h.kind = 1 then [cThis]
    else if h.kind = 2 then [h.a]
    else [h.a, cArrow, h.b]
def tokG (k : Int) (op : ByteArray) (first : Bool) : List (Tr RuH) → List ByteArray
  | [] => []
  | p :: ps => (if first = true then [] else [op]) ++ tokT k p ++ tokG k op false ps
end
theorem tokT_mk (above : Int) (h : RuH) (ps : List (Tr RuH)) : tokT above (.mk h ps) = if h.kind = 4 then (if above = 5 then cOpen :: (tokG 4 cPipe true ps ++ [cShut]) else tokG 4 cPipe true ps)
    else if h.kind = 5 then tokG 5 cAmp true ps
    else if h.kind = 1 then [cThis]
    else if h.kind = 2 then [h.a]
    else [h.a, cArrow, h.b] := by rw [tokT]
theorem tokG_nil (k : Int) (op : ByteArray) (first : Bool) : tokG k op first [] = [] := by rw [tokG]
theorem tokG_cons (k : Int) (op : ByteArray) (first : Bool) (p : Tr RuH) (ps : List (Tr RuH)) : tokG k op first (p :: ps) = (if first = true then [] else [op]) ++ tokT k p ++ tokG k op false ps := by rw [tokG]

/-- What may stand behind a rule's text. -/
def EndsR (rest : List UInt8) : Prop := EndsN rest

theorem this_name : nameB cThis = true := by decide
theorem thisS_data : thisS = cThis.data.toList := rfl

theorem ref_name {s : ByteArray} (h : isRefB s = true) : nameB s = true ∧ s ≠ cThis := by
  unfold isRefB at h
  simp at h
  exact h

theorem sep_bar (x : List UInt8) : toks (barS ++ x) = cPipe :: toks x := by
  show toks (32 :: 124 :: 32 :: x) = _
  rw [toks_blank rfl, toks_mark (by decide) (by decide) (by decide), toks_blank rfl]
  rfl
theorem sep_amp (x : List UInt8) : toks (ampS ++ x) = cAmp :: toks x := by
  show toks (32 :: 38 :: 32 :: x) = _
  rw [toks_blank rfl, toks_mark (by decide) (by decide) (by decide), toks_blank rfl]
  rfl

mutual
theorem toks_text (above : Int) (d : Nat) : ∀ (t : Tr RuH) (s rest : List UInt8), textF above d t = some s → EndsN rest → toks (s ++ rest) = tokT above t ++ toks rest
  | .mk h ps, s, rest, e, hr => by
    rw [textF_mk] at e
    rw [tokT_mk]
    split at e
    · rename_i hok
      unfold okR at hok
      split at e
      · rename_i hk
        rw [if_pos hk]
        split at e
        · rename_i ha
          rw [if_pos ha]
          split at e
          · cases hg : goT 4 (d + 1) barS true ps with
            | none => rw [hg] at e; cases e
            | some r =>
              rw [hg] at e
              simp only [Option.map_some, Option.some.injEq] at e
              subst e
              have := toks_goT 4 (d + 1) barS cPipe sep_bar (fun x => ends_blank _) true ps r ([41] ++ rest) hg (ends_shut _)
              rw [List.cons_append, List.append_assoc, toks_mark (by decide) (by decide) (by decide), this]
              show tk [40] :: (tokG 4 cPipe true ps ++ toks (41 :: rest)) = _
              rw [toks_mark (by decide) (by decide) (by decide)]
              simp [cOpen, cShut, tk]
          · cases e
        · rename_i ha
          rw [if_neg ha]
          exact toks_goT 4 d barS cPipe sep_bar (fun x => ends_blank _) true ps s rest e hr
      · rename_i hk4
        rw [if_neg hk4]
        split at e
        · rename_i hk
          rw [if_pos hk]
          exact toks_goT 5 d ampS cAmp sep_amp (fun x => ends_blank _) true ps s rest e hr
        · rename_i hk5
          rw [if_neg hk5]
          split at e
          · rename_i hk
            rw [if_pos hk]
            cases e
            rw [thisS_data, toks_name this_name hr]
            rfl
          · rename_i hk1
            rw [if_neg hk1]
            split at e
            · rename_i hk
              rw [if_pos hk]
              cases e
              rw [if_neg hk1, if_pos hk] at hok
              simp only [Bool.and_eq_true] at hok
              rw [toks_name (ref_name hok.1.1).1 hr]
              rfl
            · rename_i hk2
              rw [if_neg hk2]
              cases e
              rw [if_neg hk1, if_neg hk2] at hok
              split at hok
              · simp only [Bool.and_eq_true] at hok
                rw [List.append_assoc, List.append_assoc, toks_name (ref_name hok.1.1).1 (ends_arrow _), toks_arrow, toks_name (ref_name hok.1.2).1 hr]
                rfl
              · rw [if_neg (fun h => h.elim hk4 hk5)] at hok
                cases hok
    · cases e
theorem toks_goT (k : Int) (d : Nat) (sep : List UInt8) (op : ByteArray) (hs : ∀ x, toks (sep ++ x) = op :: toks x) (hse : ∀ x, EndsN (sep ++ x)) (first : Bool) : ∀ (ps : List (Tr RuH)) (s rest : List UInt8), goT k d sep first ps = some s → EndsN rest → toks (s ++ rest) = tokG k op first ps ++ toks rest
  | [], s, rest, e, _ => by rw [goT_nil] at e; cases e; rw [tokG_nil]; rfl
  | p :: ps, s, rest, e, hr => by
    rw [goT_cons] at e
    rw [tokG_cons]
    cases h1 : textF k d p with
    | none => rw [h1] at e; cases e
    | some s1 =>
      rw [h1] at e
      cases h2 : goT k d sep false ps with
      | none => rw [h2] at e; cases e
      | some r =>
        rw [h2] at e
        simp only [Option.some.injEq] at e
        subst e
        have i2 := toks_goT k d sep op hs hse false ps r rest h2 hr
        have hre : EndsN (r ++ rest) := by
          cases ps with
          | nil => rw [goT_nil] at h2; cases h2; exact hr
          | cons q qs =>
            rw [goT_cons] at h2
            cases h3 : textF k d q with
            | none => rw [h3] at h2; cases h2
            | some s3 =>
              rw [h3] at h2
              cases h4 : goT k d sep false qs with
              | none => rw [h4] at h2; cases h2
              | some s4 =>
                rw [h4] at h2
                simp only [Option.some.injEq, Bool.false_eq_true, if_false] at h2
                subst h2
                rw [List.append_assoc, List.append_assoc]
                exact hse _
        have i1 := toks_text k d p s1 (r ++ rest) h1 hre
        cases first with
        | true =>
          rw [if_pos rfl, if_pos rfl, List.nil_append, List.nil_append, List.append_assoc, i1, i2, List.append_assoc]
        | false =>
          rw [if_neg (by decide), if_neg (by decide), List.append_assoc, List.append_assoc, hs, i1, i2]
          simp
end
end Go.Proofs.YtopnldebekhelaaDoor
