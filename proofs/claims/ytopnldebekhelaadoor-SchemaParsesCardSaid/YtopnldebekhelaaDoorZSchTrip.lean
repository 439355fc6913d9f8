/- A printed schema's text is parsed as the schema. -/
import Derived.Test.YtopnldebekhelaaDoorZSchGood
namespace Go.Proofs.YtopnldebekhelaaDoor
open Go Go.RowKit

def allBlank (bs : List UInt8) : Prop := ∀ c ∈ bs, blankU c = true

theorem trimL_blank : ∀ {bs : List UInt8}, allBlank bs → trimL bs = []
  | [], _ => rfl
  | c :: bs, h => by
    rw [trimL_cons, if_pos (h c (by simp))]
    exact trimL_blank fun d hd => h d (by simp [hd])

theorem trimL_app : ∀ (x bs : List UInt8), trimL x ≠ [] → trimL (x ++ bs) = trimL x ++ bs
  | [], _, h => absurd rfl h
  | c :: x, bs, h => by
    rw [List.cons_append, trimL_cons, trimL_cons]
    rw [trimL_cons] at h
    split
    · rename_i hb
      rw [if_pos hb] at h
      exact trimL_app x bs h
    · rfl
theorem trimL_app_nil : ∀ (x bs : List UInt8), trimL x = [] → trimL (x ++ bs) = trimL bs
  | [], _, _ => rfl
  | c :: x, bs, h => by
    rw [List.cons_append, trimL_cons]
    rw [trimL_cons] at h
    split at h
    · rename_i hb
      rw [if_pos hb]
      exact trimL_app_nil x bs h
    · cases h

theorem blank_not {c : UInt8} (h : blankU c = true) : okB c = false ∧ c ≠ 62 ∧ c ≠ 45 := by
  unfold blankU at h
  simp at h
  rcases h with rfl | rfl <;> decide

theorem nlen_app : ∀ (x bs : List UInt8), allBlank bs → nlen (x ++ bs) = nlen x
  | [], [], _ => rfl
  | [], c :: bs, h => by
    rw [List.nil_append]
    show nlen (c :: bs) = 0
    rw [nlen]
    exact if_neg (fun h2 => by rw [(blank_not (h c (by simp))).1] at h2; exact absurd h2.1 (by decide))
  | c :: x, bs, h => by
    rw [List.cons_append, nlen, nlen, nlen_app x bs h]
    have : arrowB (c :: (x ++ bs)) = arrowB (c :: x) := by
      rw [arrowB_cons, arrowB_cons]
      cases x with
      | nil =>
        cases bs with
        | nil => rfl
        | cons d bs =>
          have := (blank_not (h d (by simp))).2.1
          simp [this]
      | cons d x => rfl
    rw [this]

theorem tlen_app {x : List UInt8} (hx : x ≠ []) {bs : List UInt8} (h : allBlank bs) : tlen (x ++ bs) = tlen x := by
  unfold tlen
  rw [nlen_app x bs h]
  have : arrowB (x ++ bs) = arrowB x := by
    cases x with
    | nil => exact absurd rfl hx
    | cons c x =>
      rw [List.cons_append, arrowB_cons, arrowB_cons]
      cases x with
      | nil =>
        cases bs with
        | nil => rfl
        | cons d bs =>
          have := (blank_not (h d (by simp))).2.1
          simp [this]
      | cons d x => rfl
  rw [this]
  have e1 : x ++ bs ≠ [] := by simp [hx]
  by_cases hn : nlen x = 0
  · rw [if_pos (show nlen x = 0 ∧ x ++ bs ≠ [] from ⟨hn, e1⟩), if_pos (show nlen x = 0 ∧ x ≠ [] from ⟨hn, hx⟩)]
  · rw [if_neg (show ¬ (nlen x = 0 ∧ x ++ bs ≠ []) from fun h => hn h.1), if_neg (show ¬ (nlen x = 0 ∧ x ≠ []) from fun h => hn h.1)]

/-- Blanks behind a line say nothing. -/
theorem toks_app (n : Nat) : ∀ (x bs : List UInt8), x.length ≤ n → allBlank bs → toks (x ++ bs) = toks x := by
  induction n with
  | zero =>
    intro x bs hx h
    obtain rfl : x = [] := List.eq_nil_of_length_eq_zero (by omega)
    rw [List.nil_append, toks_none (trimL_blank h), toks_nil]
  | succ n ih =>
    intro x bs hx h
    by_cases ht : trimL x = []
    · rw [toks_none ht, toks_none (by rw [trimL_app_nil x bs ht]; exact trimL_blank h)]
    · have e := trimL_app x bs ht
      have h1 := tlen_pos ht
      have h2 := trimL_le x
      have h3 := tlen_le (trimL x)
      rw [toks_some ht, toks_some (by rw [e]; simp [ht]), e, tlen_app ht h]
      rw [List.take_append_of_le_length h3, List.drop_append_of_le_length h3]
      rw [ih _ bs (by rw [List.length_drop]; omega) h]

theorem toks_trimL (l : List UInt8) : toks (trimL l) = toks l := by
  have : trimL (trimL l) = trimL l := by
    by_cases h : trimL l = []
    · rw [h]; rfl
    · cases hl : trimL l with
      | nil => exact absurd hl h
      | cons c r =>
        have : blankU c = false := by
          induction l with
          | nil => cases hl
          | cons d l ih =>
            rw [trimL_cons] at hl h
            split at hl
            · rename_i hb
              rw [if_pos hb] at h
              exact ih h hl
            · rename_i hb
              cases hl
              simpa using hb
        rw [trimL_cons, if_neg (by rw [this]; decide)]
  by_cases h : trimL l = []
  · rw [toks_none h, h, toks_nil]
  · rw [toks_some h, toks_some (by rw [this]; exact h), this]

theorem trimR_app (l : List UInt8) : ∃ bs, allBlank bs ∧ l = Lib.trimRightS l [32, 9] ++ bs := by
  refine ⟨(l.reverse.takeWhile (([32, 9] : List UInt8).contains ·)).reverse, fun c hc => ?_, ?_⟩
  · rw [List.mem_reverse] at hc
    have h2 : ∀ (l : List UInt8), ∀ d ∈ l.takeWhile (([32, 9] : List UInt8).contains ·), ([32, 9] : List UInt8).contains d = true := by
      intro l
      induction l with
      | nil => intro d hd; cases hd
      | cons a l ih =>
        intro d hd
        rw [List.takeWhile_cons] at hd
        split at hd
        · rename_i ha
          rcases List.mem_cons.1 hd with rfl | hd
          · exact ha
          · exact ih d hd
        · cases hd
    have := h2 _ c hc
    unfold blankU
    simpa using this
  · unfold Lib.trimRightS
    rw [← List.reverse_append, List.takeWhile_append_dropWhile, List.reverse_reverse]

theorem toks_trim (l : List UInt8) : toks (trimB l) = toks l := by
  unfold trimB Lib.trimS
  show toks (trimL (Lib.trimRightS l [32, 9])) = _
  rw [toks_trimL]
  obtain ⟨bs, hb, he⟩ := trimR_app l
  conv => rhs; rw [he]
  exact (toks_app _ _ _ (Nat.le_refl _) hb).symm

/-- A line whose first sign is a name says something. -/
theorem says_some {l : List UInt8} {a : ByteArray} {T : List ByteArray} (h : toks l = a :: T) (ha : nameB a = true) : saysNone (trimB l) = false := by
  have ht := toks_trim l
  rw [h] at ht
  unfold saysNone
  cases hl : trimB l with
  | nil => rw [hl, toks_nil] at ht; cases ht
  | cons c r =>
    cases hp : Lib.hasPrefix (c :: r) [47, 47] with
    | false => rfl
    | true =>
      exfalso
      unfold Lib.hasPrefix at hp
      have hc : c = 47 := by
        simp [List.isPrefixOf] at hp
        exact hp.1.symm
      subst hc
      rw [hl, toks_mark (by decide) (by decide) (by decide)] at ht
      injection ht with h1 _
      rw [← h1] at ha
      revert ha
      decide

theorem parse_line {i : Nat} {S S' : List Ty} {l : List UInt8} {ls : List (List UInt8)} {a : ByteArray} {T : List ByteArray} (h : toks l = a :: T) (ha : nameB a = true) (hs : lineF S (a :: T) = some S') : parseL i S (l :: ls) = parseL (i + 1) S' ls := by
  rw [parseL, if_neg (by rw [says_some h ha]; decide), toks_trim, h, hs]

theorem rel_name {s : ByteArray} (h : isRelB s = true) : nameB s = true ∧ s ≠ cType := by
  unfold isRelB at h
  simp at h
  exact ⟨(ref_name h.1).1, h.2⟩

/-- A type's line. -/
theorem line_type {i : Nat} {S : List Ty} {n : ByteArray} {bs : List UInt8} (hb : allBlank bs) (hn : isRefB n = true) (ls : List (List UInt8)) : parseL i S ((typeS ++ n.data.toList ++ bs) :: ls) = parseL (i + 1) (S ++ [⟨n, []⟩]) ls := by
  have e : toks (typeS ++ n.data.toList ++ bs) = [cType, n] := by
    rw [toks_app _ _ _ (Nat.le_refl _) hb]
    show toks (cType.data.toList ++ (32 :: n.data.toList)) = _
    rw [toks_name (by decide) (ends_blank _), toks_blank rfl]
    have := toks_name (ref_name hn).1 ends_nil
    rw [List.append_nil] at this
    rw [this, toks_nil]
  refine parse_line e (by decide) ?_
  unfold lineF
  rw [if_pos (show ([cType, n] : List ByteArray).headD cNone = cType from rfl), if_pos ⟨hn, rfl⟩]
  rfl

/-- A relation's line. -/
theorem line_rel {i : Nat} {S : List Ty} {t : Ty} {r : Rl} {s bs : List UInt8} (hb : allBlank bs) (hn : isRelB r.name = true) (hs : textF 0 0 r.rule = some s) (ls : List (List UInt8)) :
    parseL i (S ++ [t]) ((r.name.data.toList ++ eqS ++ s ++ bs) :: ls) = parseL (i + 1) (S ++ [⟨t.name, t.rels ++ [r]⟩]) ls := by
  have e : toks (r.name.data.toList ++ eqS ++ s ++ bs) = r.name :: cEq :: (tokT 0 r.rule) := by
    rw [toks_app _ _ _ (Nat.le_refl _) hb, List.append_assoc, toks_name (rel_name hn).1 (show EndsN (eqS ++ s) from ends_blank _)]
    show r.name :: toks (32 :: 61 :: 32 :: s) = _
    rw [toks_blank rfl, toks_mark (by decide) (by decide) (by decide), toks_blank rfl]
    have := toks_text 0 0 r.rule s [] hs ends_nil
    rw [List.append_nil, toks_nil, List.append_nil] at this
    rw [this]
    rfl
  refine parse_line e (rel_name hn).1 ?_
  have hr := rule_back r.rule s hs [] ⟨⟨by decide, by decide⟩, by decide⟩
  rw [List.append_nil] at hr
  unfold lineF
  rw [if_neg (show ¬ (r.name :: cEq :: tokT 0 r.rule).headD cNone = cType from (rel_name hn).2), if_pos ⟨hn, rfl, by simp⟩]
  show (match ruleF 8 (tokT 0 r.rule) with | some (t', U) => if U.headD cNone = cNone then some (addRl (S ++ [t]) ⟨r.name, t'⟩) else none | none => none) = _
  rw [hr]
  dsimp only
  rw [if_pos (show ([] : List ByteArray).headD cNone = cNone from rfl), addRl_snoc]

theorem linesL_app : ∀ (a b : List UInt8), (10 : UInt8) ∉ a → linesL (a ++ 10 :: b) = a :: linesL b
  | [], b, _ => by rw [List.nil_append, linesL, if_pos rfl]
  | c :: a, b, h => by
    have hc : c ≠ 10 := fun e => h (by simp [e])
    rw [List.cons_append, linesL, if_neg hc, linesL_app a b (fun hm => h (by simp [hm]))]

theorem name_no10 {s : ByteArray} (h : nameB s = true) : (10 : UInt8) ∉ s.data.toList := fun hm => by
  have := List.all_eq_true.1 (name_bytes h).1 10 hm
  revert this
  decide

mutual
theorem text_no10 (above : Int) (d : Nat) : ∀ (t : Tr RuH) (s : List UInt8), textF above d t = some s → (10 : UInt8) ∉ s
  | .mk h ps, s, e => by
    have hok := text_ok e
    rw [textF_mk, if_pos hok] at e
    split at e
    · split at e
      · split at e
        · cases hg : goT 4 (d + 1) barS true ps with
          | none => rw [hg] at e; cases e
          | some r =>
            rw [hg] at e
            simp only [Option.map_some, Option.some.injEq] at e
            subst e
            have := go_no10 4 (d + 1) barS (by decide) true ps r hg
            simp [this]
        · cases e
      · exact go_no10 4 d barS (by decide) true ps s e
    · rename_i k4
      split at e
      · exact go_no10 5 d ampS (by decide) true ps s e
      · rename_i k5
        unfold okR at hok
        split at e
        · cases e; decide
        · rename_i k1
          rw [if_neg k1] at hok
          split at e
          · rename_i k2
            rw [if_pos k2] at hok
            simp only [Bool.and_eq_true] at hok
            cases e
            exact name_no10 (ref_name hok.1.1).1
          · rename_i k2
            rw [if_neg k2] at hok
            split at hok
            · simp only [Bool.and_eq_true] at hok
              cases e
              have h1 := name_no10 (ref_name hok.1.1).1
              have h2 := name_no10 (ref_name hok.1.2).1
              simp [arrowS] at h1 h2 ⊢
              exact ⟨h1, h2⟩
            · rw [if_neg (fun h => h.elim k4 k5)] at hok
              cases hok
theorem go_no10 (k : Int) (d : Nat) (sep : List UInt8) (hs : (10 : UInt8) ∉ sep) (first : Bool) : ∀ (ps : List (Tr RuH)) (s : List UInt8), goT k d sep first ps = some s → (10 : UInt8) ∉ s
  | [], s, e => by rw [goT_nil] at e; cases e; simp
  | p :: ps, s, e => by
    rw [goT_cons] at e
    cases h1 : textF k d p with
    | none => rw [h1] at e; cases e
    | some s1 =>
      rw [h1] at e
      cases h2 : goT k d sep false ps with
      | none => rw [h2] at e; cases e
      | some r =>
        rw [h2] at e
        simp only [Option.some.injEq] at e
        subst e
        have i1 := text_no10 k d p s1 h1
        have i2 := go_no10 k d sep hs false ps r h2
        cases first <;> simp [i1, i2, hs]
end

theorem type_no10 {n : ByteArray} (h : isRefB n = true) : (10 : UInt8) ∉ typeS ++ n.data.toList := by
  have := name_no10 (ref_name h).1
  simp [typeS] at this ⊢
  exact this
theorem rel_no10 {n : ByteArray} (h : isRelB n = true) {t : Tr RuH} {s : List UInt8} (hs : textF 0 0 t = some s) : (10 : UInt8) ∉ n.data.toList ++ eqS ++ s := by
  have h1 := name_no10 (rel_name h).1
  have h2 := text_no10 0 0 t s hs
  simp [eqS] at h1 h2 ⊢
  exact ⟨h1, h2⟩

theorem rels_trip : ∀ (rs : List Rl) (x : List UInt8), relsT rs = some x → ∀ (i : Nat) (S : List Ty) (n : ByteArray) (r0 : List Rl) (rest : List UInt8),
    ∃ j, parseL i (S ++ [⟨n, r0⟩]) (linesL (x ++ rest)) = parseL j (S ++ [⟨n, r0 ++ rs⟩]) (linesL rest)
  | [], x, e, i, S, n, r0, rest => by
    rw [relsT] at e
    cases e
    exact ⟨i, by simp⟩
  | r :: rs, x, e, i, S, n, r0, rest => by
    rw [relsT] at e
    split at e
    · rename_i hn
      cases h1 : textF 0 0 r.rule with
      | none => rw [h1] at e; cases e
      | some s =>
        rw [h1] at e
        cases h2 : relsT rs with
        | none => rw [h2] at e; cases e
        | some y =>
          rw [h2] at e
          simp only [Option.bind_some, Option.map_some, Option.some.injEq] at e
          subst e
          obtain ⟨j, hj⟩ := rels_trip rs y h2 (i + 1) S n (r0 ++ [r]) rest
          refine ⟨j, ?_⟩
          have e1 : r.name.data.toList ++ eqS ++ s ++ [10] ++ y ++ rest = (r.name.data.toList ++ eqS ++ s) ++ 10 :: (y ++ rest) := by simp
          rw [e1, linesL_app _ _ (rel_no10 hn h1)]
          have := line_rel (i := i) (S := S) (t := ⟨n, r0⟩) (r := r) (s := s) (bs := []) (fun c hc => by cases hc) hn h1 (linesL (y ++ rest))
          rw [List.append_nil] at this
          rw [this, hj]
          simp
    · cases e

theorem print_trip : ∀ (S : List Ty) (x : List UInt8), printT S = some x → ∀ (i : Nat) (S0 : List Ty), ∃ j, parseL i S0 (linesL x) = (some (S0 ++ S), j)
  | [], x, e, i, S0 => by
    rw [printT] at e
    cases e
    exact ⟨0, by rw [linesL, parseL, if_pos (by decide), parseL, List.append_nil]⟩
  | t :: ts, x, e, i, S0 => by
    rw [printT] at e
    split at e
    · rename_i hn
      cases h1 : relsT t.rels with
      | none => rw [h1] at e; cases e
      | some y =>
        rw [h1] at e
        cases h2 : printT ts with
        | none => rw [h2] at e; cases e
        | some z =>
          rw [h2] at e
          simp only [Option.bind_some, Option.map_some, Option.some.injEq] at e
          subst e
          obtain ⟨j, hj⟩ := rels_trip t.rels y h1 (i + 1) S0 t.name [] z
          obtain ⟨j2, hj2⟩ := print_trip ts z h2 j (S0 ++ [⟨t.name, [] ++ t.rels⟩])
          refine ⟨j2, ?_⟩
          have e1 : typeS ++ t.name.data.toList ++ [10] ++ y ++ z = (typeS ++ t.name.data.toList) ++ 10 :: (y ++ z) := by simp
          rw [e1, linesL_app _ _ (type_no10 hn)]
          have := line_type (i := i) (S := S0) (n := t.name) (bs := []) (fun c hc => by cases hc) hn (linesL (y ++ z))
          rw [List.append_nil] at this
          rw [this, hj, hj2]
          simp
    · cases e

/-- What is printed is parsed as it was. -/
theorem parse_print {S : List Ty} {x : List UInt8} (h : printT S = some x) (hl : x.length ≤ 65536) : parseS (tk x) = (S, 0, 0) := by
  unfold parseS
  rw [tk_size, if_neg (by omega), tk_data]
  obtain ⟨j, hj⟩ := print_trip S x h 0 []
  rw [hj]
  rfl

/-- What is parsed is printed. -/
theorem parse_prints {text : ByteArray} {S : List Ty} (h : parseS text = (S, 0, 0)) : ∃ x, printT S = some x ∧ x.length ≤ 9 * text.size := by
  unfold parseS at h
  split at h
  · cases h
  · cases hp : parseL 0 [] (linesL text.data.toList) with
    | mk r k =>
      cases r with
      | none => rw [hp] at h; cases h
      | some S' =>
        rw [hp] at h
        cases h
        obtain ⟨g1, g2⟩ := parse_good _ _ _ _ _ (fun t ht => by cases ht) hp
        obtain ⟨x, h1, h2⟩ := print_some S g1
        have h3 := lines_sum text.data.toList
        have h4 : text.data.toList.length = text.size := Array.length_toList
        have h5 : wS [] = 0 := rfl
        exact ⟨x, h1, by omega⟩
end Go.Proofs.YtopnldebekhelaaDoor
