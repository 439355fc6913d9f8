/- The reference's parse: what its functions say, and that they say what the program's do. -/
import Derived.Test.YtopnldebekhelaaDoorZSchTrip
namespace Go.Proofs.YtopnldebekhelaaDoor
open Go Go.RowKit

/-- May a token be? -/
def okT1 (s : ByteArray) : Bool := decide (s = cOpen) || decide (s = cShut) || decide (s = cPipe) || decide (s = cAmp) || decide (s = cEq) || decide (s = cArrow) || (!decide (s = cNone) && s.data.toList.all okB)

theorem okT1_name {s : ByteArray} (h : nameB s = true) : okT1 s = true := by
  obtain ⟨h1, h2, _⟩ := name_bytes h
  have h3 : s ≠ cNone := fun e => h2 (by rw [e]; rfl)
  unfold okT1
  rw [h1, decide_eq_false h3]
  simp
theorem okT1_mark {s : ByteArray} (h : s = cOpen ∨ s = cShut ∨ s = cPipe ∨ s = cAmp ∨ s = cEq ∨ s = cArrow) : okT1 s = true := by
  unfold okT1
  rcases h with rfl | rfl | rfl | rfl | rfl | rfl <;> decide

def oneGf (rule : List ByteArray → Pr) : List ByteArray → Pr
  | [] => none
  | a :: r =>
    if a = cOpen then match rule r with
      | none => none
      | some (t, U) => if U.headD cNone = cShut then some (t, U.tail) else none
    else if nameB a = true then
      if r.headD cNone = cArrow ∧ nameB (r.tail.headD cNone) = true ∧ a ≠ cThis ∧ r.tail.headD cNone ≠ cThis then some (leafR 3 a (r.tail.headD cNone), r.tail.tail)
      else if a = cThis then some (leafR 1 cNone cNone, r)
      else some (leafR 2 a cNone, r)
    else none

def sevF (step : List ByteArray → Pr) (op : ByteArray) (k : Int) (T : List ByteArray) : Pr := rowF step op k (T.length + 1) [] T
def oneG : Nat → List ByteArray → Pr
  | 0 => oneGf fun _ => none
  | n + 1 => oneGf (sevF (sevF (oneG n) cAmp 5) cPipe 4)
def bothG (n : Nat) : List ByteArray → Pr := sevF (oneG n) cAmp 5
def ruleG (n : Nat) : List ByteArray → Pr := sevF (bothG n) cPipe 4
def inG : Nat → List ByteArray → Pr
  | 0 => fun _ => none
  | n + 1 => ruleG n
theorem oneG_eq (n : Nat) : oneG n = oneGf (inG n) := by cases n <;> rfl

/-- Where the program says no, the reference says no, or leaves an arrow. -/
def Alike (p q : Pr) : Prop := match p with
  | some x => q = some x
  | none => ∀ t U, q = some (t, U) → U.headD cNone = cArrow

theorem alike_row {f g : List ByteArray → Pr} (h : ∀ T, Alike (f T) (g T)) (op : ByteArray) (hop : op ≠ cArrow) (k : Int) : ∀ (n : Nat) (acc : List (Tr RuH)) (T : List ByteArray), Alike (rowF f op k n acc T) (rowF g op k n acc T)
  | 0, _, _ => by rw [rowF, rowF]; intro t U e; cases e
  | n + 1, acc, T => by
    have hT := h T
    rw [rowF, rowF]
    cases hf : f T with
    | some x =>
      rw [hf] at hT
      have hg : g T = some x := hT
      rw [hg]
      dsimp only
      split
      · exact alike_row h op hop k n _ _
      · exact rfl
    | none =>
      rw [hf] at hT
      cases hg : g T with
      | none => intro t U e; cases e
      | some y =>
        obtain ⟨u, U⟩ := y
        have ha := hT u U hg
        dsimp only
        rw [if_neg (show ¬ U.headD cNone = op by rw [ha]; exact fun e => hop e.symm)]
        intro t V e
        cases e
        exact ha

theorem isRef_split (s : ByteArray) : isRefB s = true ↔ nameB s = true ∧ s ≠ cThis := by
  unfold isRefB
  simp

theorem alike_one {f g : List ByteArray → Pr} (h : ∀ T, Alike (f T) (g T)) (T : List ByteArray) : Alike (oneOf f T) (oneGf g T) := by
  cases T with
  | nil => intro t U e; cases e
  | cons a r =>
    rw [oneOf, oneGf]
    by_cases c1 : a = cOpen
    · rw [if_pos c1, if_pos c1]
      have hr := h r
      cases hf : f r with
      | some x =>
        rw [hf] at hr
        have hg : g r = some x := hr
        rw [hg]
        dsimp only
        split
        · exact rfl
        · intro t U e; cases e
      | none =>
        rw [hf] at hr
        cases hg : g r with
        | none => intro t U e; cases e
        | some y =>
          obtain ⟨u, U⟩ := y
          have ha := hr u U hg
          dsimp only
          rw [if_neg (show ¬ U.headD cNone = cShut by rw [ha]; decide)]
          intro t V e
          cases e
    · rw [if_neg c1, if_neg c1]
      by_cases c2 : a = cThis
      · rw [if_pos c2, if_pos (show nameB a = true by rw [c2]; exact this_name), if_neg (fun e => e.2.2.1 c2), if_pos c2]
        exact rfl
      · rw [if_neg c2]
        by_cases c3 : nameB a = true
        · rw [if_pos ((isRef_split a).2 ⟨c3, c2⟩), if_pos c3]
          by_cases hr : r.headD cNone = cArrow
          · rw [if_pos hr]
            by_cases hb : isRefB (r.tail.headD cNone) = true
            · have hb2 := (isRef_split _).1 hb
              rw [if_pos hb, if_pos ⟨hr, hb2.1, c2, hb2.2⟩]
              exact rfl
            · rw [if_neg hb, if_neg (fun e => hb ((isRef_split _).2 ⟨e.2.1, e.2.2.2⟩)), if_neg c2]
              intro t U e
              cases e
              exact hr
          · rw [if_neg hr, if_neg (fun e => hr e.1), if_neg c2]
            exact rfl
        · rw [if_neg (fun e => c3 ((isRef_split a).1 e).1), if_neg c3]
          intro t U e
          cases e

theorem alike_oneG : ∀ (n : Nat) (T : List ByteArray), Alike (oneF n T) (oneG n T)
  | 0, T => alike_one (f := fun _ => none) (g := fun _ => none) (fun _ => show Alike none none from fun t U e => by cases e) T
  | n + 1, T => alike_one (fun T => alike_row (fun T => alike_row (alike_oneG n) cAmp (by decide) 5 _ _ _) cPipe (by decide) 4 _ _ _) T
theorem alike_rule (n : Nat) (T : List ByteArray) : Alike (ruleF n T) (ruleG n T) := alike_row (fun T => alike_row (alike_oneG n) cAmp (by decide) 5 _ _ _) cPipe (by decide) 4 _ _ _

/-- What a step takes may be, and what it leaves stood there. -/
def StepGood (step : List ByteArray → Pr) : Prop := ∀ T t U, step T = some (t, U) → (∀ s ∈ T, s ∈ U ∨ okT1 s = true) ∧ (∀ s ∈ U, s ∈ T)

theorem mem_tail_of {T : List ByteArray} {s : ByteArray} (h : s ∈ T.tail) : s ∈ T := List.mem_of_mem_tail h
theorem mem_head_or {T : List ByteArray} {s op : ByteArray} (h : s ∈ T) (ho : T.headD cNone = op) : s = op ∨ s ∈ T.tail := by
  cases T with
  | nil => cases h
  | cons a T =>
    rcases List.mem_cons.1 h with rfl | h
    · exact .inl ho
    · exact .inr h

theorem good_row {f : List ByteArray → Pr} (h : StepGood f) (op : ByteArray) (hop : okT1 op = true) (k : Int) : ∀ (n : Nat) (acc : List (Tr RuH)), StepGood (rowF f op k n acc)
  | 0, _ => fun T t U e => by rw [rowF] at e; cases e
  | n + 1, acc => fun T t U e => by
    rw [rowF] at e
    cases hf : f T with
    | none => rw [hf] at e; cases e
    | some x =>
      obtain ⟨u, V⟩ := x
      obtain ⟨h1, h2⟩ := h T u V hf
      rw [hf] at e
      dsimp only at e
      split at e
      · rename_i hv
        obtain ⟨g1, g2⟩ := good_row h op hop k n _ _ _ _ e
        refine ⟨fun s hs => ?_, fun s hs => h2 s (mem_tail_of (g2 s hs))⟩
        rcases h1 s hs with hs | hs
        · rcases mem_head_or hs hv with rfl | hs
          · exact .inr hop
          · exact g1 s hs
        · exact .inr hs
      · cases e
        exact ⟨h1, h2⟩

theorem good_one {f : List ByteArray → Pr} (h : StepGood f) : StepGood (oneOf f) := by
  intro T t U e
  cases T with
  | nil => simp [oneOf] at e
  | cons a r =>
    rw [oneOf] at e
    by_cases c1 : a = cOpen
    · rw [if_pos c1] at e
      cases hu : f r with
      | none => rw [hu] at e; cases e
      | some x =>
        obtain ⟨u, V⟩ := x
        rw [hu] at e
        obtain ⟨h1, h2⟩ := h _ _ _ hu
        dsimp only at e
        split at e
        · rename_i hv
          cases e
          refine ⟨fun s hs => ?_, fun s hs => List.mem_cons_of_mem _ (h2 s (mem_tail_of hs))⟩
          rcases List.mem_cons.1 hs with rfl | hs
          · exact .inr (okT1_mark (.inl c1))
          · rcases h1 s hs with hs | hs
            · rcases mem_head_or hs hv with rfl | hs
              · exact .inr (okT1_mark (.inr (.inl rfl)))
              · exact .inl hs
            · exact .inr hs
        · cases e
    · rw [if_neg c1] at e
      by_cases c2 : a = cThis
      · rw [if_pos c2] at e
        cases e
        refine ⟨fun s hs => ?_, fun s hs => List.mem_cons_of_mem _ hs⟩
        rcases List.mem_cons.1 hs with rfl | hs
        · exact .inr (okT1_name (by rw [c2]; exact this_name))
        · exact .inl hs
      · rw [if_neg c2] at e
        by_cases c3 : isRefB a = true
        · rw [if_pos c3] at e
          have ha := okT1_name (ref_name c3).1
          by_cases hr : r.headD cNone = cArrow
          · rw [if_pos hr] at e
            by_cases hb : isRefB (r.tail.headD cNone) = true
            · rw [if_pos hb] at e
              cases e
              have hb' := okT1_name (ref_name hb).1
              refine ⟨fun s hs => ?_, fun s hs => List.mem_cons_of_mem _ (mem_tail_of (mem_tail_of hs))⟩
              rcases List.mem_cons.1 hs with rfl | hs
              · exact .inr ha
              · rcases mem_head_or hs hr with rfl | hs
                · exact .inr (by decide)
                · rcases mem_head_or hs rfl with rfl | hs
                  · exact .inr hb'
                  · exact .inl hs
            · rw [if_neg hb] at e
              cases e
          · rw [if_neg hr] at e
            cases e
            refine ⟨fun s hs => ?_, fun s hs => List.mem_cons_of_mem _ hs⟩
            rcases List.mem_cons.1 hs with rfl | hs
            · exact .inr ha
            · exact .inl hs
        · rw [if_neg c3] at e
          cases e

theorem good_oneF : ∀ n, StepGood (oneF n)
  | 0 => good_one (fun T t U e => by cases e)
  | n + 1 => good_one (fun T => good_row (fun T => good_row (good_oneF n) cAmp (by decide) 5 _ _ T) cPipe (by decide) 4 _ _ T)
theorem good_rule (n : Nat) : StepGood (ruleF n) := fun T => good_row (fun T => good_row (good_oneF n) cAmp (by decide) 5 _ _ T) cPipe (by decide) 4 _ _ T

/-- The reference's line. -/
def refLine (S : List Ty) (T : List ByteArray) : Option (List Ty) :=
  if T.all okT1 = true then
    if T.length = 2 ∧ T.headD cNone = cType ∧ isRefB (T.tail.headD cNone) = true then some (S ++ [⟨T.tail.headD cNone, []⟩])
    else if S ≠ [] ∧ 3 ≤ T.length ∧ isRelB (T.headD cNone) = true ∧ T.tail.headD cNone = cEq then
      match ruleG 8 T.tail.tail with
      | some (t, U) => if U = [] then some (addRl S ⟨T.headD cNone, t⟩) else none
      | none => none
    else none
  else none

theorem toks_ne (n : Nat) : ∀ l : List UInt8, l.length ≤ n → ∀ s ∈ toks l, s ≠ cNone := by
  induction n with
  | zero =>
    intro l hl s hs
    obtain rfl : l = [] := List.eq_nil_of_length_eq_zero (by omega)
    rw [toks_nil] at hs
    cases hs
  | succ n ih =>
    intro l hl s hs
    by_cases h : trimL l = []
    · rw [toks_none h] at hs; cases hs
    · have h1 := tlen_pos h
      have h2 := trimL_le l
      have h4 := tlen_le (trimL l)
      rw [toks_some h] at hs
      rcases List.mem_cons.1 hs with rfl | hs
      · intro e
        have : (tk ((trimL l).take (tlen (trimL l)))).size = 0 := by rw [e]; rfl
        rw [tk_size, List.length_take] at this
        have : 0 < (trimL l).length := List.length_pos_iff.2 h
        omega
      · exact ih _ (by rw [List.length_drop]; omega) s hs

theorem headD_ne {U : List ByteArray} (h : ∀ s ∈ U, s ≠ cNone) : U.headD cNone = cNone ↔ U = [] := by
  cases U with
  | nil => simp
  | cons a U =>
    simp only [List.headD_cons, reduceCtorEq, iff_false]
    exact h a (by simp)

theorem two_of {T : List ByteArray} (h : T.headD cNone ≠ cNone) (h1 : T.tail.headD cNone ≠ cNone) (h2 : T.tail.tail = []) : T.length = 2 := by
  match T with
  | [] => exact absurd rfl h
  | [a] => exact absurd rfl h1
  | [a, b] => rfl
  | a :: b :: c :: T => cases h2
theorem tail2_of {T : List ByteArray} (h : T.length = 2) : T.tail.tail = [] := by
  match T with
  | [a, b] => rfl

/-- The reference's line says what the program's does. -/
theorem refLine_eq (S : List Ty) (l : List UInt8) : refLine S (toks l) = lineF S (toks l) := by
  have hne := toks_ne _ l (Nat.le_refl _)
  obtain ⟨T, hT⟩ : ∃ T, toks l = T := ⟨_, rfl⟩
  rw [hT] at hne ⊢
  unfold refLine lineF
  by_cases hty : T.headD cNone = cType
  · rw [if_pos hty]
    have hrl : isRelB (T.headD cNone) = false := by rw [hty]; decide
    by_cases hr : isRefB (T.tail.headD cNone) = true ∧ T.tail.tail = []
    · have h2 := two_of (by rw [hty]; decide) (by intro e; rw [e] at hr; exact absurd hr.1 (by decide)) hr.2
      have hall : T.all okT1 = true := by
        match T, h2 with
        | [a, b], _ =>
          have ha : a = cType := hty
          have hb := okT1_name (ref_name (show isRefB b = true from hr.1)).1
          rw [List.all_cons, List.all_cons, List.all_nil, hb, ha]
          decide
      rw [if_pos hall, if_pos ⟨h2, hty, hr.1⟩, if_pos hr]
    · rw [if_neg hr]
      split
      · rw [if_neg (fun e => hr ⟨e.2.2, tail2_of e.1⟩), if_neg (fun e => by rw [hrl] at e; exact absurd e.2.2.1 (by decide))]
      · rfl
  · rw [if_neg hty]
    by_cases hc : isRelB (T.headD cNone) = true ∧ T.tail.headD cNone = cEq ∧ S ≠ []
    · rw [if_pos hc]
      have hal := alike_rule 8 T.tail.tail
      cases hp : ruleF 8 T.tail.tail with
      | some x =>
        obtain ⟨t, U⟩ := x
        rw [hp] at hal
        have hg : ruleG 8 T.tail.tail = some (t, U) := hal
        obtain ⟨g1, g2⟩ := good_rule 8 _ _ _ hp
        have hU : U.headD cNone = cNone ↔ U = [] := headD_ne (fun s hs => hne s (mem_tail_of (mem_tail_of (g2 s hs))))
        have hlen : 3 ≤ T.length := by
          match T with
          | [] => exact absurd hc.1 (by decide)
          | [a] => exact absurd hc.2.1 (show ¬ cNone = cEq by decide)
          | [a, b] => have h := ruleF_len 8 _ _ _ hp; simp at h
          | a :: b :: c :: T => simp
        dsimp only
        by_cases hu : U = []
        · rw [if_pos (hU.2 hu)]
          have hall : T.all okT1 = true := by
            rw [List.all_eq_true]
            intro s hs
            rcases mem_head_or hs rfl with rfl | hs
            · exact okT1_name (rel_name hc.1).1
            · rcases mem_head_or hs hc.2.1 with rfl | hs
              · decide
              · rcases g1 s hs with hs | hs
                · rw [hu] at hs; cases hs
                · exact hs
          rw [if_pos hall, if_neg (fun e => hty e.2.1), if_pos ⟨hc.2.2, hlen, hc.1, hc.2.1⟩, hg]
          dsimp only
          rw [if_pos hu]
        · rw [if_neg (fun e => hu (hU.1 e))]
          split
          · rw [if_neg (fun e => hty e.2.1), if_pos ⟨hc.2.2, hlen, hc.1, hc.2.1⟩, hg]
            dsimp only
            rw [if_neg hu]
          · rfl
      | none =>
        rw [hp] at hal
        dsimp only
        split
        · rw [if_neg (fun e => hty e.2.1)]
          split
          · cases hg : ruleG 8 T.tail.tail with
            | none => rfl
            | some y =>
              obtain ⟨t, U⟩ := y
              have ha := hal t U hg
              dsimp only
              rw [if_neg (fun e => by rw [e] at ha; exact absurd ha (by decide))]
          · rfl
        · rfl
    · rw [if_neg hc]
      split
      · rw [if_neg (fun e => hty e.2.1), if_neg (fun e => hc ⟨e.2.2.1, e.2.2.2, e.1⟩)]
      · rfl

theorem oneG_len_of {rule : List ByteArray → Pr} (h : StepLen rule) : StepLen (oneGf rule) := by
  intro T t T' e
  cases T with
  | nil => simp [oneGf] at e
  | cons a r =>
    rw [oneGf] at e
    rw [List.length_cons]
    have h1 := tail_le r
    have h2 := tail_le r.tail
    split at e
    · cases hu : rule r with
      | none => rw [hu] at e; cases e
      | some x =>
        obtain ⟨u, U⟩ := x
        rw [hu] at e
        have h1 := h _ _ _ hu
        have := tail_le U
        dsimp only at e
        split at e
        · cases e; omega
        · cases e
    · split at e
      · split at e
        · cases e; omega
        · split at e
          · cases e; omega
          · cases e; omega
      · cases e
theorem oneG_ok_of {rule : List ByteArray → Pr} (h : StepOk rule) : StepOk (oneGf rule) := by
  intro T t T' e
  cases T with
  | nil => simp [oneGf] at e
  | cons a r =>
    rw [oneGf] at e
    rw [wtT_cons]
    split at e
    · cases hu : rule r with
      | none => rw [hu] at e; cases e
      | some x =>
        obtain ⟨u, U⟩ := x
        rw [hu] at e
        have h1 := h _ _ _ hu
        have := wtT_tail U
        dsimp only at e
        split at e
        · cases e; omega
        · cases e
    · split at e
      · split at e
        · rename_i hr
          cases e
          have h1 := headD_tail_wt hr.1 (by decide)
          have h2 : wtT r.tail.tail + (r.tail.headD cNone).size ≤ wtT r.tail := by
            cases hq : r.tail with
            | nil => rw [hq] at hr; exact absurd hr.2.1 (by decide)
            | cons b q => rw [wtT_cons]; simp only [List.tail_cons, List.headD_cons]; omega
          unfold leafR
          rw [wt_mk, wtL_nil]
          show a.size + (r.tail.headD cNone).size + 8 + 0 + _ ≤ _
          omega
        · split at e
          · cases e
            unfold leafR
            rw [wt_mk, wtL_nil]
            simp only [cNone_size]
            omega
          · cases e
            unfold leafR
            rw [wt_mk, wtL_nil]
            simp only [cNone_size]
            omega
      · cases e
theorem sevF_ok {f : List ByteArray → Pr} (h : StepOk f) {op : ByteArray} (hop : op ≠ cNone) (k : Int) : StepOk (sevF f op k) := fun T t T' e => by
  have := rowF_ok h hop k _ _ _ _ _ e
  simpa using this
theorem sevF_len {f : List ByteArray → Pr} (h : StepLen f) (op : ByteArray) (k : Int) : StepLen (sevF f op k) := fun _ _ _ e => rowF_len h _ _ _ _ _ _ _ e
theorem oneG_ok : ∀ n, StepOk (oneG n)
  | 0 => oneG_ok_of (fun _ _ _ e => by cases e)
  | n + 1 => oneG_ok_of (sevF_ok (sevF_ok (oneG_ok n) (by decide) 5) (by decide) 4)
theorem oneG_len : ∀ n, StepLen (oneG n)
  | 0 => oneG_len_of (fun _ _ _ e => by cases e)
  | n + 1 => oneG_len_of (sevF_len (sevF_len (oneG_len n) _ _) _ _)
theorem bothG_ok (n : Nat) : StepOk (bothG n) := sevF_ok (oneG_ok n) (by decide) 5
theorem bothG_len (n : Nat) : StepLen (bothG n) := sevF_len (oneG_len n) _ _
theorem ruleG_ok (n : Nat) : StepOk (ruleG n) := sevF_ok (bothG_ok n) (by decide) 4
theorem ruleG_len (n : Nat) : StepLen (ruleG n) := sevF_len (bothG_len n) _ _
end Go.Proofs.YtopnldebekhelaaDoor
