/- Lines, signs, rules: what a schema's text says. -/
import Derived.Test.YtopnldebekhelaaDoorMga
import Derived.Lib.SlTrimSet
import Derived.Lib.Strings
namespace Go.Proofs.YtopnldebekhelaaDoor
open Go Go.RowKit

def tk (l : List UInt8) : ByteArray := ⟨l.toArray⟩
theorem tk_data (l : List UInt8) : (tk l).data.toList = l := rfl
theorem tk_size (l : List UInt8) : (tk l).size = l.length := by show l.toArray.size = _; simp
theorem tk_of (b : ByteArray) : tk b.data.toList = b := by cases b; rfl

def cNone : ByteArray := ⟨#[]⟩
theorem cNone_size : cNone.size = 0 := rfl
def cPipe : ByteArray := ⟨#[124]⟩
def cAmp : ByteArray := ⟨#[38]⟩
def cOpen : ByteArray := ⟨#[40]⟩
def cShut : ByteArray := ⟨#[41]⟩
def cEq : ByteArray := ⟨#[61]⟩
def cArrow : ByteArray := ⟨#[45, 62]⟩
def cThis : ByteArray := ⟨#[116, 104, 105, 115]⟩
def cType : ByteArray := ⟨#[116, 121, 112, 101]⟩

theorem streq (s : ByteArray) (l : List UInt8) : (s.toList == l) = decide (s = tk l) := by
  rw [Lib.toList_data]
  by_cases h : s = tk l
  · rw [h, tk_data]; simp
  · have h2 : ¬ s.data.toList = l := fun e => h (by rw [← e, tk_of])
    rw [decide_eq_false h, beq_eq_false_iff_ne.2 h2]

theorem stremp (s : ByteArray) : s.toList.isEmpty = decide (s = cNone) := by
  rw [← show decide (s = tk []) = decide (s = cNone) from rfl, ← streq]
  cases s.toList <;> rfl

def isRefB (s : ByteArray) : Bool := nameB s && !decide (s = cThis)
def isRelB (s : ByteArray) : Bool := isRefB s && !decide (s = cType)

def trimL (l : List UInt8) : List UInt8 := Lib.trimLeftS l [32, 9]
def trimB (l : List UInt8) : List UInt8 := Lib.trimS l [32, 9]
def arrowB (l : List UInt8) : Bool := Lib.hasPrefix l [45, 62]

/-- How many first bytes make a name. -/
def nlen : List UInt8 → Nat
  | [] => 0
  | c :: r => if okB c = true ∧ arrowB (c :: r) = false then nlen r + 1 else 0

theorem nlen_le : ∀ l, nlen l ≤ l.length
  | [] => Nat.le_refl _
  | c :: r => by
    unfold nlen
    have := nlen_le r
    split <;> simp <;> omega

theorem trimL_le (l : List UInt8) : (trimL l).length ≤ l.length := by
  unfold trimL Lib.trimLeftS
  exact (List.dropWhile_sublist _).length_le

/-- How long the first sign is. -/
def tlen (l : List UInt8) : Nat := if arrowB l = true then 2 else if nlen l = 0 ∧ l ≠ [] then 1 else nlen l

theorem arrow_len {l : List UInt8} (h : arrowB l = true) : 2 ≤ l.length := by
  unfold arrowB Lib.hasPrefix at h
  have := (List.isPrefixOf_iff_prefix.1 h).length_le
  simpa using this

theorem tlen_le (l : List UInt8) : tlen l ≤ l.length := by
  unfold tlen
  split
  · exact arrow_len ‹_›
  · split
    · rename_i h
      cases l with
      | nil => exact absurd rfl h.2
      | cons => simp
    · exact nlen_le l

theorem tlen_pos {l : List UInt8} (h : l ≠ []) : 0 < tlen l := by
  unfold tlen
  split
  · decide
  · split
    · decide
    · rename_i h2
      have : ¬ nlen l = 0 := fun e => h2 ⟨e, h⟩
      omega

theorem tlen_nil : tlen [] = 0 := by decide

/-- The signs of a line. -/
def toksF : Nat → List UInt8 → List ByteArray
  | 0, _ => []
  | f + 1, l => if trimL l = [] then [] else tk ((trimL l).take (tlen (trimL l))) :: toksF f ((trimL l).drop (tlen (trimL l)))
def toks (l : List UInt8) : List ByteArray := toksF (l.length + 1) l

theorem toksF_eq : ∀ (f g : Nat) (l : List UInt8), l.length < f → l.length < g → toksF f l = toksF g l
  | 0, _, _, h, _ => absurd h (by omega)
  | _ + 1, 0, _, _, h => absurd h (by omega)
  | f + 1, g + 1, l, hf, hg => by
    rw [toksF, toksF]
    split
    · rfl
    · rename_i h
      have h1 := tlen_pos h
      have h2 := trimL_le l
      have h3 : 0 < (trimL l).length := List.length_pos_iff.2 h
      rw [toksF_eq f g _ (by rw [List.length_drop]; omega) (by rw [List.length_drop]; omega)]

theorem toks_none {l : List UInt8} (h : trimL l = []) : toks l = [] := by unfold toks; rw [toksF, if_pos h]
theorem toks_some {l : List UInt8} (h : trimL l ≠ []) : toks l = tk ((trimL l).take (tlen (trimL l))) :: toks ((trimL l).drop (tlen (trimL l))) := by
  unfold toks
  rw [toksF, if_neg h]
  have h1 := tlen_pos h
  have h2 := trimL_le l
  have h3 : 0 < (trimL l).length := List.length_pos_iff.2 h
  rw [toksF_eq l.length _ _ (by rw [List.length_drop]; omega) (Nat.lt_succ_self _)]

/-- The first sign, empty at the end, and what is left. -/
theorem toks_head (l : List UInt8) : (toks l).headD cNone = tk ((trimL l).take (tlen (trimL l))) := by
  by_cases h : trimL l = []
  · rw [toks_none h, h]; rfl
  · rw [toks_some h]; rfl
theorem trimL_nil : trimL [] = [] := rfl
theorem toks_nil : toks [] = [] := toks_none rfl
theorem toks_tail (l : List UInt8) : (toks l).tail = toks ((trimL l).drop (tlen (trimL l))) := by
  by_cases h : trimL l = []
  · rw [toks_none h, h]
    simp [toks_nil]
  · rw [toks_some h]; rfl
theorem toks_end {l : List UInt8} (h : (toks l).headD cNone = cNone) : toks l = [] := by
  by_cases h2 : trimL l = []
  · exact toks_none h2
  · exfalso
    rw [toks_some h2] at h
    have h3 : (tk ((trimL l).take (tlen (trimL l)))).size = 0 := by
      have : tk ((trimL l).take (tlen (trimL l))) = cNone := h
      rw [this]; rfl
    rw [tk_size, List.length_take] at h3
    have h4 := tlen_pos h2
    have h5 : 0 < (trimL l).length := List.length_pos_iff.2 h2
    omega

/-- What the signs weigh. -/
def wtT (T : List ByteArray) : Nat := (T.map fun s => s.size + 8).sum
theorem wtT_nil : wtT [] = 0 := rfl
theorem wtT_cons (s : ByteArray) (T : List ByteArray) : wtT (s :: T) = s.size + 8 + wtT T := by simp [wtT]
theorem wtT_len (T : List ByteArray) : 8 * T.length ≤ wtT T := by
  induction T with
  | nil => simp [wtT]
  | cons s T ih => rw [wtT_cons, List.length_cons]; omega
theorem wtT_tail (T : List ByteArray) : wtT T.tail ≤ wtT T := by
  cases T with
  | nil => simp
  | cons s T => rw [wtT_cons, List.tail_cons]; omega

theorem wt_toks (n : Nat) : ∀ l : List UInt8, l.length ≤ n → wtT (toks l) ≤ 9 * l.length := by
  induction n with
  | zero =>
    intro l hl
    obtain rfl : l = [] := List.eq_nil_of_length_eq_zero (by omega)
    rw [toks_nil]; simp [wtT]
  | succ n ih =>
    intro l hl
    by_cases h : trimL l = []
    · rw [toks_none h]; simp [wtT]
    · have h1 := tlen_pos h
      have h2 := trimL_le l
      have h4 := tlen_le (trimL l)
      have := ih ((trimL l).drop (tlen (trimL l))) (by rw [List.length_drop]; omega)
      rw [List.length_drop] at this
      rw [toks_some h, wtT_cons, tk_size, List.length_take]
      omega

mutual
/-- What a tree weighs. -/
def Tr.wt : Tr RuH → Nat
  | .mk h ps => h.a.size + h.b.size + 8 + wtL ps
def wtL : List (Tr RuH) → Nat
  | [] => 0
  | p :: ps => p.wt + wtL ps
end

theorem wt_mk (h : RuH) (ps : List (Tr RuH)) : (Tr.mk h ps).wt = h.a.size + h.b.size + 8 + wtL ps := by rw [Tr.wt]
theorem wtL_cons (p : Tr RuH) (ps : List (Tr RuH)) : wtL (p :: ps) = p.wt + wtL ps := by rw [wtL]
theorem wtL_nil : wtL [] = 0 := by rw [wtL]
theorem wtL_append (a b : List (Tr RuH)) : wtL (a ++ b) = wtL a + wtL b := by
  induction a with
  | nil => simp [wtL_nil]
  | cons p a ih => rw [List.cons_append, wtL_cons, wtL_cons, ih]; omega
theorem wtL_one (t : Tr RuH) : wtL [t] = t.wt := by rw [wtL_cons, wtL_nil]; rfl
theorem wt_ge (t : Tr RuH) : 8 ≤ t.wt := by cases t; rw [wt_mk]; omega
theorem wtL_len (ps : List (Tr RuH)) : 8 * ps.length ≤ wtL ps := by
  induction ps with
  | nil => simp
  | cons p ps ih =>
    have := wt_ge p
    rw [wtL_cons, List.length_cons]
    omega
theorem wt_parts (t : Tr RuH) : wtL t.parts + 8 ≤ t.wt := by cases t; rw [wt_mk]; simp only [Tr.parts]; omega

abbrev Pr := Option (Tr RuH × List ByteArray)

def leafR (k : Int) (a b : ByteArray) : Tr RuH := .mk ⟨k, a, b⟩ []
def addP (k : Int) (acc : List (Tr RuH)) (t : Tr RuH) : List (Tr RuH) := if t.head.kind = k then acc ++ t.parts else acc ++ [t]
def mkRow (k : Int) (ps : List (Tr RuH)) : Tr RuH := if ps.length = 1 then ps.headD (leafR k cNone cNone) else .mk ⟨k, cNone, cNone⟩ ps

theorem addP_wt (k : Int) (acc : List (Tr RuH)) (t : Tr RuH) : wtL (addP k acc t) ≤ wtL acc + t.wt := by
  unfold addP
  have := wt_parts t
  split
  · rw [wtL_append]; omega
  · rw [wtL_append, wtL_one]; omega
theorem mkRow_wt (k : Int) (ps : List (Tr RuH)) : (mkRow k ps).wt ≤ wtL ps + 8 := by
  unfold mkRow
  split
  · match ps with
    | [p] => rw [wtL_one]; simp
    | [] => simp at *
    | _ :: _ :: _ => simp at *
  · rw [wt_mk]; simp only [cNone_size]; omega
theorem mkRow_wt1 (k : Int) (t : Tr RuH) : (mkRow k (addP k [] t)).wt ≤ t.wt := by
  unfold addP
  split
  · unfold mkRow
    rename_i h
    split
    · rename_i h1
      cases t with
      | mk hd ps =>
        simp only [Tr.parts, List.nil_append] at *
        match ps with
        | [p] => rw [wt_mk, wtL_one]; simp only [List.headD_cons]; omega
        | [] => simp at h1
        | _ :: _ :: _ => simp at h1
    · cases t with
      | mk hd ps =>
        simp only [Tr.parts, List.nil_append]
        rw [wt_mk, wt_mk]
        simp only [cNone_size]
        omega
  · simp [mkRow]

/-- What stands between signs. -/
def rowF (step : List ByteArray → Pr) (op : ByteArray) (k : Int) : Nat → List (Tr RuH) → List ByteArray → Pr
  | 0, _, _ => none
  | f + 1, acc, T => match step T with
    | none => none
    | some (t, T') => if T'.headD cNone = op then rowF step op k f (addP k acc t) T'.tail else some (mkRow k (addP k acc t), T')

/-- A step takes signs, and weighs no more than what it took. -/
def StepOk (step : List ByteArray → Pr) : Prop := ∀ T t T', step T = some (t, T') → t.wt + wtT T' ≤ wtT T

theorem rowF_ok {step : List ByteArray → Pr} (h : StepOk step) {op : ByteArray} (hop : op ≠ cNone) (k : Int) : ∀ (f : Nat) (acc : List (Tr RuH)) (T : List ByteArray) (t : Tr RuH) (T' : List ByteArray), rowF step op k f acc T = some (t, T') → t.wt + wtT T' ≤ wtT T + (if acc = [] then 0 else wtL acc + 8)
  | 0, _, _, _, _, e => by simp [rowF] at e
  | f + 1, acc, T, t, T', e => by
    rw [rowF] at e
    cases hs : step T with
    | none => rw [hs] at e; simp at e
    | some x =>
      obtain ⟨u, U⟩ := x
      rw [hs] at e
      have h1 := h _ _ _ hs
      have h2 := addP_wt k acc u
      dsimp only at e
      split at e
      · rename_i hu
        have h3 := rowF_ok h hop k f _ _ _ _ e
        have h4 : wtT U.tail + 8 ≤ wtT U := by
          cases U with
          | nil => exact absurd hu.symm hop
          | cons a U => rw [wtT_cons, List.tail_cons]; omega
        split at h3
        · split
          · omega
          · omega
        · split
          · rename_i h6
            subst h6
            simp only [wtL_nil, Nat.zero_add] at h2
            omega
          · omega
      · simp only [Option.some.injEq, Prod.mk.injEq] at e
        obtain ⟨rfl, rfl⟩ := e
        split
        · rename_i h6
          subst h6
          have := mkRow_wt1 k u
          omega
        · have := mkRow_wt k (addP k acc u)
          omega

/-- What stands in a place of its own: by what brackets say. -/
def oneOf (rule : List ByteArray → Pr) : List ByteArray → Pr
  | [] => none
  | a :: r =>
    if a = cOpen then match rule r with
      | none => none
      | some (t, U) => if U.headD cNone = cShut then some (t, U.tail) else none
    else if a = cThis then some (leafR 1 cNone cNone, r)
    else if isRefB a = true then
      if r.headD cNone = cArrow then
        if isRefB (r.tail.headD cNone) = true then some (leafR 3 a (r.tail.headD cNone), r.tail.tail) else none
      else some (leafR 2 a cNone, r)
    else none

def bothOf (one : List ByteArray → Pr) (T : List ByteArray) : Pr := rowF one cAmp 5 (T.length + 1) [] T
def ruleOf (one : List ByteArray → Pr) (T : List ByteArray) : Pr := rowF (bothOf one) cPipe 4 (T.length + 1) [] T

/-- With so many brackets to go. -/
def oneF : Nat → List ByteArray → Pr
  | 0 => oneOf fun _ => none
  | n + 1 => oneOf (ruleOf (oneF n))

def bothF (n : Nat) : List ByteArray → Pr := bothOf (oneF n)
def ruleF (n : Nat) : List ByteArray → Pr := ruleOf (oneF n)
/-- What brackets have. -/
def inF : Nat → List ByteArray → Pr
  | 0 => fun _ => none
  | n + 1 => ruleF n
theorem oneF_eq (n : Nat) : oneF n = oneOf (inF n) := by cases n <;> rfl

theorem headD_tail_wt {T : List ByteArray} {s : ByteArray} (h : T.headD cNone = s) (hs : s ≠ cNone) : wtT T = s.size + 8 + wtT T.tail := by
  cases T with
  | nil => exact absurd h.symm hs
  | cons a T =>
    obtain rfl : a = s := h
    rw [wtT_cons, List.tail_cons]

theorem oneOf_ok {rule : List ByteArray → Pr} (h : StepOk rule) : StepOk (oneOf rule) := by
  intro T t T' e
  cases T with
  | nil => simp [oneOf] at e
  | cons a r =>
    rw [oneOf] at e
    rw [wtT_cons]
    by_cases c1 : a = cOpen
    · rw [if_pos c1] at e
      cases hu : rule r with
      | none => rw [hu] at e; cases e
      | some x =>
        obtain ⟨u, U⟩ := x
        rw [hu] at e
        have h1 := h _ _ _ hu
        have := wtT_tail U
        dsimp only at e
        split at e
        · simp only [Option.some.injEq, Prod.mk.injEq] at e
          obtain ⟨rfl, rfl⟩ := e
          omega
        · cases e
    · rw [if_neg c1] at e
      by_cases c2 : a = cThis
      · rw [if_pos c2] at e
        simp only [Option.some.injEq, Prod.mk.injEq] at e
        obtain ⟨rfl, rfl⟩ := e
        unfold leafR
        rw [wt_mk, wtL_nil]
        simp only [cNone_size]
        omega
      · rw [if_neg c2] at e
        by_cases c3 : isRefB a = true
        · rw [if_pos c3] at e
          by_cases hr : r.headD cNone = cArrow
          · rw [if_pos hr] at e
            by_cases hb : isRefB (r.tail.headD cNone) = true
            · rw [if_pos hb] at e
              simp only [Option.some.injEq, Prod.mk.injEq] at e
              obtain ⟨rfl, rfl⟩ := e
              have h1 := headD_tail_wt hr (by decide)
              have h2 : wtT r.tail.tail + (r.tail.headD cNone).size ≤ wtT r.tail := by
                cases hq : r.tail with
                | nil => rw [hq] at hb; revert hb; decide
                | cons b q => rw [wtT_cons]; simp only [List.tail_cons, List.headD_cons]; omega
              unfold leafR
              rw [wt_mk, wtL_nil]
              show a.size + (r.tail.headD cNone).size + 8 + 0 + _ ≤ _
              omega
            · rw [if_neg hb] at e
              cases e
          · rw [if_neg hr] at e
            simp only [Option.some.injEq, Prod.mk.injEq] at e
            obtain ⟨rfl, rfl⟩ := e
            unfold leafR
            rw [wt_mk, wtL_nil]
            simp only [cNone_size]
            omega
        · rw [if_neg c3] at e
          cases e

theorem bothOf_ok {one : List ByteArray → Pr} (h : StepOk one) : StepOk (bothOf one) := fun T t T' e => by
  have := rowF_ok h (by decide) 5 _ _ _ _ _ e
  simpa using this
theorem ruleOf_ok {one : List ByteArray → Pr} (h : StepOk one) : StepOk (ruleOf one) := fun T t T' e => by
  have := rowF_ok (bothOf_ok h) (by decide) 4 _ _ _ _ _ e
  simpa using this
theorem oneF_ok : ∀ n, StepOk (oneF n)
  | 0 => oneOf_ok (fun _ _ _ e => by cases e)
  | n + 1 => oneOf_ok (ruleOf_ok (oneF_ok n))
theorem ruleF_ok (n : Nat) : StepOk (ruleF n) := ruleOf_ok (oneF_ok n)
theorem bothF_ok (n : Nat) : StepOk (bothF n) := bothOf_ok (oneF_ok n)
theorem inF_ok : ∀ n, StepOk (inF n)
  | 0 => fun _ _ _ e => by cases e
  | n + 1 => ruleF_ok n

/-- A step takes one sign at least. -/
def StepLen (step : List ByteArray → Pr) : Prop := ∀ T t T', step T = some (t, T') → T'.length < T.length
theorem tail_le (T : List ByteArray) : T.tail.length ≤ T.length := by rw [List.length_tail]; omega
theorem rowF_len {step : List ByteArray → Pr} (h : StepLen step) (op : ByteArray) (k : Int) : ∀ (f : Nat) (acc : List (Tr RuH)) (T : List ByteArray) (t : Tr RuH) (T' : List ByteArray), rowF step op k f acc T = some (t, T') → T'.length < T.length
  | 0, _, _, _, _, e => by simp [rowF] at e
  | f + 1, acc, T, t, T', e => by
    rw [rowF] at e
    cases hs : step T with
    | none => rw [hs] at e; simp at e
    | some x =>
      obtain ⟨u, U⟩ := x
      rw [hs] at e
      have h1 := h _ _ _ hs
      have h2 := tail_le U
      dsimp only at e
      split at e
      · have := rowF_len h op k f _ _ _ _ e
        omega
      · simp only [Option.some.injEq, Prod.mk.injEq] at e
        obtain ⟨rfl, rfl⟩ := e
        exact h1
theorem oneOf_len {rule : List ByteArray → Pr} (h : StepLen rule) : StepLen (oneOf rule) := by
  intro T t T' e
  cases T with
  | nil => simp [oneOf] at e
  | cons a r =>
    rw [oneOf] at e
    rw [List.length_cons]
    by_cases c1 : a = cOpen
    · rw [if_pos c1] at e
      cases hu : rule r with
      | none => rw [hu] at e; cases e
      | some x =>
        obtain ⟨u, U⟩ := x
        rw [hu] at e
        have h1 := h _ _ _ hu
        have := tail_le U
        dsimp only at e
        split at e
        · simp only [Option.some.injEq, Prod.mk.injEq] at e
          obtain ⟨rfl, rfl⟩ := e
          omega
        · cases e
    · rw [if_neg c1] at e
      split at e
      · simp only [Option.some.injEq, Prod.mk.injEq] at e
        obtain ⟨rfl, rfl⟩ := e
        omega
      · have h1 := tail_le r
        have h2 := tail_le r.tail
        by_cases c3 : isRefB a = true
        · rw [if_pos c3] at e
          by_cases hr : r.headD cNone = cArrow
          · rw [if_pos hr] at e
            by_cases hb : isRefB (r.tail.headD cNone) = true
            · rw [if_pos hb] at e
              simp only [Option.some.injEq, Prod.mk.injEq] at e
              obtain ⟨rfl, rfl⟩ := e
              omega
            · rw [if_neg hb] at e
              cases e
          · rw [if_neg hr] at e
            simp only [Option.some.injEq, Prod.mk.injEq] at e
            obtain ⟨rfl, rfl⟩ := e
            omega
        · rw [if_neg c3] at e
          cases e
theorem oneF_len : ∀ n, StepLen (oneF n)
  | 0 => oneOf_len (fun _ _ _ e => by cases e)
  | n + 1 => oneOf_len (fun T t T' e => rowF_len (fun T t T' e => rowF_len (oneF_len n) _ _ _ _ _ _ _ e) _ _ _ _ _ _ _ e)
theorem bothF_len (n : Nat) : StepLen (bothF n) := fun _ _ _ e => rowF_len (oneF_len n) _ _ _ _ _ _ _ e
theorem ruleF_len (n : Nat) : StepLen (ruleF n) := fun _ _ _ e => rowF_len (bothF_len n) _ _ _ _ _ _ _ e

/-- A relation, and a type. -/
structure Rl where
  name : ByteArray
  rule : Tr RuH
structure Ty where
  name : ByteArray
  rels : List Rl

def addRl (S : List Ty) (r : Rl) : List Ty := match S.getLast? with
  | none => []
  | some x => S.dropLast ++ [⟨x.name, x.rels ++ [r]⟩]

/-- What a line adds. -/
def lineF (S : List Ty) (T : List ByteArray) : Option (List Ty) :=
  if T.headD cNone = cType then
    if isRefB (T.tail.headD cNone) = true ∧ T.tail.tail = [] then some (S ++ [⟨T.tail.headD cNone, []⟩]) else none
  else if isRelB (T.headD cNone) = true ∧ T.tail.headD cNone = cEq ∧ S ≠ [] then
    match ruleF 8 T.tail.tail with
    | some (t, U) => if U.headD cNone = cNone then some (addRl S ⟨T.headD cNone, t⟩) else none
    | none => none
  else none

def saysNone (l : List UInt8) : Bool := l.isEmpty || Lib.hasPrefix l [47, 47]

/-- What lines say: from line i on. -/
def parseL : Nat → List Ty → List (List UInt8) → Option (List Ty) × Nat
  | _, S, [] => (some S, 0)
  | i, S, l :: ls =>
    if saysNone (trimB l) = true then parseL (i + 1) S ls
    else match lineF S (toks (trimB l)) with
      | some S' => parseL (i + 1) S' ls
      | none => (none, i + 1)
end Go.Proofs.YtopnldebekhelaaDoor
