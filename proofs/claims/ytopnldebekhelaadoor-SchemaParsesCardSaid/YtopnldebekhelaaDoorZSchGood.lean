/- What is parsed can be printed. -/
import Derived.Test.YtopnldebekhelaaDoorZSchBack
import Derived.Test.YtopnldebekhelaaDoorZSchPrM
namespace Go.Proofs.YtopnldebekhelaaDoor
open Go Go.RowKit

mutual
theorem text_mono (above : Int) : ∀ (t : Tr RuH) (d d' : Nat) (s : List UInt8), d' ≤ d → textF above d t = some s → textF above d' t = some s
  | .mk h ps, d, d', s, hd, e => by
    rw [textF_mk] at e ⊢
    split at e
    · rename_i hok
      rw [if_pos hok]
      split at e
      · rename_i k4
        rw [if_pos k4]
        split at e
        · rename_i ha
          rw [if_pos ha]
          split at e
          · rename_i h8
            rw [if_pos (by omega)]
            cases hg : goT 4 (d + 1) barS true ps with
            | none => rw [hg] at e; cases e
            | some r =>
              rw [hg] at e
              rw [go_mono 4 barS ps true (d + 1) (d' + 1) r (by omega) hg]
              exact e
          · cases e
        · rename_i ha
          rw [if_neg ha]
          exact go_mono 4 barS ps true d d' s hd e
      · rename_i k4
        rw [if_neg k4]
        split at e
        · rename_i k5
          rw [if_pos k5]
          exact go_mono 5 ampS ps true d d' s hd e
        · rename_i k5
          rw [if_neg k5]
          exact e
    · cases e
theorem go_mono (k : Int) (sep : List UInt8) : ∀ (ps : List (Tr RuH)) (first : Bool) (d d' : Nat) (s : List UInt8), d' ≤ d → goT k d sep first ps = some s → goT k d' sep first ps = some s
  | [], first, d, d', s, _, e => by rw [goT_nil] at e ⊢; exact e
  | p :: ps, first, d, d', s, hd, e => by
    rw [goT_cons] at e ⊢
    cases h1 : textF k d p with
    | none => rw [h1] at e; cases e
    | some s1 =>
      rw [h1] at e
      rw [text_mono k p d d' s1 hd h1]
      cases h2 : goT k d sep false ps with
      | none => rw [h2] at e; cases e
      | some r =>
        rw [h2] at e
        rw [go_mono k sep ps false d d' r hd h2]
        exact e
end

theorem go_some {k : Int} {d : Nat} {sep : List UInt8} : ∀ (ps : List (Tr RuH)) (first : Bool), (∀ p ∈ ps, ∃ s, textF k d p = some s) → ∃ s, goT k d sep first ps = some s
  | [], _, _ => ⟨[], by rw [goT_nil]⟩
  | p :: ps, first, h => by
    obtain ⟨s1, h1⟩ := h p (by simp)
    obtain ⟨r, h2⟩ := go_some ps false (fun q hq => h q (by simp [hq]))
    rw [goT_cons, h1, h2]
    exact ⟨_, rfl⟩

/-- A part that may be joined to a row of kind k. -/
def GoodP (k : Int) (d : Nat) (t : Tr RuH) : Prop := (t.head.kind ≠ k → ∃ s, textF k d t = some s) ∧ (t.head.kind = k → t.parts ≠ [] ∧ ∀ p ∈ t.parts, ∃ s, textF k d p = some s)

theorem row_good {step : List ByteArray → Pr} {op : ByteArray} {k : Int} {d : Nat} (hs : ∀ T t T', step T = some (t, T') → GoodP k d t) : ∀ (f : Nat) (acc : List (Tr RuH)) (T : List ByteArray) (t : Tr RuH) (T' : List ByteArray), (∀ p ∈ acc, ∃ s, textF k d p = some s) → rowF step op k f acc T = some (t, T') →
    ∃ ps, t = mkRow k ps ∧ ps ≠ [] ∧ ∀ p ∈ ps, ∃ s, textF k d p = some s
  | 0, _, _, _, _, _, e => by simp [rowF] at e
  | f + 1, acc, T, t, T', ha, e => by
    rw [rowF] at e
    cases h1 : step T with
    | none => rw [h1] at e; simp at e
    | some x =>
      obtain ⟨u, U⟩ := x
      rw [h1] at e
      obtain ⟨g1, g2⟩ := hs _ _ _ h1
      have hne : addP k acc u ≠ [] := by
        unfold addP
        split
        · rename_i hk
          have := (g2 hk).1
          simp [this]
        · simp
      have hall : ∀ p ∈ addP k acc u, ∃ s, textF k d p = some s := by
        unfold addP
        split
        · rename_i hk
          intro p hp
          rcases List.mem_append.1 hp with hp | hp
          · exact ha p hp
          · exact (g2 hk).2 p hp
        · rename_i hk
          intro p hp
          rcases List.mem_append.1 hp with hp | hp
          · exact ha p hp
          · simp at hp
            subst hp
            exact g1 hk
      dsimp only at e
      split at e
      · exact row_good hs f _ _ _ _ hall e
      · simp only [Option.some.injEq, Prod.mk.injEq] at e
        exact ⟨_, e.1.symm, hne, hall⟩

theorem grp_ok {k above : Int} (hk : k = 4 ∨ k = 5) (ha : k ≠ above) {n : Nat} (hn : 2 ≤ n) : okR above ⟨k, cNone, cNone⟩ n = true := by
  unfold okR
  rcases hk with rfl | rfl <;> simp [ha, hn]

theorem kind_of_text {above : Int} {d : Nat} {t : Tr RuH} {s : List UInt8} (h : textF above d t = some s) : t.head.kind = 1 ∨ t.head.kind = 2 ∨ t.head.kind = 3 ∨ t.head.kind = 4 ∨ t.head.kind = 5 := by
  obtain ⟨hd, ps⟩ := t
  show hd.kind = 1 ∨ hd.kind = 2 ∨ hd.kind = 3 ∨ hd.kind = 4 ∨ hd.kind = 5
  have hok := text_ok h
  unfold okR at hok
  by_cases h1 : hd.kind = 1
  · exact .inl h1
  · by_cases h2 : hd.kind = 2
    · exact .inr (.inl h2)
    · by_cases h3 : hd.kind = 3
      · exact .inr (.inr (.inl h3))
      · by_cases h4 : hd.kind = 4 ∨ hd.kind = 5
        · exact .inr (.inr (.inr h4))
        · rw [if_neg h1, if_neg h2, if_neg h3, if_neg h4] at hok
          cases hok

theorem both_good {d : Nat} {one : List ByteArray → Pr} (h : ∀ T t T', one T = some (t, T') → GoodP 5 d t) : ∀ T t T', bothOf one T = some (t, T') → GoodP 4 d t := by
  intro T t T' e
  obtain ⟨ps, rfl, hne, hall⟩ := row_good h _ _ _ _ _ (fun p hp => by cases hp) e
  match ps, hne with
  | [p], _ =>
    obtain ⟨s, hs⟩ := hall p (by simp)
    have hm : mkRow 5 [p] = p := rfl
    rw [hm]
    have h5 := kind_ne hs (.inr rfl)
    refine ⟨fun hk => ⟨s, by rw [← text_same (above := 5) (above' := 4) hk h5 hk]; exact hs⟩, fun hk => ?_⟩
    obtain ⟨hd, qs⟩ := p
    have hk : hd.kind = 4 := hk
    have hok := text_ok hs
    rw [textF_mk, if_pos hok, if_pos hk, if_pos rfl] at hs
    split at hs
    · cases hg : goT 4 (d + 1) barS true qs with
      | none => rw [hg] at hs; cases hs
      | some r =>
        refine ⟨fun e => ?_, fun q hq => ?_⟩
        · have := (grp_two hok (.inl hk)).2.2.2
          have e : qs = [] := e
          rw [e] at this
          simp at this
        · obtain ⟨s1, h1⟩ := go_all hg q hq
          exact ⟨s1, text_mono 4 q (d + 1) d s1 (by omega) h1⟩
    · cases hs
  | p :: q :: ps, _ =>
    have hm : mkRow 5 (p :: q :: ps) = .mk ⟨5, cNone, cNone⟩ (p :: q :: ps) := by unfold mkRow; rw [if_neg (by simp)]
    rw [hm]
    refine ⟨fun _ => ?_, fun hk => absurd (show (5 : Int) = 4 from hk) (by decide)⟩
    obtain ⟨s, hs⟩ := go_some (sep := ampS) (p :: q :: ps) true hall
    exact ⟨s, by rw [textF_mk, if_pos (grp_ok (.inr rfl) (by decide) (by simp)), if_neg (by decide), if_pos rfl]; exact hs⟩

theorem rule_good {d : Nat} {one : List ByteArray → Pr} (h : ∀ T t T', one T = some (t, T') → GoodP 5 d t) : ∀ T t T', ruleOf one T = some (t, T') → ∃ s, textF 0 d t = some s := by
  intro T t T' e
  obtain ⟨ps, rfl, hne, hall⟩ := row_good (both_good h) _ _ _ _ _ (fun p hp => by cases hp) e
  match ps, hne with
  | [p], _ =>
    obtain ⟨s, hs⟩ := hall p (by simp)
    have hm : mkRow 4 [p] = p := rfl
    rw [hm]
    have h4 := kind_ne hs (.inl rfl)
    have h0 : p.head.kind ≠ 0 := by have := kind_of_text hs; omega
    exact ⟨s, by rw [← text_same (above := 4) (above' := 0) h4 h4 h0]; exact hs⟩
  | p :: q :: ps, _ =>
    have hm : mkRow 4 (p :: q :: ps) = .mk ⟨4, cNone, cNone⟩ (p :: q :: ps) := by unfold mkRow; rw [if_neg (by simp)]
    rw [hm]
    obtain ⟨s, hs⟩ := go_some (sep := barS) (p :: q :: ps) true hall
    exact ⟨s, by rw [textF_mk, if_pos (grp_ok (.inl rfl) (by decide) (by simp)), if_pos rfl, if_neg (by decide)]; exact hs⟩

theorem leaf_good (d : Nat) {t : Tr RuH} (hl : t.head.kind = 1 ∨ t.head.kind = 2 ∨ t.head.kind = 3) (h : okR 5 t.head t.parts.length = true) : GoodP 5 d t := by
  obtain ⟨hd, ps⟩ := t
  have hl : hd.kind = 1 ∨ hd.kind = 2 ∨ hd.kind = 3 := hl
  refine ⟨fun _ => ?_, fun hk => by have hk : hd.kind = 5 := hk; omega⟩
  rw [textF_mk, if_pos (show okR 5 hd ps.length = true from h), if_neg (by omega), if_neg (by omega)]
  split
  · exact ⟨_, rfl⟩
  · split <;> exact ⟨_, rfl⟩

theorem ok3 {a b : ByteArray} (ha : isRefB a = true) (hb : isRefB b = true) : okR 5 ⟨3, a, b⟩ 0 = true := by unfold okR; simp [ha, hb]
theorem ok2 {a : ByteArray} (ha : isRefB a = true) : okR 5 ⟨2, a, cNone⟩ 0 = true := by unfold okR; simp [ha]

theorem one_good : ∀ (n d : Nat), d + n = 8 → ∀ T t T', oneF n T = some (t, T') → GoodP 5 d t := by
  intro n
  induction n with
  | zero =>
    intro d hd T t T' e
    rw [oneF_by] at e
    split at e
    · unfold brF inF at e; cases e
    · split at e
      · cases e; exact leaf_good d (.inl rfl) (by decide)
      · split at e
        · rename_i hr
          split at e
          · split at e
            · rename_i hb
              cases e
              exact leaf_good d (.inr (.inr rfl)) (ok3 hr hb)
            · cases e
          · cases e
            exact leaf_good d (.inr (.inl rfl)) (ok2 hr)
        · cases e
  | succ n ih =>
    intro d hd T t T' e
    rw [oneF_by] at e
    split at e
    · unfold brF at e
      have hin : inF (n + 1) = ruleF n := rfl
      rw [hin] at e
      cases hr : ruleF n T.tail with
      | none => rw [hr] at e; cases e
      | some x =>
        obtain ⟨u, U⟩ := x
        rw [hr] at e
        dsimp only at e
        split at e
        · cases e
          obtain ⟨s, hs⟩ := rule_good (ih (d + 1) (by omega)) _ _ _ hr
          refine ⟨fun hk => ?_, fun hk => ?_⟩
          · by_cases k4 : t.head.kind = 4
            · obtain ⟨h, ps⟩ := t
              have k4 : h.kind = 4 := k4
              have hok := text_ok hs
              obtain ⟨g1, g2, _, g4⟩ := grp_two hok (.inl k4)
              rw [textF_mk, if_pos hok, if_pos k4, if_neg (by decide)] at hs
              have hok5 : okR 5 h ps.length = true := by rw [eta_h h 4 k4 cNone cNone g1 g2]; exact grp_ok (.inl rfl) (by decide) g4
              exact ⟨40 :: (s ++ [41]), by rw [textF_mk, if_pos hok5, if_pos k4, if_pos rfl, if_pos (by omega), hs]; rfl⟩
            · have h0 : t.head.kind ≠ 0 := by have := kind_of_text hs; omega
              exact ⟨s, by rw [text_same (above := 5) (above' := 0) k4 hk h0]; exact text_mono 0 t (d + 1) d s (by omega) hs⟩
          · obtain ⟨h, ps⟩ := t
            have k5 : h.kind = 5 := hk
            have hok := text_ok hs
            have g4 := (grp_two hok (.inr k5)).2.2.2
            rw [textF_mk, if_pos hok, if_neg (by omega), if_pos k5] at hs
            refine ⟨fun e => by have e : ps = [] := e; rw [e] at g4; simp at g4, fun q hq => ?_⟩
            obtain ⟨s1, h1⟩ := go_all hs q hq
            exact ⟨s1, text_mono 5 q (d + 1) d s1 (by omega) h1⟩
        · cases e
    · split at e
      · cases e; exact leaf_good d (.inl rfl) (by decide)
      · split at e
        · rename_i hr
          split at e
          · split at e
            · rename_i hb
              cases e
              exact leaf_good d (.inr (.inr rfl)) (ok3 hr hb)
            · cases e
          · cases e
            exact leaf_good d (.inr (.inl rfl)) (ok2 hr)
        · cases e

theorem ruleF_good {T : List ByteArray} {t : Tr RuH} {T' : List ByteArray} (h : ruleF 8 T = some (t, T')) : ∃ s, textF 0 0 t = some s := rule_good (one_good 8 0 rfl) _ _ _ h

/-- A schema that can be printed. -/
def GoodS (S : List Ty) : Prop := ∀ t ∈ S, isRefB t.name = true ∧ ∀ r ∈ t.rels, isRelB r.name = true ∧ ∃ s, textF 0 0 r.rule = some s

theorem rels_some : ∀ (rs : List Rl), (∀ r ∈ rs, isRelB r.name = true ∧ ∃ s, textF 0 0 r.rule = some s) → ∃ x, relsT rs = some x ∧ x.length ≤ wRs rs
  | [], _ => ⟨[], rfl, by simp⟩
  | r :: rs, h => by
    obtain ⟨h1, s, h2⟩ := h r (by simp)
    obtain ⟨x, h3, h4⟩ := rels_some rs (fun q hq => h q (by simp [hq]))
    refine ⟨r.name.data.toList ++ eqS ++ s ++ [10] ++ x, by rw [relsT, if_pos h1, h2, h3]; rfl, ?_⟩
    have h5 := textF_wt 0 0 r.rule s h2
    have h6 : r.name.data.toList.length = r.name.size := Array.length_toList
    have h7 : wRs (r :: rs) = wR r + wRs rs := by simp [wRs]
    unfold wR at h7
    rw [h7]
    simp [eqS, h6]
    omega
theorem print_some : ∀ (S : List Ty), GoodS S → ∃ s, printT S = some s ∧ s.length ≤ wS S
  | [], _ => ⟨[], rfl, by simp⟩
  | t :: S, h => by
    obtain ⟨h1, h2⟩ := h t (by simp)
    obtain ⟨x, h3, h4⟩ := rels_some t.rels h2
    obtain ⟨y, h5, h6⟩ := print_some S (fun q hq => h q (by simp [hq]))
    refine ⟨typeS ++ t.name.data.toList ++ [10] ++ x ++ y, by rw [printT, if_pos h1, h3, h5]; rfl, ?_⟩
    have h8 : t.name.data.toList.length = t.name.size := Array.length_toList
    have h7 : wS (t :: S) = wY t + wS S := by simp [wS]
    unfold wY at h7
    rw [h7]
    simp [typeS, h8]
    omega

theorem wS_append (a b : List Ty) : wS (a ++ b) = wS a + wS b := by simp [wS]

theorem line_good {S S' : List Ty} {T : List ByteArray} (hS : GoodS S) (h : lineF S T = some S') : GoodS S' ∧ wS S' ≤ wS S + wtT T := by
  have hw0 := headD_wt T
  unfold lineF at h
  split at h
  · rename_i ht
    have h1 := headD_tail_wt ht (by decide)
    have h2 := headD_wt T.tail
    split at h
    · rename_i hc
      cases h
      refine ⟨fun t ht => ?_, ?_⟩
      · rcases List.mem_append.1 ht with ht | ht
        · exact hS t ht
        · simp at ht
          subst ht
          exact ⟨by simpa using hc.1, fun r hr => by cases hr⟩
      · rw [wS_append]
        have e : ∀ q : ByteArray, wS [(⟨q, []⟩ : Ty)] = q.size + 6 := fun q => by simp [wS, wY, wRs]
        rw [e]
        have : (4 : Nat) = cType.size := rfl
        omega
    · cases h
  · split at h
    · rename_i hc
      cases hr : ruleF 8 T.tail.tail with
      | none => rw [hr] at h; cases h
      | some y =>
        obtain ⟨t, U⟩ := y
        rw [hr] at h
        dsimp only at h
        split at h
        · cases h
          have h3 := ruleF_good hr
          have h4 := ruleF_ok 8 _ _ _ hr
          have h5 := headD_tail_wt hc.2.1 (by decide)
          have h6 : cEq.size = 1 := rfl
          rcases List.eq_nil_or_concat S with he | ⟨S0, x, he⟩
          · exact absurd he hc.2.2
          · rw [List.concat_eq_append] at he
            subst he
            rw [addRl_snoc]
            refine ⟨fun q hq => ?_, ?_⟩
            · rcases List.mem_append.1 hq with hq | hq
              · exact hS q (by simp [hq])
              · obtain rfl := List.mem_singleton.1 hq
                obtain ⟨g1, g2⟩ := hS x (by simp)
                refine ⟨g1, fun r hr2 => ?_⟩
                rcases List.mem_append.1 hr2 with hr2 | hr2
                · exact g2 r hr2
                · obtain rfl := List.mem_singleton.1 hr2
                  exact ⟨by simpa using hc.1, h3⟩
            · rw [wS_append, wS_append]
              have e1 : wS [(⟨x.name, x.rels ++ [⟨T.headD cNone, t⟩]⟩ : Ty)] = wS [x] + ((T.headD cNone).size + t.wt + 4) := by simp [wS, wY, wRs, wR]; omega
              rw [e1]
              omega
        · cases h
    · cases h

theorem trimB_le' (l : List UInt8) : (trimB l).length ≤ l.length := by
  unfold trimB Lib.trimS
  refine Nat.le_trans (List.dropWhile_sublist _).length_le ?_
  unfold Lib.trimRightS
  rw [List.length_reverse]
  refine Nat.le_trans (List.dropWhile_sublist _).length_le ?_
  rw [List.length_reverse]
  exact Nat.le_refl _

theorem parse_good : ∀ (ls : List (List UInt8)) (i : Nat) (S S' : List Ty) (k : Nat), GoodS S → parseL i S ls = (some S', k) → GoodS S' ∧ wS S' ≤ wS S + 9 * (ls.map List.length).sum
  | [], i, S, S', k, hS, e => by
    rw [parseL] at e
    cases e
    exact ⟨hS, by simp⟩
  | l :: ls, i, S, S', k, hS, e => by
    rw [parseL] at e
    rw [List.map_cons, List.sum_cons]
    split at e
    · obtain ⟨g1, g2⟩ := parse_good ls _ _ _ _ hS e
      exact ⟨g1, by omega⟩
    · cases h : lineF S (toks (trimB l)) with
      | none => rw [h] at e; cases e
      | some S1 =>
        rw [h] at e
        obtain ⟨g1, g2⟩ := line_good hS h
        obtain ⟨g3, g4⟩ := parse_good ls _ _ _ _ g1 e
        have h1 := wt_toks _ (trimB l) (Nat.le_refl _)
        have h2 := trimB_le' l
        exact ⟨g3, by omega⟩

theorem lines_sum : ∀ l : List UInt8, ((linesL l).map List.length).sum ≤ l.length
  | [] => by simp [linesL]
  | c :: r => by
    have ih := lines_sum r
    rw [linesL]
    split
    · simp; omega
    · cases h : linesL r with
      | nil => exact absurd h (linesL_ne r)
      | cons l ls =>
        rw [h] at ih
        simp at ih ⊢
        omega
end Go.Proofs.YtopnldebekhelaaDoor
