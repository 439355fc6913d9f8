/- What is printed is parsed. -/
import Derived.Test.YtopnldebekhelaaDoorZSchTok
import Derived.Test.YtopnldebekhelaaDoorZSchOne2
namespace Go.Proofs.YtopnldebekhelaaDoor
open Go Go.RowKit

def leafK (t : Tr RuH) : Prop := t.head.kind ≠ 4 ∧ t.head.kind ≠ 5

theorem ref_not {a c : ByteArray} (h : isRefB a = true) (hc : isRefB c = false) : a ≠ c := fun e => by rw [e, hc] at h; cases h

theorem eta_h (h : RuH) (k : Int) (h1 : h.kind = k) (a b : ByteArray) (h2 : h.a = a) (h3 : h.b = b) : h = ⟨k, a, b⟩ := by
  cases h
  simp_all

theorem one_leaf (above : Int) (d n : Nat) (t : Tr RuH) (s : List UInt8) (hl : leafK t) (ht : textF above d t = some s) (T' : List ByteArray) (hT : T'.headD cNone ≠ cArrow) : oneF n (tokT above t ++ T') = some (t, T') := by
  obtain ⟨h, ps⟩ := t
  obtain ⟨k4, k5⟩ := hl
  have k4 : ¬ h.kind = 4 := k4
  have k5 : ¬ h.kind = 5 := k5
  rw [textF_mk, if_neg k4, if_neg k5] at ht
  rw [tokT_mk, if_neg k4, if_neg k5, oneF_by]
  have hok : okR above h ps.length = true := by
    split at ht
    · assumption
    · cases ht
  rw [if_pos hok] at ht
  unfold okR at hok
  by_cases k1 : h.kind = 1
  · rw [if_pos k1] at hok ⊢
    simp at hok
    obtain ⟨⟨ha, hb⟩, hp⟩ := hok
    have hps : ps = [] := by simpa using hp
    subst hps
    rw [eta_h h 1 k1 cNone cNone ha hb]
    rw [if_neg (show ¬ ([cThis] ++ T').headD cNone = cOpen from by show ¬ cThis = cOpen; decide), if_pos (show ([cThis] ++ T').headD cNone = cThis from rfl)]
    rfl
  · rw [if_neg k1] at hok ⊢
    by_cases k2 : h.kind = 2
    · rw [if_pos k2] at hok ⊢
      simp at hok
      obtain ⟨⟨ha, hb⟩, hp⟩ := hok
      have hps : ps = [] := by simpa using hp
      subst hps
      rw [if_neg (show ¬ ([h.a] ++ T').headD cNone = cOpen from ref_not (c := cOpen) ha (by decide)), if_neg (show ¬ ([h.a] ++ T').headD cNone = cThis from ref_not (c := cThis) ha (by decide)), if_pos (show isRefB (([h.a] ++ T').headD cNone) = true from ha), if_neg (show ¬ ([h.a] ++ T').tail.headD cNone = cArrow from hT)]
      rw [show Tr.mk h [] = leafR 2 h.a cNone from by unfold leafR; rw [← eta_h h 2 k2 h.a cNone rfl hb]]
      rfl
    · rw [if_neg k2] at hok ⊢
      by_cases k3 : h.kind = 3
      · rw [if_pos k3] at hok
        simp at hok
        obtain ⟨⟨ha, hb⟩, hp⟩ := hok
        have hps : ps = [] := by simpa using hp
        subst hps
        rw [if_neg (show ¬ ([h.a, cArrow, h.b] ++ T').headD cNone = cOpen from ref_not (c := cOpen) ha (by decide)), if_neg (show ¬ ([h.a, cArrow, h.b] ++ T').headD cNone = cThis from ref_not (c := cThis) ha (by decide)), if_pos (show isRefB (([h.a, cArrow, h.b] ++ T').headD cNone) = true from ha), if_pos (show ([h.a, cArrow, h.b] ++ T').tail.headD cNone = cArrow from rfl), if_pos (show isRefB (([h.a, cArrow, h.b] ++ T').tail.tail.headD cNone) = true from hb)]
        rw [show Tr.mk h [] = leafR 3 h.a h.b from by unfold leafR; rw [← eta_h h 3 k3 h.a h.b rfl rfl]]
        rfl
      · rw [if_neg k3, if_neg (fun h => h.elim k4 k5)] at hok
        cases hok

theorem grp_two {above : Int} {h : RuH} {n : Nat} (hok : okR above h n = true) (hk : h.kind = 4 ∨ h.kind = 5) : h.a = cNone ∧ h.b = cNone ∧ h.kind ≠ above ∧ 2 ≤ n := by
  unfold okR at hok
  rw [if_neg (by omega), if_neg (by omega), if_neg (by omega), if_pos hk] at hok
  simp only [Bool.and_eq_true, decide_eq_true_eq] at hok
  exact ⟨hok.1.1.1, hok.1.1.2, hok.1.2, hok.2⟩

theorem text_ok {above : Int} {d : Nat} {h : RuH} {ps : List (Tr RuH)} {s : List UInt8} (e : textF above d (.mk h ps) = some s) : okR above h ps.length = true := by
  rw [textF_mk] at e
  split at e
  · assumption
  · cases e

mutual
theorem tokT_pos (above : Int) (d : Nat) : ∀ (t : Tr RuH) (s : List UInt8), textF above d t = some s → 1 ≤ (tokT above t).length
  | .mk h ps, s, e => by
    have hok := text_ok e
    rw [textF_mk, if_pos hok] at e
    rw [tokT_mk]
    split at e
    · rename_i k4
      rw [if_pos k4]
      have h2 := (grp_two hok (.inl k4)).2.2.2
      split at e
      · rename_i ha
        rw [if_pos ha]
        simp
      · rename_i ha
        rw [if_neg ha]
        have := tokG_len 4 d barS cPipe true ps s e
        omega
    · rename_i k4
      rw [if_neg k4]
      split at e
      · rename_i k5
        rw [if_pos k5]
        have h2 := (grp_two hok (.inr k5)).2.2.2
        have := tokG_len 5 d ampS cAmp true ps s e
        omega
      · rename_i k5
        rw [if_neg k5]
        split
        · simp
        · split <;> simp
theorem tokG_len (k : Int) (d : Nat) (sep : List UInt8) (op : ByteArray) (first : Bool) : ∀ (ps : List (Tr RuH)) (s : List UInt8), goT k d sep first ps = some s → ps.length ≤ (tokG k op first ps).length
  | [], s, _ => by simp
  | p :: ps, s, e => by
    rw [goT_cons] at e
    rw [tokG_cons]
    cases h1 : textF k d p with
    | none => rw [h1] at e; cases e
    | some s1 =>
      rw [h1] at e
      cases h2 : goT k d sep false ps with
      | none => rw [h2] at e; cases e
      | some r =>
        have i1 := tokT_pos k d p s1 h1
        have i2 := tokG_len k d sep op false ps r h2
        simp only [List.length_append, List.length_cons]
        omega
end

theorem go_all {k : Int} {d : Nat} {sep : List UInt8} : ∀ {first : Bool} {ps : List (Tr RuH)} {s : List UInt8}, goT k d sep first ps = some s → ∀ p ∈ ps, ∃ s1, textF k d p = some s1
  | _, [], _, _, p, hp => by cases hp
  | first, q :: ps, s, e, p, hp => by
    rw [goT_cons] at e
    cases h1 : textF k d q with
    | none => rw [h1] at e; cases e
    | some s1 =>
      rw [h1] at e
      cases h2 : goT k d sep false ps with
      | none => rw [h2] at e; cases e
      | some r =>
        rcases List.mem_cons.1 hp with rfl | hp
        · exact ⟨s1, h1⟩
        · exact go_all h2 p hp

theorem row_back {step : List ByteArray → Pr} {op : ByteArray} {k : Int} {okH : ByteArray → Prop} (hop : okH op) (hon : op ≠ cNone) : ∀ (ps : List (Tr RuH)), ps ≠ [] → (∀ p ∈ ps, p.head.kind ≠ k ∧ ∀ U : List ByteArray, okH (U.headD cNone) → step (tokT k p ++ U) = some (p, U)) →
    ∀ (f : Nat) (acc : List (Tr RuH)) (T' : List ByteArray), ps.length ≤ f → okH (T'.headD cNone) → T'.headD cNone ≠ op → rowF step op k f acc (tokG k op true ps ++ T') = some (mkRow k (acc ++ ps), T')
  | [], h, _, _, _, _, _, _, _ => absurd rfl h
  | [p], _, hp, f, acc, T', hf, hT, hTo => by
    obtain ⟨f, rfl⟩ : ∃ m, f = m + 1 := ⟨f - 1, by simp at hf; omega⟩
    obtain ⟨hk, hs⟩ := hp p (by simp)
    rw [tokG_cons, tokG_nil, if_pos rfl, List.nil_append, List.append_nil, rowF, hs T' hT]
    dsimp only
    rw [if_neg hTo]
    unfold addP
    rw [if_neg hk]
  | p :: q :: ps, _, hp, f, acc, T', hf, hT, hTo => by
    obtain ⟨f, rfl⟩ : ∃ m, f = m + 1 := ⟨f - 1, by simp at hf; omega⟩
    obtain ⟨hk, hs⟩ := hp p (by simp)
    have e : tokG k op true (p :: q :: ps) ++ T' = tokT k p ++ (op :: (tokG k op true (q :: ps) ++ T')) := by
      rw [tokG_cons k op true p, tokG_cons k op false q, tokG_cons k op true q]
      simp
    rw [e, rowF, hs _ (by show okH op; exact hop)]
    dsimp only
    rw [if_pos (show (op :: (tokG k op true (q :: ps) ++ T')).headD cNone = op from rfl)]
    have := row_back hop hon (q :: ps) (by simp) (fun x hx => hp x (by simp [hx])) f (addP k acc p) T' (by simp at hf ⊢; omega) hT hTo
    rw [List.tail_cons, this]
    unfold addP
    rw [if_neg hk]
    simp

theorem mkRow_grp {k : Int} {h : RuH} {ps : List (Tr RuH)} (hk : h.kind = k) (ha : h.a = cNone) (hb : h.b = cNone) (h2 : 2 ≤ ps.length) : mkRow k ([] ++ ps) = .mk h ps := by
  unfold mkRow
  rw [List.nil_append, if_neg (by omega), eta_h h k hk cNone cNone ha hb]

theorem kind_ne {above : Int} {d : Nat} {t : Tr RuH} {s : List UInt8} (h : textF above d t = some s) (ha : above = 4 ∨ above = 5) : t.head.kind ≠ above := by
  obtain ⟨hd, ps⟩ := t
  intro e
  have e : hd.kind = above := e
  have := (grp_two (text_ok h) (by rw [e]; exact ha)).2.2.1
  exact this e

def A5 (N : Nat) : Prop := ∀ t : Tr RuH, t.depth ≤ N → ∀ (d n : Nat) (s : List UInt8), d + n = 8 → textF 5 d t = some s → ∀ T' : List ByteArray, T'.headD cNone ≠ cArrow → oneF n (tokT 5 t ++ T') = some (t, T')
def A4 (N : Nat) : Prop := ∀ t : Tr RuH, t.depth ≤ N → ∀ (d n : Nat) (s : List UInt8), d + n = 8 → textF 4 d t = some s → ∀ T' : List ByteArray, T'.headD cNone ≠ cArrow ∧ T'.headD cNone ≠ cAmp → bothF n (tokT 4 t ++ T') = some (t, T')

theorem rule_row {N : Nat} (h4 : A4 N) {h : RuH} {ps : List (Tr RuH)} (hd : ∀ p ∈ ps, p.depth ≤ N) (k4 : h.kind = 4) {above : Int} (hok : okR above h ps.length = true) {d n : Nat} (hdn : d + n = 8) {s : List UInt8} (hg : goT 4 d barS true ps = some s) (T' : List ByteArray) (hT : (T'.headD cNone ≠ cArrow ∧ T'.headD cNone ≠ cAmp) ∧ T'.headD cNone ≠ cPipe) :
    ruleF n (tokG 4 cPipe true ps ++ T') = some (.mk h ps, T') := by
  obtain ⟨ha, hb, _, h2⟩ := grp_two hok (.inl k4)
  rw [← mkRow_grp k4 ha hb h2]
  refine row_back (okH := fun x => x ≠ cArrow ∧ x ≠ cAmp) ⟨by decide, by decide⟩ (by decide) ps (fun e => by rw [e] at h2; simp at h2) (fun p hp => ?_) _ _ _ ?_ hT.1 hT.2
  · obtain ⟨s1, h1⟩ := go_all hg p hp
    exact ⟨kind_ne h1 (.inl rfl), fun U hU => h4 p (hd p hp) d n s1 hdn h1 U hU⟩
  · have := tokG_len 4 d barS cPipe true ps s hg
    rw [List.length_append]
    omega

theorem text_same {above above' : Int} {d : Nat} {t : Tr RuH} (h : t.head.kind ≠ 4) (ha : t.head.kind ≠ above) (ha' : t.head.kind ≠ above') : textF above d t = textF above' d t := by
  obtain ⟨hd, ps⟩ := t
  have h : ¬ hd.kind = 4 := h
  have ha : hd.kind ≠ above := ha
  have ha' : hd.kind ≠ above' := ha'
  rw [textF_mk, textF_mk, if_neg h, if_neg h]
  have : okR above hd ps.length = okR above' hd ps.length := by
    unfold okR
    simp [ha, ha']
  rw [this]
theorem tok_same {above above' : Int} {t : Tr RuH} (h : t.head.kind ≠ 4) : tokT above t = tokT above' t := by
  obtain ⟨hd, ps⟩ := t
  have h : ¬ hd.kind = 4 := h
  rw [tokT_mk, tokT_mk, if_neg h, if_neg h]

theorem back_step (N : Nat) (h5 : A5 N) (h4 : A4 N) : A5 (N + 1) ∧ A4 (N + 1) := by
  have r5 : A5 (N + 1) := by
    intro t hdt d n s hdn ht T' hT
    obtain ⟨h, ps⟩ := t
    rw [Tr.depth_mk] at hdt
    have hps : ∀ p ∈ ps, p.depth ≤ N := (Tr.depthL_le ps).1 (by omega)
    by_cases k4 : h.kind = 4
    · have hok := text_ok ht
      rw [textF_mk, if_pos hok, if_pos k4, if_pos rfl] at ht
      split at ht
      · rename_i hd8
        cases hg : goT 4 (d + 1) barS true ps with
        | none => rw [hg] at ht; cases ht
        | some r =>
          obtain ⟨m, rfl⟩ : ∃ m, n = m + 1 := ⟨n - 1, by omega⟩
          have hr := rule_row h4 hps k4 hok (d := d + 1) (n := m) (by omega) hg (cShut :: T') ⟨⟨by show cShut ≠ cArrow; decide, by show cShut ≠ cAmp; decide⟩, by show cShut ≠ cPipe; decide⟩
          rw [tokT_mk, if_pos k4, if_pos rfl, oneF_by]
          have e : cOpen :: (tokG 4 cPipe true ps ++ [cShut]) ++ T' = cOpen :: (tokG 4 cPipe true ps ++ cShut :: T') := by simp
          rw [e, if_pos (show (cOpen :: (tokG 4 cPipe true ps ++ cShut :: T')).headD cNone = cOpen from rfl), List.tail_cons]
          unfold brF
          show (match ruleF m (tokG 4 cPipe true ps ++ cShut :: T') with | none => none | some (t, U) => if U.headD cNone = cShut then some (t, U.tail) else none) = _
          rw [hr]
          dsimp only
          rw [if_pos (show (cShut :: T').headD cNone = cShut from rfl)]
          rfl
      · cases ht
    · by_cases k5 : h.kind = 5
      · exact absurd k5 (kind_ne ht (.inr rfl))
      · exact one_leaf 5 d n (.mk h ps) s (show leafK (.mk h ps) from ⟨k4, k5⟩) ht T' hT
  refine ⟨r5, ?_⟩
  intro t hdt d n s hdn ht T' hT
  have hn4 := kind_ne ht (.inl rfl)
  by_cases k5 : t.head.kind = 5
  · obtain ⟨h, ps⟩ := t
    have k5 : h.kind = 5 := k5
    have k4 : ¬ h.kind = 4 := by omega
    rw [Tr.depth_mk] at hdt
    have hps : ∀ p ∈ ps, p.depth ≤ N := (Tr.depthL_le ps).1 (by omega)
    have hok := text_ok ht
    obtain ⟨ha, hb, _, h2⟩ := grp_two hok (.inr k5)
    rw [textF_mk, if_pos hok, if_neg k4, if_pos k5] at ht
    rw [tokT_mk, if_neg k4, if_pos k5, ← mkRow_grp k5 ha hb h2]
    refine row_back (okH := fun x => x ≠ cArrow) (by decide) (by decide) ps (fun e => by rw [e] at h2; simp at h2) (fun p hp => ?_) _ _ _ ?_ hT.1 hT.2
    · obtain ⟨s1, h1⟩ := go_all ht p hp
      exact ⟨kind_ne h1 (.inr rfl), fun U hU => h5 p (hps p hp) d n s1 hdn h1 U hU⟩
    · have := tokG_len 5 d ampS cAmp true ps s ht
      rw [List.length_append]
      omega
  · have hl : leafK t := ⟨hn4, k5⟩
    have h1 := one_leaf 4 d n t s hl ht T' hT.1
    show rowF (oneF n) cAmp 5 ((tokT 4 t ++ T').length + 1) [] (tokT 4 t ++ T') = _
    rw [rowF, h1]
    dsimp only
    rw [if_neg hT.2]
    unfold addP
    rw [if_neg k5]
    simp [mkRow]

theorem back_all : ∀ N, A5 N ∧ A4 N
  | 0 => ⟨fun t h => by obtain ⟨hd, ps⟩ := t; rw [Tr.depth_mk] at h; omega, fun t h => by obtain ⟨hd, ps⟩ := t; rw [Tr.depth_mk] at h; omega⟩
  | N + 1 => back_step N (back_all N).1 (back_all N).2

/-- A rule's signs are read as the rule. -/
theorem rule_back (t : Tr RuH) (s : List UInt8) (ht : textF 0 0 t = some s) (T' : List ByteArray) (hT : (T'.headD cNone ≠ cArrow ∧ T'.headD cNone ≠ cAmp) ∧ T'.headD cNone ≠ cPipe) : ruleF 8 (tokT 0 t ++ T') = some (t, T') := by
  by_cases k4 : t.head.kind = 4
  · obtain ⟨h, ps⟩ := t
    have k4 : h.kind = 4 := k4
    have hok := text_ok ht
    rw [textF_mk, if_pos hok, if_pos k4, if_neg (by decide)] at ht
    rw [tokT_mk, if_pos k4, if_neg (by decide)]
    exact rule_row (N := Tr.depthL ps) (back_all _).2 (fun p hp => (Tr.depthL_le ps).1 (Nat.le_refl _) p hp) k4 hok rfl ht T' hT
  · have h0 : t.head.kind ≠ 0 := by
      obtain ⟨h, ps⟩ := t
      intro e
      have e : h.kind = 0 := e
      have hok := text_ok ht
      unfold okR at hok
      rw [e] at hok
      simp at hok
    rw [text_same (above' := 4) k4 h0 k4] at ht
    rw [tok_same (above' := 4) k4]
    have h1 := (back_all _).2 t (Nat.le_refl _) 0 8 s rfl ht T' hT.1
    show rowF (bothF 8) cPipe 4 ((tokT 4 t ++ T').length + 1) [] (tokT 4 t ++ T') = _
    rw [rowF, h1]
    dsimp only
    rw [if_neg hT.2]
    unfold addP
    rw [if_neg k4]
    simp [mkRow]
end Go.Proofs.YtopnldebekhelaaDoor
