/- A schema of few parts that is printed: its text is not long, with other line ends either. -/
import Derived.Test.YtopnldebekhelaaDoorZSchBlankM
import Derived.Test.YtopnldebekhelaaDoorZSchFew
namespace Go.Proofs.YtopnldebekhelaaDoor
open Go Go.RowKit

theorem ref_32 {s : ByteArray} (h : isRefB s = true) : s.size ≤ 32 := (name_bytes (ref_name h).1).2.2
theorem none_32 {s : ByteArray} (h : s = cNone) : s.size ≤ 32 := by rw [h]; decide

theorem ok_small {above : Int} {h : RuH} {n : Nat} (hk : okR above h n = true) : h.a.size ≤ 32 ∧ h.b.size ≤ 32 := by
  unfold okR at hk
  split at hk
  · simp at hk
    exact ⟨none_32 hk.1.1, none_32 hk.1.2⟩
  · split at hk
    · simp at hk
      exact ⟨ref_32 hk.1.1, none_32 hk.1.2⟩
    · split at hk
      · simp at hk
        exact ⟨ref_32 hk.1.1, ref_32 hk.1.2⟩
      · split at hk
        · simp at hk
          exact ⟨none_32 hk.1.1.1, none_32 hk.1.1.2⟩
        · cases hk

mutual
theorem textF_cnt (above : Int) (d : Nat) : ∀ (t : Tr RuH) (s : List UInt8), textF above d t = some s → t.wt ≤ 72 * t.cnt
  | .mk h ps, s, e => by
    rw [textF_mk] at e
    rw [wt_mk, cnt_mk]
    split at e
    · rename_i hok
      obtain ⟨ha, hb⟩ := ok_small hok
      have hz : (h.kind ≠ 4 ∧ h.kind ≠ 5) → ps = [] := by
        intro hk
        unfold okR at hok
        by_cases k1 : h.kind = 1
        · rw [if_pos k1] at hok
          simp at hok
          exact hok.2
        · rw [if_neg k1] at hok
          by_cases k2 : h.kind = 2
          · rw [if_pos k2] at hok
            simp at hok
            exact hok.2
          · rw [if_neg k2] at hok
            by_cases k3 : h.kind = 3
            · rw [if_pos k3] at hok
              simp at hok
              exact hok.2
            · rw [if_neg k3, if_neg (by omega)] at hok
              cases hok
      split at e
      · split at e
        · split at e
          · cases hg : goT 4 (d + 1) barS true ps with
            | none => rw [hg] at e; cases e
            | some r =>
              have := goT_cnt 4 (d + 1) barS true ps r hg
              omega
          · cases e
        · have := goT_cnt 4 d barS true ps s e
          omega
      · split at e
        · have := goT_cnt 5 d ampS true ps s e
          omega
        · have hp := hz ⟨by assumption, by assumption⟩
          rw [hp, wtL_nil, cntL_nil]
          omega
    · cases e
theorem goT_cnt (k : Int) (d : Nat) (sep : List UInt8) (first : Bool) : ∀ (ps : List (Tr RuH)) (s : List UInt8), goT k d sep first ps = some s → wtL ps ≤ 72 * cntL ps
  | [], s, e => by rw [wtL_nil]; omega
  | p :: ps, s, e => by
    rw [goT_cons] at e
    rw [wtL_cons, cntL]
    split at e
    · cases e
    · rename_i s1 h1
      have i1 := textF_cnt k d p s1 h1
      split at e
      · cases e
      · rename_i r h2
        have i2 := goT_cnt k d sep false ps r h2
        omega
end

def lfs (l : List UInt8) : Nat := l.countP (· == 10)
theorem lfs_app (a b : List UInt8) : lfs (a ++ b) = lfs a + lfs b := List.countP_append
theorem lfs_zero {l : List UInt8} (h : (10 : UInt8) ∉ l) : lfs l = 0 := by
  unfold lfs
  rw [List.countP_eq_zero]
  intro c hc
  simp
  exact fun e => h (e ▸ hc)

theorem cnt_pos (t : Tr RuH) : 1 ≤ t.cnt := by cases t; rw [cnt_mk]; omega

theorem relsT_few : ∀ (rs : List Rl) (x : List UInt8), relsT rs = some x → x.length ≤ 110 * fewRs rs ∧ lfs x ≤ fewRs rs
  | [], x, e => by
    rw [relsT] at e
    cases e
    exact ⟨by simp, by simp [lfs]⟩
  | r :: rs, x, e => by
    rw [relsT] at e
    split at e
    · rename_i hn
      cases h1 : textF 0 0 r.rule with
      | none => rw [h1] at e; cases e
      | some s =>
        rw [h1] at e
        cases h2 : relsT rs with
        | none => rw [h2] at e; cases e
        | some y =>
          rw [h2] at e
          simp only [Option.bind_some, Option.map_some, Option.some.injEq] at e
          subst e
          obtain ⟨i1, i2⟩ := relsT_few rs y h2
          have h3 := textF_wt 0 0 _ _ h1
          have h4 := textF_cnt 0 0 _ _ h1
          have h5 := (name_bytes (rel_name hn).1).2.2
          have h6 : r.name.data.toList.length = r.name.size := Array.length_toList
          have h7 : fewRs (r :: rs) = r.rule.cnt + fewRs rs := by simp [fewRs, fewR]
          have h8 := lfs_zero (rel_no10 hn h1)
          have h9 := cnt_pos r.rule
          rw [h7]
          refine ⟨?_, ?_⟩
          · simp only [List.length_append, eqS, List.length_cons, List.length_nil]
            omega
          · rw [lfs_app, lfs_app, h8]
            have : lfs [10] = 1 := rfl
            omega
    · cases e

theorem printT_few : ∀ (S : List Ty) (x : List UInt8), printT S = some x → x.length ≤ 110 * fewS S ∧ lfs x ≤ fewS S
  | [], x, e => by
    rw [printT] at e
    cases e
    exact ⟨by simp, by simp [lfs]⟩
  | t :: ts, x, e => by
    rw [printT] at e
    split at e
    · rename_i hn
      cases h1 : relsT t.rels with
      | none => rw [h1] at e; cases e
      | some y =>
        rw [h1] at e
        cases h2 : printT ts with
        | none => rw [h2] at e; cases e
        | some z =>
          rw [h2] at e
          simp only [Option.bind_some, Option.map_some, Option.some.injEq] at e
          subst e
          obtain ⟨i1, i2⟩ := printT_few ts z h2
          obtain ⟨j1, j2⟩ := relsT_few t.rels y h1
          have h5 := ref_32 hn
          have h6 : t.name.data.toList.length = t.name.size := Array.length_toList
          have h7 : fewS (t :: ts) = 1 + fewRs t.rels + fewS ts := by simp [fewS, fewY]
          have h8 := lfs_zero (type_no10 hn)
          rw [h7]
          refine ⟨?_, ?_⟩
          · simp only [List.length_append, typeS, List.length_cons, List.length_nil]
            omega
          · rw [lfs_app, lfs_app, lfs_app, h8]
            have : lfs [10] = 1 := rfl
            omega
    · cases e

theorem blE_le (k : Nat) : (blE k).length ≤ 11 := by
  match k with
  | 0 | 1 | 2 | 3 => decide
  | k + 4 => show ([10, 32, 9] : List UInt8).length ≤ 11; decide

theorem blG_le (how : List Nat) : ∀ (l : List UInt8) (n : Nat), (blG how n l).length ≤ l.length + 10 * lfs l
  | [], n => by rw [blG]; simp
  | c :: r, n => by
    rw [blG]
    by_cases hc : c = 10
    · rw [if_pos hc]
      have h1 := blE_le (how.getD n 0 % 5)
      have h2 := blG_le how r (n + 1)
      have h3 : lfs (c :: r) = lfs r + 1 := by rw [hc]; simp [lfs]
      rw [List.length_append, h3, List.length_cons]
      omega
    · rw [if_neg hc]
      have h2 := blG_le how r n
      have h3 : lfs (c :: r) = lfs r := by simp [lfs, hc]
      rw [List.length_cons, List.length_cons, h3]
      omega

/-- With other line ends it is parsed as it was. -/
theorem parse_blanks (how : List Nat) {S : List Ty} {x : List UInt8} (h : printT S = some x) (hf : fewS S ≤ 200) : x.length ≤ 22000 ∧ (blG how 0 x).length ≤ 24000 ∧ parseS (tk (blG how 0 x)) = (S, 0, 0) := by
  obtain ⟨h1, h2⟩ := printT_few S x h
  have h3 := blG_le how x 0
  exact ⟨by omega, by omega, parse_blank how h (by omega)⟩
end Go.Proofs.YtopnldebekhelaaDoor
