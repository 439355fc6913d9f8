/- What sentryref05's Text tells of a part: the text as the writer has it, brackets laid by the caller. -/
import Derived.Test.YtopnldebekhelaaDoorZSchPrM
namespace Go.Proofs.YtopnldebekhelaaDoor
open Go Go.RowKit

theorem okR_zero {k : Int} {h : RuH} {n : Nat} (hn : h.kind ≠ k) : okR k h n = okR 0 h n := by
  unfold okR
  split
  · rfl
  split
  · rfl
  split
  · rfl
  split
  · rename_i hc
    have h0 : h.kind ≠ 0 := by omega
    rw [decide_eq_true hn, decide_eq_true h0]
  · rfl

theorem part_kind {k : Int} {d : Nat} {h : RuH} {ps : List (Tr RuH)} (hk : k = 4 ∨ k = 5) (hn : h.kind = k) : textF k d (.mk h ps) = none := by
  rw [textF_mk]
  have : okR k h ps.length = false := by
    unfold okR
    rw [if_neg (by omega), if_neg (by omega), if_neg (by omega), if_pos (by omega), decide_eq_false (show ¬ (h.kind ≠ k) from fun e => e hn)]
    simp
  rw [this, if_neg (by decide)]

theorem part_same {k : Int} {d : Nat} {h : RuH} {ps : List (Tr RuH)} (hn : h.kind ≠ k) (hb : ¬ (k = 5 ∧ h.kind = 4)) : textF k d (.mk h ps) = textF 0 d (.mk h ps) := by
  rw [textF_mk, textF_mk, okR_zero hn]
  by_cases h4 : h.kind = 4
  · rw [if_pos h4, if_pos h4, if_neg (show ¬ k = 5 by intro e; exact hb ⟨e, h4⟩), if_neg (show ¬ (0 : Int) = 5 by decide)]
  · rw [if_neg h4, if_neg h4]

theorem part_deep {d : Nat} {h : RuH} {ps : List (Tr RuH)} (h4 : h.kind = 4) (hd : ¬ d < 8) : textF 5 d (.mk h ps) = none := by
  rw [textF_mk, if_pos h4, if_pos rfl, if_neg hd]
  split <;> rfl

theorem part_bracket {d : Nat} {h : RuH} {ps : List (Tr RuH)} (h4 : h.kind = 4) (hd : d < 8) : textF 5 d (.mk h ps) = (textF 0 (d + 1) (.mk h ps)).map (fun s => 40 :: (s ++ [41])) := by
  rw [textF_mk, textF_mk, okR_zero (k := 5) (by omega), if_pos h4, if_pos h4, if_pos rfl, if_pos hd, if_neg (show ¬ (0 : Int) = 5 by decide)]
  split <;> rfl

/-- How far the parts have been written. -/
def PaSt (k : Int) (d : Nat) (sep : List UInt8) (ps : List (Tr RuH)) (i : Nat) (acc : List UInt8) : Prop :=
  acc.length ≤ wtL (ps.take i) ∧ goT k d sep true ps = (goT k d sep (decide (i = 0)) (ps.drop i)).map (acc ++ ·)

theorem paSt_start (k : Int) (d : Nat) (sep : List UInt8) (ps : List (Tr RuH)) : PaSt k d sep ps 0 [] := by
  refine ⟨by simp, ?_⟩
  rw [List.drop_zero, decide_eq_true rfl]
  cases goT k d sep true ps <;> rfl

theorem paSt_none {k : Int} {d : Nat} {sep : List UInt8} {ps : List (Tr RuH)} {i : Nat} {acc : List UInt8} {p : Tr RuH} (h : PaSt k d sep ps i acc) (hi : ps[i]? = some p) (hp : textF k d p = none) : goT k d sep true ps = none := by
  rw [h.2, drop_at hi, goT_cons, hp]
  rfl

theorem paSt_next {k : Int} {d : Nat} {sep : List UInt8} (hs : sep.length = 3) {ps : List (Tr RuH)} {i : Nat} {acc s : List UInt8} {p : Tr RuH} (h : PaSt k d sep ps i acc) (hi : ps[i]? = some p) (hp : textF k d p = some s) : PaSt k d sep ps (i + 1) (acc ++ ((if i = 0 then [] else sep) ++ s)) := by
  obtain ⟨h1, h2⟩ := h
  have hw := textF_wt k d p s hp
  refine ⟨?_, ?_⟩
  · rw [wtL_snoc ps hi, List.length_append, List.length_append]
    split
    · rw [List.length_nil]; omega
    · omega
  · rw [h2, drop_at hi, goT_cons, hp, decide_eq_false (show ¬ i + 1 = 0 by omega)]
    cases goT k d sep false (ps.drop (i + 1)) with
    | none => rfl
    | some r =>
      by_cases h0 : i = 0
      · subst h0; simp
      · simp [h0]

theorem paSt_end {k : Int} {d : Nat} {sep : List UInt8} {ps : List (Tr RuH)} {i : Nat} {acc : List UInt8} (h : PaSt k d sep ps i acc) (hi : ps.length = i) : goT k d sep true ps = some acc := by
  rw [h.2, List.drop_of_length_le (by omega), goT_nil]
  simp

/-- Text's answer. -/
def TxPost (w : World) (t : Tr RuH) (d : Nat) (e : Ending) (w' : World) : Prop :=
  ∃ (s : List UInt8) (b : Bool), e = .returned (.tuple #[.string (tk s), .bool b]) ∧ (b = true → textF 0 d t = some s) ∧ (b = false → textF 0 d t = none) ∧ Below w.heap.size w w'
theorem tx_no {w w' : World} {t : Tr RuH} {d : Nat} {s : ByteArray} (h : textF 0 d t = none) (hb : Below w.heap.size w w') : TxPost w t d (.returned (.tuple #[.string s, .bool false])) w' :=
  ⟨s.data.toList, false, by rw [tk_of], (fun h => by cases h), (fun _ => h), hb⟩
theorem tx_yes {w w' : World} {t : Tr RuH} {d : Nat} {s : List UInt8} (h : textF 0 d t = some s) (hb : Below w.heap.size w w') : TxPost w t d (.returned (.tuple #[.string (tk s), .bool true])) w' :=
  ⟨s, true, rfl, (fun _ => h), (fun h => by cases h), hb⟩
theorem tx_off {d : Nat} {h : RuH} {ps : List (Tr RuH)} (hk : okR 0 h ps.length = false) : textF 0 d (.mk h ps) = none := by
  rw [textF_mk, hk, if_neg (by decide)]
/-- One more part. -/
def TxRel (w : World) (k : Int) (d : Nat) (sep : List UInt8) (ps : List (Tr RuH)) (n : Nat) (ov iv : Value) (wr : World) : Prop :=
  ∃ (i : Nat) (acc : List UInt8), iv = .int .i64 (i : Int) ∧ ov = .string (tk acc) ∧ i ≤ n ∧ PaSt k d sep ps i acc ∧ Below w.heap.size w wr
theorem tk_cat (a b : List UInt8) : tk a ++ tk b = tk (a ++ b) := by
  apply ByteArray.ext
  simp [tk, ByteArray.data_append]
end Go.Proofs.YtopnldebekhelaaDoor
