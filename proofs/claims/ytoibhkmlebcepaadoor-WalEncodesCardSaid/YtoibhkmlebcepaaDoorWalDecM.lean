import Derived.Test.YtoibhkmlebcepaaDoorWalReader
import Derived.Test.YtoibhkmlebcepaaDoorWalEncode
namespace Go.Proofs.YtoibhkmlebcepaaDoor
open Go Go.RowKit

/-- One entry's key, Del and bytes. -/
def entGo (l : List UInt8) : Option (ByteArray × Bool × Nat) :=
  if (truthL l).2.2 = true then none
  else if (getText (l.drop 1)).2.2 = 0 then some (⟨(getText (l.drop 1)).1.toArray⟩, (truthL l).1, 1 + (getText (l.drop 1)).2.1) else none

/-- So many entries, and what is left. -/
def entsGo (rev : Nat) : Nat → List UInt8 → Option (List Ent × List UInt8)
  | 0, l => some ([], l)
  | m + 1, l => match entGo l with
    | none => none
    | some (key, del, k) => match entsGo rev m (l.drop k) with
      | none => none
      | some (es, r) => some (⟨key, rev, del⟩ :: es, r)

def finL (rev : Nat) (es : List Ent) : Option (List Ent × List UInt8) → Option (Nat × List Ent)
  | some (es2, []) => if rightB rev (es ++ es2) = true then some (rev, es ++ es2) else none
  | _ => none

/-- The commit that bytes are the record of. -/
def decL (b : List UInt8) : Option (Nat × List Ent) :=
  if (getGo 0 0 b).2.2 = 0 then
    if (getGo 0 0 (b.drop (getGo 0 0 b).2.1)).2.2 = 0 then
      finL (getGo 0 0 b).1 [] (entsGo (getGo 0 0 b).1 (getGo 0 0 (b.drop (getGo 0 0 b).2.1)).1 ((b.drop (getGo 0 0 b).2.1).drop (getGo 0 0 (b.drop (getGo 0 0 b).2.1)).2.1))
    else none
  else none

theorem right_long {rev : Nat} {es : List Ent} (h : 256 < es.length) : rightB rev es = false := by
  unfold rightB sizeOk
  rw [decide_eq_false (show ¬ es.length ≤ 256 by omega)]
  simp

theorem fin_long {rev : Nat} {es : List Ent} (o : Option (List Ent × List UInt8)) (h : 256 < es.length) : finL rev es o = none := by
  unfold finL
  split
  · rw [if_neg (by rw [right_long (by rw [List.length_append]; omega)]; decide)]
  · rfl

theorem fin_none (rev : Nat) (es : List Ent) : finL rev es none = none := rfl

theorem fin_step {rev m : Nat} {es : List Ent} {l : List UInt8} {key : ByteArray} {del : Bool} {k : Nat} (h : entGo l = some (key, del, k)) :
    finL rev es (entsGo rev (m + 1) l) = finL rev (es ++ [⟨key, rev, del⟩]) (entsGo rev m (l.drop k)) := by
  rw [entsGo, h]
  dsimp only
  cases h2 : entsGo rev m (l.drop k) with
  | none => rfl
  | some p =>
    obtain ⟨es2, r⟩ := p
    cases r with
    | nil => simp [finL]
    | cons c r => rfl

theorem fin_stop {rev m : Nat} {es : List Ent} {l : List UInt8} (h : entGo l = none) : finL rev es (entsGo rev (m + 1) l) = none := by
  rw [entsGo, h]
  rfl

theorem fin_end (rev : Nat) (es : List Ent) (l : List UInt8) : finL rev es (entsGo rev 0 l) = if l = [] ∧ rightB rev es = true then some (rev, es) else none := by
  rw [entsGo]
  cases l with
  | nil => simp [finL]
  | cons c r => simp [finL]

theorem truth_used (l : List UInt8) : (truthL l).2.1 ≤ l.length ∧ ((truthL l).2.2 = false → (truthL l).2.1 = 1) := by
  cases l with
  | nil => exact ⟨Nat.zero_le _, fun h => by cases h⟩
  | cons c r =>
    by_cases h : 1 < c.toNat
    · have e : truthL (c :: r) = (false, 0, true) := by unfold truthL; simp [h]
      rw [e]
      exact ⟨Nat.zero_le _, fun h => by cases h⟩
    · have e : truthL (c :: r) = (c == 1, 1, false) := by unfold truthL; simp [h]
      rw [e]
      exact ⟨by simp, fun _ => rfl⟩

theorem text_size (l : List UInt8) : (getText l).1.length ≤ l.length := by
  unfold getText
  split
  · split
    · exact Nat.zero_le _
    · show ((l.drop _).take _).length ≤ l.length
      rw [List.length_take, List.length_drop]
      omega
  · exact Nat.zero_le _

/-- How far a reader has come. -/
def DecInv (b : List UInt8) (rev M : Nat) (bad : Bool) (es : List Ent) (l : List UInt8) : Prop :=
  (bad = true → decL b = none) ∧ (bad = false → decL b = finL rev es (entsGo rev M l)) ∧ (∀ x ∈ es, x.key.size ≤ b.length) ∧ es.length ≤ 257 ∧ l.length ≤ b.length

theorem DecInv.step {b : List UInt8} {rev m : Nat} {es : List Ent} {l : List UInt8} (h : DecInv b rev (m + 1) false es l) (hes : es.length ≤ 256) :
    DecInv b rev m ((false || (truthL l).2.2) || decide ((getText (l.drop (truthL l).2.1)).2.2 ≠ 0)) (es ++ [⟨⟨(getText (l.drop (truthL l).2.1)).1.toArray⟩, rev, (truthL l).1⟩]) ((l.drop (truthL l).2.1).drop (getText (l.drop (truthL l).2.1)).2.1) := by
  obtain ⟨_, h2, h3, h4, h5⟩ := h
  have h2 := h2 rfl
  refine ⟨fun hb => ?_, fun hb => ?_, fun x hx => ?_, by rw [List.length_append]; simp; omega, by rw [List.length_drop, List.length_drop]; omega⟩
  · rw [h2]
    refine fin_stop ?_
    unfold entGo
    rcases Bool.eq_false_or_eq_true (truthL l).2.2 with ht | ht
    · rw [if_pos ht]
    · rw [if_neg (by rw [ht]; decide)]
      rw [ht, (truth_used l).2 ht] at hb
      simp only [Bool.false_or, decide_eq_true_eq] at hb
      rw [if_neg hb]
  · rw [h2]
    rcases Bool.eq_false_or_eq_true (truthL l).2.2 with ht | ht
    · rw [ht] at hb; simp at hb
    · rw [ht, (truth_used l).2 ht] at hb
      simp only [Bool.false_or, decide_eq_false_iff_not, Decidable.not_not] at hb
      have he : entGo l = some (⟨(getText (l.drop 1)).1.toArray⟩, (truthL l).1, 1 + (getText (l.drop 1)).2.1) := by
        unfold entGo
        rw [if_neg (by rw [ht]; decide), if_pos hb]
      rw [fin_step he, (truth_used l).2 ht, List.drop_drop]
  · rcases List.mem_append.1 hx with hx | hx
    · exact h3 x hx
    · simp at hx
      subst hx
      have h6 := text_size (l.drop (truthL l).2.1)
      rw [List.length_drop] at h6
      show (getText (l.drop (truthL l).2.1)).1.length ≤ b.length
      omega

theorem DecInv.start {b : List UInt8} : DecInv b (getGo 0 0 b).1 (getGo 0 0 (b.drop (getGo 0 0 b).2.1)).1 ((false || decide ((getGo 0 0 b).2.2 ≠ 0)) || decide ((getGo 0 0 (b.drop (getGo 0 0 b).2.1)).2.2 ≠ 0)) [] ((b.drop (getGo 0 0 b).2.1).drop (getGo 0 0 (b.drop (getGo 0 0 b).2.1)).2.1) := by
  refine ⟨fun hb => ?_, fun hb => ?_, fun x hx => by simp at hx, by simp, by rw [List.length_drop, List.length_drop]; omega⟩
  · unfold decL
    by_cases h1 : (getGo 0 0 b).2.2 = 0
    · rw [if_pos h1]
      by_cases h2 : (getGo 0 0 (b.drop (getGo 0 0 b).2.1)).2.2 = 0
      · simp [h1, h2] at hb
      · rw [if_neg h2]
    · rw [if_neg h1]
  · unfold decL
    by_cases h1 : (getGo 0 0 b).2.2 = 0
    · rw [if_pos h1]
      by_cases h2 : (getGo 0 0 (b.drop (getGo 0 0 b).2.1)).2.2 = 0
      · rw [if_pos h2]
      · simp [h2] at hb
    · simp [h1] at hb
end Go.Proofs.YtoibhkmlebcepaaDoor
