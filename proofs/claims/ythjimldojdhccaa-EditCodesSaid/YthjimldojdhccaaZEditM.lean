/- Edits: tables in order, versions that may be, what a version becomes by an edit. -/
import Derived.Test.YthjimldojdhccaaZStrOrd
import Derived.Lib.Bytealg
import Derived.Lib.Small
import Derived.Shelf.SlSortCmp.NoneTotal
namespace Go.Proofs.Ythjimldojdhccaa
open Go Go.RowKit Go.Lib Go.Sort Go.Shelf

structure Tb where
  num : Int
  lev : Int
  size : Int
  first : ByteArray
  last : ByteArray
  deriving DecidableEq

instance : Inhabited Tb := ⟨⟨0, 0, 0, ⟨#[]⟩, ⟨#[]⟩⟩⟩

def Tb.cells (t : Tb) : List Value := [.int .i64 t.num, .int .i64 t.lev, .int .i64 t.size, .string t.first, .string t.last]
theorem Tb.cells_length (t : Tb) : t.cells.length = 5 := rfl
theorem Tb.cells_one (t : Tb) : ∀ v ∈ t.cells, v.oneCell' = true := by
  intro v hv
  simp [Tb.cells] at hv
  rcases hv with rfl | rfl | rfl | rfl | rfl <;> rfl
theorem Tb.cells_inj {a b : Tb} (h : a.cells = b.cells) : a = b := by
  cases a
  cases b
  simp [Tb.cells] at h
  obtain ⟨rfl, rfl, rfl, rfl, rfl⟩ := h
  rfl

theorem compare_lt : ∀ (a b : List UInt8), compareBytes a b < 0 ↔ Op.bytesLess a b = true
  | [], [] => by simp [compareBytes, Op.bytesLess]
  | [], _ :: _ => by simp [compareBytes, Op.bytesLess]
  | _ :: _, [] => by simp [compareBytes, Op.bytesLess]
  | a :: ar, b :: br => by
    rw [compareBytes, Op.bytesLess]
    have ih := compare_lt ar br
    split
    · rename_i h
      simp [h]
    · rename_i h
      split
      · rename_i h2
        have : a ≠ b := fun e => by subst e; exact h h2
        simp [h, this]
      · rename_i h2
        have : a = b := UInt8.le_antisymm (UInt8.not_lt.1 h2) (UInt8.not_lt.1 h)
        subst this
        simp [h, ih]

theorem compare_zero : ∀ (a b : List UInt8), compareBytes a b = 0 ↔ a = b
  | [], [] => by simp [compareBytes]
  | [], _ :: _ => by simp [compareBytes]
  | _ :: _, [] => by simp [compareBytes]
  | a :: ar, b :: br => by
    rw [compareBytes]
    have ih := compare_zero ar br
    split
    · rename_i h
      have : a ≠ b := fun e => by subst e; exact UInt8.lt_irrefl _ h
      simp [this]
    · rename_i h
      split
      · rename_i h2
        have : a ≠ b := fun e => by subst e; exact h h2
        simp [this]
      · rename_i h2
        have : a = b := UInt8.le_antisymm (UInt8.not_lt.1 h2) (UInt8.not_lt.1 h)
        subst this
        simp [ih]

def cmpS (a b : ByteArray) : Int := compareBytes a.data.toList b.data.toList
theorem cmpS_lt (a b : ByteArray) : cmpS a b < 0 ↔ bl a b = true := compare_lt _ _
theorem cmpS_zero (a b : ByteArray) : cmpS a b = 0 ↔ a = b := by
  unfold cmpS
  rw [compare_zero]
  exact ⟨fun h => Go.WideShapes.bytes_inj h, fun h => by rw [h]⟩

theorem cmpI_lt (x y : Int) : compareInt x y < 0 ↔ x < y := by
  unfold compareInt
  split
  · simp [*]
  · split <;> simp <;> omega
theorem cmpI_zero (x y : Int) : compareInt x y = 0 ↔ x = y := by
  unfold compareInt
  split
  · simp; omega
  · split <;> simp <;> omega

/-- Two tables' places. -/
def plc (a b : Tb) : Int := if compareInt a.lev b.lev = 0 then (if a.lev = 0 then compareInt a.num b.num else cmpS a.first b.first) else compareInt a.lev b.lev
/-- .. and their numbers, where they are alike. -/
def cfT (a b : Tb) : Int := if plc a b = 0 then compareInt a.num b.num else plc a b

/-- Which of two stands first. -/
def tlt (a b : Tb) : Bool := if a.lev ≠ b.lev then decide (a.lev < b.lev) else if a.lev = 0 ∨ a.first = b.first then decide (a.num < b.num) else bl a.first b.first

theorem tlt_iff (a b : Tb) : tlt a b = true ↔ a.lev < b.lev ∨ (a.lev = b.lev ∧ ((a.lev = 0 ∧ a.num < b.num) ∨ (a.lev ≠ 0 ∧ (bl a.first b.first = true ∨ (a.first = b.first ∧ a.num < b.num))))) := by
  unfold tlt
  by_cases h : a.lev = b.lev
  · rw [if_neg (by simpa using h)]
    by_cases h0 : a.lev = 0
    · rw [if_pos (.inl h0)]
      simp [h0]
      rw [← h, h0]
      simp
    · by_cases hf : a.first = b.first
      · rw [if_pos (.inr hf)]
        simp [hf, h, bl_irrefl]
        rw [← h]
        simp [h0]
      · rw [if_neg (by simp [h0, hf])]
        simp [hf, h]
        rw [← h]
        simp [h0]
  · rw [if_pos h]
    simp [h]

theorem tlt_ltOf : ltOf cfT = tlt := by
  funext a b
  unfold ltOf
  rw [Bool.eq_iff_iff, decide_eq_true_eq, tlt_iff]
  unfold cfT plc
  have z1 := cmpI_zero a.lev b.lev
  have l1 := cmpI_lt a.lev b.lev
  have z2 := cmpI_zero a.num b.num
  have l2 := cmpI_lt a.num b.num
  have z3 := cmpS_zero a.first b.first
  have l3 := cmpS_lt a.first b.first
  by_cases h : a.lev = b.lev
  · rw [if_pos (z1.2 h)]
    by_cases h0 : a.lev = 0
    · rw [if_pos h0]
      split
      · rw [l2]
        simp [h0]
        omega
      · rw [l2]
        simp [h0]
        omega
    · rw [if_neg h0]
      split
      · rename_i hz
        have := z3.1 hz
        rw [l2]
        have hb : bl a.first b.first = false := by rw [this]; exact bl_irrefl _
        simp [h, this]
        have hb0 : b.lev ≠ 0 := by omega
        rw [this] at hb
        simp [hb0, hb]
      · rename_i hz
        rw [l3]
        have hne : a.first ≠ b.first := fun e => hz (z3.2 e)
        have hb0 : b.lev ≠ 0 := by omega
        simp [h, hne, hb0]
  · rw [if_neg (fun e => h (z1.1 e))]
    rw [if_neg (fun e => h (z1.1 e)), l1]
    simp [h]

theorem tlt_irrefl (x : Tb) : tlt x x = false := by
  cases h : tlt x x with
  | false => rfl
  | true =>
    rw [tlt_iff, bl_irrefl] at h
    simp at h

theorem tlt_trans (x y z : Tb) (h1 : tlt x y = true) (h2 : tlt y z = true) : tlt x z = true := by
  rw [tlt_iff] at *
  rcases h1 with h1 | ⟨e1, h1⟩
  · rcases h2 with h2 | ⟨e2, _⟩
    · exact .inl (by omega)
    · exact .inl (by omega)
  · rcases h2 with h2 | ⟨e2, h2⟩
    · exact .inl (by omega)
    · refine .inr ⟨by omega, ?_⟩
      rcases h1 with ⟨a1, b1⟩ | ⟨a1, b1⟩
      · rcases h2 with ⟨a2, b2⟩ | ⟨a2, b2⟩
        · exact .inl ⟨a1, by omega⟩
        · omega
      · rcases h2 with ⟨a2, b2⟩ | ⟨a2, b2⟩
        · omega
        · refine .inr ⟨a1, ?_⟩
          rcases b1 with b1 | ⟨f1, b1⟩
          · rcases b2 with b2 | ⟨f2, b2⟩
            · exact .inl (bl_trans b1 b2)
            · exact .inl (by rw [← f2]; exact b1)
          · rcases b2 with b2 | ⟨f2, b2⟩
            · exact .inl (by rw [f1]; exact b2)
            · exact .inr ⟨f1.trans f2, by omega⟩

/-- Neither stands first. -/
theorem tlt_same {x y : Tb} (h1 : tlt x y = false) (h2 : tlt y x = false) : x.lev = y.lev ∧ x.num = y.num ∧ (x.lev = 0 ∨ x.first = y.first) := by
  have k1 : ¬ tlt x y = true := by simp [h1]
  have k2 : ¬ tlt y x = true := by simp [h2]
  rw [tlt_iff] at k1 k2
  have e : x.lev = y.lev := by omega
  by_cases h0 : x.lev = 0
  · have : ¬ x.num < y.num := fun h => k1 (.inr ⟨e, .inl ⟨h0, h⟩⟩)
    have : ¬ y.num < x.num := fun h => k2 (.inr ⟨e.symm, .inl ⟨by omega, h⟩⟩)
    exact ⟨e, by omega, .inl h0⟩
  · have hf : x.first = y.first := by
      refine bl_total ?_ ?_
      · cases h : bl x.first y.first with
        | false => rfl
        | true => exact absurd (.inr ⟨e, .inr ⟨h0, .inl h⟩⟩) k1
      · cases h : bl y.first x.first with
        | false => rfl
        | true => exact absurd (.inr ⟨e.symm, .inr ⟨by omega, .inl h⟩⟩) k2
    have : ¬ x.num < y.num := fun h => k1 (.inr ⟨e, .inr ⟨h0, .inr ⟨hf, h⟩⟩⟩)
    have : ¬ y.num < x.num := fun h => k2 (.inr ⟨e.symm, .inr ⟨by omega, .inr ⟨hf.symm, h⟩⟩⟩)
    exact ⟨e, by omega, .inr hf⟩

theorem tlt_congr_left {x y z : Tb} (h1 : tlt x y = false) (h2 : tlt y x = false) : tlt x z = tlt y z := by
  obtain ⟨e, n, f⟩ := tlt_same h1 h2
  rw [Bool.eq_iff_iff, tlt_iff, tlt_iff, ← e, ← n]
  rcases f with f | f
  · simp [f]
  · rw [f]

theorem tlt_asymm {x y : Tb} (h : tlt x y = true) : tlt y x = false := by
  cases k : tlt y x with
  | false => rfl
  | true =>
    have := tlt_trans _ _ _ h k
    rw [tlt_irrefl] at this
    cases this

theorem tlt_swo : SWO tlt where
  irrefl := tlt_irrefl
  trans := tlt_trans
  ntrans x y z h1 h2 := by
    cases h3 : tlt y x with
    | false => rw [tlt_congr_left h1 h3]; exact h2
    | true =>
      cases h4 : tlt x z with
      | false => rfl
      | true => rw [tlt_trans _ _ _ h3 h4] at h2; cases h2

def leB (a b : ByteArray) : Bool := !bl b a
theorem leB_spell (a b : ByteArray) : (Op.bytesLess a.toList b.toList || a.toList == b.toList) = leB a b := by
  unfold leB
  rw [bl_spell]
  cases h : bl a b with
  | true => simp [bl_asymm h]
  | false =>
    rw [Bool.false_or]
    by_cases e : a = b
    · subst e
      simp [bl_irrefl]
    · rw [bl_ge h e]
      have : a.toList ≠ b.toList := fun h => e (Go.WideShapes.bytes_inj (by rw [← Go.ByteArray.toList_eq, ← Go.ByteArray.toList_eq]; exact h))
      simp [this]

/-- May a table be? -/
def mayT (t : Tb) (next : Int) : Bool := decide (1 ≤ t.num) && decide (t.num < next) && decide (0 ≤ t.lev) && decide (t.lev < 4) && decide (1 ≤ t.size) && decide (t.size < 4611686018427387904) && leB t.first t.last
/-- May b stand behind a? -/
def folT (a b : Tb) : Bool := decide (plc a b ≤ 0) && (decide (a.lev ≠ b.lev) || decide (a.lev = 0) || bl a.last b.first)

/-- Tables in order. -/
def srt (l : List Tb) : List Tb := l.mergeSort fun x y => !tlt y x

def Apart (l : List Tb) : Prop := l.Pairwise fun a b => a.num ≠ b.num
def Up (l : List Tb) : Prop := l.Pairwise fun a b => tlt b a = false

theorem srt_perm (l : List Tb) : (srt l).Perm l := List.mergeSort_perm _ _
theorem srt_up (l : List Tb) : Up (srt l) := by
  have h := List.pairwise_mergeSort (le := fun x y => !tlt y x) (fun a b c h1 h2 => by
    simp only [Bool.not_eq_true'] at *
    exact tlt_swo.ntrans _ _ _ h2 h1) (fun a b => by
    cases h : tlt b a with
    | false => simp
    | true => simp [tlt_asymm h]) l
  exact h.imp fun h => by simpa using h

theorem Apart.perm {l m : List Tb} (h : Apart l) (hp : l.Perm m) : Apart m := (hp.pairwise_iff (fun h => h.symm)).1 h

theorem apart_eq : ∀ {l : List Tb}, Apart l → ∀ {a b : Tb}, a ∈ l → b ∈ l → a.num = b.num → a = b
  | [], _, a, b, ha, _, _ => by cases ha
  | x :: l, h, a, b, ha, hb, he => by
    obtain ⟨hx, hl⟩ := List.pairwise_cons.1 h
    rcases List.mem_cons.1 ha with h1 | h1
    · rcases List.mem_cons.1 hb with h2 | h2
      · rw [h1, h2]
      · rw [h1] at he
        exact absurd he (hx b h2)
    · rcases List.mem_cons.1 hb with h2 | h2
      · rw [h2] at he
        exact absurd he.symm (hx a h1)
      · exact apart_eq hl h1 h2 he

/-- There is one order. -/
theorem up_uniq {l m : List Tb} (hp : l.Perm m) (hl : Up l) (hm : Up m) (ha : Apart l) : l = m := by
  refine List.Perm.eq_of_pairwise (le := fun a b => tlt b a = false) (fun a b ha' hb' h1 h2 => ?_) hl hm hp
  obtain ⟨_, hn, _⟩ := tlt_same h2 h1
  exact apart_eq ha ha' (hp.mem_iff.2 hb') hn

theorem srt_uniq {l m : List Tb} (hp : l.Perm m) (hm : Up m) (ha : Apart l) : m = srt l :=
  up_uniq (hp.symm.trans (srt_perm l).symm) hm (srt_up l) (ha.perm hp)
end Go.Proofs.Ythjimldojdhccaa
