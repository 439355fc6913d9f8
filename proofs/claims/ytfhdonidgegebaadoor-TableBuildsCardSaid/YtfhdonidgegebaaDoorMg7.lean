/- What the proof stands on, part 7. -/
import Derived.Test.YtfhdonidgegebaaDoorMg6
import Derived.Test.YtfhdonidgegebaaDoorRows
import Derived.Lib.Builder
import Derived.Lib.AppendStr
import Derived.Laws.Externs
import Derived.Shelf.Strings.Builder1
import Derived.Shelf.Small.Strs
import Derived.Shelf.Strings.BuilderF
import Derived.Shelf.Strings.BuilderK
import Derived.Shelf.Strings.Search1
import Derived.Shelf.Slices.CompactS
import Derived.Shelf.Slices.Cells
import Derived.Test.YtfhdonidgegebaaDoorProg
import Derived.Lib.Split
import Derived.Lib.IndexBytes
/- A table: its bytes. -/
namespace Go.Proofs.YtfhdonidgegebaaDoor
open Go Go.RowKit

/-- A key without its last nine bytes. -/
def stemB (k : ByteArray) : ByteArray := k.extract 0 (k.size - 9)

/-- How many first keys make a block. -/
def cutN (split : Int) : Nat → List ByteArray → Nat
  | _, [] => 0
  | s, k :: r => if split ≤ ((s + k.size : Nat) : Int) then 1 else cutN split (s + k.size) r + 1

theorem cutN_le (split : Int) : ∀ (l : List ByteArray) (s : Nat), cutN split s l ≤ l.length
  | [], _ => Nat.le_refl _
  | k :: r, s => by
    have := cutN_le split r (s + k.size)
    unfold cutN
    split <;> simp <;> omega

theorem cutN_pos (split : Int) (s : Nat) {l : List ByteArray} (h : l ≠ []) : 0 < cutN split s l := by
  cases l with
  | nil => exact absurd rfl h
  | cons k r =>
    unfold cutN
    split <;> omega

def blocksF (split : Int) : Nat → List ByteArray → List (List ByteArray)
  | 0, _ => []
  | f + 1, l => if l = [] then [] else l.take (cutN split 0 l) :: blocksF split f (l.drop (cutN split 0 l))

/-- Keys, cut into blocks. -/
def blocksL (split : Int) (l : List ByteArray) : List (List ByteArray) := blocksF split l.length l

theorem blocksF_nil (split : Int) : ∀ f, blocksF split f [] = []
  | 0 => rfl
  | f + 1 => by unfold blocksF; rw [if_pos rfl]

theorem blocksF_more (split : Int) : ∀ (f g : Nat) (l : List ByteArray), l.length ≤ f → l.length ≤ g → blocksF split f l = blocksF split g l
  | 0, g, l, h, _ => by
    have : l = [] := List.eq_nil_of_length_eq_zero (by omega)
    subst this
    rw [blocksF_nil, blocksF_nil]
  | f + 1, 0, l, _, h => by
    have : l = [] := List.eq_nil_of_length_eq_zero (by omega)
    subst this
    rw [blocksF_nil, blocksF_nil]
  | f + 1, g + 1, l, h1, h2 => by
    unfold blocksF
    by_cases h0 : l = []
    · rw [if_pos h0, if_pos h0]
    · have hp := cutN_pos split 0 h0
      have hd : (l.drop (cutN split 0 l)).length = l.length - cutN split 0 l := List.length_drop
      have hl : 0 < l.length := List.length_pos_iff.2 h0
      rw [if_neg h0, if_neg h0, blocksF_more split f g _ (by omega) (by omega)]

theorem blocksL_nil (split : Int) : blocksL split [] = [] := rfl

theorem blocksL_step (split : Int) {l : List ByteArray} (h : l ≠ []) : blocksL split l = l.take (cutN split 0 l) :: blocksL split (l.drop (cutN split 0 l)) := by
  have hl : 0 < l.length := List.length_pos_iff.2 h
  have hp := cutN_pos split 0 h
  have hd : (l.drop (cutN split 0 l)).length = l.length - cutN split 0 l := List.length_drop
  unfold blocksL
  obtain ⟨n, hn⟩ : ∃ n, l.length = n + 1 := ⟨l.length - 1, by omega⟩
  rw [hn]
  conv => lhs; unfold blocksF
  rw [if_neg h]
  rw [blocksF_more split n (l.drop (cutN split 0 l)).length _ (by omega) (Nat.le_refl _)]

theorem blocksL_join (split : Int) : ∀ (n : Nat) (l : List ByteArray), l.length ≤ n → (blocksL split l).flatMap (fun b => b) = l
  | 0, l, h => by
    have : l = [] := List.eq_nil_of_length_eq_zero (by omega)
    subst this
    rfl
  | n + 1, l, h => by
    by_cases h0 : l = []
    · subst h0; rfl
    · have hp := cutN_pos split 0 h0
      rw [blocksL_step split h0, List.flatMap_cons, blocksL_join split n _ (by rw [List.length_drop]; omega)]
      exact List.take_append_drop _ _

theorem blocksL_ne (split : Int) : ∀ (n : Nat) (l : List ByteArray), l.length ≤ n → ∀ b ∈ blocksL split l, b ≠ []
  | 0, l, h, b, hb => by
    have : l = [] := List.eq_nil_of_length_eq_zero (by omega)
    subst this
    exact absurd hb (by simp [blocksL_nil])
  | n + 1, l, h, b, hb => by
    by_cases h0 : l = []
    · subst h0
      exact absurd hb (by simp [blocksL_nil])
    · have hp := cutN_pos split 0 h0
      have hl : 0 < l.length := List.length_pos_iff.2 h0
      have hc := cutN_le split l 0
      rw [blocksL_step split h0] at hb
      rcases List.mem_cons.1 hb with rfl | hb
      · intro h1
        have h2 : (l.take (cutN split 0 l)).length = 0 := by rw [h1]; rfl
        rw [List.length_take] at h2
        omega
      · exact blocksL_ne split n _ (by rw [List.length_drop]; omega) b hb

theorem blocksL_count (split : Int) : ∀ (n : Nat) (l : List ByteArray), l.length ≤ n → (blocksL split l).length ≤ l.length
  | 0, l, h => by
    have : l = [] := List.eq_nil_of_length_eq_zero (by omega)
    subst this
    simp [blocksL_nil]
  | n + 1, l, h => by
    by_cases h0 : l = []
    · subst h0; simp [blocksL_nil]
    · have hp := cutN_pos split 0 h0
      have hc := cutN_le split l 0
      have ih := blocksL_count split n (l.drop (cutN split 0 l)) (by rw [List.length_drop]; omega)
      rw [blocksL_step split h0]
      rw [List.length_drop] at ih
      simp
      omega

/-- Where a block's frame stands, and with which key it begins. -/
structure Span where
  first : ByteArray
  at_ : Nat
  len : Nat

def Span.cells (s : Span) : List Value := [.string s.first, .int .i64 (s.at_ : Int), .int .i64 (s.len : Int)]
def spcells (l : List Span) : List Value := l.flatMap Span.cells
theorem spcells_length (l : List Span) : (spcells l).length = l.length * 3 := flat_length Span.cells 3 (fun _ => rfl) l
theorem spcells_snoc (l : List Span) (s : Span) : spcells (l ++ [s]) = spcells l ++ s.cells := by simp [spcells]
theorem spcells_one (l : List Span) : ∀ u ∈ spcells l, u.oneCell' = true := by
  intro u hu
  obtain ⟨s, _, hs⟩ := List.mem_flatMap.1 hu
  simp [Span.cells] at hs
  rcases hs with rfl | rfl | rfl <;> rfl

/-- The blocks' frames. -/
def dataL (bs : List (List ByteArray)) : List UInt8 := bs.flatMap fun b => sealL (buildL b)

theorem dataL_snoc (bs : List (List ByteArray)) (b : List ByteArray) : dataL (bs ++ [b]) = dataL bs ++ sealL (buildL b) := by simp [dataL]
theorem dataL_cons (bs : List (List ByteArray)) (b : List ByteArray) : dataL (b :: bs) = sealL (buildL b) ++ dataL bs := by simp [dataL]

def firstK (b : List ByteArray) : ByteArray := b.getD 0 ⟨#[]⟩

def spansF : Nat → List (List ByteArray) → List Span
  | _, [] => []
  | a, b :: r => ⟨firstK b, a, (sealL (buildL b)).length⟩ :: spansF (a + (sealL (buildL b)).length) r

theorem spansF_snoc (b : List ByteArray) : ∀ (bs : List (List ByteArray)) (a : Nat), spansF a (bs ++ [b]) = spansF a bs ++ [⟨firstK b, a + (dataL bs).length, (sealL (buildL b)).length⟩]
  | [], a => by simp [spansF, dataL]
  | x :: bs, a => by
    rw [List.cons_append, spansF, spansF, spansF_snoc b bs, dataL_cons, List.length_append, ← Nat.add_assoc]
    rfl

theorem spansF_length : ∀ (bs : List (List ByteArray)) (a : Nat), (spansF a bs).length = bs.length
  | [], a => rfl
  | x :: bs, a => by rw [spansF, List.length_cons, List.length_cons, spansF_length bs]

theorem spansF_at : ∀ (bs : List (List ByteArray)) (a i : Nat) (b : List ByteArray), bs[i]? = some b → (spansF a bs)[i]? = some ⟨firstK b, a + (dataL (bs.take i)).length, (sealL (buildL b)).length⟩
  | [], a, i, b, h => by simp at h
  | x :: bs, a, 0, b, h => by
    simp at h
    subst h
    simp [spansF, dataL]
  | x :: bs, a, i + 1, b, h => by
    rw [spansF, List.getElem?_cons_succ, spansF_at bs _ i b (by simpa using h), List.take_succ_cons, dataL_cons, List.length_append, ← Nat.add_assoc]

def encS (s : Span) : List UInt8 := enc s.first.size ++ s.first.data.toList ++ enc s.at_ ++ enc s.len

/-- The index' bytes. -/
def indexL (sp : List Span) : List UInt8 := enc sp.length ++ sp.flatMap encS

def be8 (N : Nat) : List UInt8 := (List.range 8).map fun i => UInt8.ofNat (N / 2 ^ (56 - 8 * i))

theorem be8_length (N : Nat) : (be8 N).length = 8 := by simp [be8]

/-- The foot of its numbers. -/
def footL (ns : List Nat) : List UInt8 := ns.flatMap be8 ++ [116, 98, 108, 49]

/-- The parts of a table, and the table. -/
def tabL (bs : List (List ByteArray)) (stems : List ByteArray) (n : Nat) (bits : Int) : List UInt8 :=
  dataL bs ++ sealL (indexL (spansF 0 bs)) ++ sealL (makeL (stems.map fun k => k.data.toList) bits) ++
    footL [(dataL bs).length, (dataL bs).length + (sealL (indexL (spansF 0 bs))).length, n]

/-- What is wrong with keys. -/
def checkL (ks : List ByteArray) (split : Int) : Nat :=
  if ks = [] ∨ split < 1 then 1
  else if ks.any (fun k => (outer k.data.toList).isNone) then 9
  else if (List.range (ks.length - 1)).any (fun i => !bl (ks.getD i ⟨#[]⟩) (ks.getD (i + 1) ⟨#[]⟩)) then 11
  else 0

theorem check_rises {ks : List ByteArray} {split : Int} (h : checkL ks split = 0) : ks ≠ [] ∧ 1 ≤ split ∧ (∀ k ∈ ks, ∃ x, outer k.data.toList = some x) ∧ rises ks := by
  unfold checkL at h
  split at h
  · simp at h
  · rename_i h1
    split at h
    · simp at h
    · rename_i h2
      split at h
      · simp at h
      · rename_i h3
        refine ⟨fun e => h1 (.inl e), by omega, fun k hk => ?_, ?_⟩
        · simp only [List.any_eq_true, not_exists, not_and] at h2
          have := h2 k hk
          cases ho : outer k.data.toList with
          | none => rw [ho] at this; simp at this
          | some x => exact ⟨x, rfl⟩
        · apply rises_of_steps
          intro i h0 hi x y hx hy
          simp only [List.any_eq_true, not_exists, not_and, List.mem_range] at h3
          have := h3 (i - 1) (by omega)
          rw [List.getD_eq_getElem?_getD, List.getD_eq_getElem?_getD, hx, show i - 1 + 1 = i by omega, hy] at this
          simpa using this
end Go.Proofs.YtfhdonidgegebaaDoor

/- A reader's number and text. -/
namespace Go.Proofs.YtfhdonidgegebaaDoor
open Go Go.RowKit

/-- A reader in block g. -/
def RdAt (B : Nat) (w : World) (g : Nat) (rest : List UInt8) (bad : Bool) : Prop :=
  ∃ rv, w.heap[g]? = some (.cells #[rv, .bool bad] 111 (0, 0)) ∧ Sl B w rv rest ∧ B ≤ g

def RdPost (B : Nat) (w : World) (g : Nat) (rest : List UInt8) (bad : Bool) (v : Value) (e : Ending) (w' : World) : Prop :=
  e = .returned v ∧ RdAt B w' g rest bad ∧ Touch w w' [g]

theorem getGo_le (l : List UInt8) : (getGo 0 0 l).2.1 ≤ l.length := by
  by_cases h : (getGo 0 0 l).2.2 = 0
  · have := getGo_ok l 0 0 (getGo 0 0 l).1 (getGo 0 0 l).2.1 (by decide) (Prod.ext rfl (Prod.ext rfl h))
    omega
  · exact getGo_err l 0 0 h

theorem getText_le (l : List UInt8) : (getText l).2.1 ≤ l.length := by
  by_cases h : (getText l).2.2 = 0
  · exact getText_used l h
  · unfold getText at h ⊢
    split
    · rename_i h1
      rw [if_pos h1] at h
      split
      · exact Nat.zero_le _
      · rename_i h2
        rw [if_neg h2] at h
        exact absurd rfl h
    · exact Nat.zero_le _

set_option maxRecDepth 100000 in
set_option maxHeartbeats 2000000 in
theorem number_any (B : Nat) (w : World) (g : Nat) (rest : List UInt8) (bad : Bool) (h : RdAt B w g rest bad) :
    Calls Tryd.prog 68 #[.pointer (some ⟨g, 0, none⟩)] w (RdPost B w g (rest.drop (getGo 0 0 rest).2.1) (bad || decide ((getGo 0 0 rest).2.2 ≠ 0)) (.int .u64 ((getGo 0 0 rest).1 : Int))) := by
  obtain ⟨v, hg, hs, hB⟩ := h
  have hk := getGo_le rest
  have hget := get_any w v _ rest hs.reads
  have hcut := fun {k : Nat} (hk : k ≤ rest.length) => hs.cut hk
  have hlt : g < w.heap.size := (Array.getElem?_eq_some_iff.1 hg).1
  generalize getGo 0 0 rest = r at *
  obtain ⟨sv, k, e⟩ := r
  dsimp only at hk ⊢
  have hst : ((w.setCell ⟨g, 1, none⟩ (.bool (bad || decide (e ≠ 0)))).setCell ⟨g, 0, none⟩ (cutV v k)).heap[g]? = some (.cells #[cutV v k, .bool (bad || decide (e ≠ 0))] 111 (0, 0)) := by
    rw [heap_setCell_same _ _ 0 _ _ _ (heap_setCell_same _ _ 1 _ _ _ hg)]
    rfl
  have c0 := Lib.cell_of_heap hg 0
  have c1 := Lib.cell_of_heap hg 1
  have f0 := Lib.frozen_of_heap hg
  simp at c0 c1
  have hne : ((e : Int) != 0) = decide (e ≠ 0) := by
    by_cases h : e = 0
    · subst h; rfl
    · simp [h]
  have htc : Touch w ((w.setCell ⟨g, 1, none⟩ (.bool (bad || decide (e ≠ 0)))).setCell ⟨g, 0, none⟩ (cutV v k)) [g] := ((Touch.refl w [g]).setCell (p := ⟨g, 1, none⟩) (.inl (by simp)) _).setCell (p := ⟨g, 0, none⟩) (.inl (by simp)) _
  have hfin : RdAt B ((w.setCell ⟨g, 1, none⟩ (.bool (bad || decide (e ≠ 0)))).setCell ⟨g, 0, none⟩ (cutV v k)) g (rest.drop k) (bad || decide (e ≠ 0)) ∧ Touch w ((w.setCell ⟨g, 1, none⟩ (.bool (bad || decide (e ≠ 0)))).setCell ⟨g, 0, none⟩ (cutV v k)) [g] :=
    ⟨⟨_, hst, htc.sl (hcut hk) hB, hB⟩, htc⟩
  have HF := Lib.hid hfin
  have HGet := Lib.hid hget
  clear hfin htc hst hcut hg hget
  generalize hd : decide (e ≠ 0) = d at *
  have HD := Lib.hid hd
  clear hd
  rcases hs with ⟨⟨ax, rfl⟩, rfl⟩ | ⟨b, off, cap, rfl, _, _, hr⟩
  · have hk0 : k = 0 := by simpa using hk
    subst hk0
    rw [cutV_zero] at HF
    rcases ax with _ | ax <;> cases bad <;> cases d
    all_goals
      go_enter Tryd.func68, Tryd.ntmps68
      go_wp2_with (go_at_call 82; go_must (refine HGet.out.mono ?_))
      rintro e1 w1 ⟨rfl, rfl⟩
      go_wp2
      go_ret
      exact ⟨rfl, HF.out.1, HF.out.2⟩
  · obtain ⟨_, _, hv, hc1, hc2⟩ := hr.le
    cases hv
    unfold maxLen at hc2
    rw [cutV_some] at HF
    have hkI : (k : Int) ≤ (rest.length : Int) := by omega
    have hle1 : ((rest.length - k : Nat) : Int) = (rest.length : Int) - (k : Int) := by omega
    have hle2 : ((cap - k : Nat) : Int) = (cap : Int) - (k : Int) := by omega
    by_cases hck : cap = k
    · rw [if_pos hck] at HF
      have hz1 : rest.length - k = 0 := by omega
      have hz2 : cap - k = 0 := by omega
      rw [hz1, hz2] at HF
      have hlk : rest.length = k := by omega
      subst hck
      rw [hlk] at c0 HGet
      cases bad <;> cases d
      all_goals
        go_enter Tryd.func68, Tryd.ntmps68
        go_wp2_with (go_at_call 82; go_must (refine HGet.out.mono ?_))
        rintro e1 w1 ⟨rfl, rfl⟩
        go_wp2
        go_ret
        exact ⟨rfl, HF.out.1, HF.out.2⟩
    · rw [if_neg hck] at HF
      have hck' : ¬ ((cap : Int) = k) := by omega
      cases bad <;> cases d
      all_goals
        go_enter Tryd.func68, Tryd.ntmps68
        go_wp2_with (go_at_call 82; go_must (refine HGet.out.mono ?_))
        rintro e1 w1 ⟨rfl, rfl⟩
        go_wp2
        go_ret
        exact ⟨rfl, HF.out.1, HF.out.2⟩

set_option maxRecDepth 100000 in
set_option maxHeartbeats 2000000 in
theorem text_any (B : Nat) (w : World) (g : Nat) (rest : List UInt8) (bad : Bool) (h : RdAt B w g rest bad) :
    Calls Tryd.prog 69 #[.pointer (some ⟨g, 0, none⟩)] w (RdPost B w g (rest.drop (getText rest).2.1) (bad || decide ((getText rest).2.2 ≠ 0)) (.string ⟨(getText rest).1.toArray⟩)) := by
  obtain ⟨v, hg, hs, hB⟩ := h
  have hk := getText_le rest
  have hget := gettext_any w v _ rest hs.reads
  have hcut := fun {k : Nat} (hk : k ≤ rest.length) => hs.cut hk
  have hlt : g < w.heap.size := (Array.getElem?_eq_some_iff.1 hg).1
  generalize getText rest = r at *
  obtain ⟨sv, k, e⟩ := r
  dsimp only at hk ⊢
  have hst : ((w.setCell ⟨g, 1, none⟩ (.bool (bad || decide (e ≠ 0)))).setCell ⟨g, 0, none⟩ (cutV v k)).heap[g]? = some (.cells #[cutV v k, .bool (bad || decide (e ≠ 0))] 111 (0, 0)) := by
    rw [heap_setCell_same _ _ 0 _ _ _ (heap_setCell_same _ _ 1 _ _ _ hg)]
    rfl
  have c0 := Lib.cell_of_heap hg 0
  have c1 := Lib.cell_of_heap hg 1
  have f0 := Lib.frozen_of_heap hg
  simp at c0 c1
  have hne : ((e : Int) != 0) = decide (e ≠ 0) := by
    by_cases h : e = 0
    · subst h; rfl
    · simp [h]
  have htc : Touch w ((w.setCell ⟨g, 1, none⟩ (.bool (bad || decide (e ≠ 0)))).setCell ⟨g, 0, none⟩ (cutV v k)) [g] := ((Touch.refl w [g]).setCell (p := ⟨g, 1, none⟩) (.inl (by simp)) _).setCell (p := ⟨g, 0, none⟩) (.inl (by simp)) _
  have hfin : RdAt B ((w.setCell ⟨g, 1, none⟩ (.bool (bad || decide (e ≠ 0)))).setCell ⟨g, 0, none⟩ (cutV v k)) g (rest.drop k) (bad || decide (e ≠ 0)) ∧ Touch w ((w.setCell ⟨g, 1, none⟩ (.bool (bad || decide (e ≠ 0)))).setCell ⟨g, 0, none⟩ (cutV v k)) [g] :=
    ⟨⟨_, hst, htc.sl (hcut hk) hB, hB⟩, htc⟩
  have HF := Lib.hid hfin
  have HGet := Lib.hid hget
  clear hfin htc hst hcut hg hget
  generalize hd : decide (e ≠ 0) = d at *
  have HD := Lib.hid hd
  clear hd
  rcases hs with ⟨⟨ax, rfl⟩, rfl⟩ | ⟨b, off, cap, rfl, _, _, hr⟩
  · have hk0 : k = 0 := by simpa using hk
    subst hk0
    rw [cutV_zero] at HF
    rcases ax with _ | ax <;> cases bad <;> cases d
    all_goals
      go_enter Tryd.func69, Tryd.ntmps69
      go_wp2_with (go_at_call 83; go_must (refine HGet.out.mono ?_))
      rintro e1 w1 ⟨rfl, rfl⟩
      go_wp2
      go_ret
      exact ⟨rfl, HF.out.1, HF.out.2⟩
  · obtain ⟨_, _, hv, hc1, hc2⟩ := hr.le
    cases hv
    unfold maxLen at hc2
    rw [cutV_some] at HF
    have hkI : (k : Int) ≤ (rest.length : Int) := by omega
    have hle1 : ((rest.length - k : Nat) : Int) = (rest.length : Int) - (k : Int) := by omega
    have hle2 : ((cap - k : Nat) : Int) = (cap : Int) - (k : Int) := by omega
    by_cases hck : cap = k
    · rw [if_pos hck] at HF
      have hz1 : rest.length - k = 0 := by omega
      have hz2 : cap - k = 0 := by omega
      rw [hz1, hz2] at HF
      have hlk : rest.length = k := by omega
      subst hck
      rw [hlk] at c0 HGet
      cases bad <;> cases d
      all_goals
        go_enter Tryd.func69, Tryd.ntmps69
        go_wp2_with (go_at_call 83; go_must (refine HGet.out.mono ?_))
        rintro e1 w1 ⟨rfl, rfl⟩
        go_wp2
        go_ret
        exact ⟨rfl, HF.out.1, HF.out.2⟩
    · rw [if_neg hck] at HF
      have hck' : ¬ ((cap : Int) = k) := by omega
      cases bad <;> cases d
      all_goals
        go_enter Tryd.func69, Tryd.ntmps69
        go_wp2_with (go_at_call 83; go_must (refine HGet.out.mono ?_))
        rintro e1 w1 ⟨rfl, rfl⟩
        go_wp2
        go_ret
        exact ⟨rfl, HF.out.1, HF.out.2⟩
end Go.Proofs.YtfhdonidgegebaaDoor

/- strings.Builder: what its methods leave. -/
namespace Go.Proofs.YtfhdonidgegebaaDoor
open Go Go.RowKit

theorem sizeBuilder : (Tryd.prog.info? 135).map (·.size) = some 2 := by kernel_rfl
theorem liesBuilder : liesAt Tryd.prog Tryd.prog.depth 135 (2 / Tryd.prog.cellsOf 135) 0 135 1 = true := by kernel_rfl
theorem infoByte : (Tryd.prog.info? 5).map (fun i => (i.zero, i.size, i.bytes)) = some (some (.int .u8 0), 1, 1) := by kernel_rfl

set_option maxRecDepth 100000 in
set_option maxHeartbeats 1000000 in
theorem copyCheck_used (w : World) (b : Nat) (c0 : w.cell? ⟨b, 0, none⟩ = some (.pointer (some ⟨b, 0, none⟩))) :
    Calls Tryd.prog 92 #[.pointer (some ⟨b, 0, none⟩)] w fun e w' => e = .returned (.tuple #[]) ∧ w = w' := by
  obtain ⟨j, hj, _⟩ := Option.map_eq_some_iff.1 sizeBuilder
  go_enter Tryd.func92, Tryd.ntmps92
  go_wp2
  rw [Lib.run_neq_ptr_same w _ Tryd.underlying133 hj]
  go_wp2
  go_end0
  exact ⟨rfl, rfl⟩

set_option maxRecDepth 100000 in
set_option maxHeartbeats 1000000 in
theorem copyCheck_new (w : World) (b : Nat) (c0 : w.cell? ⟨b, 0, none⟩ = some (.pointer none)) (hsh : w.shape? b = some (135, 2)) (hfz : w.frozen? ⟨b, 0, none⟩ = false) :
    Calls Tryd.prog 92 #[.pointer (some ⟨b, 0, none⟩)] w fun e w' => e = .returned (.tuple #[]) ∧ w' = w.setCell ⟨b, 0, none⟩ (.pointer (some ⟨b, 0, none⟩)) := by
  obtain ⟨j, hj, hjs⟩ := Option.map_eq_some_iff.1 sizeBuilder
  go_enter Tryd.func92, Tryd.ntmps92
  go_wp2
  rw [Lib.run_to_unsafe w ⟨b, 0, none⟩ Tryd.underlying133 Tryd.underlying144 hj (by rw [hjs]; decide) hsh (Nat.zero_lt_succ 1)]
  simp only [Result.andThen]
  rw [Oper.upon_value]
  go_wp2
  rw [run_callFunc_extern Tryd.func94 (by kernel_rfl) (by kernel_rfl) (by kernel_rfl) (e := Extern.AbiNoEscape.same) (by kernel_rfl)]
  rw [Lib.run_noEscape]
  simp only [Result.andThen]
  rw [Oper.upon_value]
  go_wp2
  rw [Lib.run_from_unsafe w ⟨b, 0, none⟩ Tryd.underlying144 Tryd.underlying133 hj hsh liesBuilder]
  simp only [Result.andThen]
  rw [Oper.upon_value]
  go_wp2
  go_end0
  exact ⟨rfl, rfl⟩

theorem copyCheck_any (B b : Nat) (bs : List Value) (w : World) (h : Lib.IsBuilder 135 5 B b bs w) :
    Calls Tryd.prog 92 #[.pointer (some ⟨b, 0, none⟩)] w fun e w' => e = .returned (.tuple #[]) ∧ Lib.BuilderAt 135 5 B b (.pointer (some ⟨b, 0, none⟩)) bs w' ∧ Below B w w' := by
  rcases h with h | h
  · refine (copyCheck_new w b h.cell0 h.shape h.frozen0).mono ?_
    rintro e w' ⟨rfl, rfl⟩
    exact ⟨rfl, h.used _, (Below.refl B w).setCell (p := ⟨b, 0, none⟩) h.1 _⟩
  · refine (copyCheck_used w b h.cell0).mono ?_
    rintro e w' ⟨rfl, rfl⟩
    exact ⟨rfl, h, Below.refl B w⟩

set_option maxRecDepth 100000 in
set_option maxHeartbeats 1000000 in
theorem writeByte_any (B b : Nat) (bs : List Value) (c : UInt8) (w : World) (h : Lib.IsBuilder 135 5 B b bs w) (hlen : bs.length ≤ 100000000000) (hBw : B ≤ w.heap.size) :
    Calls Tryd.prog 89 #[.pointer (some ⟨b, 0, none⟩), .int .u8 (c.toNat : Int)] w fun e w' => e = .returned .nilIface ∧ Lib.IsBuilder 135 5 B b (bs ++ bcells [c]) w' ∧ Below B w w' := by
  obtain ⟨i0, hi, hz0, hz1, hz2⟩ := info_parts infoByte
  go_enter Tryd.func89, Tryd.ntmps89
  go_wp2_with (go_at_call 92; go_must (refine (copyCheck_any B b bs _ h).mono ?_))
  rintro e w1 ⟨rfl, h1, hb1⟩
  obtain ⟨hB, v, hbk, hown, hne⟩ := h1
  have c0 : w1.cell? ⟨b, 0, none⟩ = some (.pointer (some ⟨b, 0, none⟩)) := by rw [Lib.cell_of_heap hbk]; rfl
  have c1 : w1.cell? ⟨b, 1, none⟩ = some v := by rw [Lib.cell_of_heap hbk]; rfl
  have hBw1 : B ≤ w1.heap.size := Nat.le_trans hBw hb1.size
  have Hbk := Lib.hid hbk
  have Hown := Lib.hid hown
  have Hne := Lib.hid hne
  clear hbk hown h hne
  have hblt : b < w1.heap.size := World.block_lt_of_cell? _ _ c0
  go_wp2_with (at_builtin; go_must (refine wpList_append_own _ rfl _ _ 24 rfl B 5 i0 (.int .u8 0) 1 1 Tryd.underlying24 hi hz0 hz1 hz2 rfl (by decide) _ _ _ rfl (Hown.out.alloc _) ⟨w1.heap.size, 0, none⟩ 1 1 (bcells [c]) rfl rfl ?_ ?_ ?_ ?_ ?_ ?_))
  · intro j u hj
    match j, hj with
    | 0, hj =>
      simp [bcells] at hj
      subst hj
      rw [Addr.add_lit]
      exact World.cell?_alloc_new w1 _ _ 0
    | j + 1, hj => simp [bcells] at hj
  · exact bcells_one [c]
  · unfold maxLen; omega
  · omega
  · simp; omega
  intro v2 w2 hown2 hg2 _
  have hb2 : w2.heap[b]? = some (.cells #[.pointer (some ⟨b, 0, none⟩), v] 135 (0, 0)) := by
    rw [hg2.block b (by simp; omega) (fun e => Hne.out e.symm), Below.heap_alloc w1 _ b hblt]
    exact Hbk.out
  have d0 : w2.cell? ⟨b, 0, none⟩ = some (.pointer (some ⟨b, 0, none⟩)) := by rw [Lib.cell_of_heap hb2]; rfl
  have d1 : w2.cell? ⟨b, 1, none⟩ = some v := by rw [Lib.cell_of_heap hb2]; rfl
  have f1 : w2.frozen? ⟨b, 1, none⟩ = false := Lib.frozen_of_heap hb2 1
  obtain ⟨g, cap, rfl⟩ : ∃ g cap, v2 = .slice (some ⟨g, 0, none⟩) (bs.length + 1) cap := by
    rcases hown2.2 with ⟨_, h0⟩ | ⟨g, cap, cur, hv, _⟩
    · omega
    · exact ⟨g, cap, hv⟩
  have Hb2 := Lib.hid hb2
  have Hown2 := Lib.hid hown2
  have hbel : Below B w w2 := (hb1.alloc hBw1 _).grown hg2 (by simp; omega) (fun k hk => (Hown.out.lt k hk).1)
  clear hb2 hown2 c0 c1
  go_wp2
  go_ret
  refine ⟨rfl, .inr ?_, hbel.setCell (p := ⟨b, 1, none⟩) hB _⟩
  exact Lib.BuilderAt.put (T := 135) (e := 5) hB Hb2.out (bs' := bs ++ bcells [c]) (by simpa [bcells] using Hown2.out) (by decide)
end Go.Proofs.YtfhdonidgegebaaDoor

/- strings.Builder: WriteString. -/
namespace Go.Proofs.YtfhdonidgegebaaDoor
open Go Go.RowKit

set_option maxRecDepth 100000 in
set_option maxHeartbeats 1000000 in
theorem writeString_any (B b : Nat) (bs : List Value) (s : ByteArray) (w : World) (h : Lib.IsBuilder 135 5 B b bs w) (hlen : bs.length + s.size ≤ 100000000000) (hBw : B ≤ w.heap.size) :
    Calls Tryd.prog 87 #[.pointer (some ⟨b, 0, none⟩), .string s] w fun e w' => e = .returned (.tuple #[.int .i64 s.size, .nilIface]) ∧ Lib.IsBuilder 135 5 B b (bs ++ bcells s.data.toList) w' ∧ Below B w w' := by
  obtain ⟨i0, hi, hz0, hz1, hz2⟩ := info_parts infoByte
  go_enter Tryd.func87, Tryd.ntmps87
  go_wp2_with (go_at_call 92; go_must (refine (copyCheck_any B b bs _ h).mono ?_))
  rintro e w1 ⟨rfl, h1, hb1⟩
  obtain ⟨hB, v, hbk, hown, hne⟩ := h1
  have c0 : w1.cell? ⟨b, 0, none⟩ = some (.pointer (some ⟨b, 0, none⟩)) := by rw [Lib.cell_of_heap hbk]; rfl
  have c1 : w1.cell? ⟨b, 1, none⟩ = some v := by rw [Lib.cell_of_heap hbk]; rfl
  have hBw1 : B ≤ w1.heap.size := Nat.le_trans hBw hb1.size
  have Hbk := Lib.hid hbk
  have Hown := Lib.hid hown
  have Hne := Lib.hid hne
  clear hbk hown h hne
  have hblt : b < w1.heap.size := World.block_lt_of_cell? _ _ c0
  go_wp2_with (at_builtin; go_must (refine Lib.wpList_append_own_string _ rfl _ _ 24 9 rfl B 5 i0 Tryd.underlying24 Tryd.underlying9 hi hz0 hz1 hz2 _ _ _ rfl Hown.out s rfl ?_ ?_ hBw1 ?_))
  · unfold maxLen; omega
  · omega
  intro v2 w2 hown2 hg2 _
  have hb2 : w2.heap[b]? = some (.cells #[.pointer (some ⟨b, 0, none⟩), v] 135 (0, 0)) := by
    rw [hg2.block b hblt (fun e => Hne.out e.symm)]
    exact Hbk.out
  have d0 : w2.cell? ⟨b, 0, none⟩ = some (.pointer (some ⟨b, 0, none⟩)) := by rw [Lib.cell_of_heap hb2]; rfl
  have d1 : w2.cell? ⟨b, 1, none⟩ = some v := by rw [Lib.cell_of_heap hb2]; rfl
  have f1 : w2.frozen? ⟨b, 1, none⟩ = false := Lib.frozen_of_heap hb2 1
  obtain ⟨a2, cap, rfl⟩ : ∃ a2 cap, v2 = .slice a2 (bs.length + s.size) cap := by
    rcases hown2.2 with ⟨hv, h0⟩ | ⟨g, cap, cur, hv, _⟩
    · exact ⟨none, 0, by rw [hv, h0]⟩
    · exact ⟨_, cap, hv⟩
  have Hb2 := Lib.hid hb2
  have Hown2 := Lib.hid hown2
  have hbel : Below B w w2 := hb1.grown hg2 hBw1 (fun k hk => (Hown.out.lt k hk).1)
  clear hb2 hown2 c0 c1
  go_wp2
  go_ret2
  refine ⟨rfl, .inr ?_, hbel.setCell (p := ⟨b, 1, none⟩) hB _⟩
  have hl : (bs ++ bcells s.data.toList).length = bs.length + s.size := by rw [List.length_append, bcells_length, Array.length_toList]; rfl
  exact Lib.BuilderAt.put (T := 135) (e := 5) hB Hb2.out (bs' := bs ++ bcells s.data.toList) (by rw [hl]; exact Hown2.out) (by decide)
end Go.Proofs.YtfhdonidgegebaaDoor

/-
  DERIVED: THE SHELF's CONTRACTS AT THIS DUMP, IN PLAIN WORDS (tools/lay-plain.mjs out of 'TrydShelf.lean', which tools/lay-shelf.mjs wrote): THE SAME DECLARATIONS UNDER THE SAME NAMES: 'import', 'namespace', 'open', 'def', 'theorem' AND NOTHING ELSE: no command of the shelf's: FOR A HAND-IN. Each laying: the table of numbers ('.._ren') and one theorem, a field a fact of the dump's own or the kernel's comparison; each contract: ONE APPLICATION.
-/
namespace Go.Proofs
open Go.Shelf
def Tryd.lays169_ren : Go.Shelf.Ren := ⟨fun | 169 => 88 | n => n, fun | 70 => 133 | 9 => 9 | 0 => 0 | 72 => 135 | 37 => 24 | 127 => 143 | 3 => 3 | 5 => 5 | n => n, fun | n => n⟩
theorem Tryd.lays169 : Go.Proofs.Lays.n169 Tryd.prog Tryd.lays169_ren := {
  mixed := by kernel_rfl
  f169 := Tryd.func88.trans (congrArg some (by kernel_rfl))
  t0 := Tryd.underlying0
  a0 := Tryd.isAgg0
  z0 := Tryd.sizeOf0
  v0 := Tryd.zeroValue0
  t3 := Tryd.underlying3
  a3 := Tryd.isAgg3
  z3 := Tryd.sizeOf3
  v3 := Tryd.zeroValue3
  t9 := Tryd.underlying9
  a9 := Tryd.isAgg9
  z9 := Tryd.sizeOf9
  v9 := Tryd.zeroValue9
  t37 := Tryd.underlying24
  a37 := Tryd.isAgg24
  z37 := Tryd.sizeOf24
  v37 := Tryd.zeroValue24
  t70 := Tryd.underlying133
  a70 := Tryd.isAgg133
  z70 := Tryd.sizeOf133
  v70 := Tryd.zeroValue133
  t72 := Tryd.underlying135
  a72 := Tryd.isAgg135
  z72 := Tryd.sizeOf135
  v72 := Tryd.zeroValue135
  t127 := Tryd.underlying143
  a127 := Tryd.isAgg143
  z127 := Tryd.sizeOf143
  v127 := Tryd.zeroValue143 }
theorem Tryd.Builder_Extra_169 : Builder.Extra Tryd.prog Tryd.lays169_ren := {
  sizeBuilder := by kernel_rfl
  liesBuilder := by kernel_rfl
  t5 := Tryd.underlying5
  a5 := Tryd.isAgg5
  z5 := Tryd.sizeOf5
  v5 := Tryd.zeroValue5
  infoByte := by kernel_rfl
  cellsByte := by kernel_rfl
  sizeByte := by kernel_rfl
  neB5 := by decide }
open Go.RowKit in
/-- (*strings.Builder).String: "String returns the accumulated string.": OF A BUILDER THAT HOLDS AT LEAST ONE BYTE. ✋ THE MODEL FREEZES THOSE BYTES IN THE BUFFER (unsafe.String): a later write INTO them ends the model's run without an answer; a later append BEHIND them goes on. The statement's order of evaluation is drawn: one draw. (LAID: no walk: one application.) -/
theorem Tryd.Builder_String (B b : Nat) (l : List UInt8) (w : World) (h : Lib.IsBuilder 135 5 B b (Lib.byteCells l) w) (h0 : l ≠ []) :
    Calls Tryd.prog 88 #[.pointer (some ⟨b, 0, none⟩)] w fun e w' => e = .returned (.string ⟨l.toArray⟩) ∧ Below B w w' := Any.Builder_String Tryd.lays169 Tryd.Builder_Extra_169 B b l w h h0
open Go.RowKit in
/-- (*strings.Builder).String OF A BUILDER THAT HOLDS NO BYTE: the empty string. (Its buffer is nil, or a row of which it has taken nothing yet; where that row has NO capacity the model lays one new block for unsafe.SliceData's 'some address'.) One draw. (LAID: no walk: one application.) -/
theorem Tryd.Builder_String_empty (B b : Nat) (w : World) (h : Lib.IsBuilder 135 5 B b [] w) (hBw : B ≤ w.heap.size) :
    Calls Tryd.prog 88 #[.pointer (some ⟨b, 0, none⟩)] w fun e w' => e = .returned (.string ⟨#[]⟩) ∧ Below B w w' := Any.Builder_String_empty Tryd.lays169 Tryd.Builder_Extra_169 B b w h hBw
open Go.RowKit in
/-- (*strings.Builder).String: "String returns the accumulated string.": WHATEVER THE BUILDER HOLDS. (LAID: no walk: one application.) -/
theorem Tryd.Builder_String_any (B b : Nat) (l : List UInt8) (w : World) (h : Lib.IsBuilder 135 5 B b (Lib.byteCells l) w) (hBw : B ≤ w.heap.size) :
    Calls Tryd.prog 88 #[.pointer (some ⟨b, 0, none⟩)] w fun e w' => e = .returned (.string ⟨l.toArray⟩) ∧ Below B w w' := Any.Builder_String_any Tryd.lays169 Tryd.Builder_Extra_169 B b l w h hBw
def Tryd.lays137_ren : Go.Shelf.Ren := ⟨fun | 137 => 86 | 217 => 91 | 266 => 93 | n => n, fun | 9 => 9 | 5 => 5 | 3 => 3 | n => n, fun | n => n⟩
theorem Tryd.lays137 : Go.Proofs.Lays.n137 Tryd.prog Tryd.lays137_ren := {
  mixed := by kernel_rfl
  f137 := Tryd.func86.trans (congrArg some (by kernel_rfl))
  f217 := Tryd.func91.trans (congrArg some (by kernel_rfl))
  f266 := Tryd.func93.trans (congrArg some (by kernel_rfl))
  t3 := Tryd.underlying3
  a3 := Tryd.isAgg3
  z3 := Tryd.sizeOf3
  v3 := Tryd.zeroValue3
  t5 := Tryd.underlying5
  a5 := Tryd.isAgg5
  z5 := Tryd.sizeOf5
  v5 := Tryd.zeroValue5
  t9 := Tryd.underlying9
  a9 := Tryd.isAgg9
  z9 := Tryd.sizeOf9
  v9 := Tryd.zeroValue9 }
open Go.RowKit in
/-- strings.IndexByte: "IndexByte returns the index of the first instance of c in s, or -1 if c is not present in s.": IT RETURNS 'Lib.indexByte s c'; the world is as it was. (LAID: no walk: one application.) -/
theorem Tryd.strings_IndexByte (s : ByteArray) (c : Int) (w : World) :
    Calls Tryd.prog 86 #[.string s, .int .u8 c] w fun e w' => e = .returned (.int .i64 (Lib.indexByte s.data.toList c.toNat.toUInt8)) ∧ w' = w := Any.strings_IndexByte Tryd.lays137 s c w
open Go.RowKit in
/-- (*strings.Builder).String: "String returns the accumulated string.": OF A BUILDER THAT HOLDS AT LEAST ONE BYTE. ✋ THE MODEL FREEZES THOSE BYTES IN THE BUFFER (unsafe.String): a later write INTO them ends the model's run without an answer; a later append BEHIND them goes on. The statement's order of evaluation is drawn: one draw. THE FORM '_f': IT SAYS BESIDES THAT THE BUILDER IS A BUILDER STILL ('Lib.IsBuilderF', the same bytes): SO IT CAN BE WRITTEN ON: 'b.WriteString(b.String()[:k])'. (LAID: no walk: one application.) -/
theorem Tryd.Builder_String_f (B b : Nat) (l : List UInt8) (w : World) (h : Lib.IsBuilderF 135 5 B b (Lib.byteCells l) w) (h0 : l ≠ []) :
    Calls Tryd.prog 88 #[.pointer (some ⟨b, 0, none⟩)] w fun e w' => e = .returned (.string ⟨l.toArray⟩) ∧ (Lib.IsBuilderF 135 5 B b (Lib.byteCells l) w' ∧ Below B w w') := Any.Builder_String_f Tryd.lays169 Tryd.Builder_Extra_169 B b l w h h0
open Go.RowKit in
/-- (*strings.Builder).String OF A BUILDER THAT HOLDS NO BYTE: the empty string; THE FORM '_f': a builder still. (LAID: no walk: one application.) -/
theorem Tryd.Builder_String_empty_f (B b : Nat) (w : World) (h : Lib.IsBuilderF 135 5 B b [] w) (hBw : B ≤ w.heap.size) :
    Calls Tryd.prog 88 #[.pointer (some ⟨b, 0, none⟩)] w fun e w' => e = .returned (.string ⟨#[]⟩) ∧ (Lib.IsBuilderF 135 5 B b [] w' ∧ Below B w w') := Any.Builder_String_empty_f Tryd.lays169 Tryd.Builder_Extra_169 B b w h hBw
open Go.RowKit in
/-- (*strings.Builder).String: "String returns the accumulated string.": WHATEVER THE BUILDER HOLDS; THE FORM '_f': OF A BUILDER THAT MAY HAVE BEEN READ BEFORE; AND IT IS A BUILDER STILL, holding the same bytes: it can be written on. (LAID: no walk: one application.) -/
theorem Tryd.Builder_String_any_f (B b : Nat) (l : List UInt8) (w : World) (h : Lib.IsBuilderF 135 5 B b (Lib.byteCells l) w) (hBw : B ≤ w.heap.size) :
    Calls Tryd.prog 88 #[.pointer (some ⟨b, 0, none⟩)] w fun e w' => e = .returned (.string ⟨l.toArray⟩) ∧ (Lib.IsBuilderF 135 5 B b (Lib.byteCells l) w' ∧ Below B w w') := Any.Builder_String_any_f Tryd.lays169 Tryd.Builder_Extra_169 B b l w h hBw
open Go.RowKit in
/-- (*strings.Builder).String: "String returns the accumulated string.": OF A BUILDER THAT HOLDS AT LEAST ONE BYTE. ✋ THE MODEL FREEZES THOSE BYTES IN THE BUFFER (unsafe.String): a later write INTO them ends the model's run without an answer; a later append BEHIND them goes on. The statement's order of evaluation is drawn: one draw. THE FORM '_k': OVER 'Lib.IsBuilderF' (a builder that 'String()' may have read), AND WITH THE FRAME THAT REACHES ABOVE THE BUILDER: 'Lib.OthersKept': every block that is not b and is no row of uint8's stands as it stood: the iterator of a range among them. (LAID: no walk: one application.) -/
theorem Tryd.Builder_String_k (B b : Nat) (l : List UInt8) (w : World) (h : Lib.IsBuilderF 135 5 B b (Lib.byteCells l) w) (h0 : l ≠ []) :
    Calls Tryd.prog 88 #[.pointer (some ⟨b, 0, none⟩)] w fun e w' => e = .returned (.string ⟨l.toArray⟩) ∧ (Lib.IsBuilderF 135 5 B b (Lib.byteCells l) w' ∧ Below B w w' ∧ Lib.OthersKept 5 (some b) w w') := Any.Builder_String_k Tryd.lays169 Tryd.Builder_Extra_169 B b l w h h0
open Go.RowKit in
/-- (*strings.Builder).String OF A BUILDER THAT HOLDS NO BYTE: the empty string; THE FORM '_k': OVER 'Lib.IsBuilderF' (a builder that 'String()' may have read), AND WITH THE FRAME THAT REACHES ABOVE THE BUILDER: 'Lib.OthersKept': every block that is not b and is no row of uint8's stands as it stood: the iterator of a range among them. (LAID: no walk: one application.) -/
theorem Tryd.Builder_String_empty_k (B b : Nat) (w : World) (h : Lib.IsBuilderF 135 5 B b [] w) (hBw : B ≤ w.heap.size) :
    Calls Tryd.prog 88 #[.pointer (some ⟨b, 0, none⟩)] w fun e w' => e = .returned (.string ⟨#[]⟩) ∧ (Lib.IsBuilderF 135 5 B b [] w' ∧ Below B w w' ∧ Lib.OthersKept 5 (some b) w w') := Any.Builder_String_empty_k Tryd.lays169 Tryd.Builder_Extra_169 B b w h hBw
open Go.RowKit in
/-- (*strings.Builder).String: "String returns the accumulated string.": WHATEVER THE BUILDER HOLDS; THE FORM '_k': OVER 'Lib.IsBuilderF' (a builder that 'String()' may have read), AND WITH THE FRAME THAT REACHES ABOVE THE BUILDER: 'Lib.OthersKept': every block that is not b and is no row of uint8's stands as it stood: the iterator of a range among them. (LAID: no walk: one application.) -/
theorem Tryd.Builder_String_any_k (B b : Nat) (l : List UInt8) (w : World) (h : Lib.IsBuilderF 135 5 B b (Lib.byteCells l) w) (hBw : B ≤ w.heap.size) :
    Calls Tryd.prog 88 #[.pointer (some ⟨b, 0, none⟩)] w fun e w' => e = .returned (.string ⟨l.toArray⟩) ∧ (Lib.IsBuilderF 135 5 B b (Lib.byteCells l) w' ∧ Below B w w' ∧ Lib.OthersKept 5 (some b) w w') := Any.Builder_String_any_k Tryd.lays169 Tryd.Builder_Extra_169 B b l w h hBw
def Tryd.lays217_ren : Go.Shelf.Ren := ⟨fun | 217 => 91 | 266 => 93 | n => n, fun | 9 => 9 | 5 => 5 | 3 => 3 | n => n, fun | n => n⟩
theorem Tryd.lays217 : Go.Proofs.Lays.n217 Tryd.prog Tryd.lays217_ren := {
  mixed := by kernel_rfl
  f217 := Tryd.func91.trans (congrArg some (by kernel_rfl))
  f266 := Tryd.func93.trans (congrArg some (by kernel_rfl))
  t3 := Tryd.underlying3
  a3 := Tryd.isAgg3
  z3 := Tryd.sizeOf3
  v3 := Tryd.zeroValue3
  t5 := Tryd.underlying5
  a5 := Tryd.isAgg5
  z5 := Tryd.sizeOf5
  v5 := Tryd.zeroValue5
  t9 := Tryd.underlying9
  a9 := Tryd.isAgg9
  z9 := Tryd.sizeOf9
  v9 := Tryd.zeroValue9 }
open Go.RowKit Go.Lib in
/-- internal/stringslite.IndexByte (what strings.IndexByte calls): IT RETURNS 'Lib.indexByte s c'; the world is as it was. (LAID: no walk: one application.) -/
theorem Tryd.stringslite_IndexByte (s : ByteArray) (c : Int) (w : World) :
    Calls Tryd.prog 91 #[.string s, .int .u8 c] w fun e w' => e = .returned (.int .i64 (Lib.indexByte s.data.toList c.toNat.toUInt8)) ∧ w' = w := Any.stringslite_IndexByte Tryd.lays217 s c w
def Tryd.lays194_ren : Go.Shelf.Ren := ⟨fun | 194 => 60 | n => n, fun | 31 => 22 | 9 => 9 | 3 => 3 | 4 => 4 | 0 => 0 | n => n, fun | n => n⟩
theorem Tryd.lays194 : Go.Proofs.Lays.n194 Tryd.prog Tryd.lays194_ren := {
  mixed := by kernel_rfl
  f194 := Tryd.func60.trans (congrArg some (by kernel_rfl))
  t0 := Tryd.underlying0
  a0 := Tryd.isAgg0
  z0 := Tryd.sizeOf0
  v0 := Tryd.zeroValue0
  t3 := Tryd.underlying3
  a3 := Tryd.isAgg3
  z3 := Tryd.sizeOf3
  v3 := Tryd.zeroValue3
  t4 := Tryd.underlying4
  a4 := Tryd.isAgg4
  z4 := Tryd.sizeOf4
  v4 := Tryd.zeroValue4
  t9 := Tryd.underlying9
  a9 := Tryd.isAgg9
  z9 := Tryd.sizeOf9
  v9 := Tryd.zeroValue9
  t31 := Tryd.underlying22
  a31 := Tryd.isAgg22
  z31 := Tryd.sizeOf22
  v31 := Tryd.zeroValue22 }
open Go.RowKit Go.Lib Go.Sort in
/-- slices.Compact at []string, over an array: the library's two loops are walked. (LAID: no walk: one application.) -/
theorem Tryd.slices_Compact_string_arr (blk off cap : Nat) (d : Array (List UInt8)) (w : World) (hH : Holds encStr w blk off d) (hsz : d.size ≤ 9223372036854775807) (hcap : d.size ≤ cap) :
    Calls Tryd.prog 60 #[.slice (some ⟨blk, off, none⟩) d.size cap] w fun e w' => e = .returned (.slice (some ⟨blk, off, none⟩) (compactUpTo d d.size).length cap) ∧ ∃ q, w' = putRow encStr (Sort.ahead w q) blk off (compactUpTo d d.size ++ List.replicate (d.size - (compactUpTo d d.size).length) []).toArray := Any.slices_Compact_string_arr Tryd.lays194 blk off cap d w hH hsz hcap
open Go.RowKit Go.Lib Go.Sort in
/-- slices.Compact at []string: "Compact replaces consecutive runs of equal elements with a single copy. This is like the uniq command found on Unix. Compact modifies the contents of the slice s and returns the modified slice, which may have a smaller length. Compact zeroes the elements between the new length and the original length. The result preserves the nilness of s.": IT RETURNS THE SLICE CUT TO 'Lib.compact zs'; ITS CELLS HOLD 'Lib.compact zs', THEN ZERO VALUES up to the old length; all else is as it was, but for the count of draws. IN THE WORDS OF slices.Sort's CONTRACT ('Holds', 'putRow'): so the everyday 'slices.Sort(xs); xs = slices.Compact(xs)' goes from the one contract to the other. It asks 'zs.length ≤ cap' (every slice's: the reslicing 's[:k]' looks at it). Length 0, nil: '.._empty'. (LAID: no walk: one application.) -/
theorem Tryd.slices_Compact_string (blk off cap : Nat) (zs : List (List UInt8)) (w : World) (hH : Holds encStr w blk off zs.toArray) (hsz : zs.length ≤ 9223372036854775807) (hcap : zs.length ≤ cap) :
    Calls Tryd.prog 60 #[.slice (some ⟨blk, off, none⟩) zs.length cap] w fun e w' => e = .returned (.slice (some ⟨blk, off, none⟩) (Lib.compact zs).length cap) ∧ ∃ q, w' = putRow encStr (Sort.ahead w q) blk off (Lib.compact zs ++ List.replicate (zs.length - (Lib.compact zs).length) []).toArray := Any.slices_Compact_string Tryd.lays194 blk off cap zs w hH hsz hcap
open Go.RowKit Go.Lib Go.Sort in
/-- The same at a slice of length 0, a nil one too: it comes back as it is. (LAID: no walk: one application.) -/
theorem Tryd.slices_Compact_string_empty (a : Option Addr) (cap : Nat) (w : World) :
    Calls Tryd.prog 60 #[.slice a 0 cap] w fun e w' => e = .returned (.slice a 0 cap) ∧ w' = w := Any.slices_Compact_string_empty Tryd.lays194 a cap w
open Go.RowKit Go.Lib Go.Sort in
/-- slices.Compact at []string, of an argument. (LAID: no walk: one application.) -/
theorem Tryd.slices_Compact_string_cells (b off n c : Nat) (Sx : Nat → ByteArray) (w : World) (hbig : n ≤ 9223372036854775807) (hcap : n ≤ c) (hc : ∀ i, i < n → w.cell? ⟨b, off + i, none⟩ = some (.string (Sx i))) (hf : ∀ j, j < n → w.frozen? ⟨b, off + j, none⟩ = false) :
    Calls Tryd.prog 60 #[.slice (some ⟨b, off, none⟩) n c] w fun e w' => e = .returned (.slice (some ⟨b, off, none⟩) (Lib.compact (Lib.strsOf Sx n)).length c) ∧ ∃ q, w' = (w.drewN q).setCells b off ((Lib.compact (Lib.strsOf Sx n) ++ List.replicate (n - (Lib.compact (Lib.strsOf Sx n)).length) []).map encStr) := Any.slices_Compact_string_cells Tryd.lays194 b off n c Sx w hbig hcap hc hf
end Go.Proofs

namespace Go.Proofs.YtfhdonidgegebaaDoor
open Go Go.RowKit

def UnescPost (w : World) (r : Option (List UInt8 × List UInt8)) (e : Ending) (w' : World) : Prop :=
  ((∃ x, r = some x ∧ e = .returned (.tuple #[.string ⟨x.1.toArray⟩, .string ⟨x.2.toArray⟩, .bool true])) ∨ r = none ∧ e = .returned (.tuple #[.string ⟨#[]⟩, .string ⟨#[]⟩, .bool false])) ∧ Below w.heap.size w w'

def UnescRel (w : World) (l : List UInt8) (s : Value) (wr : World) : Prop :=
  ∃ (t : ByteArray) (k : List UInt8), s = .string t ∧ t.size ≤ l.length ∧ k.length + t.size ≤ l.length ∧ unesc l = (unesc t.data.toList).map (fun x => (k ++ x.1, x.2)) ∧
    Lib.IsBuilder 135 5 w.heap.size w.heap.size (bcells k) wr ∧ Below w.heap.size w wr ∧ w.heap.size < wr.heap.size

def strLen : Value → Nat
  | .string t => t.size
  | _ => 0

theorem indexByte_any (s : ByteArray) (w : World) : Calls Tryd.prog 86 #[.string s, .int .u8 0] w fun e w' => e = .returned (.int .i64 (Lib.indexByte s.data.toList 0)) ∧ w = w' :=
  (Tryd.strings_IndexByte s 0 w).mono fun _ _ ⟨h1, h2⟩ => ⟨h1, h2.symm⟩

set_option maxRecDepth 100000 in
set_option maxHeartbeats 2000000 in
theorem unescape_any (w : World) (s : ByteArray) (hs : s.size ≤ 10000000000) :
    Calls Tryd.prog 78 #[.string s] w (UnescPost w (unesc s.data.toList)) := by
  have hsl : s.data.toList.length = s.size := Array.length_toList
  have hst : UnescRel w s.data.toList (.string s) (w.alloc (.cells #[.pointer none, .slice none 0 0] 135)) :=
    ⟨s, [], rfl, by omega, by simp, by cases unesc s.data.toList <;> simp, Lib.fresh_isBuilder _ _ _, (Below.refl _ _).alloc (Nat.le_refl _) _, by simp⟩
  have Hsl := Lib.hid hsl
  have Hst := Lib.hid hst
  clear hsl hst
  go_enter Tryd.func78, Tryd.ntmps78
  go_wp2
  go_loopw [0] (fun s' wr => UnescRel w s.data.toList s' wr) (fun s' _ => strLen s')
  case atStart => exact Hst.out
  case round =>
    obtain ⟨t, k, rfl, ht, hk, heq, hbd, hbel, hlt⟩ := hrel
    have hge := Lib.indexByte_ge t.data.toList 0
    have htl : t.data.toList.length = t.size := Array.length_toList
    have Heq := Lib.hid heq
    have Htl := Lib.hid htl
    have hkb : (bcells k).length ≤ 10000000000 := by rw [bcells_length]; have := Hsl.out; omega
    have hts : t.size ≤ 10000000000 := by have := Hsl.out; omega
    clear heq htl
    by_cases hi : Lib.indexByte t.data.toList 0 = -1
    · have hn := unesc_none (Lib.indexByte_none hi)
      have Hn := Lib.hid hn
      have Hi := Lib.hid hi
      clear hn hi
      go_wp2_with (go_at_call 86; go_must (refine (indexByte_any t _).mono ?_); rintro e w1 ⟨rfl, rfl⟩; rw [Hi.out])
      go_wp2
      go_ret3
      exact ⟨.inr ⟨by rw [Heq.out, Hn.out]; rfl, rfl⟩, hbel⟩
    · obtain ⟨o, ho⟩ : ∃ o : Nat, Lib.indexByte t.data.toList 0 = o := ⟨(Lib.indexByte t.data.toList 0).toNat, by omega⟩
      obtain ⟨hz, hbef⟩ := Lib.indexByte_some ho
      have hat := unesc_at hz hbef
      have hol : o < t.size := by
        have := (List.getElem?_eq_some_iff.1 hz).1
        rw [Htl.out] at this
        exact this
      have Ho := Lib.hid ho
      clear ho hi hbef hz hge
      by_cases h1 : o + 1 < t.size
      · have hd : t.data.toList[o + 1]? = some t[o + 1] := by
          rw [List.getElem?_eq_getElem (by rw [Htl.out]; exact h1)]
          rfl
        rw [hd] at hat
        simp only at hat
        have Hat := Lib.hid hat
        clear hat hd
        by_cases d1 : t[o + 1] = 1
        · have dx := d1
          have e1 : ((t[o + 1].toNat : Int) == 1) = true := by rw [d1]; rfl
          clear d1
          have Dx := Lib.hid dx
          clear dx
          go_wp2_with (go_at_call 86; go_must (refine (indexByte_any t _).mono ?_); rintro e w1 ⟨rfl, rfl⟩; rw [Ho.out])
          go_wp2_with (go_at_call 87; go_must (refine (writeString_any _ _ _ (t.extract 0 o) _ hbd (by simp [ByteArray.size_extract]; omega) (by omega)).mono ?_))
          rintro e w2 ⟨rfl, hbd2, hb2⟩
          rw [← bcells_append, Lib.extract_from_zero] at hbd2
          have hs2 : w.heap.size < w2.heap.size := Nat.lt_of_lt_of_le hlt hb2.size
          have hbel2 := hbel.trans hb2
          go_wp2_with (go_at_call 88; go_must (refine (Tryd.Builder_String_any w.heap.size w.heap.size (k ++ t.data.toList.take o) _ hbd2 (by omega)).mono ?_))
          rintro e w3 ⟨rfl, hb3⟩
          go_wp2
          go_ret3
          refine ⟨.inl ⟨(k ++ t.data.toList.take o, t.data.toList.drop (o + 2)), ?_, ?_⟩, hbel2.trans hb3⟩
          · rw [Heq.out, Hat.out, if_pos Dx.out]
            rfl
          · have e : (⟨(t.data.toList.drop (o + 2)).toArray⟩ : ByteArray) = t.extract (o + 2) t.size := by rw [← Lib.extract_to_end]
            rw [e]
            rfl
        · by_cases d2 : t[o + 1] = 255
          · have dx := And.intro d1 d2
            have e1 : ((t[o + 1].toNat : Int) == 1) = false := by rw [d2]; rfl
            have e2 : ((t[o + 1].toNat : Int) == 255) = true := by rw [d2]; rfl
            clear d1 d2
            have Dx := Lib.hid dx
            clear dx
            go_wp2_with (go_at_call 86; go_must (refine (indexByte_any t _).mono ?_); rintro e w1 ⟨rfl, rfl⟩; rw [Ho.out])
            go_wp2_with (go_at_call 87; go_must (refine (writeString_any _ _ _ (t.extract 0 o) _ hbd (by simp [ByteArray.size_extract]; omega) (by omega)).mono ?_))
            rintro e w2 ⟨rfl, hbd2, hb2⟩
            rw [← bcells_append, Lib.extract_from_zero] at hbd2
            have hs2 : w.heap.size < w2.heap.size := Nat.lt_of_lt_of_le hlt hb2.size
            have hbel2 := hbel.trans hb2
            go_wp2_with (go_at_call 89; go_must (refine (writeByte_any w.heap.size w.heap.size _ 0 _ hbd2 (by rw [bcells_length, List.length_append, List.length_take, Htl.out]; have := Hsl.out; omega) (by omega)).mono ?_))
            rintro e w3 ⟨rfl, hbd3, hb3⟩
            go_wp2
            refine ⟨⟨t.extract (o + 2) t.size, k ++ t.data.toList.take o ++ [0], rfl, ?_, ?_, ?_, ?_, hbel2.trans hb3, Nat.lt_of_lt_of_le hs2 hb3.size⟩, ?_⟩
            · have h3 := Hsl.out
              have h4 : (t.extract (o + 2) t.size).size = t.size - (o + 2) := by simp [ByteArray.size_extract]
              omega
            · have h3 := Hsl.out
              have h4 : (t.extract (o + 2) t.size).size = t.size - (o + 2) := by simp [ByteArray.size_extract]
              rw [List.length_append, List.length_append, List.length_take, Htl.out, Nat.min_eq_left (by omega), h4]
              simp only [List.length_singleton]
              omega
            · rw [Heq.out, Hat.out, if_neg Dx.out.1, if_pos Dx.out.2, Lib.extract_to_end]
              simp [Option.map_map, Function.comp_def]
            · rw [← bcells_append] at hbd3
              exact hbd3
            · simp [strLen, ByteArray.size_extract]; omega
          · have dx := And.intro d1 d2
            have e1 : ((t[o + 1].toNat : Int) == 1) = false := by
              rw [beq_eq_false_iff_ne]
              intro h
              exact d1 (UInt8.toNat_inj.1 (by simp; omega))
            have e2 : ((t[o + 1].toNat : Int) == 255) = false := by
              rw [beq_eq_false_iff_ne]
              intro h
              exact d2 (UInt8.toNat_inj.1 (by simp; omega))
            clear d1 d2
            have Dx := Lib.hid dx
            clear dx
            go_wp2_with (go_at_call 86; go_must (refine (indexByte_any t _).mono ?_); rintro e w1 ⟨rfl, rfl⟩; rw [Ho.out])
            go_wp2_with (go_at_call 87; go_must (refine (writeString_any _ _ _ (t.extract 0 o) _ hbd (by simp [ByteArray.size_extract]; omega) (by omega)).mono ?_))
            rintro e w2 ⟨rfl, hbd2, hb2⟩
            rw [← bcells_append, Lib.extract_from_zero] at hbd2
            have hs2 : w.heap.size < w2.heap.size := Nat.lt_of_lt_of_le hlt hb2.size
            have hbel2 := hbel.trans hb2
            go_wp2
            go_ret3
            exact ⟨.inr ⟨by rw [Heq.out, Hat.out, if_neg Dx.out.1, if_neg Dx.out.2]; rfl, rfl⟩, hbel2⟩
      · have hn : t.data.toList[o + 1]? = none := List.getElem?_eq_none (by rw [Htl.out]; omega)
        rw [hn] at hat
        simp only at hat
        have Hat := Lib.hid hat
        clear hat hn
        go_wp2_with (go_at_call 86; go_must (refine (indexByte_any t _).mono ?_); rintro e w1 ⟨rfl, rfl⟩; rw [Ho.out])
        go_wp2
        go_ret3
        exact ⟨.inr ⟨by rw [Heq.out, Hat.out]; rfl, rfl⟩, hbel⟩

theorem unescape_none (w : World) (s : ByteArray) (hs : s.size ≤ 10000000000) (h : unesc s.data.toList = none) :
    Calls Tryd.prog 78 #[.string s] w fun e w' => e = .returned (.tuple #[.string ⟨#[]⟩, .string ⟨#[]⟩, .bool false]) ∧ Below w.heap.size w w' :=
  (unescape_any w s hs).mono fun e w' ⟨h1, b1⟩ => by
    rcases h1 with ⟨x, hx, _⟩ | ⟨_, he⟩
    · rw [h] at hx; cases hx
    · exact ⟨he, b1⟩

theorem unescape_some (w : World) (s t : ByteArray) (hs : s.size ≤ 10000000000) {k : List UInt8} (h : unesc s.data.toList = some (k, t.data.toList)) :
    Calls Tryd.prog 78 #[.string s] w fun e w' => e = .returned (.tuple #[.string ⟨k.toArray⟩, .string t, .bool true]) ∧ Below w.heap.size w w' :=
  (unescape_any w s hs).mono fun e w' ⟨h1, b1⟩ => by
    rcases h1 with ⟨x, hx, he⟩ | ⟨hx, _⟩
    · rw [h] at hx; cases hx; exact ⟨he, b1⟩
    · rw [h] at hx; cases hx
end Go.Proofs.YtfhdonidgegebaaDoor

/- Inner keys, written. -/
namespace Go.Proofs.YtfhdonidgegebaaDoor
open Go.RowKit

theorem not_u64 (a : Nat) (ha : a < 18446744073709551616) : bits BinOp.xor .u64 IntKind.u64.max (a : Int) = ((18446744073709551615 - a : Nat) : Int) := by
  show IntKind.u64.wrap ((BitVec.ofInt 64 (IntKind.u64.max) ^^^ BitVec.ofInt 64 (a : Int)).toNat : Int) = _
  have h1 : BitVec.ofInt 64 (IntKind.u64.max) = BitVec.allOnes 64 := by decide
  rw [h1, BitVec.allOnes_xor, BitVec.toNat_not, ofInt_u64 a ha, IntKind.wrap_u64]
  omega

theorem pow256 (k : Nat) : (256 : Nat) ^ k = 2 ^ (8 * k) := by rw [Nat.pow_mul]

theorem revByte_go (rev k : Nat) (hr : rev < 18446744073709551616) (hk : k < 8) :
    bits BinOp.xor .u64 IntKind.u64.max (rev : Int) / 2 ^ (56 - 8 * k) % 256 = ((revByte rev (7 - k)).toNat : Int) := by
  rw [not_u64 rev hr, ← revByte_up rev (7 - k) hr (by omega), pow256, show 8 * (7 - k) = 56 - 8 * k by omega]
  simp

/-- A string is handed back; nothing old is changed. -/
def GivesText (w : World) (l : List UInt8) (e : Ending) (w' : World) : Prop := e = .returned (.string ⟨l.toArray⟩) ∧ Below w.heap.size w w'

def box (key : ByteArray) (rev : Nat) (del : Bool) : Obj := .cells #[.string key, .int .u64 (rev : Int), .bool del] 57

/-- the first loop: k bytes of the key are written -/
def InnRel1 (w : World) (key : ByteArray) (rev : Nat) (del : Bool) (kb : Nat) (cap : Nat) (v c : Value) (wr : World) : Prop :=
  ∃ k : Nat, c = .int .i64 (k : Int) ∧ k ≤ key.size ∧ Fresh (w.heap.size + 1) wr 5 1 v (esc (key.data.toList.take k)).length (bcells (esc (key.data.toList.take k))) ∧
    Below (w.heap.size + 1) (w.alloc (box key rev del)) wr ∧ Reads wr 1 (.slice (some ⟨kb, 0, none⟩) key.size cap) key.size (bcells key.data.toList) ∧ v.ownBlock ≠ some kb ∧ kb < wr.heap.size

/-- the second loop: k bytes of the revision are written -/
def InnRel2 (w : World) (key : ByteArray) (rev : Nat) (del : Bool) (v c : Value) (wr : World) : Prop :=
  ∃ k : Nat, c = .int .i64 (k : Int) ∧ k ≤ 8 ∧ Fresh (w.heap.size + 1) wr 5 1 v (innTo key.data.toList rev k).length (bcells (innTo key.data.toList rev k)) ∧
    Below (w.heap.size + 1) (w.alloc (box key rev del)) wr
end Go.Proofs.YtfhdonidgegebaaDoor
