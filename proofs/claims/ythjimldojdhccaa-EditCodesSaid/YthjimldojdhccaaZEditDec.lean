/- edit.Decode of any bytes. -/
import Derived.Test.YthjimldojdhccaaZEditRt
import Derived.Test.YthjimldojdhccaaMga
namespace Go.Proofs.Ythjimldojdhccaa
open Go Go.RowKit

def ed0 : Ed := ⟨[], [], 0, 0, 0, 0⟩
/-- What the reader tells, what is left and what was wrong. -/
def decR (l : List UInt8) : Ed × List UInt8 × Nat :=
  let r1 := elist ertab l 0
  let r2 := elist erwh r1.2.1 r1.2.2
  let r3 := ernum r2.2.1 r2.2.2
  let r4 := ernum r3.2.1 r3.2.2
  let r5 := erwh r4.2.1 r4.2.2
  let r6 := erwh r5.2.1 r5.2.2
  (⟨r1.1, r2.1, r3.1, r4.1, r5.1, r6.1⟩, r6.2)
def endE (r : Ed × List UInt8 × Nat) : Ed × Nat := if r.2.2 ≠ 0 then (ed0, r.2.2) else if r.2.1 ≠ [] then (ed0, 9) else (r.1, 0)
def readE (l : List UInt8) : Ed × Nat := endE (decR l)
theorem endE_bad {x : Ed} {l : List UInt8} {e : Nat} (h : e ≠ 0) : endE (x, l, e) = (ed0, e) := if_pos h
theorem endE_long {x : Ed} {l : List UInt8} (h : l ≠ []) : endE (x, l, 0) = (ed0, 9) := by
  unfold endE
  rw [if_neg (by simp), if_pos h]
theorem endE_ok (x : Ed) : endE (x, [], 0) = (x, 0) := rfl

def DecPost (w : World) (r : Ed × Nat) (e : Ending) (w' : World) : Prop :=
  ∃ a1 n1 c1 a2 n2 c2, e = .returned (.tuple #[ev r.1 a1 a2 n1 c1 n2 c2, .int .i64 (r.2 : Int)]) ∧ TRows w' (.slice a1 n1 c1) r.1.add ∧ Reads w' 1 (.slice a2 n2 c2) n2 (ncells r.1.drop) ∧ Below w.heap.size w w'

theorem eats_many {α : Type} {f : List UInt8 → Nat → α × List UInt8 × Nat} (h : EEats (fun l e => (f l e).2)) : ∀ (n : Nat) (l : List UInt8) (e : Nat), (emany f n l e).2.1.length ≤ l.length
  | 0, l, e => Nat.le_refl _
  | n + 1, l, e => by
    by_cases he : e = 0
    · subst he
      rw [emany_next]
      exact Nat.le_trans (eats_many h n _ _) (h.1 l 0)
    · rw [emany_bad _ _ _ he]
      exact Nat.le_refl _
theorem eats_list {α : Type} {f : List UInt8 → Nat → α × List UInt8 × Nat} (h : EEats (fun l e => (f l e).2)) (l : List UInt8) (e : Nat) : (elist f l e).2.1.length ≤ l.length :=
  Nat.le_trans (eats_many h _ _ _) (eats_num.1 l e)

theorem numL_flat (l : List Int) : l.flatMap numL = ncells l := by
  induction l with
  | nil => rfl
  | cons a r ih =>
    rw [List.flatMap_cons, ih]
    rfl

theorem reads_nil5 (w : World) : TRows w (.slice none 0 0) ed0.add := ⟨rfl, none, 0, rfl, Nat.le_refl _, by decide, fun j u hj => by simp [ed0] at hj⟩
theorem reads_nil1 (w : World) : Reads w 1 (.slice none 0 0) 0 (ncells ed0.drop) := ⟨rfl, none, 0, rfl, Nat.le_refl _, by decide, fun j u hj => by simp [ed0, ncells] at hj⟩
theorem setCell_id {w : World} {g i : Nat} {cs : Array Value} {t : TypeId} {v : Value} (h : w.heap[g]? = some (.cells cs t (0, 0))) (hv : cs[i]? = some v) : w.setCell ⟨g, i, none⟩ v = w := by
  have hc : cs.setIfInBounds i v = cs := by
    apply Array.ext_getElem?
    intro j
    rw [Array.getElem?_setIfInBounds]
    split
    · rename_i hj
      subst hj
      split
      · exact hv.symm
      · rename_i hn
        exact absurd (Array.getElem?_eq_some_iff.1 hv).1 hn
    · rfl
  have hh : (w.setCell ⟨g, i, none⟩ v).heap = w.heap := by
    apply Array.ext_getElem?
    intro j
    by_cases hj : j = g
    · subst hj
      rw [heap_setCell_same _ _ i _ _ _ h, hc, h]
    · exact heap_setCell_other _ _ j _ hj
  have he : w.setCell ⟨g, i, none⟩ v = { w with heap := (w.setCell ⟨g, i, none⟩ v).heap } := rfl
  rw [he, hh]
theorem set6e {w : World} {g : Nat} {x0 x1 x2 x3 x4 x5 : Value} {t : TypeId} (h : w.heap[g]? = some (.cells #[x0, x1, x2, x3, x4, x5] t (0, 0))) (a b c d e f : Value) :
    ((((((w.setCell ⟨g, 0, none⟩ a).setCell ⟨g, 1, none⟩ b).setCell ⟨g, 2, none⟩ c).setCell ⟨g, 3, none⟩ d).setCell ⟨g, 4, none⟩ e).setCell ⟨g, 5, none⟩ f).heap[g]? = some (.cells #[a, b, c, d, e, f] t (0, 0)) := by
  have h1 := heap_setCell_same w g 0 _ _ a h
  have h2 := heap_setCell_same _ g 1 _ _ b h1
  have h3 := heap_setCell_same _ g 2 _ _ c h2
  have h4 := heap_setCell_same _ g 3 _ _ d h3
  have h5 := heap_setCell_same _ g 4 _ _ e h4
  have h6 := heap_setCell_same _ g 5 _ _ f h5
  simpa using h6
theorem set6t (w : World) (g : Nat) (a b c d e f : Value) : Touch w ((((((w.setCell ⟨g, 0, none⟩ a).setCell ⟨g, 1, none⟩ b).setCell ⟨g, 2, none⟩ c).setCell ⟨g, 3, none⟩ d).setCell ⟨g, 4, none⟩ e).setCell ⟨g, 5, none⟩ f) [g] :=
  (((((Touch.refl w [g]).setCell (.inl (by simp)) a).setCell (.inl (by simp)) b).setCell (.inl (by simp)) c).setCell (.inl (by simp)) d).setCell (.inl (by simp)) e |>.setCell (.inl (by simp)) f

set_option maxRecDepth 100000 in
set_option maxHeartbeats 4000000 in
theorem edecode_any (w : World) (v : Value) (l0 : List UInt8) (h : Sl w.heap.size w v l0) (hl : l0.length ≤ 1000000) :
    Calls Try.prog 11 #[v] w (DecPost w (readE l0)) := by
  obtain ⟨av, cv, rfl, hcv1, hcv2⟩ := h.reads.le
  have hmf : ∀ (fn : Fn) (first cap : Array Value) (w : World), (Instr.makeFunc fn first cap).run Try.prog w = .ok (.func fn first cap) w := fun _ _ _ _ => rfl
  have hx0 : ((w.alloc (.cells #[.slice none 0 0, .slice none 0 0, .int .u64 0, .int .u64 0, .int .i64 0, .int .i64 0] 26)).alloc (.cells #[.slice av l0.length cv, .int .i64 0] 59)).heap[w.heap.size]? = some (.cells #[.slice none 0 0, .slice none 0 0, .int .u64 0, .int .u64 0, .int .i64 0, .int .i64 0] 26 (0, 0)) := (((Below.refl (w.heap.size + 1) (w.alloc (.cells #[.slice none 0 0, .slice none 0 0, .int .u64 0, .int .u64 0, .int .i64 0, .int .i64 0] 26))).alloc (by simp) (.cells #[.slice av l0.length cv, .int .i64 0] 59)).block _ (Nat.lt_succ_self _)).trans (heap_alloc_new w (.cells #[.slice none 0 0, .slice none 0 0, .int .u64 0, .int .u64 0, .int .i64 0, .int .i64 0] 26))
  have hb0 : Below w.heap.size w ((w.alloc (.cells #[.slice none 0 0, .slice none 0 0, .int .u64 0, .int .u64 0, .int .i64 0, .int .i64 0] 26)).alloc (.cells #[.slice av l0.length cv, .int .i64 0] 59)) := ((Below.refl _ _).alloc (Nat.le_refl _) _).alloc (by simp) _
  have hx1 : ((w.alloc (.cells #[.slice none 0 0, .slice none 0 0, .int .u64 0, .int .u64 0, .int .i64 0, .int .i64 0] 26)).alloc (.cells #[.slice av l0.length cv, .int .i64 0] 59)).heap[w.heap.size + 1]? = some (.cells #[.slice av l0.length cv, .int .i64 0] 59 (0, 0)) := by
    have := heap_alloc_new (w.alloc (.cells #[.slice none 0 0, .slice none 0 0, .int .u64 0, .int .u64 0, .int .i64 0, .int .i64 0] 26)) (.cells #[.slice av l0.length cv, .int .i64 0] 59)
    simpa using this
  have hs0 : ((w.alloc (.cells #[.slice none 0 0, .slice none 0 0, .int .u64 0, .int .u64 0, .int .i64 0, .int .i64 0] 26)).alloc (.cells #[.slice av l0.length cv, .int .i64 0] 59)).heap.size = w.heap.size + 2 := by simp
  have HR := Lib.hid (show ERAt 59 w.heap.size ((w.alloc (.cells #[.slice none 0 0, .slice none 0 0, .int .u64 0, .int .u64 0, .int .i64 0, .int .i64 0] 26)).alloc (.cells #[.slice av l0.length cv, .int .i64 0] 59)) (w.heap.size + 1) l0 0 from ⟨_, hx1, h.below hb0, Nat.le_succ _⟩)
  have HX := Lib.hid hx0
  have HB := Lib.hid hb0
  have HS := Lib.hid hs0
  obtain ⟨b, hbb⟩ : ∃ b, b = w.heap.size := ⟨_, rfl⟩
  have Hb := Lib.hid hbb
  clear hbb
  have hr0 : readE l0 = endE (decR l0) := rfl
  rw [hr0]
  unfold decR
  have hl1 := Nat.le_trans (eats_list eats_tab l0 0) hl
  have C1 := fun W (h : ERAt 59 w.heap.size W (w.heap.size + 1) l0 0) (hW : w.heap.size ≤ W.heap.size) => etables_any w.heap.size W (w.heap.size + 1) l0 0 h hW hl
  generalize elist ertab l0 0 = r1 at *
  obtain ⟨x1, l1, e1⟩ := r1
  dsimp only at *
  have C2 := fun W (h : ERAt 59 w.heap.size W (w.heap.size + 1) l1 e1) (hW : w.heap.size ≤ W.heap.size) => ewholes_any w.heap.size W (w.heap.size + 1) l1 e1 h hW hl1
  generalize elist erwh l1 e1 = r2 at *
  obtain ⟨x2, l2, e2⟩ := r2
  dsimp only at *
  have C3 := fun W (h : ERAt 59 w.heap.size W (w.heap.size + 1) l2 e2) => enumber_any w.heap.size W (w.heap.size + 1) l2 e2 h
  generalize ernum l2 e2 = r3 at *
  obtain ⟨x3, l3, e3⟩ := r3
  dsimp only at *
  have C4 := fun W (h : ERAt 59 w.heap.size W (w.heap.size + 1) l3 e3) => enumber_any w.heap.size W (w.heap.size + 1) l3 e3 h
  generalize ernum l3 e3 = r4 at *
  obtain ⟨x4, l4, e4⟩ := r4
  dsimp only at *
  have C5 := fun W (h : ERAt 59 w.heap.size W (w.heap.size + 1) l4 e4) => ewhole_any w.heap.size W (w.heap.size + 1) l4 e4 h
  generalize erwh l4 e4 = r5 at *
  obtain ⟨x5, l5, e5⟩ := r5
  dsimp only at *
  have C6 := fun W (h : ERAt 59 w.heap.size W (w.heap.size + 1) l5 e5) => ewhole_any w.heap.size W (w.heap.size + 1) l5 e5 h
  generalize erwh l5 e5 = r6 at *
  obtain ⟨x6, l6, e6⟩ := r6
  dsimp only at *
  have HC1 := Lib.hid C1
  have HC2 := Lib.hid C2
  have HC3 := Lib.hid C3
  have HC4 := Lib.hid C4
  have HC5 := Lib.hid C5
  have HC6 := Lib.hid C6
  clear h hx0 hx1 hb0 hs0 hr0 C1 C2 C3 C4 C5 C6 hl1 Hb
  go_enter Try.func11, Try.ntmps11
  go_upto_region 2 with fail
  generalize (w.alloc (.cells #[.slice none 0 0, .slice none 0 0, .int .u64 0, .int .u64 0, .int .i64 0, .int .i64 0] 26)).alloc (.cells #[.slice av l0.length cv, .int .i64 0] 59) = w0 at *
  have Hg0 := Lib.hid (show w.heap.size + 1 < w0.heap.size by have := HS.out; omega)
  have HwB := Lib.hid (show w.heap.size ≤ w0.heap.size by have := HS.out; omega)
  have Hnm := Lib.hid (show w.heap.size ∉ [w.heap.size + 1] by simp)
  go_wp2_with (go_at_call 25; go_must (refine (HC1.out _ HR.out HwB.out).mono ?_))
  rintro e w1 ⟨v1, rfl, o1, hr, ht⟩
  have HR := Lib.hid hr
  have HO1 := Lib.hid o1
  have HX := Lib.hid (ht.keep HX.out Hnm.out)
  have HT := Lib.hid ht
  clear hr ht o1
  go_wp2_with (go_at_call 27; go_must (refine (HC2.out _ HR.out (Nat.le_trans HwB.out HT.out.size)).mono ?_))
  rintro e w2 ⟨v2, rfl, o2, hr, ht⟩
  have HR := Lib.hid hr
  have HO1 := Lib.hid (etouch_owns HO1.out ht Hg0.out)
  have HO2 := Lib.hid o2
  have HX := Lib.hid (ht.keep HX.out Hnm.out)
  have Hg1 := Lib.hid (Nat.lt_of_lt_of_le Hg0.out HT.out.size)
  have HT := Lib.hid (HT.out.same ht)
  clear hr ht o2
  go_wp2_with (go_at_call 29; go_must (refine (HC3.out _ HR.out).mono ?_))
  rintro e w3 ⟨rfl, hr, ht⟩
  have HR := Lib.hid hr
  have HO1 := Lib.hid (etouch_owns HO1.out ht Hg0.out)
  have HO2 := Lib.hid (etouch_owns HO2.out ht Hg1.out)
  have HX := Lib.hid (ht.keep HX.out Hnm.out)
  have HT := Lib.hid (HT.out.same ht)
  clear hr ht
  go_wp2_with (go_at_call 29; go_must (refine (HC4.out _ HR.out).mono ?_))
  rintro e w4 ⟨rfl, hr, ht⟩
  have HR := Lib.hid hr
  have HO1 := Lib.hid (etouch_owns HO1.out ht Hg0.out)
  have HO2 := Lib.hid (etouch_owns HO2.out ht Hg1.out)
  have HX := Lib.hid (ht.keep HX.out Hnm.out)
  have HT := Lib.hid (HT.out.same ht)
  clear hr ht
  go_wp2_with (go_at_call 28; go_must (refine (HC5.out _ HR.out).mono ?_))
  rintro e w5 ⟨rfl, hr, ht⟩
  have HR := Lib.hid hr
  have HO1 := Lib.hid (etouch_owns HO1.out ht Hg0.out)
  have HO2 := Lib.hid (etouch_owns HO2.out ht Hg1.out)
  have HX := Lib.hid (ht.keep HX.out Hnm.out)
  have HT := Lib.hid (HT.out.same ht)
  clear hr ht
  go_wp2_with (go_at_call 28; go_must (refine (HC6.out _ HR.out).mono ?_))
  rintro e w6 ⟨rfl, hr, ht⟩
  have HR := Lib.hid hr
  have HO1 := Lib.hid (etouch_owns HO1.out ht Hg0.out)
  have HO2 := Lib.hid (etouch_owns HO2.out ht Hg1.out)
  have HX := Lib.hid (ht.keep HX.out Hnm.out)
  have HT := Lib.hid (HT.out.same ht)
  clear hr ht
  obtain ⟨a1, k1, rfl, _, _⟩ := (ownsRow.reads HO1.out).le
  obtain ⟨a2, k2, rfl, _, _⟩ := (ownsRow.reads HO2.out).le
  go_upto_region 3 with fail
  have hg6 : w.heap.size + 1 < w6.heap.size := Nat.lt_of_lt_of_le Hg0.out HT.out.size
  have hb6 : Below w.heap.size w w6 := HB.out.trans (HT.out.below HwB.out (by simp))
  have hba : Below w6.heap.size w6 (w6.alloc (.cells #[.slice a1 x1.length k1, .slice a2 x2.length k2, .int .u64 (x3 : Int), .int .u64 (x4 : Int), .int .i64 x5, .int .i64 x6] 26)) := (Below.refl _ _).alloc (Nat.le_refl _) _
  have HTr := Lib.hid (owns_below HO1.out hba)
  have HNr := Lib.hid (owns_below HO2.out hba)
  have Hl0 := Lib.hid (show w.heap.size < w0.heap.size by have := Hg0.out; omega)
  have Hl1 := Lib.hid (show w.heap.size < w1.heap.size by have := Hg1.out; omega)
  have HX7 := Lib.hid (heap_alloc_new w6 (.cells #[.slice a1 x1.length k1, .slice a2 x2.length k2, .int .u64 (x3 : Int), .int .u64 (x4 : Int), .int .i64 x5, .int .i64 x6] 26))
  have HX := Lib.hid ((hba.block _ (by omega)).trans HX.out)
  have HR := Lib.hid (HR.out.below hba hb6.size)
  have HB7 := Lib.hid (hb6.trans (hba.mono hb6.size))
  have HS7 := Lib.hid (show (w6.alloc (.cells #[.slice a1 x1.length k1, .slice a2 x2.length k2, .int .u64 (x3 : Int), .int .u64 (x4 : Int), .int .i64 x5, .int .i64 x6] 26)).heap.size = w6.heap.size + 1 by simp)
  clear hba hb6 HO1 HO2 HT HB HS HwB Hnm Hg0 Hg1 HC1 HC2 HC3 HC4 HC5 HC6
  generalize w6.alloc (.cells #[.slice a1 x1.length k1, .slice a2 x2.length k2, .int .u64 (x3 : Int), .int .u64 (x4 : Int), .int .i64 x5, .int .i64 x6] 26) = w7 at *
  obtain ⟨rv, hrv, hrs, hrB⟩ := HR.out
  obtain ⟨ar, cr, rfl, hcr1, hcr2⟩ := hrs.reads.le
  unfold maxLen at hcr2
  have rf := Lib.frozen_of_heap hrv
  have hs7 := HS7.out
  have lt0 : w.heap.size < w7.heap.size := by omega
  have lt1 : w.heap.size + 1 < w7.heap.size := by omega
  have lt5 : w6.heap.size < w7.heap.size := by omega
  have r0 := Lib.cell_of_heap hrv 0
  have r1 := Lib.cell_of_heap hrv 1
  simp at r0 r1
  have y0 := Lib.cell_of_heap HX7.out 0
  have y1 := Lib.cell_of_heap HX7.out 1
  have y2 := Lib.cell_of_heap HX7.out 2
  have y3 := Lib.cell_of_heap HX7.out 3
  have y4 := Lib.cell_of_heap HX7.out 4
  have y5 := Lib.cell_of_heap HX7.out 5
  simp at y0 y1 y2 y3 y4 y5
  have z0 := Lib.cell_of_heap HX.out 0
  have z1 := Lib.cell_of_heap HX.out 1
  have z2 := Lib.cell_of_heap HX.out 2
  have z3 := Lib.cell_of_heap HX.out 3
  have z4 := Lib.cell_of_heap HX.out 4
  have z5 := Lib.cell_of_heap HX.out 5
  simp at z0 z1 z2 z3 z4 z5
  have zf := Lib.frozen_of_heap HX.out
  have HRv := Lib.hid hrv
  have HRs := Lib.hid hrs
  clear hrv hrs HR hs7
  by_cases he : e6 = 0
  · subst he
    cases l6 with
    | nil =>
      go_wp2
      have hst := set6e HX.out (.slice a1 x1.length k1) (.slice a2 x2.length k2) (.int .u64 (x3 : Int)) (.int .u64 (x4 : Int)) (.int .i64 x5) (.int .i64 x6)
      have htc := set6t w7 w.heap.size (.slice a1 x1.length k1) (.slice a2 x2.length k2) (.int .u64 (x3 : Int)) (.int .u64 (x4 : Int)) (.int .i64 x5) (.int .i64 x6)
      have hb9 := HB7.out.trans (htc.below (B := w.heap.size) HB7.out.size (by simp))
      clear z0 z1 z2 z3 z4 z5 zf y0 y1 y2 y3 y4 y5
      have htr := etouch_owns HTr.out htc Hl0.out
      have hnr := etouch_owns HNr.out htc Hl1.out
      clear htc
      generalize ((((((w7).setCell ⟨w.heap.size, 0, none⟩ (.slice a1 x1.length k1)).setCell ⟨w.heap.size, 1, none⟩ (.slice a2 x2.length k2)).setCell ⟨w.heap.size, 2, none⟩ (.int .u64 (x3 : Int))).setCell ⟨w.heap.size, 3, none⟩ (.int .u64 (x4 : Int))).setCell ⟨w.heap.size, 4, none⟩ (.int .i64 x5)).setCell ⟨w.heap.size, 5, none⟩ (.int .i64 x6) = w9 at *
      have q0 := Lib.cell_of_heap hst 0
      have q1 := Lib.cell_of_heap hst 1
      have q2 := Lib.cell_of_heap hst 2
      have q3 := Lib.cell_of_heap hst 3
      have q4 := Lib.cell_of_heap hst 4
      have q5 := Lib.cell_of_heap hst 5
      simp at q0 q1 q2 q3 q4 q5
      refine bodyPost_ret (v := .tuple #[.agg #[.slice a1 x1.length k1, .slice a2 x2.length k2, .int .u64 (x3 : Int), .int .u64 (x4 : Int), .int .i64 x5, .int .i64 x6], .int .i64 0]) ?_ rfl ?_
      · simp [results, Try.results11, go_sem, q0, q1, q2, q3, q4, q5]
      · rw [endE_ok]
        refine ⟨a1, x1.length, k1, a2, x2.length, k2, rfl, ?_, ?_, hb9⟩
        · exact ownsRow.reads htr
        · have := ownsRow.reads hnr
          rwa [numL_flat] at this
    | cons c r =>
      have hclen : ((c :: r).length : Int) > 0 := by simp
      have hst0 := heap_setCell_same w7 (w.heap.size + 1) 1 _ _ (.int .i64 9) HRv.out
      have htc0 : Touch w7 (w7.setCell ⟨w.heap.size + 1, 1, none⟩ (.int .i64 9)) [w.heap.size + 1] := (Touch.refl w7 _).setCell (.inl (by simp)) _
      have HXa := Lib.hid (htc0.keep HX.out (by simp))
      have HBa := Lib.hid (HB7.out.trans (htc0.below (B := w.heap.size) HB7.out.size (by simp)))
      have s1 := Lib.cell_of_heap hst0 1
      simp at s1
      have hz8 := htc0.size
      clear hst0 htc0 z0 z1 z2 z3 z4 z5 zf y0 y1 y2 y3 y4 y5
      go_upto_region 5 with fail
      generalize w7.setCell ⟨w.heap.size + 1, 1, none⟩ (.int .i64 9) = w8 at *
      have lt0 : w.heap.size < w8.heap.size := by omega
      have lt1 : w.heap.size + 1 < w8.heap.size := by omega
      go_upto_region 6 with fail
      refine wp_region_until_last (l := [_, _, _, _, _, _]) (by kernel_rfl) [eqU (.agg #[.slice none 0 0, .slice none 0 0, .int .u64 0, .int .u64 0, .int .i64 0, .int .i64 0]), eqU (.pointer (some ⟨w.heap.size + 1, 0, none⟩)), eqU (.pointer (some ⟨w.heap.size + 1, 0, none⟩)), eqU (.pointer (some ⟨w.heap.size + 1, 1, none⟩)), eqU (.int .i64 9), anyU] [] (by kernel_rfl) (by kernel_rfl) (by kernel_rfl) (by kernel_rfl) (by kernel_rfl) ⟨?_, ?_, ?_, ?_, ?_, ?_, trivial⟩ ?_
      · intro ρ wx hρ hbx hl
        refine u_val (v := .agg #[.slice none 0 0, .slice none 0 0, .int .u64 0, .int .u64 0, .int .i64 0, .int .i64 0]) ?_ rfl
        simp [execOp, go_sem]
      · intro ρ wx hρ hbx hl
        have e4 : ρ (.tmp 4) = .pointer (some ⟨w.heap.size + 1, 0, none⟩) := hρ.tmp 4 (by decide +kernel)
        refine u_val (v := .pointer (some ⟨w.heap.size + 1, 0, none⟩)) ?_ rfl
        simp [execOp, go_sem, e4]
      · intro ρ wx hρ hbx hl
        have e48 : ρ (.tmp 48) = .pointer (some ⟨w.heap.size + 1, 0, none⟩) := hl 1 (by decide +kernel) (.inl rfl) 48 rfl
        refine u_val (v := .pointer (some ⟨w.heap.size + 1, 0, none⟩)) ?_ rfl
        simp [execOp, go_sem, e48]
      · intro ρ wx hρ hbx hl
        have e49 : ρ (.tmp 49) = .pointer (some ⟨w.heap.size + 1, 0, none⟩) := hl 2 (by decide +kernel) (.inl rfl) 49 rfl
        refine u_val (v := .pointer (some ⟨w.heap.size + 1, 1, none⟩)) ?_ rfl
        simp [execOp, go_sem, e49]
      · intro ρ wx hρ hbx hl
        have e50 : ρ (.tmp 50) = .pointer (some ⟨w.heap.size + 1, 1, none⟩) := hl 3 (by decide +kernel) (.inl rfl) 50 rfl
        have kk := (hbx.cell (lt1)).trans s1
        refine u_val (v := .int .i64 9) ?_ rfl
        simp [execOp, go_sem, e50, kk]
      · intro ρ wx hρ hbx hl
        have e2 : ρ (.tmp 2) = .pointer (some ⟨w.heap.size, 0, none⟩) := hρ.tmp 2 (by decide +kernel)
        have e47 : ρ (.tmp 47) = .agg #[.slice none 0 0, .slice none 0 0, .int .u64 0, .int .u64 0, .int .i64 0, .int .i64 0] := hl 0 (by decide +kernel) (.inl rfl) 47 rfl
        have hzz := (hbx.block _ lt0).trans HXa.out
        have z0 := Lib.cell_of_heap hzz 0
        have z1 := Lib.cell_of_heap hzz 1
        have z2 := Lib.cell_of_heap hzz 2
        have z3 := Lib.cell_of_heap hzz 3
        have z4 := Lib.cell_of_heap hzz 4
        have z5 := Lib.cell_of_heap hzz 5
        simp at z0 z1 z2 z3 z4 z5
        have zf := Lib.frozen_of_heap hzz
        have ltx := (Array.getElem?_eq_some_iff.1 hzz).1
        unfold YieldsP
        simp [execOp, go_sem, e2, e47, z0, z1, z2, z3, z4, z5, zf]
        rw [setCell_id (i := 0) (v := (.slice none 0 0)) hzz rfl, setCell_id (i := 1) (v := (.slice none 0 0)) hzz rfl, setCell_id (i := 2) (v := (.int .u64 0)) hzz rfl, setCell_id (i := 3) (v := (.int .u64 0)) hzz rfl, setCell_id (i := 4) (v := (.int .i64 0)) hzz rfl, setCell_id (i := 5) (v := (.int .i64 0)) hzz rfl]
        exact ⟨trivial, Below.refl _ _⟩
      intro aa wa hdef hsz hlk hbz hf
      have ha := act_of_like hdef hsz hlk [47, 48, 49, 50, 51] 53 rfl (by decide +kernel)
      have e47 : aa.tmps.getD 47 undef = .agg #[.slice none 0 0, .slice none 0 0, .int .u64 0, .int .u64 0, .int .i64 0, .int .i64 0] := hf 0 _ 47 rfl rfl rfl
      have e48 : aa.tmps.getD 48 undef = .pointer (some ⟨w.heap.size + 1, 0, none⟩) := hf 1 _ 48 rfl rfl rfl
      have e49 : aa.tmps.getD 49 undef = .pointer (some ⟨w.heap.size + 1, 0, none⟩) := hf 2 _ 49 rfl rfl rfl
      have e50 : aa.tmps.getD 50 undef = .pointer (some ⟨w.heap.size + 1, 1, none⟩) := hf 3 _ 50 rfl rfl rfl
      have e51 : aa.tmps.getD 51 undef = .int .i64 9 := hf 4 _ 51 rfl rfl rfl
      simp only [putAll, List.foldl_cons, List.foldl_nil, e47, e48, e49, e50, e51] at ha
      simp [Act.put] at ha
      subst ha
      clear hdef hsz hlk hf e47 e48 e49 e50 e51
      have HXb := Lib.hid ((hbz.block _ lt0).trans HXa.out)
      have hba' := HBa.out.trans (hbz.mono HBa.out.size)
      clear hbz
      go_wp2
      have hb9 := hba'
      have q0 := Lib.cell_of_heap HXb.out 0
      have q1 := Lib.cell_of_heap HXb.out 1
      have q2 := Lib.cell_of_heap HXb.out 2
      have q3 := Lib.cell_of_heap HXb.out 3
      have q4 := Lib.cell_of_heap HXb.out 4
      have q5 := Lib.cell_of_heap HXb.out 5
      simp at q0 q1 q2 q3 q4 q5
      refine bodyPost_ret (v := .tuple #[.agg #[.slice none 0 0, .slice none 0 0, .int .u64 0, .int .u64 0, .int .i64 0, .int .i64 0], .int .i64 9]) ?_ rfl ?_
      · simp [results, Try.results11, go_sem, q0, q1, q2, q3, q4, q5]
      · rw [endE_long (by simp)]
        exact ⟨none, 0, 0, none, 0, 0, rfl, reads_nil5 _, reads_nil1 _, hb9⟩
  · have heb : ((e6 : Int) == 0) = false := by simp [he]
    have hec : ((e6 : Int) != 0) = true := by simp [he]
    have HXa := HX
    have HBa := HB7
    have s1 := r1
    clear z0 z1 z2 z3 z4 z5 zf y0 y1 y2 y3 y4 y5
    go_upto_region 6 with fail
    refine wp_region_until_last (l := [_, _, _, _, _, _]) (by kernel_rfl) [eqU (.agg #[.slice none 0 0, .slice none 0 0, .int .u64 0, .int .u64 0, .int .i64 0, .int .i64 0]), eqU (.pointer (some ⟨w.heap.size + 1, 0, none⟩)), eqU (.pointer (some ⟨w.heap.size + 1, 0, none⟩)), eqU (.pointer (some ⟨w.heap.size + 1, 1, none⟩)), eqU (.int .i64 (e6 : Int)), anyU] [] (by kernel_rfl) (by kernel_rfl) (by kernel_rfl) (by kernel_rfl) (by kernel_rfl) ⟨?_, ?_, ?_, ?_, ?_, ?_, trivial⟩ ?_
    · intro ρ wx hρ hbx hl
      refine u_val (v := .agg #[.slice none 0 0, .slice none 0 0, .int .u64 0, .int .u64 0, .int .i64 0, .int .i64 0]) ?_ rfl
      simp [execOp, go_sem]
    · intro ρ wx hρ hbx hl
      have e4 : ρ (.tmp 4) = .pointer (some ⟨w.heap.size + 1, 0, none⟩) := hρ.tmp 4 (by decide +kernel)
      refine u_val (v := .pointer (some ⟨w.heap.size + 1, 0, none⟩)) ?_ rfl
      simp [execOp, go_sem, e4]
    · intro ρ wx hρ hbx hl
      have e48 : ρ (.tmp 48) = .pointer (some ⟨w.heap.size + 1, 0, none⟩) := hl 1 (by decide +kernel) (.inl rfl) 48 rfl
      refine u_val (v := .pointer (some ⟨w.heap.size + 1, 0, none⟩)) ?_ rfl
      simp [execOp, go_sem, e48]
    · intro ρ wx hρ hbx hl
      have e49 : ρ (.tmp 49) = .pointer (some ⟨w.heap.size + 1, 0, none⟩) := hl 2 (by decide +kernel) (.inl rfl) 49 rfl
      refine u_val (v := .pointer (some ⟨w.heap.size + 1, 1, none⟩)) ?_ rfl
      simp [execOp, go_sem, e49]
    · intro ρ wx hρ hbx hl
      have e50 : ρ (.tmp 50) = .pointer (some ⟨w.heap.size + 1, 1, none⟩) := hl 3 (by decide +kernel) (.inl rfl) 50 rfl
      have kk := (hbx.cell (lt1)).trans s1
      refine u_val (v := .int .i64 (e6 : Int)) ?_ rfl
      simp [execOp, go_sem, e50, kk]
    · intro ρ wx hρ hbx hl
      have e2 : ρ (.tmp 2) = .pointer (some ⟨w.heap.size, 0, none⟩) := hρ.tmp 2 (by decide +kernel)
      have e47 : ρ (.tmp 47) = .agg #[.slice none 0 0, .slice none 0 0, .int .u64 0, .int .u64 0, .int .i64 0, .int .i64 0] := hl 0 (by decide +kernel) (.inl rfl) 47 rfl
      have hzz := (hbx.block _ lt0).trans HXa.out
      have z0 := Lib.cell_of_heap hzz 0
      have z1 := Lib.cell_of_heap hzz 1
      have z2 := Lib.cell_of_heap hzz 2
      have z3 := Lib.cell_of_heap hzz 3
      have z4 := Lib.cell_of_heap hzz 4
      have z5 := Lib.cell_of_heap hzz 5
      simp at z0 z1 z2 z3 z4 z5
      have zf := Lib.frozen_of_heap hzz
      have ltx := (Array.getElem?_eq_some_iff.1 hzz).1
      unfold YieldsP
      simp [execOp, go_sem, e2, e47, z0, z1, z2, z3, z4, z5, zf]
      rw [setCell_id (i := 0) (v := (.slice none 0 0)) hzz rfl, setCell_id (i := 1) (v := (.slice none 0 0)) hzz rfl, setCell_id (i := 2) (v := (.int .u64 0)) hzz rfl, setCell_id (i := 3) (v := (.int .u64 0)) hzz rfl, setCell_id (i := 4) (v := (.int .i64 0)) hzz rfl, setCell_id (i := 5) (v := (.int .i64 0)) hzz rfl]
      exact ⟨trivial, Below.refl _ _⟩
    intro aa wa hdef hsz hlk hbz hf
    have ha := act_of_like hdef hsz hlk [47, 48, 49, 50, 51] 53 rfl (by decide +kernel)
    have e47 : aa.tmps.getD 47 undef = .agg #[.slice none 0 0, .slice none 0 0, .int .u64 0, .int .u64 0, .int .i64 0, .int .i64 0] := hf 0 _ 47 rfl rfl rfl
    have e48 : aa.tmps.getD 48 undef = .pointer (some ⟨w.heap.size + 1, 0, none⟩) := hf 1 _ 48 rfl rfl rfl
    have e49 : aa.tmps.getD 49 undef = .pointer (some ⟨w.heap.size + 1, 0, none⟩) := hf 2 _ 49 rfl rfl rfl
    have e50 : aa.tmps.getD 50 undef = .pointer (some ⟨w.heap.size + 1, 1, none⟩) := hf 3 _ 50 rfl rfl rfl
    have e51 : aa.tmps.getD 51 undef = .int .i64 (e6 : Int) := hf 4 _ 51 rfl rfl rfl
    simp only [putAll, List.foldl_cons, List.foldl_nil, e47, e48, e49, e50, e51] at ha
    simp [Act.put] at ha
    subst ha
    clear hdef hsz hlk hf e47 e48 e49 e50 e51
    have HXb := Lib.hid ((hbz.block _ lt0).trans HXa.out)
    have hba' := HBa.out.trans (hbz.mono HBa.out.size)
    clear hbz
    go_wp2
    have hb9 := hba'
    have q0 := Lib.cell_of_heap HXb.out 0
    have q1 := Lib.cell_of_heap HXb.out 1
    have q2 := Lib.cell_of_heap HXb.out 2
    have q3 := Lib.cell_of_heap HXb.out 3
    have q4 := Lib.cell_of_heap HXb.out 4
    have q5 := Lib.cell_of_heap HXb.out 5
    simp at q0 q1 q2 q3 q4 q5
    refine bodyPost_ret (v := .tuple #[.agg #[.slice none 0 0, .slice none 0 0, .int .u64 0, .int .u64 0, .int .i64 0, .int .i64 0], .int .i64 (e6 : Int)]) ?_ rfl ?_
    · simp [results, Try.results11, go_sem, q0, q1, q2, q3, q4, q5]
    · rw [endE_bad he]
      exact ⟨none, 0, 0, none, 0, 0, rfl, reads_nil5 _, reads_nil1 _, hb9⟩
end Go.Proofs.Ythjimldojdhccaa
