/- edit.Apply of any version and any edit. -/
import Derived.Test.YthjimldojdhccaaZEditMap
import Derived.Test.YthjimldojdhccaaMga
import Derived.Lib.MinMax
namespace Go.Proofs.Ythjimldojdhccaa
open Go Go.RowKit Go.Lib Go.Sort Go.Maps

theorem set5_at {w : World} {g : Nat} {x0 x1 x2 x3 x4 : Value} {t : TypeId} (h : w.heap[g]? = some (.cells #[x0, x1, x2, x3, x4] t (0, 0))) (a b c d e : Value) :
    (((((w.setCell ⟨g, 0, none⟩ a).setCell ⟨g, 1, none⟩ b).setCell ⟨g, 2, none⟩ c).setCell ⟨g, 3, none⟩ d).setCell ⟨g, 4, none⟩ e).heap[g]? = some (.cells #[a, b, c, d, e] t (0, 0)) := by
  have h1 := heap_setCell_same w g 0 _ _ a h
  have h2 := heap_setCell_same _ g 1 _ _ b h1
  have h3 := heap_setCell_same _ g 2 _ _ c h2
  have h4 := heap_setCell_same _ g 3 _ _ d h3
  have h5 := heap_setCell_same _ g 4 _ _ e h4
  simpa using h5

theorem set5_touch (w : World) (g : Nat) (a b c d e : Value) : Touch w (((((w.setCell ⟨g, 0, none⟩ a).setCell ⟨g, 1, none⟩ b).setCell ⟨g, 2, none⟩ c).setCell ⟨g, 3, none⟩ d).setCell ⟨g, 4, none⟩ e) [g] :=
  ((((Touch.refl w [g]).setCell (.inl (by simp)) a).setCell (.inl (by simp)) b).setCell (.inl (by simp)) c).setCell (.inl (by simp)) d |>.setCell (.inl (by simp)) e

theorem good_apart {next : Int} : ∀ (pre l : List Tb), goodTabs next pre l = true → Apart l ∧ ∀ u ∈ pre, ∀ t ∈ l, u.num ≠ t.num
  | pre, [], _ => ⟨List.Pairwise.nil, fun u hu t ht => by cases ht⟩
  | pre, t :: r, h => by
    rw [goodTabs, Bool.and_eq_true] at h
    obtain ⟨h1, h2⟩ := h
    obtain ⟨k1, k2⟩ := good_apart (pre ++ [t]) r h2
    unfold okTab at h1
    rw [Bool.and_eq_true, Bool.and_eq_true, Bool.not_eq_true', List.any_eq_false] at h1
    have hn : ∀ u ∈ pre, u.num ≠ t.num := fun u hu e => h1.1.1 u hu (by simp [e])
    refine ⟨List.pairwise_cons.2 ⟨fun x hx => k2 t (by simp) x hx, k1⟩, fun u hu x hx => ?_⟩
    rcases List.mem_cons.1 hx with rfl | hx
    · exact hn u hu
    · exact k2 u (by simp [hu]) x hx

theorem chk_zero {v : Ver} (h : chk v = 0) : headOk v = true ∧ goodTabs v.next [] v.tabs = true := by
  unfold chk at h
  split at h
  · rename_i h2
    simpa using h2
  · cases h

theorem chk_nine {v : Ver} (h : chk v ≠ 0) : chk v = 9 := by
  unfold chk at h ⊢
  split at h
  · exact absurd rfl h
  · rename_i h2
    rw [if_neg h2]

theorem chk_apart {v : Ver} (h : chk v = 0) : Apart v.tabs := (good_apart _ _ (chk_zero h).2).1

theorem apart_take {l : List Tb} {k : Nat} {t : Tb} (h : Apart l) (hk : l[k]? = some t) : ((l.take k).any fun u => u.num == t.num) = false := by
  rw [List.any_eq_false]
  intro u hu e
  obtain ⟨i, hi, rfl⟩ := List.getElem_of_mem hu
  have hi' : i < k := by rw [List.length_take] at hi; omega
  have hkl := (List.getElem?_eq_some_iff.1 hk).1
  have := List.pairwise_iff_getElem.1 h i k (by omega) hkl hi'
  rw [(List.getElem?_eq_some_iff.1 hk).2] at this
  rw [List.getElem_take] at e
  exact this (by simpa using e)

theorem three_boxes (w : World) (A B C : Array Value) (s t u : TypeId) : (((w.alloc (.cells A s)).alloc (.cells B t)).alloc (.cells C u)).heap[w.heap.size]? = some (.cells A s (0, 0)) ∧ (((w.alloc (.cells A s)).alloc (.cells B t)).alloc (.cells C u)).heap[w.heap.size + 1]? = some (.cells B t (0, 0)) ∧
    (((w.alloc (.cells A s)).alloc (.cells B t)).alloc (.cells C u)).heap[w.heap.size + 1 + 1]? = some (.cells C u (0, 0)) ∧ Below w.heap.size w (((w.alloc (.cells A s)).alloc (.cells B t)).alloc (.cells C u)) ∧ (((w.alloc (.cells A s)).alloc (.cells B t)).alloc (.cells C u)).heap.size = w.heap.size + 1 + 1 + 1 := by
  obtain ⟨h1, h2, h3, h4⟩ := two_boxes w A B s t
  refine ⟨(Below.heap_alloc _ _ _ (by simp; omega)).trans h1, (Below.heap_alloc _ _ _ (by simp)).trans h2, ?_, h3.alloc h3.size _, by simp⟩
  have := heap_alloc_new ((w.alloc (.cells A s)).alloc (.cells B t)) (.cells C u)
  rw [h4] at this
  exact this

theorem TRows.len {w : World} {a : Option Addr} {n c : Nat} {l : List Tb} (h : TRows w (.slice a n c) l) : l.length = n ∧ n ≤ c ∧ c ≤ 9223372036854775807 := by
  obtain ⟨_, _, _, e, q1, q2, _⟩ := h
  cases e
  exact ⟨rfl, q1, q2⟩

theorem num_cell {w : World} {a : Option Addr} {n c : Nat} {l : List Int} (h : Reads w 1 (.slice a n c) n (ncells l)) {k : Nat} {x : Int} (hk : l[k]? = some x) : ∃ g off, a = some ⟨g, off, none⟩ ∧ g < w.heap.size ∧ w.cell? ⟨g, off + k, none⟩ = some (.int .i64 x) :=
  h.at (by unfold ncells; rw [List.getElem?_map, hk]; rfl)

theorem num_len {w : World} {a : Option Addr} {n c : Nat} {l : List Int} (h : Reads w 1 (.slice a n c) n (ncells l)) : l.length = n ∧ n ≤ c ∧ c ≤ 9223372036854775807 := by
  obtain ⟨q0, _, _, e, q1, q2, _⟩ := h
  cases e
  exact ⟨by simpa [ncells] using q0, q1, q2⟩

/-- A look-up in a map of tables. -/
theorem wpList_lookup_tab {w : World} {ops : Array Oper} {rest : List Oper} {o : Oper} {a : Act} {Q : Exit → Act → World → Prop} (hg : o.guard = none) (m x : Operand) (hop : o.op = Op.lookup 70 m x true) (M n : Nat) (D : DataW Tb) (l : List Tb)
    (hm : a.eval m = .map (some M)) (hown : w.ownsMap Try.prog 3 tabR M n D) (hl : LookT D l) (y : Int) (hx : a.eval x = .int .i64 y) (hwf : (Lit.int .i64 y).wf = true) (b : Bool) (hb : (l.any fun u => u.num == y) = b)
    (hK : ∀ (t0 t1 t2 : Int) (t3 t4 : ByteArray), wpList Try.prog ops Q rest (a.put o.dst (.tuple #[.agg #[.int .i64 t0, .int .i64 t1, .int .i64 t2, .string t3, .string t4], .bool b])) w) : wpList Try.prog ops Q (o :: rest) a w := by
  refine wpList_lookup_own_ok w hg m x 70 hop 3 45 intKeyed tabsU tabR (zeroTab w) _ _ (tabR_mk _) M n D hm hown _ _ hx (keyOf_int_mk Try.underlying3 hwf) fun v ps hv => ?_
  obtain ⟨t, rfl, _⟩ := tabR_inv hv
  rw [hl.2.1 y, hb]
  exact hK t.num t.lev t.size t.first t.last

theorem drop_some {n : Int} {r : List Int} {l : List Tb} (h : (l.any fun t => t.num == n) = true) : dropT (n :: r) l = dropT r (l.filter fun t => !(t.num == n)) := by rw [dropT, if_pos h]
theorem drop_none {n : Int} {r : List Int} {l : List Tb} (h : (l.any fun t => t.num == n) = false) : dropT (n :: r) l = none := by rw [dropT, if_neg (by simp [h])]
theorem add_some {t : Tb} {r l : List Tb} (h : (l.any fun u => u.num == t.num) = false) : addT (t :: r) l = addT r (l ++ [t]) := by rw [addT, if_neg (by simp [h])]
theorem add_none {t : Tb} {r l : List Tb} (h : (l.any fun u => u.num == t.num) = true) : addT (t :: r) l = none := by rw [addT, if_pos h]
theorem drop_cons {α : Type} {l : List α} {k : Nat} {x : α} (h : l[k]? = some x) : l.drop k = x :: l.drop (k + 1) := by
  rw [List.drop_eq_getElem_cons (List.getElem?_eq_some_iff.1 h).1, (List.getElem?_eq_some_iff.1 h).2]

/-- the slot holds tables of one's own -/
def tabsF (B : Nat) (l : List Tb) : SlotFact := ⟨fun v w => ∃ a c, v = .slice a l.length c ∧ w.ownsRow B 45 5 (.slice a l.length c) l.length (l.flatMap Tb.cells), fun _ _ _ ⟨a, c, h, ho⟩ hb => ⟨a, c, h, owns_below ho hb⟩⟩
/-- the slot holds a version -/
def verF (B : Nat) (l : List Tb) (vf ef vh eh : Nat) (vl el vn en : Int) : SlotFact := ⟨fun v w => ∃ a c, v = .agg #[.slice a l.length c, .int .u64 (max (vf : Int) (ef : Int)), .int .u64 (max (vh : Int) (eh : Int)), .int .i64 (max vl el), .int .i64 (max vn en)] ∧ w.ownsRow B 45 5 (.slice a l.length c) l.length (l.flatMap Tb.cells), fun _ _ _ ⟨a, c, h, ho⟩ hb => ⟨a, c, h, owns_below ho hb⟩⟩

theorem own_lower {w : World} {B B' n s : Nat} {e : TypeId} {v : Value} {xs : List Value} (h : w.ownsRow B e s v n xs) (hB : B' ≤ B) : w.ownsRow B' e s v n xs :=
  ⟨h.1, h.2.imp_right fun ⟨g, cap, cur, q1, q2, q3⟩ => ⟨g, cap, cur, q1, Nat.le_trans hB q2, q3⟩⟩

theorem own_touch {w w' : World} {B n s : Nat} {e : TypeId} {v : Value} {xs : List Value} {l : List Nat} (h : w.ownsRow B e s v n xs) (ht : Touch w w' l) (hn : ∀ g, v.ownBlock = some g → g ∉ l) : w'.ownsRow B e s v n xs :=
  ⟨h.1, h.2.imp_right fun ⟨g, cap, cur, q1, q2, q3, q4⟩ => ⟨g, cap, cur, q1, q2, ht.keep q3 (hn g (by rw [q1]; rfl)), q4⟩⟩

theorem own_bound {w : World} {B n s : Nat} {e : TypeId} {v : Value} {xs : List Value} (h : w.ownsRow B e s v n xs) {g : Nat} (hg : v.ownBlock = some g) : B ≤ g ∧ g < w.heap.size := by
  rcases h.2 with ⟨rfl, _⟩ | ⟨g', cap, cur, rfl, q2, q3, _⟩
  · simp [Value.ownBlock] at hg
  · simp [Value.ownBlock] at hg
    subst hg
    exact ⟨q2, (Array.getElem?_eq_some_iff.1 q3).1⟩

theorem maxN (a b : Nat) : ((max a b : Nat) : Int) = max (a : Int) (b : Int) := by omega

/-- A version and an error are told. -/
def ApplPost (w : World) (r : Ver × Int) (e : Ending) (w' : World) : Prop :=
  ∃ a n c, e = .returned (.tuple #[vv r.1 a n c, .int .i64 r.2]) ∧ w'.ownsRow w.heap.size 45 5 (.slice a n c) r.1.tabs.length (r.1.tabs.flatMap Tb.cells) ∧ Below w.heap.size w w'

theorem appl_bad {v : Ver} {e : Ed} (h : chk v ≠ 0) : appl v e = (ver0, 9) := by
  unfold appl
  rw [if_pos h, chk_nine h]
theorem appl_arg {v : Ver} {e : Ed} (h : chk v = 0) (hr : right e = false) : appl v e = (ver0, 1) := by
  unfold appl
  rw [if_neg (by simp [h]), if_pos hr]
theorem appl_missing {v : Ver} {e : Ed} (h : chk v = 0) (hr : right e = true) (hd : dropT e.drop v.tabs = none) : appl v e = (ver0, 4) := by
  unfold appl
  rw [if_neg (by simp [h]), if_neg (by simp [hr]), hd]
theorem appl_exists {v : Ver} {e : Ed} {l : List Tb} (h : chk v = 0) (hr : right e = true) (hd : dropT e.drop v.tabs = some l) (ha : addT e.add l = none) : appl v e = (ver0, 3) := by
  unfold appl
  rw [if_neg (by simp [h]), if_neg (by simp [hr]), hd]
  simp only [ha]
theorem appl_order {v : Ver} {e : Ed} {l m : List Tb} (h : chk v = 0) (hr : right e = true) (hd : dropT e.drop v.tabs = some l) (ha : addT e.add l = some m) (hc : chk (newV v e m) ≠ 0) : appl v e = (ver0, 11) := by
  unfold appl
  rw [if_neg (by simp [h]), if_neg (by simp [hr]), hd]
  simp only [ha, if_neg hc]
theorem appl_good {v : Ver} {e : Ed} {l m : List Tb} (h : chk v = 0) (hr : right e = true) (hd : dropT e.drop v.tabs = some l) (ha : addT e.add l = some m) (hc : chk (newV v e m) = 0) : appl v e = (newV v e m, 0) := by
  unfold appl
  rw [if_neg (by simp [h]), if_neg (by simp [hr]), hd]
  simp only [ha, if_pos hc]

def zeroV : Value := .agg #[.slice none 0 0, .int .u64 0, .int .u64 0, .int .i64 0, .int .i64 0]

def Ap1 (w W3 : World) (m : Nat) (l : List Tb) (iv : Value) (wr : World) : Prop :=
  ∃ (k : Nat) (D : DataW Tb), iv = .int .i64 (k : Int) ∧ k ≤ l.length ∧ wr.ownsMap Try.prog 3 tabR m k D ∧ LookT D (l.take k) ∧ Below (w.heap.size + 3) W3 wr
def Ap2 (w W3 : World) (m n : Nat) (tabs : List Tb) (drop : List Int) (iv : Value) (wr : World) : Prop :=
  ∃ (k : Nat) (D : DataW Tb) (l : List Tb), iv = .int .i64 (k : Int) ∧ k ≤ drop.length ∧ wr.ownsMap Try.prog 3 tabR m n D ∧ LookT D l ∧ dropT drop tabs = dropT (drop.drop k) l ∧ l.length ≤ tabs.length ∧ Below (w.heap.size + 3) W3 wr
def Ap3 (w W3 : World) (m n : Nat) (l0 : List Tb) (add : List Tb) (iv : Value) (wr : World) : Prop :=
  ∃ (k : Nat) (D : DataW Tb) (l : List Tb), iv = .int .i64 (k : Int) ∧ k ≤ add.length ∧ wr.ownsMap Try.prog 3 tabR m (n + k) D ∧ LookT D l ∧ addT add l0 = addT (add.drop k) l ∧ l.length ≤ l0.length + k ∧ Below (w.heap.size + 3) W3 wr

/-- The end with an error. -/
theorem appl_zero {w w1 : World} {R : Ver × Int} {x : Int} (hR : R = (ver0, x)) (hb : Below w.heap.size w w1) : ApplPost w R (.returned (.tuple #[zeroV, .int .i64 x])) w1 := by
  subst hR
  exact ⟨none, 0, 0, rfl, owns_nil _ _ _ _, hb⟩

set_option maxRecDepth 100000 in
set_option maxHeartbeats 4000000 in
theorem apply_any (w : World) (v : Ver) (e : Ed) (av a1 a2 : Option Addr) (nv cv n1 c1 n2 c2 : Nat) (hv : TRows w (.slice av nv cv) v.tabs) (h1 : TRows w (.slice a1 n1 c1) e.add) (h2 : Reads w 1 (.slice a2 n2 c2) n2 (ncells e.drop))
    (hs : v.tabs.length + e.add.length + e.drop.length ≤ 1000) (hi1 : ∀ t ∈ v.tabs, (Lit.int .i64 t.num).wf = true) (hi2 : ∀ t ∈ e.add, (Lit.int .i64 t.num).wf = true) (hi3 : ∀ x ∈ e.drop, (Lit.int .i64 x).wf = true) :
    Calls Try.prog 15 #[vv v av nv cv, ev e a1 a2 n1 c1 n2 c2] w (ApplPost w (appl v e)) := by
  have hchk := fun W (hb : Below w.heap.size w W) => chk_any W v av nv cv (hv.below hb) (by omega) hi1
  have hcke := fun W (hb : Below w.heap.size w W) => check_any W e a1 a2 n1 c1 n2 c2 (h1.below hb) (h2.below' hb)
  have HChk := Lib.hid hchk
  have HCke := Lib.hid hcke
  have hb9 := appl_bad (v := v) (e := e)
  have hb1 := appl_arg (v := v) (e := e)
  have HB9 := Lib.hid hb9
  have HB1 := Lib.hid hb1
  have HEr := Lib.hid (show erE e = if right e then 0 else 1 from rfl)
  clear hchk hcke hb9 hb1
  have hap := chk_apart (v := v)
  have HAp := Lib.hid hap
  clear hap
  generalize hrv : appl v e = R at *
  have HRv := Lib.hid hrv
  clear hrv
  obtain ⟨tabs, vf, vh, vl, vn⟩ := v
  obtain ⟨add, drop, ef, eh, el, en⟩ := e
  simp only [vv, ev] at *
  obtain ⟨x1, x2, x3, x4, x5⟩ := three_boxes w #[.slice av nv cv, .int .u64 (vf : Int), .int .u64 (vh : Int), .int .i64 vl, .int .i64 vn] #[.slice a1 n1 c1, .slice a2 n2 c2, .int .u64 (ef : Int), .int .u64 (eh : Int), .int .i64 el, .int .i64 en] #[.slice none 0 0, .int .u64 0, .int .u64 0, .int .i64 0, .int .i64 0] 38 26 38
  have X1 := Lib.hid x1
  have X2 := Lib.hid x2
  have X3 := Lib.hid x3
  have X4 := Lib.hid x4
  have X5 := Lib.hid x5
  clear x1 x2 x3 x4 x5
  obtain ⟨lv1, lv2, lv3⟩ := hv.len
  obtain ⟨la1, la2, la3⟩ := h1.len
  obtain ⟨ld1, ld2, ld3⟩ := num_len h2
  have HV := Lib.hid hv
  have HA := Lib.hid h1
  have HD := Lib.hid h2
  have LV := Lib.hid lv1
  have LA := Lib.hid la1
  have LD := Lib.hid ld1
  have I1 := Lib.hid hi1
  have I2 := Lib.hid hi2
  have I3 := Lib.hid hi3
  have HS := Lib.hid hs
  clear hv h1 h2 lv1 la1 ld1 hi1 hi2 hi3 hs
  have hmm := @run_makeMap Try.prog
  go_enter Try.func15, Try.ntmps15
  go_wp2_with (go_at_call 18; go_must (refine (HChk.out _ X4.out).mono ?_))
  rintro e w1 ⟨rfl, b1⟩
  generalize ((w.alloc (.cells #[.slice av nv cv, .int .u64 (vf : Int), .int .u64 (vh : Int), .int .i64 vl, .int .i64 vn] 38)).alloc (.cells #[.slice a1 n1 c1, .slice a2 n2 c2, .int .u64 (ef : Int), .int .u64 (eh : Int), .int .i64 el, .int .i64 en] 26)).alloc (.cells #[.slice none 0 0, .int .u64 0, .int .u64 0, .int .i64 0, .int .i64 0] 38) = W3 at *
  by_cases hc0 : chk ⟨tabs, vf, vh, vl, vn⟩ = 0
  · rw [hc0]
    have HC0 := Lib.hid hc0
    clear hc0 HB9
    have xe0 := (b1.block _ (by rw [X5.out]; omega)).trans X2.out
    have e0 := Lib.cell_of_heap xe0 0
    have e1 := Lib.cell_of_heap xe0 1
    have e2 := Lib.cell_of_heap xe0 2
    have e3 := Lib.cell_of_heap xe0 3
    have e4 := Lib.cell_of_heap xe0 4
    have e5 := Lib.cell_of_heap xe0 5
    simp at e0 e1 e2 e3 e4 e5
    clear xe0
    go_wp2_with (go_at_call 19; go_must (refine (HCke.out _ (X4.out.trans (b1.mono (by rw [X5.out]; omega)))).mono ?_))
    rintro e w2 ⟨rfl, b2'⟩
    have b2 := b1.trans (b2'.mono b1.size)
    clear b2' e0 e1 e2 e3 e4 e5
    cases hr : right ⟨add, drop, ef, eh, el, en⟩ with
    | false =>
      have hR := HB1.out HC0.out hr
      have HR := Lib.hid hR
      have her : erE ⟨add, drop, ef, eh, el, en⟩ = 1 := HEr.out.trans (by rw [hr]; rfl)
      rw [her]
      have HZ := Lib.hid ((b2.block _ (by rw [X5.out]; omega)).trans X3.out)
      have HBw := Lib.hid (X4.out.trans (b2.mono (by rw [X5.out]; omega)))
      clear b2 hr hR her HB1
      have z0 := Lib.cell_of_heap HZ.out 0
      have z1 := Lib.cell_of_heap HZ.out 1
      have z2 := Lib.cell_of_heap HZ.out 2
      have z3 := Lib.cell_of_heap HZ.out 3
      have z4 := Lib.cell_of_heap HZ.out 4
      simp at z0 z1 z2 z3 z4
      have zf := Lib.frozen_of_heap HZ.out
      go_wp2
      have hst := set5_at HZ.out (.slice none 0 0) (.int .u64 0) (.int .u64 0) (.int .i64 0) (.int .i64 0)
      have hbt := HBw.out.trans (((set5_touch (w2) (w.heap.size + 1 + 1) (.slice none 0 0) (.int .u64 0) (.int .u64 0) (.int .i64 0) (.int .i64 0)).below (B := w.heap.size) HBw.out.size (by simp; omega)))
      clear z0 z1 z2 z3 z4 zf
      generalize (((((w2).setCell ⟨w.heap.size + 1 + 1, 0, none⟩ (.slice none 0 0)).setCell ⟨w.heap.size + 1 + 1, 1, none⟩ (.int .u64 0)).setCell ⟨w.heap.size + 1 + 1, 2, none⟩ (.int .u64 0)).setCell ⟨w.heap.size + 1 + 1, 3, none⟩ (.int .i64 0)).setCell ⟨w.heap.size + 1 + 1, 4, none⟩ (.int .i64 0) = wz at *
      have q0 := Lib.cell_of_heap hst 0
      have q1 := Lib.cell_of_heap hst 1
      have q2 := Lib.cell_of_heap hst 2
      have q3 := Lib.cell_of_heap hst 3
      have q4 := Lib.cell_of_heap hst 4
      simp at q0 q1 q2 q3 q4
      refine bodyPost_ret (v := .tuple #[zeroV, .int .i64 1]) ?_ rfl (appl_zero HR.out hbt)
      simp [results, Try.results15, go_sem, q0, q1, q2, q3, q4, zeroV]
    | true =>
      have her : erE ⟨add, drop, ef, eh, el, en⟩ = 0 := HEr.out.trans (by rw [hr]; rfl)
      rw [her]
      have HRt := Lib.hid hr
      clear hr her HB1 HEr
      have xv0 := (b2.block _ (by rw [X5.out]; omega)).trans X1.out
      have v0 := Lib.cell_of_heap xv0 0
      have v1 := Lib.cell_of_heap xv0 1
      have v2 := Lib.cell_of_heap xv0 2
      have v3 := Lib.cell_of_heap xv0 3
      have v4 := Lib.cell_of_heap xv0 4
      simp at v0 v1 v2 v3 v4
      clear xv0
      have hs2 := b2.size
      rw [X5.out] at hs2
      have lt0 : w.heap.size < w2.heap.size := by omega
      have HB2 := Lib.hid b2
      clear b1 b2
      go_wp2
      have hown0 := World.ownsMap_made (H := Tb) w2 Try.prog 3 tabR
      have hb4 : Below (w.heap.size + 3) W3 (w2.alloc (.map #[] 0)) := (HB2.out.mono (by rw [X5.out]; omega)).trans (((Below.refl _ w2).alloc (Nat.le_refl _) _).mono (by omega))
      have hM : w.heap.size + 3 ≤ w2.heap.size := by omega
      generalize w2.alloc (.map #[] 0) = W4 at *
      generalize w2.heap.size = M at *
      have HO0 := Lib.hid hown0
      have HB4 := Lib.hid hb4
      clear hown0 hb4 v0 v1 v2 v3 v4 hs2 lt0 HB2
      go_loopw [36] (fun iv wr => Ap1 w W3 M tabs iv wr) (fun iv _ => nv - (intOf iv).toNat)
      case atStart => exact ⟨0, _, rfl, Nat.zero_le _, HO0.out, look_nil, HB4.out⟩
      case round =>
        obtain ⟨k, D, rfl, hk, hown, hlk, hb⟩ := hrel
        rw [LV.out] at hk
        have HB := Lib.hid hb
        have HLk := Lib.hid hlk
        have hbs := hb.size
        rw [X5.out] at hbs
        have hbw : Below w.heap.size w wr := X4.out.trans (hb.mono (by omega))
        have HBW := Lib.hid hbw
        clear hlk
        by_cases hlt : k < nv
        · have hkI : (k : Int) < nv := by omega
          obtain ⟨x, hx⟩ : ∃ x, tabs[k]? = some x := ⟨tabs[k]'(by rw [LV.out]; exact hlt), List.getElem?_eq_getElem _⟩
          obtain ⟨g, off, rfl, hg, k0, k1, k2, k3, k4⟩ := (TRows.below HV.out hbw).row hx
          have hwf := I1.out x (List.mem_of_getElem? hx)
          have hkey := keyOf_int_mk Try.underlying3 hwf
          have hfree := apart_take (HAp.out HC0.out) hx
          have hput := look_put (t := x) (hown.isMap) HLk.out hfree hwf
          have htk : tabs.take k ++ [x] = tabs.take (k + 1) := by rw [List.take_add_one, hx]; rfl
          rw [htk] at hput
          have HPut := Lib.hid hput
          have hval := tabR_mk x
          obtain ⟨xn, xl, xz, xf, xt⟩ := x
          simp only [tv] at k0 k1 k2 k3 k4 hkey hval
          have hHS := HS.out
          simp only [LV.out] at hHS
          clear hx hb hbw hwf hfree hput htk
          go_wp2_with (at_mapUpdate; refine wpList_mapUpdate_own _ rfl _ _ _ 70 rfl 3 45 intKeyed tabsU tabR M k D rfl (hown.alloc _) (by unfold maxLen; omega) _ _ (.int .i64 xn) rfl rfl hkey _ [] hval ?_; intro w5 hown5 hgrow5)
          have HO5 := Lib.hid hown5
          have hb5 : Below (w.heap.size + 3) W3 w5 := HB.out.trans ((((Below.refl _ wr).alloc (Nat.le_refl _) _).mono (by omega)).trans ((Touch.of_grown hgrow5).below (by simp; omega) (by simp; omega)))
          have HB5 := Lib.hid hb5
          clear hown5 hgrow5 hown hkey hval hb5
          go_wp2
          exact ⟨⟨k + 1, _, by go_num, by rw [LV.out]; omega, HO5.out, HPut.out, HB5.out⟩, by simp [intOf]; omega⟩
        · obtain rfl : k = nv := by omega
          rw [List.take_of_length_le (by rw [LV.out]; exact Nat.le_refl _)] at HLk
          have xe0 := (HB.out.block _ (by omega)).trans X2.out
          have lt1 : w.heap.size + 1 < wr.heap.size := by omega
          have e0 := Lib.cell_of_heap xe0 0
          have e1 := Lib.cell_of_heap xe0 1
          have e2 := Lib.cell_of_heap xe0 2
          have e3 := Lib.cell_of_heap xe0 3
          have e4 := Lib.cell_of_heap xe0 4
          have e5 := Lib.cell_of_heap xe0 5
          simp at e0 e1 e2 e3 e4 e5
          clear xe0 hb hbw
          have HMiss := Lib.hid (fun h => HRv.out.symm.trans (appl_missing (v := ⟨tabs, vf, vh, vl, vn⟩) (e := ⟨add, drop, ef, eh, el, en⟩) HC0.out HRt.out h))
          have HO1 := Lib.hid hown
          have HLk1 := HLk
          have HB1 := HB
          clear hown HLk HB HBW hbs
          go_wp2
          obtain ⟨wo, hwo⟩ : ∃ wo, wo = wr := ⟨_, rfl⟩
          subst hwo
          clear e0 e1 e2 e3 e4 e5
          go_loopw [48] (fun iv wi => Ap2 w W3 M k tabs drop iv wi) (fun iv _ => n2 - (intOf iv).toNat)
          case atStart => exact ⟨0, _, tabs, rfl, Nat.zero_le _, HO1.out, HLk1.out, rfl, Nat.le_refl _, HB1.out⟩
          case round =>
            rename World => wi
            obtain ⟨j, D, l, rfl, hj, hown, hlk, hdr, hlen, hb⟩ := hrel
            rw [LD.out] at hj
            have HB := Lib.hid hb
            have HLk := Lib.hid hlk
            have HDr := Lib.hid hdr
            have HLen := Lib.hid hlen
            have hbs := hb.size
            rw [X5.out] at hbs
            have hbw : Below w.heap.size w wi := X4.out.trans (hb.mono (by omega))
            clear hlk hdr hlen
            by_cases hlt : j < n2
            · have hjI : (j : Int) < n2 := by omega
              obtain ⟨x, hx⟩ : ∃ x, drop[j]? = some x := ⟨drop[j]'(by rw [LD.out]; exact hlt), List.getElem?_eq_getElem _⟩
              obtain ⟨g, off, rfl, hg, c0⟩ := num_cell (HD.out.below' hbw) hx
              have hwf := I3.out x (List.mem_of_getElem? hx)
              have HDc := Lib.hid (drop_cons hx)
              clear hx hb
              cases hb0 : (l.any fun u => u.num == x) with
              | false =>
                have HR := Lib.hid (HMiss.out (HDr.out.trans (by rw [HDc.out, drop_none hb0])))
                have HZ := Lib.hid ((HB.out.block _ (by omega)).trans X3.out)
                have HBw := Lib.hid hbw
                have lt2 : w.heap.size + 1 + 1 < wi.heap.size := by omega
                have hlk := HLk.out
                clear HMiss hbw
                have z0 := Lib.cell_of_heap HZ.out 0
                have z1 := Lib.cell_of_heap HZ.out 1
                have z2 := Lib.cell_of_heap HZ.out 2
                have z3 := Lib.cell_of_heap HZ.out 3
                have z4 := Lib.cell_of_heap HZ.out 4
                simp at z0 z1 z2 z3 z4
                have zf := Lib.frozen_of_heap HZ.out
                go_wp2_with (at_lookup; refine wpList_lookup_tab rfl _ _ rfl M k D l rfl hown hlk x rfl hwf false hb0 ?_; intro t0 t1 t2 t3 t4)
                have hst := set5_at HZ.out (.slice none 0 0) (.int .u64 0) (.int .u64 0) (.int .i64 0) (.int .i64 0)
                have hbt := HBw.out.trans (((set5_touch (wi) (w.heap.size + 1 + 1) (.slice none 0 0) (.int .u64 0) (.int .u64 0) (.int .i64 0) (.int .i64 0)).below (B := w.heap.size) HBw.out.size (by simp; omega)))
                clear z0 z1 z2 z3 z4 zf
                generalize (((((wi).setCell ⟨w.heap.size + 1 + 1, 0, none⟩ (.slice none 0 0)).setCell ⟨w.heap.size + 1 + 1, 1, none⟩ (.int .u64 0)).setCell ⟨w.heap.size + 1 + 1, 2, none⟩ (.int .u64 0)).setCell ⟨w.heap.size + 1 + 1, 3, none⟩ (.int .i64 0)).setCell ⟨w.heap.size + 1 + 1, 4, none⟩ (.int .i64 0) = wz at *
                have ltz := (Array.getElem?_eq_some_iff.1 hst).1
                have q0 := Lib.cell_of_heap hst 0
                have q1 := Lib.cell_of_heap hst 1
                have q2 := Lib.cell_of_heap hst 2
                have q3 := Lib.cell_of_heap hst 3
                have q4 := Lib.cell_of_heap hst 4
                simp at q0 q1 q2 q3 q4
                refine bodyPost_ret (v := .tuple #[zeroV, .int .i64 4]) ?_ rfl (appl_zero HR.out (hbt.alloc hbt.size _))
                simp [results, Try.results15, go_sem, q0, q1, q2, q3, q4, zeroV, ltz]
              | true =>
                have hlk := HLk.out
                have HLd := Lib.hid (look_del (x := x) hlk)
                have HBW := Lib.hid hbw
                have HDn := Lib.hid (show dropT drop tabs = dropT (drop.drop (j + 1)) (l.filter fun t => !(t.num == x)) from HDr.out.trans (by rw [HDc.out, drop_some hb0]))
                have HLe := Lib.hid (Nat.le_trans (List.length_filter_le (fun t => !(t.num == x)) l) HLen.out)
                clear hbw HMiss
                go_wp2_with (first | (at_lookup; refine wpList_lookup_tab rfl _ _ rfl M k D l rfl hown hlk x rfl hwf true hb0 ?_; intro t0 t1 t2 t3 t4) | (at_delete; go_must (refine wpList_delete_own _ rfl _ _ 70 3 rfl 45 intKeyed tabsU tabR M k D rfl (hown.alloc _) _ (.int .i64 x) rfl (keyOf_int_mk Try.underlying3 hwf) ?_)))
                intro w5 hown5 hturn
                have HO5 := Lib.hid hown5
                have hb5 : Below (w.heap.size + 3) W3 w5 := HB.out.trans ((((Below.refl _ wi).alloc (Nat.le_refl _) _).mono (by omega)).trans ((Touch.of_grown hturn.grown).below (by simp; omega) (by simp; omega)))
                have HB5 := Lib.hid hb5
                clear hown5 hturn hown hb5
                go_wp2
                exact ⟨⟨j + 1, _, _, by go_num, by rw [LD.out]; omega, HO5.out, HLd.out, HDn.out, HLe.out, HB5.out⟩, by simp [intOf]; omega⟩
            · obtain rfl : j = n2 := by omega
              have HDl := Lib.hid (show dropT drop tabs = some l from HDr.out.trans (by rw [List.drop_of_length_le (by rw [LD.out]; exact Nat.le_refl _)]; rfl))
              have xe0 := (HB.out.block _ (by omega)).trans X2.out
              have lt1 : w.heap.size + 1 < wi.heap.size := by omega
              have e0 := Lib.cell_of_heap xe0 0
              have e1 := Lib.cell_of_heap xe0 1
              have e2 := Lib.cell_of_heap xe0 2
              have e3 := Lib.cell_of_heap xe0 3
              have e4 := Lib.cell_of_heap xe0 4
              have e5 := Lib.cell_of_heap xe0 5
              simp at e0 e1 e2 e3 e4 e5
              clear xe0 hb hbw
              have HEx := Lib.hid (fun h => HRv.out.symm.trans (appl_exists (v := ⟨tabs, vf, vh, vl, vn⟩) (e := ⟨add, drop, ef, eh, el, en⟩) HC0.out HRt.out HDl.out h))
              have HO6 := Lib.hid hown
              have HLk6 := HLk
              have HB6 := HB
              clear hown HLk HB hbs HMiss
              go_wp2
              obtain ⟨wd, hwd⟩ : ∃ wd, wd = wi := ⟨_, rfl⟩
              subst hwd
              clear e0 e1 e2 e3 e4 e5
              go_loopw [67] (fun iv wi => Ap3 w W3 M k l add iv wi) (fun iv _ => n1 - (intOf iv).toNat)
              case atStart => exact ⟨0, _, l, rfl, Nat.zero_le _, HO6.out, HLk6.out, rfl, Nat.le_refl _, HB6.out⟩
              case round =>
                rename World => wi
                obtain ⟨i, D, m, rfl, hi, hown, hlk, had, hlen, hb⟩ := hrel
                rw [LA.out] at hi
                have HB := Lib.hid hb
                have HLk := Lib.hid hlk
                have HAd := Lib.hid had
                have HLm := Lib.hid hlen
                have hbs := hb.size
                rw [X5.out] at hbs
                have hbw : Below w.heap.size w wi := X4.out.trans (hb.mono (by omega))
                clear hlk had hlen
                by_cases hlt : i < n1
                · have hiI : (i : Int) < n1 := by omega
                  obtain ⟨x, hx⟩ : ∃ x, add[i]? = some x := ⟨add[i]'(by rw [LA.out]; exact hlt), List.getElem?_eq_getElem _⟩
                  obtain ⟨g, off, rfl, hg, k0, k1, k2, k3, k4⟩ := (TRows.below HA.out hbw).row hx
                  have hwf := I2.out x (List.mem_of_getElem? hx)
                  have HAc := Lib.hid (drop_cons hx)
                  have hHS := HS.out
                  simp only [LV.out, LA.out] at hHS
                  clear hx hb
                  cases hb0 : (m.any fun u => u.num == x.num) with
                  | true =>
                    have HR := Lib.hid (HEx.out (HAd.out.trans (by rw [HAc.out, add_none hb0])))
                    have HZ := Lib.hid ((HB.out.block _ (by omega)).trans X3.out)
                    have HBw := Lib.hid hbw
                    have lt2 : w.heap.size + 1 + 1 < wi.heap.size := by omega
                    have lt3 : w.heap.size + 1 + 1 < wi.heap.size + 1 := by omega
                    have hlk := HLk.out
                    obtain ⟨xn, xl, xz, xf, xt⟩ := x
                    simp only at k0 k1 k2 k3 k4 hwf hb0
                    clear HEx hbw
                    have z0 := Lib.cell_of_heap HZ.out 0
                    have z1 := Lib.cell_of_heap HZ.out 1
                    have z2 := Lib.cell_of_heap HZ.out 2
                    have z3 := Lib.cell_of_heap HZ.out 3
                    have z4 := Lib.cell_of_heap HZ.out 4
                    simp at z0 z1 z2 z3 z4
                    have zf := Lib.frozen_of_heap HZ.out
                    go_wp2_with (at_lookup; refine wpList_lookup_tab rfl _ _ rfl M (k + i) D m rfl (hown.alloc _) hlk xn rfl hwf true hb0 ?_; intro t0 t1 t2 t3 t4)
                    have hst := set5_at HZ.out (.slice none 0 0) (.int .u64 0) (.int .u64 0) (.int .i64 0) (.int .i64 0)
                    have hbt := HBw.out.trans (((set5_touch (wi) (w.heap.size + 1 + 1) (.slice none 0 0) (.int .u64 0) (.int .u64 0) (.int .i64 0) (.int .i64 0)).below (B := w.heap.size) HBw.out.size (by simp; omega)))
                    clear z0 z1 z2 z3 z4 zf
                    generalize (((((wi).setCell ⟨w.heap.size + 1 + 1, 0, none⟩ (.slice none 0 0)).setCell ⟨w.heap.size + 1 + 1, 1, none⟩ (.int .u64 0)).setCell ⟨w.heap.size + 1 + 1, 2, none⟩ (.int .u64 0)).setCell ⟨w.heap.size + 1 + 1, 3, none⟩ (.int .i64 0)).setCell ⟨w.heap.size + 1 + 1, 4, none⟩ (.int .i64 0) = wz at *
                    have ltz := (Array.getElem?_eq_some_iff.1 hst).1
                    have ltz2 : w.heap.size + 1 + 1 < wz.heap.size + 1 := by omega
                    have q0 := Lib.cell_of_heap hst 0
                    have q1 := Lib.cell_of_heap hst 1
                    have q2 := Lib.cell_of_heap hst 2
                    have q3 := Lib.cell_of_heap hst 3
                    have q4 := Lib.cell_of_heap hst 4
                    simp at q0 q1 q2 q3 q4
                    refine bodyPost_ret (v := .tuple #[zeroV, .int .i64 3]) ?_ rfl (appl_zero HR.out ((hbt.alloc hbt.size _).alloc (Nat.le_trans hbt.size (by simp)) _))
                    simp [results, Try.results15, go_sem, q0, q1, q2, q3, q4, zeroV, ltz, ltz2]
                  | false =>
                    have hlk := HLk.out
                    have HLp := Lib.hid (look_put (t := x) hown.isMap hlk hb0 hwf)
                    have HBW := Lib.hid hbw
                    have HAn := Lib.hid (show addT add l = addT (add.drop (i + 1)) (m ++ [x]) from HAd.out.trans (by rw [HAc.out, add_some hb0]))
                    have HLn := Lib.hid (show (m ++ [x]).length ≤ l.length + (i + 1) by have := HLm.out; rw [List.length_append, List.length_singleton]; omega)
                    have hkey := keyOf_int_mk Try.underlying3 hwf
                    have hval := tabR_mk x
                    obtain ⟨xn, xl, xz, xf, xt⟩ := x
                    simp only [tv] at k0 k1 k2 k3 k4 hwf hb0 hkey hval
                    clear hbw HEx
                    go_wp2_with (first | (at_lookup; refine wpList_lookup_tab rfl _ _ rfl M (k + i) D m rfl (hown.alloc _) hlk xn rfl hwf false hb0 ?_; intro t0 t1 t2 t3 t4) | (at_mapUpdate; refine wpList_mapUpdate_own _ rfl _ _ _ 70 rfl 3 45 intKeyed tabsU tabR M (k + i) D rfl ((hown.alloc _).alloc _) (by unfold maxLen; omega) _ _ (.int .i64 xn) rfl rfl hkey _ [] hval ?_; intro w5 hown5 hgrow5))
                    have HO5 := Lib.hid hown5
                    have hb5 : Below (w.heap.size + 3) W3 w5 := HB.out.trans (((((Below.refl _ wi).alloc (Nat.le_refl _) _).alloc (by simp) _).mono (by omega)).trans ((Touch.of_grown hgrow5).below (by simp; omega) (by simp; omega)))
                    have HB5 := Lib.hid hb5
                    clear hown5 hgrow5 hown hb5 hkey hval
                    go_wp2
                    exact ⟨⟨i + 1, _, _, by go_num, by rw [LA.out]; omega, HO5.out, HLp.out, HAn.out, HLn.out, HB5.out⟩, by simp [intOf]; omega⟩
                · obtain rfl : i = n1 := by omega
                  have HAl := Lib.hid (show addT add l = some m from HAd.out.trans (by rw [List.drop_of_length_le (by rw [LA.out]; exact Nat.le_refl _)]; rfl))
                  have hHS := HS.out
                  simp only [LV.out, LA.out] at hHS
                  have hLe := HLen.out
                  have hLm := HLm.out
                  simp only [LV.out] at hLe
                  have hpl : ∀ W, Below wi.heap.size wi W → Calls Try.prog 34 #[.map (some M)] W (GivesTabs W (srt m)) := fun W hW => inPlace_any W M (k + i) D m ((Touch.of_below hW []).keepMap hown (by simp)) HLk.out (by omega)
                  have HPl := Lib.hid hpl
                  have hx2 := (HB.out.block _ (by omega)).trans X2.out
                  have hx1 := (HB.out.block _ (by omega)).trans X1.out
                  have hx3 := (HB.out.block _ (by omega)).trans X3.out
                  have lt0 : w.heap.size < wi.heap.size := by omega
                  have lt1 : w.heap.size + 1 < wi.heap.size := by omega
                  have lt2 : w.heap.size + 1 + 1 < wi.heap.size := by omega
                  have v0 := Lib.cell_of_heap hx1 0
                  have v1 := Lib.cell_of_heap hx1 1
                  have v2 := Lib.cell_of_heap hx1 2
                  have v3 := Lib.cell_of_heap hx1 3
                  have v4 := Lib.cell_of_heap hx1 4
                  simp at v0 v1 v2 v3 v4
                  have e0 := Lib.cell_of_heap hx2 0
                  have e1 := Lib.cell_of_heap hx2 1
                  have e2 := Lib.cell_of_heap hx2 2
                  have e3 := Lib.cell_of_heap hx2 3
                  have e4 := Lib.cell_of_heap hx2 4
                  have e5 := Lib.cell_of_heap hx2 5
                  simp at e0 e1 e2 e3 e4 e5
                  have HX3 := Lib.hid hx3
                  have HBw := Lib.hid hbw
                  clear hx1 hx2 hx3 hpl hb hbw hown HEx
                  go_wp2
                  refine wp_region_last (l := [_, _, _, _, _, _, _, _, _, _, _, _, _, _, _, _, _, _, _, _, _, _, _, _]) (by kernel_rfl) [eqF (.map (some M)), tabsF w.heap.size (srt m), eqF (.pointer (some ⟨w.heap.size, 1, none⟩)), eqF (.int .u64 (vf : Int)), eqF (.pointer (some ⟨w.heap.size + 1, 2, none⟩)), eqF (.int .u64 (ef : Int)), eqF (.int .u64 (max (vf : Int) (ef : Int))), eqF (.pointer (some ⟨w.heap.size, 2, none⟩)), eqF (.int .u64 (vh : Int)), eqF (.pointer (some ⟨w.heap.size + 1, 3, none⟩)), eqF (.int .u64 (eh : Int)), eqF (.int .u64 (max (vh : Int) (eh : Int))), eqF (.pointer (some ⟨w.heap.size, 3, none⟩)), eqF (.int .i64 vl), eqF (.pointer (some ⟨w.heap.size + 1, 4, none⟩)), eqF (.int .i64 el), eqF (.int .i64 (max vl el)), eqF (.pointer (some ⟨w.heap.size, 4, none⟩)), eqF (.int .i64 vn), eqF (.pointer (some ⟨w.heap.size + 1, 5, none⟩)), eqF (.int .i64 en), eqF (.int .i64 (max vn en)), verF w.heap.size (srt m) vf ef vh eh vl el vn en, boxF wi.heap.size #[.slice none 0 0, .int .u64 0, .int .u64 0, .int .i64 0, .int .i64 0] 38] (by kernel_rfl) (by kernel_rfl) (by kernel_rfl) ⟨?_, ?_, ?_, ?_, ?_, ?_, ?_, ?_, ?_, ?_, ?_, ?_, ?_, ?_, ?_, ?_, ?_, ?_, ?_, ?_, ?_, ?_, ?_, ?_, trivial⟩ ?_
                  · intro ρ wx hρ hbx hl
                    have e8 : ρ (.tmp 8) = .map (some M) := hρ.tmp 8 (by decide +kernel)
                    refine y_val (v := .map (some M)) ?_ rfl
                    simp [execOp, go_sem, e8]
                  · intro ρ wx hρ hbx hl
                    have e85 : ρ (.tmp 85) = .map (some M) := hl 0 (by decide +kernel) 85 rfl
                    refine y_call (f := 34) (args := #[.map (some M)]) (by simp [execOp, resolve, invoke, hρ.func, go_sem, e85]) ?_
                    refine (HPl.out wx hbx).mono ?_
                    rintro e w6 ⟨v6, rfl, o6, b6⟩
                    obtain ⟨a6, c6, rfl, _, _⟩ := (ownsRow.reads o6).le
                    exact ⟨_, rfl, ⟨a6, c6, rfl, own_lower o6 (Nat.le_trans (by omega) hbx.size)⟩, b6⟩
                  · intro ρ wx hρ hbx hl
                    have e2 : ρ (.tmp 2) = .pointer (some ⟨w.heap.size, 0, none⟩) := hρ.tmp 2 (by decide +kernel)
                    refine y_val (v := .pointer (some ⟨w.heap.size, 1, none⟩)) ?_ rfl
                    simp [execOp, go_sem, e2]
                  · intro ρ wx hρ hbx hl
                    have e87 : ρ (.tmp 87) = .pointer (some ⟨w.heap.size, 1, none⟩) := hl 2 (by decide +kernel) 87 rfl
                    have kk := (hbx.cell (lt0)).trans v1
                    refine y_val (v := .int .u64 (vf : Int)) ?_ rfl
                    simp [execOp, go_sem, e87, kk]
                  · intro ρ wx hρ hbx hl
                    have e3 : ρ (.tmp 3) = .pointer (some ⟨w.heap.size + 1, 0, none⟩) := hρ.tmp 3 (by decide +kernel)
                    refine y_val (v := .pointer (some ⟨w.heap.size + 1, 2, none⟩)) ?_ rfl
                    simp [execOp, go_sem, e3]
                  · intro ρ wx hρ hbx hl
                    have e89 : ρ (.tmp 89) = .pointer (some ⟨w.heap.size + 1, 2, none⟩) := hl 4 (by decide +kernel) 89 rfl
                    have kk := (hbx.cell (lt1)).trans e2
                    refine y_val (v := .int .u64 (ef : Int)) ?_ rfl
                    simp [execOp, go_sem, e89, kk]
                  · intro ρ wx hρ hbx hl
                    have e88 : ρ (.tmp 88) = .int .u64 (vf : Int) := hl 3 (by decide +kernel) 88 rfl
                    have e90 : ρ (.tmp 90) = .int .u64 (ef : Int) := hl 5 (by decide +kernel) 90 rfl
                    refine y_val (v := .int .u64 (max (vf : Int) (ef : Int))) ?_ rfl
                    simp [go_sem, e88, e90]
                  · intro ρ wx hρ hbx hl
                    have e2 : ρ (.tmp 2) = .pointer (some ⟨w.heap.size, 0, none⟩) := hρ.tmp 2 (by decide +kernel)
                    refine y_val (v := .pointer (some ⟨w.heap.size, 2, none⟩)) ?_ rfl
                    simp [execOp, go_sem, e2]
                  · intro ρ wx hρ hbx hl
                    have e92 : ρ (.tmp 92) = .pointer (some ⟨w.heap.size, 2, none⟩) := hl 7 (by decide +kernel) 92 rfl
                    have kk := (hbx.cell (lt0)).trans v2
                    refine y_val (v := .int .u64 (vh : Int)) ?_ rfl
                    simp [execOp, go_sem, e92, kk]
                  · intro ρ wx hρ hbx hl
                    have e3 : ρ (.tmp 3) = .pointer (some ⟨w.heap.size + 1, 0, none⟩) := hρ.tmp 3 (by decide +kernel)
                    refine y_val (v := .pointer (some ⟨w.heap.size + 1, 3, none⟩)) ?_ rfl
                    simp [execOp, go_sem, e3]
                  · intro ρ wx hρ hbx hl
                    have e94 : ρ (.tmp 94) = .pointer (some ⟨w.heap.size + 1, 3, none⟩) := hl 9 (by decide +kernel) 94 rfl
                    have kk := (hbx.cell (lt1)).trans e3
                    refine y_val (v := .int .u64 (eh : Int)) ?_ rfl
                    simp [execOp, go_sem, e94, kk]
                  · intro ρ wx hρ hbx hl
                    have e93 : ρ (.tmp 93) = .int .u64 (vh : Int) := hl 8 (by decide +kernel) 93 rfl
                    have e95 : ρ (.tmp 95) = .int .u64 (eh : Int) := hl 10 (by decide +kernel) 95 rfl
                    refine y_val (v := .int .u64 (max (vh : Int) (eh : Int))) ?_ rfl
                    simp [go_sem, e93, e95]
                  · intro ρ wx hρ hbx hl
                    have e2 : ρ (.tmp 2) = .pointer (some ⟨w.heap.size, 0, none⟩) := hρ.tmp 2 (by decide +kernel)
                    refine y_val (v := .pointer (some ⟨w.heap.size, 3, none⟩)) ?_ rfl
                    simp [execOp, go_sem, e2]
                  · intro ρ wx hρ hbx hl
                    have e97 : ρ (.tmp 97) = .pointer (some ⟨w.heap.size, 3, none⟩) := hl 12 (by decide +kernel) 97 rfl
                    have kk := (hbx.cell (lt0)).trans v3
                    refine y_val (v := .int .i64 vl) ?_ rfl
                    simp [execOp, go_sem, e97, kk]
                  · intro ρ wx hρ hbx hl
                    have e3 : ρ (.tmp 3) = .pointer (some ⟨w.heap.size + 1, 0, none⟩) := hρ.tmp 3 (by decide +kernel)
                    refine y_val (v := .pointer (some ⟨w.heap.size + 1, 4, none⟩)) ?_ rfl
                    simp [execOp, go_sem, e3]
                  · intro ρ wx hρ hbx hl
                    have e99 : ρ (.tmp 99) = .pointer (some ⟨w.heap.size + 1, 4, none⟩) := hl 14 (by decide +kernel) 99 rfl
                    have kk := (hbx.cell (lt1)).trans e4
                    refine y_val (v := .int .i64 el) ?_ rfl
                    simp [execOp, go_sem, e99, kk]
                  · intro ρ wx hρ hbx hl
                    have e98 : ρ (.tmp 98) = .int .i64 vl := hl 13 (by decide +kernel) 98 rfl
                    have e100 : ρ (.tmp 100) = .int .i64 el := hl 15 (by decide +kernel) 100 rfl
                    refine y_val (v := .int .i64 (max vl el)) ?_ rfl
                    simp [go_sem, e98, e100]
                  · intro ρ wx hρ hbx hl
                    have e2 : ρ (.tmp 2) = .pointer (some ⟨w.heap.size, 0, none⟩) := hρ.tmp 2 (by decide +kernel)
                    refine y_val (v := .pointer (some ⟨w.heap.size, 4, none⟩)) ?_ rfl
                    simp [execOp, go_sem, e2]
                  · intro ρ wx hρ hbx hl
                    have e102 : ρ (.tmp 102) = .pointer (some ⟨w.heap.size, 4, none⟩) := hl 17 (by decide +kernel) 102 rfl
                    have kk := (hbx.cell (lt0)).trans v4
                    refine y_val (v := .int .i64 vn) ?_ rfl
                    simp [execOp, go_sem, e102, kk]
                  · intro ρ wx hρ hbx hl
                    have e3 : ρ (.tmp 3) = .pointer (some ⟨w.heap.size + 1, 0, none⟩) := hρ.tmp 3 (by decide +kernel)
                    refine y_val (v := .pointer (some ⟨w.heap.size + 1, 5, none⟩)) ?_ rfl
                    simp [execOp, go_sem, e3]
                  · intro ρ wx hρ hbx hl
                    have e104 : ρ (.tmp 104) = .pointer (some ⟨w.heap.size + 1, 5, none⟩) := hl 19 (by decide +kernel) 104 rfl
                    have kk := (hbx.cell (lt1)).trans e5
                    refine y_val (v := .int .i64 en) ?_ rfl
                    simp [execOp, go_sem, e104, kk]
                  · intro ρ wx hρ hbx hl
                    have e103 : ρ (.tmp 103) = .int .i64 vn := hl 18 (by decide +kernel) 103 rfl
                    have e105 : ρ (.tmp 105) = .int .i64 en := hl 20 (by decide +kernel) 105 rfl
                    refine y_val (v := .int .i64 (max vn en)) ?_ rfl
                    simp [go_sem, e103, e105]
                  · intro ρ wx hρ hbx hl
                    have e86 := hl 1 (by decide +kernel) 86 rfl
                    have e91 : ρ (.tmp 91) = .int .u64 (max (vf : Int) (ef : Int)) := hl 6 (by decide +kernel) 91 rfl
                    have e96 : ρ (.tmp 96) = .int .u64 (max (vh : Int) (eh : Int)) := hl 11 (by decide +kernel) 96 rfl
                    have e101 : ρ (.tmp 101) = .int .i64 (max vl el) := hl 16 (by decide +kernel) 101 rfl
                    have e106 : ρ (.tmp 106) = .int .i64 (max vn en) := hl 21 (by decide +kernel) 106 rfl
                    obtain ⟨a86, c86, h86, o86⟩ := e86
                    refine y_val (v := .agg #[.slice a86 (srt m).length c86, .int .u64 (max (vf : Int) (ef : Int)), .int .u64 (max (vh : Int) (eh : Int)), .int .i64 (max vl el), .int .i64 (max vn en)]) ?_ ⟨a86, c86, rfl, o86⟩
                    simp [execOp, go_sem, h86, e91, e96, e101, e106]
                  · intro ρ wx hρ hbx hl
                    refine y_new' (v := .pointer (some ⟨wx.heap.size, 0, none⟩)) (w' := wx.alloc (.cells #[.slice none 0 0, .int .u64 0, .int .u64 0, .int .i64 0, .int .i64 0] 38)) ?_ ⟨_, rfl, hbx.size, heap_alloc_new wx _⟩ ((Below.refl _ _).alloc (Nat.le_refl _) _)
                    simp [execOp, go_sem]
                  intro aa wz hdef hsz hlk hbz hf
                  have ha := act_of_like hdef hsz hlk [85, 86, 87, 88, 89, 90, 91, 92, 93, 94, 95, 96, 97, 98, 99, 100, 101, 102, 103, 104, 105, 106, 107, 19] 113 rfl (by decide +kernel)
                  have e85 : aa.tmps.getD 85 undef = .map (some M) := hf 0 _ 85 rfl rfl
                  have e86 : (tabsF w.heap.size (srt m)).1 (aa.tmps.getD 86 undef) wz := hf 1 _ 86 rfl rfl
                  obtain ⟨a86, c86, h86, o86⟩ := e86
                  have e87 : aa.tmps.getD 87 undef = .pointer (some ⟨w.heap.size, 1, none⟩) := hf 2 _ 87 rfl rfl
                  have e88 : aa.tmps.getD 88 undef = .int .u64 (vf : Int) := hf 3 _ 88 rfl rfl
                  have e89 : aa.tmps.getD 89 undef = .pointer (some ⟨w.heap.size + 1, 2, none⟩) := hf 4 _ 89 rfl rfl
                  have e90 : aa.tmps.getD 90 undef = .int .u64 (ef : Int) := hf 5 _ 90 rfl rfl
                  have e91 : aa.tmps.getD 91 undef = .int .u64 (max (vf : Int) (ef : Int)) := hf 6 _ 91 rfl rfl
                  have e92 : aa.tmps.getD 92 undef = .pointer (some ⟨w.heap.size, 2, none⟩) := hf 7 _ 92 rfl rfl
                  have e93 : aa.tmps.getD 93 undef = .int .u64 (vh : Int) := hf 8 _ 93 rfl rfl
                  have e94 : aa.tmps.getD 94 undef = .pointer (some ⟨w.heap.size + 1, 3, none⟩) := hf 9 _ 94 rfl rfl
                  have e95 : aa.tmps.getD 95 undef = .int .u64 (eh : Int) := hf 10 _ 95 rfl rfl
                  have e96 : aa.tmps.getD 96 undef = .int .u64 (max (vh : Int) (eh : Int)) := hf 11 _ 96 rfl rfl
                  have e97 : aa.tmps.getD 97 undef = .pointer (some ⟨w.heap.size, 3, none⟩) := hf 12 _ 97 rfl rfl
                  have e98 : aa.tmps.getD 98 undef = .int .i64 vl := hf 13 _ 98 rfl rfl
                  have e99 : aa.tmps.getD 99 undef = .pointer (some ⟨w.heap.size + 1, 4, none⟩) := hf 14 _ 99 rfl rfl
                  have e100 : aa.tmps.getD 100 undef = .int .i64 el := hf 15 _ 100 rfl rfl
                  have e101 : aa.tmps.getD 101 undef = .int .i64 (max vl el) := hf 16 _ 101 rfl rfl
                  have e102 : aa.tmps.getD 102 undef = .pointer (some ⟨w.heap.size, 4, none⟩) := hf 17 _ 102 rfl rfl
                  have e103 : aa.tmps.getD 103 undef = .int .i64 vn := hf 18 _ 103 rfl rfl
                  have e104 : aa.tmps.getD 104 undef = .pointer (some ⟨w.heap.size + 1, 5, none⟩) := hf 19 _ 104 rfl rfl
                  have e105 : aa.tmps.getD 105 undef = .int .i64 en := hf 20 _ 105 rfl rfl
                  have e106 : aa.tmps.getD 106 undef = .int .i64 (max vn en) := hf 21 _ 106 rfl rfl
                  have e107 : (verF w.heap.size (srt m) vf ef vh eh vl el vn en).1 (aa.tmps.getD 107 undef) wz := hf 22 _ 107 rfl rfl
                  obtain ⟨a107, c107, h107, o107⟩ := e107
                  have e19 : (boxF wi.heap.size #[.slice none 0 0, .int .u64 0, .int .u64 0, .int .i64 0, .int .i64 0] 38).1 (aa.tmps.getD 19 undef) wz := hf 23 _ 19 rfl rfl
                  obtain ⟨g19, h19, hb19, hx19⟩ := e19
                  simp only [putAll, List.foldl_cons, List.foldl_nil, e85, h86, e87, e88, e89, e90, e91, e92, e93, e94, e95, e96, e97, e98, e99, e100, e101, e102, e103, e104, e105, e106, h107, h19] at ha
                  simp [Act.put] at ha
                  subst ha
                  clear hdef hsz hlk hf e85 h86 e87 e88 e89 e90 e91 e92 e93 e94 e95 e96 e97 e98 e99 e100 e101 e102 e103 e104 e105 e106 h107 h19
                  have HX4 := Lib.hid ((hbz.block _ lt2).trans HX3.out)
                  have HBz := Lib.hid (HBw.out.trans (hbz.mono HBw.out.size))
                  have hzs := hbz.size
                  clear hbz v0 v1 v2 v3 v4 e0 e1 e2 e3 e4 e5 o86
                  have q0 := Lib.cell_of_heap hx19 0
                  have q1 := Lib.cell_of_heap hx19 1
                  have q2 := Lib.cell_of_heap hx19 2
                  have q3 := Lib.cell_of_heap hx19 3
                  have q4 := Lib.cell_of_heap hx19 4
                  simp at q0 q1 q2 q3 q4
                  have qf := Lib.frozen_of_heap hx19
                  have hst := set5_at hx19 (.slice a107 (srt m).length c107) (.int .u64 (max (vf : Int) (ef : Int))) (.int .u64 (max (vh : Int) (eh : Int))) (.int .i64 (max vl el)) (.int .i64 (max vn en))
                  have htc := set5_touch wz g19 (.slice a107 (srt m).length c107) (.int .u64 (max (vf : Int) (ef : Int))) (.int .u64 (max (vh : Int) (eh : Int))) (.int .i64 (max vl el)) (.int .i64 (max vn en))
                  have hap := owns_other o107 hx19 (by decide)
                  have ho3 := own_touch o107 htc (fun g hg => by simp; exact fun e => hap (by rw [hg, e]))
                  have hx5 := htc.keep HX4.out (by simp; omega)
                  have hb5 := HBz.out.trans (htc.below (B := w.heap.size) (by omega) (by simp; omega))
                  have hs5 := htc.size
                  unfold Oper.wp
                  simp [execOp, go_sem, q0, q1, q2, q3, q4, qf]
                  clear q0 q1 q2 q3 q4 qf hx19 htc hap o107 HBz HX4 HX3
                  generalize (((((wz).setCell ⟨g19, 0, none⟩ (.slice a107 (srt m).length c107)).setCell ⟨g19, 1, none⟩ (.int .u64 (max (vf : Int) (ef : Int)))).setCell ⟨g19, 2, none⟩ (.int .u64 (max (vh : Int) (eh : Int)))).setCell ⟨g19, 3, none⟩ (.int .i64 (max vl el))).setCell ⟨g19, 4, none⟩ (.int .i64 (max vn en)) = w5 at *
                  have hg5 : g19 < w5.heap.size := (Array.getElem?_eq_some_iff.1 hst).1
                  have hck := chk_any w5 (newV ⟨tabs, vf, vh, vl, vn⟩ ⟨add, drop, ef, eh, el, en⟩ m) a107 (srt m).length c107 (ownsRow.reads ho3) (by show (srt m).length ≤ _; rw [(srt_perm m).length_eq]; omega) (fun t ht => HLk.out.2.2.2 t ((srt_perm m).mem_iff.1 ht))
                  have HOrd := Lib.hid (fun h => HRv.out.symm.trans (appl_order (v := ⟨tabs, vf, vh, vl, vn⟩) (e := ⟨add, drop, ef, eh, el, en⟩) HC0.out HRt.out HDl.out HAl.out h))
                  have HGood := Lib.hid (fun h => HRv.out.symm.trans (appl_good (v := ⟨tabs, vf, vh, vl, vn⟩) (e := ⟨add, drop, ef, eh, el, en⟩) HC0.out HRt.out HDl.out HAl.out h))
                  simp only [vv, newV, maxN] at hck
                  have HCk := Lib.hid hck
                  clear hck
                  have q0 := Lib.cell_of_heap hst 0
                  have q1 := Lib.cell_of_heap hst 1
                  have q2 := Lib.cell_of_heap hst 2
                  have q3 := Lib.cell_of_heap hst 3
                  have q4 := Lib.cell_of_heap hst 4
                  simp at q0 q1 q2 q3 q4
                  have HY := Lib.hid hst
                  have HX5 := Lib.hid hx5
                  have HB5 := Lib.hid hb5
                  have HO5 := Lib.hid ho3
                  clear hst hx5 hb5 ho3
                  generalize hnv : chk (newV ⟨tabs, vf, vh, vl, vn⟩ ⟨add, drop, ef, eh, el, en⟩ m) = cN at *
                  simp only [newV] at hnv
                  rw [hnv] at HCk
                  go_wp2_with (go_at_call 18; go_must (refine HCk.out.mono ?_))
                  rintro e w6 ⟨rfl, b6⟩
                  have HZ := Lib.hid ((b6.block _ (by omega)).trans HX5.out)
                  have HBw := Lib.hid (HB5.out.trans (b6.mono HB5.out.size))
                  clear q0 q1 q2 q3 q4 hnv HCk
                  by_cases hc0 : cN = 0
                  · subst hc0
                    have HR := Lib.hid (HGood.out rfl)
                    have hy := (b6.block _ hg5).trans HY.out
                    have y0 := Lib.cell_of_heap hy 0
                    have y1 := Lib.cell_of_heap hy 1
                    have y2 := Lib.cell_of_heap hy 2
                    have y3 := Lib.cell_of_heap hy 3
                    have y4 := Lib.cell_of_heap hy 4
                    simp at y0 y1 y2 y3 y4
                    have z0 := Lib.cell_of_heap HZ.out 0
                    have z1 := Lib.cell_of_heap HZ.out 1
                    have z2 := Lib.cell_of_heap HZ.out 2
                    have z3 := Lib.cell_of_heap HZ.out 3
                    have z4 := Lib.cell_of_heap HZ.out 4
                    simp at z0 z1 z2 z3 z4
                    have zf := Lib.frozen_of_heap HZ.out
                    have ho6 := owns_below HO5.out b6
                    have HO6' := Lib.hid ho6
                    clear hy HOrd HGood b6 ho6
                    go_wp2
                    have hst := set5_at HZ.out (.slice a107 (srt m).length c107) (.int .u64 (max (vf : Int) (ef : Int))) (.int .u64 (max (vh : Int) (eh : Int))) (.int .i64 (max vl el)) (.int .i64 (max vn en))
                    have htc := set5_touch w6 (w.heap.size + 1 + 1) (.slice a107 (srt m).length c107) (.int .u64 (max (vf : Int) (ef : Int))) (.int .u64 (max (vh : Int) (eh : Int))) (.int .i64 (max vl el)) (.int .i64 (max vn en))
                    have hap := owns_other HO6'.out HZ.out (by decide)
                    have ho7 := own_touch HO6'.out htc (fun g hg => by simp; exact fun e => hap (by rw [hg, e]))
                    have hb7 := HBw.out.trans (htc.below (B := w.heap.size) HBw.out.size (by simp; omega))
                    clear z0 z1 z2 z3 z4 zf y0 y1 y2 y3 y4 htc hap
                    generalize (((((w6).setCell ⟨w.heap.size + 1 + 1, 0, none⟩ (.slice a107 (srt m).length c107)).setCell ⟨w.heap.size + 1 + 1, 1, none⟩ (.int .u64 (max (vf : Int) (ef : Int)))).setCell ⟨w.heap.size + 1 + 1, 2, none⟩ (.int .u64 (max (vh : Int) (eh : Int)))).setCell ⟨w.heap.size + 1 + 1, 3, none⟩ (.int .i64 (max vl el))).setCell ⟨w.heap.size + 1 + 1, 4, none⟩ (.int .i64 (max vn en)) = w7 at *
                    have q0 := Lib.cell_of_heap hst 0
                    have q1 := Lib.cell_of_heap hst 1
                    have q2 := Lib.cell_of_heap hst 2
                    have q3 := Lib.cell_of_heap hst 3
                    have q4 := Lib.cell_of_heap hst 4
                    simp at q0 q1 q2 q3 q4
                    refine bodyPost_ret (v := .tuple #[.agg #[.slice a107 (srt m).length c107, .int .u64 (max (vf : Int) (ef : Int)), .int .u64 (max (vh : Int) (eh : Int)), .int .i64 (max vl el), .int .i64 (max vn en)], .int .i64 0]) ?_ rfl ?_
                    · simp [results, Try.results15, go_sem, q0, q1, q2, q3, q4]
                    · rw [HR.out]
                      exact ⟨a107, _, c107, by simp only [vv, newV, maxN], ho7, hb7⟩
                  · have HR := Lib.hid (HOrd.out hc0)
                    have hcb : (cN == 0) = false := by simpa using hc0
                    clear HOrd HGood b6 hc0
                    have z0 := Lib.cell_of_heap HZ.out 0
                    have z1 := Lib.cell_of_heap HZ.out 1
                    have z2 := Lib.cell_of_heap HZ.out 2
                    have z3 := Lib.cell_of_heap HZ.out 3
                    have z4 := Lib.cell_of_heap HZ.out 4
                    simp at z0 z1 z2 z3 z4
                    have zf := Lib.frozen_of_heap HZ.out
                    go_wp2
                    have hst := set5_at HZ.out (.slice none 0 0) (.int .u64 0) (.int .u64 0) (.int .i64 0) (.int .i64 0)
                    have hbt := HBw.out.trans (((set5_touch (w6) (w.heap.size + 1 + 1) (.slice none 0 0) (.int .u64 0) (.int .u64 0) (.int .i64 0) (.int .i64 0)).below (B := w.heap.size) HBw.out.size (by simp; omega)))
                    clear z0 z1 z2 z3 z4 zf
                    generalize (((((w6).setCell ⟨w.heap.size + 1 + 1, 0, none⟩ (.slice none 0 0)).setCell ⟨w.heap.size + 1 + 1, 1, none⟩ (.int .u64 0)).setCell ⟨w.heap.size + 1 + 1, 2, none⟩ (.int .u64 0)).setCell ⟨w.heap.size + 1 + 1, 3, none⟩ (.int .i64 0)).setCell ⟨w.heap.size + 1 + 1, 4, none⟩ (.int .i64 0) = wz at *
                    have q0 := Lib.cell_of_heap hst 0
                    have q1 := Lib.cell_of_heap hst 1
                    have q2 := Lib.cell_of_heap hst 2
                    have q3 := Lib.cell_of_heap hst 3
                    have q4 := Lib.cell_of_heap hst 4
                    simp at q0 q1 q2 q3 q4
                    refine bodyPost_ret (v := .tuple #[zeroV, .int .i64 11]) ?_ rfl (appl_zero HR.out hbt)
                    simp [results, Try.results15, go_sem, q0, q1, q2, q3, q4, zeroV]
  · have hR := HB9.out hc0
    have hcb : (chk ⟨tabs, vf, vh, vl, vn⟩ == 0) = false := by simpa using hc0
    have hc9 := chk_nine hc0
    rw [hc9]
    have HR := Lib.hid hR
    have HZ := Lib.hid ((b1.block _ (by rw [X5.out]; omega)).trans X3.out)
    have HBw := Lib.hid (X4.out.trans (b1.mono (by rw [X5.out]; omega)))
    clear b1 hc0 hcb hc9 hR HB9 HB1
    have z0 := Lib.cell_of_heap HZ.out 0
    have z1 := Lib.cell_of_heap HZ.out 1
    have z2 := Lib.cell_of_heap HZ.out 2
    have z3 := Lib.cell_of_heap HZ.out 3
    have z4 := Lib.cell_of_heap HZ.out 4
    simp at z0 z1 z2 z3 z4
    have zf := Lib.frozen_of_heap HZ.out
    go_wp2
    have hst := set5_at HZ.out (.slice none 0 0) (.int .u64 0) (.int .u64 0) (.int .i64 0) (.int .i64 0)
    have hbt := HBw.out.trans (((set5_touch (w1) (w.heap.size + 1 + 1) (.slice none 0 0) (.int .u64 0) (.int .u64 0) (.int .i64 0) (.int .i64 0)).below (B := w.heap.size) HBw.out.size (by simp; omega)))
    clear z0 z1 z2 z3 z4 zf
    generalize (((((w1).setCell ⟨w.heap.size + 1 + 1, 0, none⟩ (.slice none 0 0)).setCell ⟨w.heap.size + 1 + 1, 1, none⟩ (.int .u64 0)).setCell ⟨w.heap.size + 1 + 1, 2, none⟩ (.int .u64 0)).setCell ⟨w.heap.size + 1 + 1, 3, none⟩ (.int .i64 0)).setCell ⟨w.heap.size + 1 + 1, 4, none⟩ (.int .i64 0) = wz at *
    have q0 := Lib.cell_of_heap hst 0
    have q1 := Lib.cell_of_heap hst 1
    have q2 := Lib.cell_of_heap hst 2
    have q3 := Lib.cell_of_heap hst 3
    have q4 := Lib.cell_of_heap hst 4
    simp at q0 q1 q2 q3 q4
    refine bodyPost_ret (v := .tuple #[zeroV, .int .i64 9]) ?_ rfl (appl_zero HR.out hbt)
    simp [results, Try.results15, go_sem, q0, q1, q2, q3, q4, zeroV]
end Go.Proofs.Ythjimldojdhccaa
