/- The reference's Apply of any version and any edit. -/
import Derived.Test.YthjimldojdhccaaEditRefM
import Derived.Test.YthjimldojdhccaaEditRefC
import Derived.Test.YthjimldojdhccaaEditRight
import Derived.Test.YthjimldojdhccaaRowsUntil
import Derived.Test.YthjimldojdhccaaDrawnSome2
namespace Go.Proofs.Ythjimldojdhccaa
open Go Go.RowKit Go.Lib

theorem flat_take (l : List Tb) (k : Nat) : (l.flatMap Tb.cells).take (k * 5) = (l.take k).flatMap Tb.cells := by
  induction l generalizing k with
  | nil => simp
  | cons a r ih =>
    cases k with
    | zero => simp
    | succ k =>
      rw [List.flatMap_cons, List.take_succ_cons, List.flatMap_cons, ← ih k, show (k + 1) * 5 = a.cells.length + k * 5 by rw [Tb.cells_length]; omega, List.take_length_add_append]
theorem flat_drop (l : List Tb) (k : Nat) : (l.flatMap Tb.cells).drop (k * 5) = (l.drop k).flatMap Tb.cells := by
  induction l generalizing k with
  | nil => simp
  | cons a r ih =>
    cases k with
    | zero => simp
    | succ k =>
      rw [List.flatMap_cons, List.drop_succ_cons, ← ih k, show (k + 1) * 5 = a.cells.length + k * 5 by rw [Tb.cells_length]; omega, List.drop_length_add_append]

def RaRel (w W3 : World) (drop : List Int) (tabs : List Tb) (lv iv : Value) (wr : World) : Prop :=
  ∃ (k : Nat) (l : List Tb), iv = .int .i64 (k : Int) ∧ k ≤ drop.length ∧ wr.ownsRow (w.heap.size + 3) 45 5 lv l.length (l.flatMap Tb.cells) ∧ dropT drop tabs = dropT (drop.drop k) l ∧ Apart l ∧ Up l ∧ l.length ≤ tabs.length ∧ Below (w.heap.size + 3) W3 wr
def RaIn (W0 : World) (l : List Tb) (x : Int) (av iv : Value) (wr : World) : Prop :=
  ∃ j : Nat, iv = .int .i64 (j : Int) ∧ j ≤ l.length ∧ ((av = .int .i64 (-1) ∧ ∀ u ∈ l.take j, u.num ≠ x) ∨ ∃ (i : Nat) (t : Tb), av = .int .i64 (i : Int) ∧ i < j ∧ l[i]? = some t ∧ t.num = x) ∧ Below W0.heap.size W0 wr
def RaAdd (w W3 : World) (add l0 : List Tb) (lv iv : Value) (wr : World) : Prop :=
  ∃ (k : Nat) (L m : List Tb), iv = .int .i64 (k : Int) ∧ k ≤ add.length ∧ wr.ownsRow (w.heap.size + 3) 45 5 lv L.length (L.flatMap Tb.cells) ∧ L.Perm m ∧ Up L ∧ addT add l0 = addT (add.drop k) m ∧ Apart m ∧ m.length ≤ l0.length + k ∧ Below (w.heap.size + 3) W3 wr
def RaAt (W0 : World) (L : List Tb) (t : Tb) (iv : Value) (wr : World) : Prop :=
  ∃ j : Nat, iv = .int .i64 (j : Int) ∧ j ≤ L.length ∧ (∀ u ∈ L.take j, tlt u t = true) ∧ Below W0.heap.size W0 wr

theorem none_any {l : List Tb} {x : Int} (h : ∀ u ∈ l, u.num ≠ x) : (l.any fun u => u.num == x) = false := by
  rw [List.any_eq_false]
  intro u hu e
  exact h u hu (by simpa using e)
theorem some_any {l : List Tb} {x : Int} {i : Nat} {t : Tb} (h : l[i]? = some t) (ht : t.num = x) : (l.any fun u => u.num == x) = true := by
  rw [List.any_eq_true]
  exact ⟨t, List.mem_of_getElem? h, by simp [ht]⟩
theorem in_next {l : List Tb} {j : Nat} {y : Tb} (h : l[j]? = some y) {p : Tb → Prop} (h1 : ∀ u ∈ l.take j, p u) (h2 : p y) : ∀ u ∈ l.take (j + 1), p u := by
  intro u hu
  rw [List.take_add_one, h] at hu
  rcases List.mem_append.1 hu with hu | hu
  · exact h1 u hu
  · simp at hu
    exact hu ▸ h2

set_option maxRecDepth 100000 in
set_option maxHeartbeats 4000000 in
theorem refapply_any (w : World) (v : Ver) (e : Ed) (av a1 a2 : Option Addr) (nv cv n1 c1 n2 c2 : Nat) (hv : TRows w (.slice av nv cv) v.tabs) (h1 : TRows w (.slice a1 n1 c1) e.add) (h2 : Reads w 1 (.slice a2 n2 c2) n2 (ncells e.drop))
    (hs : v.tabs.length + e.add.length + e.drop.length ≤ 1000) :
    Calls Try.prog 16 #[vv v av nv cv, ev e a1 a2 n1 c1 n2 c2] w (ApplPost w (appl v e)) := by
  obtain ⟨j0, hji, hy0, hy1, hy2⟩ := info_parts infoT
  have l1' := h1.len.1
  have l2' := (num_len h2).1
  have hchk := fun W (hb : Below w.heap.size w W) => refchk_any W v av nv cv (hv.below hb) (by omega)
  have hcke := fun W (hb : Below w.heap.size w W) => right_any W e a1 a2 n1 c1 n2 c2 (h1.below hb) (h2.below' hb) (by omega) (by omega)
  have HChk := Lib.hid hchk
  have HCke := Lib.hid hcke
  have hb9 := appl_bad (v := v) (e := e)
  have hb1 := appl_arg (v := v) (e := e)
  have HB9 := Lib.hid hb9
  have HB1 := Lib.hid hb1
  clear hchk hcke hb9 hb1 l1' l2'
  have hap := chk_apart (v := v)
  have HAp := Lib.hid hap
  have hup := chk_up (v := v)
  have HUp := Lib.hid hup
  clear hap hup
  generalize hrv : appl v e = R at *
  have HRv := Lib.hid hrv
  clear hrv
  obtain ⟨tabs, vf, vh, vl, vn⟩ := v
  obtain ⟨add, drop, ef, eh, el, en⟩ := e
  simp only [vv, ev] at *
  obtain ⟨x1, x2, x3, x4, x5⟩ := three_boxes w #[.slice av nv cv, .int .u64 (vf : Int), .int .u64 (vh : Int), .int .i64 vl, .int .i64 vn] #[.slice a1 n1 c1, .slice a2 n2 c2, .int .u64 (ef : Int), .int .u64 (eh : Int), .int .i64 el, .int .i64 en] #[.slice none 0 0, .int .u64 0, .int .u64 0, .int .i64 0, .int .i64 0] 38 26 38
  have X1 := Lib.hid x1
  have X2 := Lib.hid x2
  have X3 := Lib.hid x3
  have X4 := Lib.hid x4
  have X5 := Lib.hid x5
  clear x1 x2 x3 x4 x5
  obtain ⟨lv1, lv2, lv3⟩ := hv.len
  obtain ⟨la1, la2, la3⟩ := h1.len
  obtain ⟨ld1, ld2, ld3⟩ := num_len h2
  have HV := Lib.hid hv
  have HA := Lib.hid h1
  have HD := Lib.hid h2
  have LV := Lib.hid lv1
  have LA := Lib.hid la1
  have LD := Lib.hid ld1
  have hs' : nv + n1 + n2 ≤ 1000 := by omega
  clear hv h1 h2 lv1 la1 ld1 hs
  go_enter Try.func16, Try.ntmps16
  go_wp2_with (go_at_call 35; go_must (refine (HChk.out _ X4.out).mono ?_))
  rintro e w1 ⟨rfl, b1⟩
  generalize ((w.alloc (.cells #[.slice av nv cv, .int .u64 (vf : Int), .int .u64 (vh : Int), .int .i64 vl, .int .i64 vn] 38)).alloc (.cells #[.slice a1 n1 c1, .slice a2 n2 c2, .int .u64 (ef : Int), .int .u64 (eh : Int), .int .i64 el, .int .i64 en] 26)).alloc (.cells #[.slice none 0 0, .int .u64 0, .int .u64 0, .int .i64 0, .int .i64 0] 38) = W3 at *
  by_cases hc0 : chk ⟨tabs, vf, vh, vl, vn⟩ = 0
  · rw [hc0]
    have HC0 := Lib.hid hc0
    clear hc0 HB9
    have xe0 := (b1.block _ (by rw [X5.out]; omega)).trans X2.out
    have e0 := Lib.cell_of_heap xe0 0
    have e1 := Lib.cell_of_heap xe0 1
    have e2 := Lib.cell_of_heap xe0 2
    have e3 := Lib.cell_of_heap xe0 3
    have e4 := Lib.cell_of_heap xe0 4
    have e5 := Lib.cell_of_heap xe0 5
    simp at e0 e1 e2 e3 e4 e5
    clear xe0
    go_wp2_with (go_at_call 9; go_must (refine (HCke.out _ (X4.out.trans (b1.mono (by rw [X5.out]; omega)))).mono ?_))
    rintro e w2 ⟨rfl, b2'⟩
    have b2 := b1.trans (b2'.mono b1.size)
    clear b2' e0 e1 e2 e3 e4 e5
    cases hr : right ⟨add, drop, ef, eh, el, en⟩ with
    | false =>
      have hR := HB1.out HC0.out hr
      have HR := Lib.hid hR
      have HZ := Lib.hid ((b2.block _ (by rw [X5.out]; omega)).trans X3.out)
      have HBw := Lib.hid (X4.out.trans (b2.mono (by rw [X5.out]; omega)))
      clear b2 hr hR HB1
      have z0 := Lib.cell_of_heap HZ.out 0
      have z1 := Lib.cell_of_heap HZ.out 1
      have z2 := Lib.cell_of_heap HZ.out 2
      have z3 := Lib.cell_of_heap HZ.out 3
      have z4 := Lib.cell_of_heap HZ.out 4
      simp at z0 z1 z2 z3 z4
      have zf := Lib.frozen_of_heap HZ.out
      go_wp2
      have hst := set5_at HZ.out (.slice none 0 0) (.int .u64 0) (.int .u64 0) (.int .i64 0) (.int .i64 0)
      have hbt := HBw.out.trans (((set5_touch (w2) (w.heap.size + 1 + 1) (.slice none 0 0) (.int .u64 0) (.int .u64 0) (.int .i64 0) (.int .i64 0)).below (B := w.heap.size) HBw.out.size (by simp; omega)))
      clear z0 z1 z2 z3 z4 zf
      generalize (((((w2).setCell ⟨w.heap.size + 1 + 1, 0, none⟩ (.slice none 0 0)).setCell ⟨w.heap.size + 1 + 1, 1, none⟩ (.int .u64 0)).setCell ⟨w.heap.size + 1 + 1, 2, none⟩ (.int .u64 0)).setCell ⟨w.heap.size + 1 + 1, 3, none⟩ (.int .i64 0)).setCell ⟨w.heap.size + 1 + 1, 4, none⟩ (.int .i64 0) = wz at *
      have q0 := Lib.cell_of_heap hst 0
      have q1 := Lib.cell_of_heap hst 1
      have q2 := Lib.cell_of_heap hst 2
      have q3 := Lib.cell_of_heap hst 3
      have q4 := Lib.cell_of_heap hst 4
      simp at q0 q1 q2 q3 q4
      refine bodyPost_ret (v := .tuple #[zeroV, .int .i64 1]) ?_ rfl (appl_zero HR.out hbt)
      simp [results, Try.results16, go_sem, q0, q1, q2, q3, q4, zeroV]
    | true =>
      have HRt := Lib.hid hr
      clear hr HB1
      have HMiss := Lib.hid (fun h => HRv.out.symm.trans (appl_missing (v := ⟨tabs, vf, vh, vl, vn⟩) (e := ⟨add, drop, ef, eh, el, en⟩) HC0.out HRt.out h))
      have xv0 := (b2.block _ (by rw [X5.out]; omega)).trans X1.out
      have v0 := Lib.cell_of_heap xv0 0
      have v1 := Lib.cell_of_heap xv0 1
      have v2 := Lib.cell_of_heap xv0 2
      have v3 := Lib.cell_of_heap xv0 3
      have v4 := Lib.cell_of_heap xv0 4
      simp at v0 v1 v2 v3 v4
      clear xv0
      have hs2 := b2.size
      rw [X5.out] at hs2
      have hM : w.heap.size + 3 ≤ w2.heap.size := by omega
      have lt0 : w.heap.size < w2.heap.size := by omega
      have lt0' : w.heap.size < w2.heap.size + 1 := by omega
      have hbw2 : Below w.heap.size w w2 := X4.out.trans (b2.mono (by rw [X5.out]; omega))
      have HB2 := Lib.hid b2
      clear b1 b2
      have hown0 : (w2.alloc (.cells #[] 45)).ownsRow (w.heap.size + 3) 45 5 (.slice (some ⟨w2.heap.size, 0, none⟩) 0 0) 0 [] := own_lower (owns_zero w2 45 5) hM
      have hsrc := Reads.src (P := Try.prog) Try.underlying22 (TRows.reads HV.out (hbw2.trans (((Below.refl _ w2).alloc (Nat.le_refl _) (.cells #[] 45)).mono hbw2.size)) LV.out) (flat_one tabs)
      have HOz := Lib.hid hown0
      have HSr := Lib.hid hsrc
      clear hown0 hsrc
      go_wp2_with (at_builtin; go_must (refine wpList_append_owns rfl _ _ 22 22 rfl (w.heap.size + 3) 45 j0 _ 5 56 Try.underlying22 hji hy0 hy1 hy2 rfl _ 0 _ rfl HOz.out _ nv _ rfl HSr.out (by unfold maxLen; omega) (by omega) (by simp; omega) ?_))
      intro l4 w4 o4 g4 b4 _
      rw [← LV.out] at o4
      have hb4 : Below (w.heap.size + 3) W3 w4 := (HB2.out.mono (by rw [X5.out]; omega)).trans ((((Below.refl _ w2).alloc (Nat.le_refl _) (.cells #[] 45)).mono (by omega)).trans b4)
      have xe0 := (hb4.block _ (by omega)).trans X2.out
      have hs4 := hb4.size
      rw [X5.out] at hs4
      have lt1 : w.heap.size + 1 < w4.heap.size := by omega
      have e0 := Lib.cell_of_heap xe0 0
      have e1 := Lib.cell_of_heap xe0 1
      have e2 := Lib.cell_of_heap xe0 2
      have e3 := Lib.cell_of_heap xe0 3
      have e4 := Lib.cell_of_heap xe0 4
      have e5 := Lib.cell_of_heap xe0 5
      simp at e0 e1 e2 e3 e4 e5
      have HO4 := Lib.hid o4
      have HB4 := Lib.hid hb4
      clear o4 g4 b4 hb4 xe0 HOz HSr v0 v1 v2 v3 v4 lt0 lt0' HB2 hs2 hM hbw2 hs4
      go_wp2
      clear e0 e1 e2 e3 e4 e5
      go_loopw [7, 36] (fun lv iv wr => RaRel w W3 drop tabs lv iv wr) (fun _ iv _ => n2 - (intOf iv).toNat)
      case atStart => exact ⟨0, tabs, rfl, Nat.zero_le _, HO4.out, rfl, HAp.out HC0.out, HUp.out HC0.out, Nat.le_refl _, HB4.out⟩
      case round =>
        obtain ⟨k, l, rfl, hk, hown, hdr, hapl, hupl, hlen, hb⟩ := hrel
        rw [LD.out] at hk
        obtain ⟨nl, hnl⟩ : ∃ n, l.length = n := ⟨_, rfl⟩
        have HNl := Lib.hid hnl
        rw [hnl, LV.out] at hlen
        rw [hnl] at hown
        clear hnl
        have hrd := ownsRow.reads hown
        obtain ⟨al, cl, rfl, hc1, hc2⟩ := hrd.le
        unfold maxLen at hc2
        have HRd := Lib.hid hrd
        have HO := Lib.hid hown
        have HB := Lib.hid hb
        have HDr := Lib.hid hdr
        have HApl := Lib.hid hapl
        have HUpl := Lib.hid hupl
        have hbs := hb.size
        rw [X5.out] at hbs
        have hbw : Below w.heap.size w wr := X4.out.trans (hb.mono (by omega))
        have HBw0 := Lib.hid hbw
        clear hrd hown hdr hapl hupl
        by_cases hlt : k < n2
        · have hkI : (k : Int) < n2 := by omega
          obtain ⟨x, hx⟩ : ∃ x, drop[k]? = some x := ⟨drop[k]'(by rw [LD.out]; exact hlt), List.getElem?_eq_getElem _⟩
          obtain ⟨g, off, rfl, hg, c0⟩ := num_cell (HD.out.below' hbw) hx
          have HDc := Lib.hid (drop_cons hx)
          clear hx hb hbw
          go_wp2
          clear c0
          obtain ⟨wo, hwo⟩ : ∃ wo, wr = wo := ⟨_, rfl⟩
          subst hwo
          go_loopw [10, 42] (fun av iv wi => RaIn wr l x av iv wi) (fun _ iv _ => nl - (intOf iv).toNat)
          case atStart => exact ⟨0, rfl, Nat.zero_le _, .inl ⟨rfl, fun u hu => by simp at hu⟩, Below.refl _ _⟩
          case round =>
            rename World => wi
            obtain ⟨j, rfl, hjl, hat, hbj⟩ := hrel
            rw [HNl.out] at hjl
            have HAt := Lib.hid hat
            have hBi : Below (w.heap.size + 3) W3 wi := HB.out.trans (hbj.mono hbs)
            have HBi := Lib.hid hBi
            have hbsi := hBi.size
            rw [X5.out] at hbsi
            have hbwi : Below w.heap.size w wi := X4.out.trans (hBi.mono (by omega))
            have hrdi := HRd.out.below' hbj
            clear hat hBi
            by_cases hltj : j < nl
            · have hjI : (j : Int) < nl := by omega
              obtain ⟨y, hy⟩ : ∃ y, l[j]? = some y := ⟨l[j]'(by rw [HNl.out]; exact hltj), List.getElem?_eq_getElem _⟩
              obtain ⟨g', off', rfl, hg', k0, k1, k2, k3, k4⟩ := TRows.row (show TRows wi (.slice al nl cl) l by unfold TRows; rw [HNl.out]; exact hrdi) hy
              have HYn := Lib.hid (show ∀ p : Tb → Prop, (∀ u ∈ l.take j, p u) → p y → ∀ u ∈ l.take (j + 1), p u from fun p => in_next hy)
              have HY := Lib.hid hy
              have hbn : Below wr.heap.size wr (wi.alloc (.cells #[.int .i64 y.num, .int .i64 y.lev, .int .i64 y.size, .string y.first, .string y.last] 45)) := hbj.trans (((Below.refl _ wi).alloc (Nat.le_refl _) _).mono hbj.size)
              have HBn := Lib.hid hbn
              clear hy hbj hbwi hrdi hbn
              by_cases hxy : y.num = x
              · have hxyb : (y.num == x) = true := by simp [hxy]
                obtain ⟨yn, yl, yz, yf, yt⟩ := y
                simp only at k0 k1 k2 k3 k4 hxy hxyb
                subst hxy
                go_wp2
                exact ⟨⟨j + 1, by go_num, by rw [HNl.out]; omega, .inr ⟨j, _, rfl, Nat.lt_succ_self _, HY.out, rfl⟩, HBn.out⟩, by simp [intOf]; omega⟩
              · have hxyb : (y.num == x) = false := by simp [hxy]
                have HXy := Lib.hid hxy
                clear hxy
                obtain ⟨yn, yl, yz, yf, yt⟩ := y
                simp only at k0 k1 k2 k3 k4 hxyb
                go_wp2
                refine ⟨⟨j + 1, by go_num, by rw [HNl.out]; omega, ?_, HBn.out⟩, by simp [intOf]; omega⟩
                exact HAt.out.imp (fun h => ⟨h.1, HYn.out (fun u => u.num ≠ x) h.2 HXy.out⟩) fun ⟨i, t, h1, h2, h3⟩ => ⟨i, t, h1, Nat.lt_succ_of_lt h2, h3⟩
            · obtain rfl : j = nl := by omega
              rcases HAt.out with ⟨rfl, hno⟩ | ⟨i, t, rfl, hi, hti, htx⟩
              · clear HAt
                have HR := Lib.hid (HMiss.out (HDr.out.trans (by rw [HDc.out, drop_none (none_any (by rw [List.take_of_length_le (by rw [HNl.out]; exact Nat.le_refl _)] at hno; exact hno))])))
                have HZ := Lib.hid ((HBi.out.block _ (by omega)).trans X3.out)
                have HBw := Lib.hid hbwi
                clear HMiss hbwi
                have z0 := Lib.cell_of_heap HZ.out 0
                have z1 := Lib.cell_of_heap HZ.out 1
                have z2 := Lib.cell_of_heap HZ.out 2
                have z3 := Lib.cell_of_heap HZ.out 3
                have z4 := Lib.cell_of_heap HZ.out 4
                simp at z0 z1 z2 z3 z4
                have zf := Lib.frozen_of_heap HZ.out
                go_wp2
                have hst := set5_at HZ.out (.slice none 0 0) (.int .u64 0) (.int .u64 0) (.int .i64 0) (.int .i64 0)
                have hbt := HBw.out.trans (((set5_touch (wi) (w.heap.size + 1 + 1) (.slice none 0 0) (.int .u64 0) (.int .u64 0) (.int .i64 0) (.int .i64 0)).below (B := w.heap.size) HBw.out.size (by simp; omega)))
                clear z0 z1 z2 z3 z4 zf
                generalize (((((wi).setCell ⟨w.heap.size + 1 + 1, 0, none⟩ (.slice none 0 0)).setCell ⟨w.heap.size + 1 + 1, 1, none⟩ (.int .u64 0)).setCell ⟨w.heap.size + 1 + 1, 2, none⟩ (.int .u64 0)).setCell ⟨w.heap.size + 1 + 1, 3, none⟩ (.int .i64 0)).setCell ⟨w.heap.size + 1 + 1, 4, none⟩ (.int .i64 0) = wz at *
                have q0 := Lib.cell_of_heap hst 0
                have q1 := Lib.cell_of_heap hst 1
                have q2 := Lib.cell_of_heap hst 2
                have q3 := Lib.cell_of_heap hst 3
                have q4 := Lib.cell_of_heap hst 4
                simp at q0 q1 q2 q3 q4
                refine bodyPost_ret (v := .tuple #[zeroV, .int .i64 4]) ?_ rfl (appl_zero HR.out hbt)
                simp [results, Try.results16, go_sem, q0, q1, q2, q3, q4, zeroV]
              · clear HAt
                have HDn := Lib.hid (show dropT drop tabs = dropT (drop.drop (k + 1)) (l.take i ++ l.drop (i + 1)) from HDr.out.trans (by rw [HDc.out, drop_some (some_any hti htx), cut_one HApl.out hti, htx]))
                have hsub : (l.take i ++ l.drop (i + 1)).Sublist l := by rw [cut_one HApl.out hti]; exact List.filter_sublist
                have HAp2 := Lib.hid (show Apart (l.take i ++ l.drop (i + 1)) from HApl.out.sublist hsub)
                have HUp2 := Lib.hid (show Up (l.take i ++ l.drop (i + 1)) from HUpl.out.sublist hsub)
                have hl2 : (l.take i ++ l.drop (i + 1)).length = j - 1 := by
                  have := HNl.out
                  simp
                  omega
                have HL2 := Lib.hid hl2
                have HRi := Lib.hid hrdi
                have HBr := Lib.hid hbj
                clear hti htx hsub hl2 hbwi hrdi hbj HMiss
                have hI0 : ¬ ((i : Int) < 0) := by omega
                have hwi1 : IntKind.i64.wrap ((i : Int) + 1) = (i : Int) + 1 := by rw [IntWalk.i64_in _ (by omega)]
                obtain ⟨nl, hjnl⟩ : ∃ n, n = j := ⟨_, rfl⟩
                subst hjnl
                have hin' : i ≤ nl := by omega
                have hin1 : i + 1 ≤ nl := by omega
                have hi1 : ((i : Int) + 1).toNat = i + 1 := by omega
                have hnlt : ¬ ((nl : Int) < (i : Int) + 1) := by omega
                have h0i : (0 : Int) ≤ (i : Int) + 1 := by omega
                go_upto_region 19 with fail
                refine wp_region_until_last (l := [_, _, _, _, _, _, _, _, _, _]) (by kernel_rfl) [onU (zeroF wi.heap.size 45 5) (some 4), eqU (.slice al nl cl), eqU (.int .i64 (i : Int)), eqU (.slice al i cl), onU (ownsF wi.heap.size 45 5 i ((l.take i).flatMap Tb.cells)) (some 9), eqU (.slice al nl cl), eqU (.int .i64 (i : Int)), eqU (.int .i64 ((i : Int) + 1)), eqU (.slice (behindS al (i + 1) cl 5) (nl - (i + 1)) (cl - (i + 1))), onU (ownsF wi.heap.size 45 5 (nl - 1) ((l.take i ++ l.drop (i + 1)).flatMap Tb.cells)) none] [9] (by kernel_rfl) (by kernel_rfl) (by kernel_rfl) (by kernel_rfl) (by kernel_rfl) ⟨?_, ?_, ?_, ?_, ?_, ?_, ?_, ?_, ?_, ?_, trivial⟩ ?_
                · intro ρ wx hρ hbx hl
                  refine u_new (v := .slice (some ⟨wx.heap.size, 0, none⟩) 0 0) (w' := wx.alloc (.cells #[] 45)) ?_ ⟨_, rfl, owns_less (owns_zero wx _ 5) hbx.size⟩ ((Below.refl _ _).alloc (Nat.le_refl _) _)
                  simp [execOp, go_sem]
                · intro ρ wx hρ hbx hl
                  have e7 : ρ (.tmp 7) = .slice al nl cl := hρ.tmp 7 (by decide +kernel)
                  refine u_val (v := .slice al nl cl) ?_ rfl
                  simp [execOp, go_sem, e7]
                · intro ρ wx hρ hbx hl
                  have e10 : ρ (.tmp 10) = .int .i64 (i : Int) := hρ.tmp 10 (by decide +kernel)
                  refine u_val (v := .int .i64 (i : Int)) ?_ rfl
                  simp [execOp, go_sem, e10]
                · intro ρ wx hρ hbx hl
                  have e57 : ρ (.tmp 57) = .slice al nl cl := hl 1 (by decide +kernel) (.inl rfl) 57 rfl
                  have e58 : ρ (.tmp 58) = .int .i64 (i : Int) := hl 2 (by decide +kernel) (.inl rfl) 58 rfl
                  refine u_val (v := .slice al i cl) ?_ rfl
                  simp [execOp, go_sem, e57, e58]
                  first | done | omega
                · intro ρ wx hρ hbx hl
                  have e56 : (zeroF wi.heap.size 45 5).p (ρ (.tmp 56)) wx := hl 0 (by decide +kernel) (.inr rfl) 56 rfl
                  have e59 : ρ (.tmp 59) = .slice al i cl := hl 3 (by decide +kernel) (.inl rfl) 59 rfl
                  obtain ⟨g56, e56, o56⟩ := e56
                  rw [e56] at o56
                  obtain ⟨v', w', hr, ho, hb⟩ := run_append_zero_s (P := Try.prog) (w := wx) wi.heap.size 22 22 22 45 j0 _ 5 56 Try.underlying22 hji hy0 hy1 hy2 rfl g56 o56 (.slice al i cl) i ((l.take i).flatMap Tb.cells) (by rw [← flat_take]; exact ((HRi.out.below' hbx).rtake i hin').src Try.underlying22 (by rw [flat_take]; exact flat_one _)) (by unfold maxLen; omega) (by omega) hbx.size
                  refine u_new ?_ ho hb
                  simp only [execOp, resolve, invoke, builtin, Sem.run_bind, Sem.run_pure, Result.andThen_ok, List.map_toArray, List.map_cons, List.map_nil, e56, e59, hr]
                · intro ρ wx hρ hbx hl
                  have e7 : ρ (.tmp 7) = .slice al nl cl := hρ.tmp 7 (by decide +kernel)
                  refine u_val (v := .slice al nl cl) ?_ rfl
                  simp [execOp, go_sem, e7]
                · intro ρ wx hρ hbx hl
                  have e10 : ρ (.tmp 10) = .int .i64 (i : Int) := hρ.tmp 10 (by decide +kernel)
                  refine u_val (v := .int .i64 (i : Int)) ?_ rfl
                  simp [execOp, go_sem, e10]
                · intro ρ wx hρ hbx hl
                  have e62 : ρ (.tmp 62) = .int .i64 (i : Int) := hl 6 (by decide +kernel) (.inl rfl) 62 rfl
                  refine u_val (v := .int .i64 ((i : Int) + 1)) ?_ rfl
                  simp [execOp, go_sem, e62, hρ.const, hwi1]
                · intro ρ wx hρ hbx hl
                  have e61 : ρ (.tmp 61) = .slice al nl cl := hl 5 (by decide +kernel) (.inl rfl) 61 rfl
                  have e63 : ρ (.tmp 63) = .int .i64 ((i : Int) + 1) := hl 7 (by decide +kernel) (.inl rfl) 63 rfl
                  refine u_val (v := .slice (behindS al (i + 1) cl 5) (nl - (i + 1)) (cl - (i + 1))) ?_ rfl
                  simp [execOp, go_sem, e61, e63, behindS, hi1, hnlt, h0i]
                · intro ρ wx hρ hbx hl
                  have e60 : (ownsF wi.heap.size 45 5 i ((l.take i).flatMap Tb.cells)).p (ρ (.tmp 60)) wx := hl 4 (by decide +kernel) (.inr rfl) 60 rfl
                  have e64 : ρ (.tmp 64) = .slice (behindS al (i + 1) cl 5) (nl - (i + 1)) (cl - (i + 1)) := hl 8 (by decide +kernel) (.inl rfl) 64 rfl
                  obtain ⟨v', w', hr, ho, hg, hb, _⟩ := run_append_owns (P := Try.prog) (w := wx) wi.heap.size 22 22 22 45 j0 _ 5 56 Try.underlying22 hji hy0 hy1 hy2 rfl _ i _ e60 (.slice (behindS al (i + 1) cl 5) (nl - (i + 1)) (cl - (i + 1))) (nl - (i + 1)) ((l.drop (i + 1)).flatMap Tb.cells) (by rw [← flat_drop]; exact ((HRi.out.below' hbx).rdrop (i + 1) hin1).src Try.underlying22 (by rw [flat_drop]; exact flat_one _)) (by unfold maxLen; omega) (by omega) hbx.size
                  rw [← List.flatMap_append, show i + (nl - (i + 1)) = nl - 1 by omega] at ho
                  refine u_new ?_ ho hb
                  simp only [execOp, resolve, invoke, builtin, Sem.run_bind, Sem.run_pure, Result.andThen_ok, List.map_toArray, List.map_cons, List.map_nil, e64, hr]
                intro aa w5 hdef hsz hlk hbz hf
                have ha := act_of_like hdef hsz hlk [56, 57, 58, 59, 60, 61, 62, 63, 64, 65] 141 rfl (by decide +kernel)
                have e57 : aa.tmps.getD 57 undef = .slice al nl cl := hf 1 _ 57 rfl rfl rfl
                have e58 : aa.tmps.getD 58 undef = .int .i64 (i : Int) := hf 2 _ 58 rfl rfl rfl
                have e59 : aa.tmps.getD 59 undef = .slice al i cl := hf 3 _ 59 rfl rfl rfl
                have e61 : aa.tmps.getD 61 undef = .slice al nl cl := hf 5 _ 61 rfl rfl rfl
                have e62 : aa.tmps.getD 62 undef = .int .i64 (i : Int) := hf 6 _ 62 rfl rfl rfl
                have e63 : aa.tmps.getD 63 undef = .int .i64 ((i : Int) + 1) := hf 7 _ 63 rfl rfl rfl
                have e64 : aa.tmps.getD 64 undef = .slice (behindS al (i + 1) cl 5) (nl - (i + 1)) (cl - (i + 1)) := hf 8 _ 64 rfl rfl rfl
                have e65 : (ownsF wi.heap.size 45 5 (nl - 1) ((l.take i ++ l.drop (i + 1)).flatMap Tb.cells)).p (aa.tmps.getD 65 undef) w5 := hf 9 _ 65 rfl rfl rfl
                generalize hv65 : aa.tmps.getD 65 undef = v65 at e65
                simp only [putAll, List.foldl_cons, List.foldl_nil, e57, e58, e59, e61, e62, e63, e64, hv65] at ha
                generalize aa.tmps.getD 56 undef = v56 at ha
                generalize aa.tmps.getD 60 undef = v60 at ha
                simp [Act.put] at ha
                subst ha
                clear hdef hsz hlk hf e57 e58 e59 e61 e62 e63 e64 hv65
                clear hwi1 hi1 hnlt h0i
                have HB5 := Lib.hid (HBi.out.trans (hbz.mono hbsi))
                have ho5 : w5.ownsRow (w.heap.size + 3) 45 5 v65 (l.take i ++ l.drop (i + 1)).length ((l.take i ++ l.drop (i + 1)).flatMap Tb.cells) := by
                  rw [HL2.out]
                  exact own_lower e65 hbsi
                have HO5 := Lib.hid ho5
                clear ho5 hbz
                go_wp2
                exact ⟨⟨k + 1, _, by go_num, by rw [LD.out]; omega, HO5.out, HDn.out, HAp2.out, HUp2.out, by rw [HL2.out, LV.out]; omega, HB5.out⟩, by simp [intOf]; omega⟩
        · obtain rfl : k = n2 := by omega
          have HDl := Lib.hid (show dropT drop tabs = some l from HDr.out.trans (by rw [List.drop_of_length_le (by rw [LD.out]; exact Nat.le_refl _)]; rfl))
          have xe0 := (HB.out.block _ (by omega)).trans X2.out
          have lt1 : w.heap.size + 1 < wr.heap.size := by omega
          have e0 := Lib.cell_of_heap xe0 0
          have e1 := Lib.cell_of_heap xe0 1
          have e2 := Lib.cell_of_heap xe0 2
          have e3 := Lib.cell_of_heap xe0 3
          have e4 := Lib.cell_of_heap xe0 4
          have e5 := Lib.cell_of_heap xe0 5
          simp at e0 e1 e2 e3 e4 e5
          have HEx := Lib.hid (fun h => HRv.out.symm.trans (appl_exists (v := ⟨tabs, vf, vh, vl, vn⟩) (e := ⟨add, drop, ef, eh, el, en⟩) HC0.out HRt.out HDl.out h))
          have ho6 : wr.ownsRow (w.heap.size + 3) 45 5 (.slice al nl cl) l.length (l.flatMap Tb.cells) := by rw [HNl.out]; exact HO.out
          have hln0 : l.length ≤ nv := by rw [HNl.out]; exact hlen
          have HO6 := Lib.hid ho6
          have HB6 := HB
          clear xe0 hb hbw HMiss ho6 HO HRd HB hbs HNl hlen HDr HBw0 hc1 hc2
          go_wp2
          clear e0 e1 e2 e3 e4 e5 lt1
          go_loopw [7, 70] (fun lv iv wi => RaAdd w W3 add l lv iv wi) (fun _ iv _ => n1 - (intOf iv).toNat)
          case atStart => exact ⟨0, l, l, rfl, Nat.zero_le _, HO6.out, List.Perm.refl _, HUpl.out, rfl, HApl.out, Nat.le_refl _, HB6.out⟩
          case round =>
            clear HO6 HB6 HUpl HApl
            rename World => wi
            obtain ⟨i, L, m, rfl, hi, hown, hperm, hupl, had, hapm, hlm, hb⟩ := hrel
            rw [LA.out] at hi
            obtain ⟨nl, hnl⟩ : ∃ n, L.length = n := ⟨_, rfl⟩
            have HNl := Lib.hid hnl
            have hlL := hperm.length_eq
            rw [hnl] at hown hlL
            clear hnl
            have hrd := ownsRow.reads hown
            obtain ⟨al, cl, rfl, hc1, hc2⟩ := hrd.le
            unfold maxLen at hc2
            have HRw := Lib.hid hrd
            have HO := Lib.hid hown
            have HB := Lib.hid hb
            have HAd := Lib.hid had
            have HApm := Lib.hid hapm
            have HUpL := Lib.hid hupl
            have HPerm := Lib.hid hperm
            have hbs := hb.size
            rw [X5.out] at hbs
            have hbs3 := hbs
            have hbw : Below w.heap.size w wi := X4.out.trans (hb.mono (by omega))
            have HBw3 := Lib.hid hbw
            have hnl3 : nl ≤ l.length + i := by omega
            clear hrd hown had hapm hupl hperm hlL
            by_cases hlt : i < n1
            · have hiI : (i : Int) < n1 := by omega
              obtain ⟨x, hx⟩ : ∃ x, add[i]? = some x := ⟨add[i]'(by rw [LA.out]; exact hlt), List.getElem?_eq_getElem _⟩
              obtain ⟨g, off, rfl, hg, k0, k1, k2, k3, k4⟩ := (TRows.below HA.out hbw).row hx
              have HAc := Lib.hid (drop_cons hx)
              obtain ⟨xn, xl, xz, xf, xt⟩ := x
              simp only at k0 k1 k2 k3 k4
              have HAny := Lib.hid (show (L.any fun u => u.num == xn) = true → (m.any fun u => u.num == xn) = true from fun h => (any_perm HPerm.out xn).symm.trans h)
              have HFree := Lib.hid (show (∀ u ∈ L, u.num ≠ xn) → (m.any fun u => u.num == xn) = false from fun h => (any_perm HPerm.out xn).symm.trans (none_any h))
              have hx14 := heap_alloc_new wi (.cells #[.int .i64 xn, .int .i64 xl, .int .i64 xz, .string xf, .string xt] 45)
              have hb14 : Below wi.heap.size wi (wi.alloc (.cells #[.int .i64 xn, .int .i64 xl, .int .i64 xz, .string xf, .string xt] 45)) := (Below.refl _ _).alloc (Nat.le_refl _) _
              have hs14 : (wi.alloc (.cells #[.int .i64 xn, .int .i64 xl, .int .i64 xz, .string xf, .string xt] 45)).heap.size = wi.heap.size + 1 := by simp
              have HX14' := Lib.hid hx14
              have HS14 := Lib.hid hs14
              have HB14 := Lib.hid (HB.out.trans (hb14.mono hbs))
              have HRl := Lib.hid (HRw.out.below' hb14)
              clear hx hb hx14 hb14 hs14
              go_wp2
              clear k0 k1 k2 k3 k4
              generalize wi.alloc (.cells #[.int .i64 xn, .int .i64 xl, .int .i64 xz, .string xf, .string xt] 45) = w14 at *
              obtain ⟨g14, hgg⟩ : ∃ g, g = wi.heap.size := ⟨_, rfl⟩
              rw [← hgg] at HX14'
              have HX14 := HX14'
              have hs14w : w.heap.size + 3 ≤ w14.heap.size := by rw [HS14.out]; omega
              have hg14 : g14 < w14.heap.size := by rw [HS14.out, hgg]; omega
              have Hgg := Lib.hid hgg
              rw [← hgg]
              clear hgg HX14'
              go_loopw [76] (fun iv wq => RcIn w14 L xn iv wq) (fun iv _ => nl - (intOf iv).toNat)
              case atStart => exact ⟨0, rfl, Nat.zero_le _, (fun u hu => by simp at hu), Below.refl _ _⟩
              case round =>
                rename World => wq
                obtain ⟨j, rfl, hj, hno, hbj⟩ := hrel
                rw [HNl.out] at hj
                have HNo := Lib.hid hno
                have HLq := Lib.hid hbj
                have hx14q := (hbj.block _ hg14).trans HX14.out
                have hsq := hbj.size
                have HBq := Lib.hid (HB14.out.trans (hbj.mono hs14w))
                have hbwq : Below w.heap.size w wq := X4.out.trans (HBq.out.mono (by omega))
                have hrdq := HRl.out.below' hbj
                clear hno
                by_cases hltj : j < nl
                · have hjI : (j : Int) < nl := by omega
                  obtain ⟨y, hy⟩ : ∃ y, L[j]? = some y := ⟨L[j]'(by rw [HNl.out]; exact hltj), List.getElem?_eq_getElem _⟩
                  obtain ⟨g', off', rfl, hg', k0, k1, k2, k3, k4⟩ := TRows.row (show TRows wq (.slice al nl cl) L by unfold TRows; rw [HNl.out]; exact hrdq) hy
                  have HYn := Lib.hid (show ∀ p : Tb → Prop, (∀ u ∈ L.take j, p u) → p y → ∀ u ∈ L.take (j + 1), p u from fun p => in_next hy)
                  have HY := Lib.hid hy
                  have z0 := Lib.cell_of_heap hx14q 0
                  simp at z0
                  have lt14 : g14 < wq.heap.size := by omega
                  have lt14' : g14 < wq.heap.size + 1 := by omega
                  have HBn := Lib.hid (show Below w14.heap.size w14 (wq.alloc (.cells #[.int .i64 y.num, .int .i64 y.lev, .int .i64 y.size, .string y.first, .string y.last] 45)) from hbj.trans (((Below.refl _ wq).alloc (Nat.le_refl _) _).mono hbj.size))
                  clear hy hbj hrdq hx14q
                  by_cases hxy : y.num = xn
                  · have hxyb : (y.num == xn) = true := by simp [hxy]
                    obtain ⟨yn, yl, yz, yf, yt⟩ := y
                    simp only at k0 k1 k2 k3 k4 hxy hxyb
                    subst hxy
                    have HR := Lib.hid (HEx.out (HAd.out.trans (by rw [HAc.out, add_none (HAny.out (some_any HY.out rfl))])))
                    have HZ := Lib.hid ((HBq.out.block _ (by omega)).trans X3.out)
                    have HBw := Lib.hid hbwq
                    have lt2 : w.heap.size + 1 + 1 < wq.heap.size := by omega
                    clear HEx hbwq
                    have z0 := Lib.cell_of_heap HZ.out 0
                    have z1 := Lib.cell_of_heap HZ.out 1
                    have z2 := Lib.cell_of_heap HZ.out 2
                    have z3 := Lib.cell_of_heap HZ.out 3
                    have z4 := Lib.cell_of_heap HZ.out 4
                    simp at z0 z1 z2 z3 z4
                    have zf := Lib.frozen_of_heap HZ.out
                    go_wp2
                    have hst := set5_at HZ.out (.slice none 0 0) (.int .u64 0) (.int .u64 0) (.int .i64 0) (.int .i64 0)
                    have hbt := HBw.out.trans (((set5_touch (wq) (w.heap.size + 1 + 1) (.slice none 0 0) (.int .u64 0) (.int .u64 0) (.int .i64 0) (.int .i64 0)).below (B := w.heap.size) HBw.out.size (by simp; omega)))
                    clear z0 z1 z2 z3 z4 zf
                    generalize (((((wq).setCell ⟨w.heap.size + 1 + 1, 0, none⟩ (.slice none 0 0)).setCell ⟨w.heap.size + 1 + 1, 1, none⟩ (.int .u64 0)).setCell ⟨w.heap.size + 1 + 1, 2, none⟩ (.int .u64 0)).setCell ⟨w.heap.size + 1 + 1, 3, none⟩ (.int .i64 0)).setCell ⟨w.heap.size + 1 + 1, 4, none⟩ (.int .i64 0) = wz at *
                    have ltz := (Array.getElem?_eq_some_iff.1 hst).1
                    have q0 := Lib.cell_of_heap hst 0
                    have q1 := Lib.cell_of_heap hst 1
                    have q2 := Lib.cell_of_heap hst 2
                    have q3 := Lib.cell_of_heap hst 3
                    have q4 := Lib.cell_of_heap hst 4
                    simp at q0 q1 q2 q3 q4
                    refine bodyPost_ret (v := .tuple #[zeroV, .int .i64 3]) ?_ rfl (appl_zero HR.out (hbt.alloc (Nat.le_trans hbt.size (by simp <;> omega)) _))
                    simp [results, Try.results16, go_sem, q0, q1, q2, q3, q4, zeroV, ltz]
                  · have hxyb : (y.num == xn) = false := by simp [hxy]
                    have HXy := Lib.hid hxy
                    clear hxy hbwq
                    obtain ⟨yn, yl, yz, yf, yt⟩ := y
                    simp only at k0 k1 k2 k3 k4 hxyb
                    go_wp2
                    exact ⟨⟨j + 1, by go_num, by rw [HNl.out]; omega, HYn.out (fun u => u.num ≠ xn) HNo.out HXy.out, HBn.out⟩, by simp [intOf]; omega⟩
                · obtain rfl : j = nl := by omega
                  have hfree := HFree.out (by have := HNo.out; rwa [List.take_of_length_le (by rw [HNl.out]; exact Nat.le_refl _)] at this)
                  have HAn := Lib.hid (show addT add l = addT (add.drop (i + 1)) (m ++ [(⟨xn, xl, xz, xf, xt⟩ : Tb)]) from HAd.out.trans (by rw [HAc.out, add_some hfree]))
                  have HApN := Lib.hid (add_apart (t := ⟨xn, xl, xz, xf, xt⟩) HApm.out hfree)
                  have HLm := Lib.hid (show (m ++ [(⟨xn, xl, xz, xf, xt⟩ : Tb)]).length ≤ l.length + (i + 1) by rw [List.length_append, List.length_singleton]; omega)
                  obtain ⟨nl, hjnl⟩ : ∃ n, n = j := ⟨_, rfl⟩
                  subst hjnl
                  clear hfree HAny HFree HAd HAc HNo hbj hrdq hbwq hx14q HEx
                  go_wp2
                  obtain ⟨wp, hwp⟩ : ∃ wp, wq = wp := ⟨_, rfl⟩
                  clear hwp
                  go_loopw [17] (fun iv ws => RaAt w14 L ⟨xn, xl, xz, xf, xt⟩ iv ws) (fun iv _ => nl - (intOf iv).toNat)
                  case atStart => exact ⟨0, rfl, Nat.zero_le _, (fun u hu => by simp at hu), HLq.out⟩
                  case round =>
                    rename World => ws
                    obtain ⟨j, rfl, hj, hlo, hbj⟩ := hrel
                    rw [HNl.out] at hj
                    have HLs := Lib.hid hbj
                    have HLo := Lib.hid hlo
                    clear hlo
                    by_cases hltj : j < nl
                    · have hjI : (j : Int) < nl := by omega
                      have hx14s := (hbj.block _ hg14).trans HX14.out
                      have hs14 : g14 < ws.heap.size := (Array.getElem?_eq_some_iff.1 hx14s).1
                      obtain ⟨u, hu⟩ : ∃ u, L[j]? = some u := ⟨L[j]'(by rw [HNl.out]; exact hltj), List.getElem?_eq_getElem _⟩
                      obtain ⟨g, off, hal, hsg, p0, p1, p2, p3, p4⟩ := TRows.row (show TRows ws (.slice al nl cl) L by unfold TRows; rw [HNl.out]; exact HRl.out.below' hbj) hu
                      have z0 := Lib.cell_of_heap hx14s 0
                      have z1 := Lib.cell_of_heap hx14s 1
                      have z2 := Lib.cell_of_heap hx14s 2
                      have z3 := Lib.cell_of_heap hx14s 3
                      have z4 := Lib.cell_of_heap hx14s 4
                      simp at z0 z1 z2 z3 z4
                      have hless := fun W => less_any W u ⟨xn, xl, xz, xf, xt⟩
                      have HHi2 := Lib.hid (show tlt u ⟨xn, xl, xz, xf, xt⟩ = false → ∀ y, L[j]? = some y → tlt y ⟨xn, xl, xz, xf, xt⟩ = false from fun h y hy => by rw [hu] at hy; cases hy; exact h)
                      have HLo2 := Lib.hid (show tlt u ⟨xn, xl, xz, xf, xt⟩ = true → ∀ y ∈ L.take (j + 1), tlt y ⟨xn, xl, xz, xf, xt⟩ = true from fun h => in_next hu HLo.out h)
                      have HLt := Lib.hid (rfl : tlt u ⟨xn, xl, xz, xf, xt⟩ = tlt u ⟨xn, xl, xz, xf, xt⟩)
                      generalize tlt u ⟨xn, xl, xz, xf, xt⟩ = lt at *
                      obtain ⟨un, ul, uz, uf, ut⟩ := u
                      simp only [tv] at p0 p1 p2 p3 p4 hless
                      have HLess := Lib.hid hless
                      clear hless hu hx14s hbj HLt
                      have hjn : j < nl := hltj
                      go_upto_region 31 with fail
                      refine wp_region_all (by kernel_rfl) [eqF (.int .i64 (j : Int)), eqF (.slice al nl cl), eqF (.int .i64 (nl : Int)), eqF (.bool true), eqF (.bool true), eqF (.slice al nl cl), eqF (.int .i64 (j : Int)), eqF (.pointer (some ⟨g, off + j * 5, none⟩)), eqF (.agg #[.int .i64 un, .int .i64 ul, .int .i64 uz, .string uf, .string ut]), eqF (.agg #[.int .i64 xn, .int .i64 xl, .int .i64 xz, .string xf, .string xt]), eqF (.bool lt), eqF (.bool lt)] (by kernel_rfl) ⟨?_, ?_, ?_, ?_, ?_, ?_, ?_, ?_, ?_, ?_, ?_, ?_, trivial⟩ ⟨trivial, trivial, trivial, trivial, trivial, fun _ _ h => h, fun _ _ h => h, fun _ _ h => h, fun _ _ h => h, fun _ _ h => h, fun _ _ h => h, trivial, trivial⟩ ?_
                      · intro ρ wx hρ hbx hl
                        have e17 : ρ (.tmp 17) = .int .i64 (j : Int) := hρ.tmp 17 (by decide +kernel)
                        refine y_val (v := .int .i64 (j : Int)) ?_ rfl
                        simp [execOp, go_sem, e17]
                      · intro ρ wx hρ hbx hl
                        have e7 : ρ (.tmp 7) = .slice al nl cl := hρ.tmp 7 (by decide +kernel)
                        refine y_val (v := .slice al nl cl) ?_ rfl
                        simp [execOp, go_sem, e7]
                      · intro ρ wx hρ hbx hl
                        have e88 : ρ (.tmp 88) = .slice al nl cl := hl 1 (by decide +kernel) 88 rfl
                        refine y_val (v := .int .i64 (nl : Int)) ?_ rfl
                        simp [go_sem, e88]
                      · intro ρ wx hρ hbx hl
                        have e87 : ρ (.tmp 87) = .int .i64 (j : Int) := hl 0 (by decide +kernel) 87 rfl
                        have e89 : ρ (.tmp 89) = .int .i64 (nl : Int) := hl 2 (by decide +kernel) 89 rfl
                        refine y_val (v := .bool true) ?_ rfl
                        simp [go_sem, e87, e89]
                        exact hjn
                      · intro ρ wx hρ hbx hl
                        have e90 : ρ (.tmp 90) = .bool true := hl 3 (by decide +kernel) 90 rfl
                        refine y_val (v := .bool true) ?_ rfl
                        simp [execOp, go_sem, e90]
                      · intro ρ wx hρ hbx hl
                        have e7 : ρ (.tmp 7) = .slice al nl cl := hρ.tmp 7 (by decide +kernel)
                        refine y_val (v := .slice al nl cl) ?_ rfl
                        simp [execOp, go_sem, e7]
                      · intro ρ wx hρ hbx hl
                        have e17 : ρ (.tmp 17) = .int .i64 (j : Int) := hρ.tmp 17 (by decide +kernel)
                        refine y_val (v := .int .i64 (j : Int)) ?_ rfl
                        simp [execOp, go_sem, e17]
                      · intro ρ wx hρ hbx hl
                        have e92 : ρ (.tmp 92) = .slice al nl cl := hl 5 (by decide +kernel) 92 rfl
                        have e93 : ρ (.tmp 93) = .int .i64 (j : Int) := hl 6 (by decide +kernel) 93 rfl
                        refine y_val (v := .pointer (some ⟨g, off + j * 5, none⟩)) ?_ rfl
                        simp [execOp, go_sem, e92, e93, hjn, hal]
                      · intro ρ wx hρ hbx hl
                        have e94 : ρ (.tmp 94) = .pointer (some ⟨g, off + j * 5, none⟩) := hl 7 (by decide +kernel) 94 rfl
                        have kk0 := (hbx.cell (hsg)).trans p0
                        have kk1 := (hbx.cell (hsg)).trans p1
                        have kk2 := (hbx.cell (hsg)).trans p2
                        have kk3 := (hbx.cell (hsg)).trans p3
                        have kk4 := (hbx.cell (hsg)).trans p4
                        refine y_val (v := .agg #[.int .i64 un, .int .i64 ul, .int .i64 uz, .string uf, .string ut]) ?_ rfl
                        simp [execOp, go_sem, e94, kk0, kk1, kk2, kk3, kk4]
                      · intro ρ wx hρ hbx hl
                        have e14 : ρ (.tmp 14) = .pointer (some ⟨g14, 0, none⟩) := hρ.tmp 14 (by decide +kernel)
                        have kk0 := (hbx.cell (hs14)).trans z0
                        have kk1 := (hbx.cell (hs14)).trans z1
                        have kk2 := (hbx.cell (hs14)).trans z2
                        have kk3 := (hbx.cell (hs14)).trans z3
                        have kk4 := (hbx.cell (hs14)).trans z4
                        refine y_val (v := .agg #[.int .i64 xn, .int .i64 xl, .int .i64 xz, .string xf, .string xt]) ?_ rfl
                        simp [execOp, go_sem, e14, kk0, kk1, kk2, kk3, kk4]
                      · intro ρ wx hρ hbx hl
                        have e95 : ρ (.tmp 95) = .agg #[.int .i64 un, .int .i64 ul, .int .i64 uz, .string uf, .string ut] := hl 8 (by decide +kernel) 95 rfl
                        have e96 : ρ (.tmp 96) = .agg #[.int .i64 xn, .int .i64 xl, .int .i64 xz, .string xf, .string xt] := hl 9 (by decide +kernel) 96 rfl
                        refine y_call (f := 36) (args := #[.agg #[.int .i64 un, .int .i64 ul, .int .i64 uz, .string uf, .string ut], .agg #[.int .i64 xn, .int .i64 xl, .int .i64 xz, .string xf, .string xt]]) (by simp [execOp, resolve, invoke, hρ.func, go_sem, e95, e96]) ?_
                        refine (HLess.out wx).mono ?_
                        rintro e w6 ⟨rfl, os, rfl⟩
                        exact ⟨_, rfl, rfl, grow_below _ _⟩
                      · intro ρ wx hρ hbx hl
                        have e91 : ρ (.tmp 91) = .bool true := hl 4 (by decide +kernel) 91 rfl
                        have e97 : ρ (.tmp 97) = .bool lt := hl 10 (by decide +kernel) 97 rfl
                        refine y_val (v := .bool lt) ?_ rfl
                        simp [execOp, go_sem, e91, e97]
                      intro aa wj hdef hsz hlk hbz hf
                      have ha := act_of_like hdef hsz hlk [87, 88, 89, 90, 91, 92, 93, 94, 95, 96, 97, 98] 141 rfl (by decide +kernel)
                      have e87 : aa.tmps.getD 87 undef = .int .i64 (j : Int) := hf 0 _ 87 rfl rfl
                      have e88 : aa.tmps.getD 88 undef = .slice al nl cl := hf 1 _ 88 rfl rfl
                      have e89 : aa.tmps.getD 89 undef = .int .i64 (nl : Int) := hf 2 _ 89 rfl rfl
                      have e90 : aa.tmps.getD 90 undef = .bool true := hf 3 _ 90 rfl rfl
                      have e91 : aa.tmps.getD 91 undef = .bool true := hf 4 _ 91 rfl rfl
                      have e92 : aa.tmps.getD 92 undef = .slice al nl cl := hf 5 _ 92 rfl rfl
                      have e93 : aa.tmps.getD 93 undef = .int .i64 (j : Int) := hf 6 _ 93 rfl rfl
                      have e94 : aa.tmps.getD 94 undef = .pointer (some ⟨g, off + j * 5, none⟩) := hf 7 _ 94 rfl rfl
                      have e95 : aa.tmps.getD 95 undef = .agg #[.int .i64 un, .int .i64 ul, .int .i64 uz, .string uf, .string ut] := hf 8 _ 95 rfl rfl
                      have e96 : aa.tmps.getD 96 undef = .agg #[.int .i64 xn, .int .i64 xl, .int .i64 xz, .string xf, .string xt] := hf 9 _ 96 rfl rfl
                      have e97 : aa.tmps.getD 97 undef = .bool lt := hf 10 _ 97 rfl rfl
                      have e98 : aa.tmps.getD 98 undef = .bool lt := hf 11 _ 98 rfl rfl
                      simp only [putAll, List.foldl_cons, List.foldl_nil, e87, e88, e89, e90, e91, e92, e93, e94, e95, e96, e97, e98] at ha
                      simp [Act.put] at ha
                      subst ha
                      clear hdef hsz hlk hf e87 e88 e89 e90 e91 e92 e93 e94 e95 e96 e97 e98
                      clear z0 z1 z2 z3 z4 p0 p1 p2 p3 p4 hs14 HLess
                      have HLj := Lib.hid (HLs.out.trans (hbz.mono HLs.out.size))
                      clear hbz
                      cases lt with
                      | true =>
                        go_wp2
                        exact ⟨⟨j + 1, by go_num, by rw [HNl.out]; omega, HLo2.out rfl, HLj.out⟩, by simp [intOf]; omega⟩
                      | false =>
                        have HHi := Lib.hid (HHi2.out rfl)
                        have hjn' : j ≤ nl := by omega
                        clear HHi2 HLo2
                        have HRj := Lib.hid (HRl.out.below' HLj.out)
                        have HBj := Lib.hid (HB14.out.trans (HLj.out.mono hs14w))
                        have hx14j := (HLj.out.block _ hg14).trans HX14.out
                        have hbsj := HBj.out.size
                        rw [X5.out] at hbsj
                        have hs14 : g14 < wj.heap.size := (Array.getElem?_eq_some_iff.1 hx14j).1
                        have z0 := Lib.cell_of_heap hx14j 0
                        have z1 := Lib.cell_of_heap hx14j 1
                        have z2 := Lib.cell_of_heap hx14j 2
                        have z3 := Lib.cell_of_heap hx14j 3
                        have z4 := Lib.cell_of_heap hx14j 4
                        simp at z0 z1 z2 z3 z4
                        have HUpN := Lib.hid (put_up (t := ⟨xn, xl, xz, xf, xt⟩) HUpL.out HLo.out HHi.out)
                        have HPm := Lib.hid (put_perm L m ⟨xn, xl, xz, xf, xt⟩ j HPerm.out)
                        have hln : (L.take j ++ [(⟨xn, xl, xz, xf, xt⟩ : Tb)] ++ L.drop j).length = nl + 1 := by
                          have := HNl.out
                          simp
                          omega
                        have HLn := Lib.hid hln
                        clear hln hx14j HLo HHi
                        go_upto_region 33 with fail
                        refine wp_region_until_last (l := [_, _, _, _, _, _, _, _, _, _, _, _]) (by kernel_rfl) [onU (zeroF wj.heap.size 45 5) (some 4), eqU (.slice al nl cl), eqU (.int .i64 (j : Int)), eqU (.slice al j cl), onU (ownsF wj.heap.size 45 5 j ((L.take j).flatMap Tb.cells)) (some 7), eqU (.agg #[.int .i64 xn, .int .i64 xl, .int .i64 xz, .string xf, .string xt]), onU (litF 45 #[.int .i64 xn, .int .i64 xl, .int .i64 xz, .string xf, .string xt] 1) (some 7), onU (ownsF wj.heap.size 45 5 (j + 1) ((L.take j ++ [(⟨xn, xl, xz, xf, xt⟩ : Tb)]).flatMap Tb.cells)) (some 11), eqU (.slice al nl cl), eqU (.int .i64 (j : Int)), eqU (.slice (behindS al j cl 5) (nl - j) (cl - j)), onU (ownsF wj.heap.size 45 5 (nl + 1) ((L.take j ++ [(⟨xn, xl, xz, xf, xt⟩ : Tb)] ++ L.drop j).flatMap Tb.cells)) none] [7, 11] (by kernel_rfl) (by kernel_rfl) (by kernel_rfl) (by kernel_rfl) (by kernel_rfl) ⟨?_, ?_, ?_, ?_, ?_, ?_, ?_, ?_, ?_, ?_, ?_, ?_, trivial⟩ ?_
                        · intro ρ wx hρ hbx hl
                          refine u_new (v := .slice (some ⟨wx.heap.size, 0, none⟩) 0 0) (w' := wx.alloc (.cells #[] 45)) ?_ ⟨_, rfl, owns_less (owns_zero wx _ 5) hbx.size⟩ ((Below.refl _ _).alloc (Nat.le_refl _) _)
                          simp [execOp, go_sem]
                        · intro ρ wx hρ hbx hl
                          have e7 : ρ (.tmp 7) = .slice al nl cl := hρ.tmp 7 (by decide +kernel)
                          refine u_val (v := .slice al nl cl) ?_ rfl
                          simp [execOp, go_sem, e7]
                        · intro ρ wx hρ hbx hl
                          have e17 : ρ (.tmp 17) = .int .i64 (j : Int) := hρ.tmp 17 (by decide +kernel)
                          refine u_val (v := .int .i64 (j : Int)) ?_ rfl
                          simp [execOp, go_sem, e17]
                        · intro ρ wx hρ hbx hl
                          have e102 : ρ (.tmp 102) = .slice al nl cl := hl 1 (by decide +kernel) (.inl rfl) 102 rfl
                          have e103 : ρ (.tmp 103) = .int .i64 (j : Int) := hl 2 (by decide +kernel) (.inl rfl) 103 rfl
                          refine u_val (v := .slice al j cl) ?_ rfl
                          simp [execOp, go_sem, e102, e103]
                          first | done | omega
                        · intro ρ wx hρ hbx hl
                          have e101 : (zeroF wj.heap.size 45 5).p (ρ (.tmp 101)) wx := hl 0 (by decide +kernel) (.inr rfl) 101 rfl
                          have e104 : ρ (.tmp 104) = .slice al j cl := hl 3 (by decide +kernel) (.inl rfl) 104 rfl
                          obtain ⟨g101, e101, o101⟩ := e101
                          rw [e101] at o101
                          obtain ⟨v', w', hr, ho, hb⟩ := run_append_zero_s (P := Try.prog) (w := wx) wj.heap.size 22 22 22 45 j0 _ 5 56 Try.underlying22 hji hy0 hy1 hy2 rfl g101 o101 (.slice al j cl) j ((L.take j).flatMap Tb.cells) (by rw [← flat_take]; exact ((HRj.out.below' hbx).rtake j hjn').src Try.underlying22 (by rw [flat_take]; exact flat_one _)) (by unfold maxLen; omega) (by omega) hbx.size
                          refine u_new ?_ ho hb
                          simp only [execOp, resolve, invoke, builtin, Sem.run_bind, Sem.run_pure, Result.andThen_ok, List.map_toArray, List.map_cons, List.map_nil, e101, e104, hr]
                        · intro ρ wx hρ hbx hl
                          have e14 : ρ (.tmp 14) = .pointer (some ⟨g14, 0, none⟩) := hρ.tmp 14 (by decide +kernel)
                          have kk0 := (hbx.cell (hs14)).trans z0
                          have kk1 := (hbx.cell (hs14)).trans z1
                          have kk2 := (hbx.cell (hs14)).trans z2
                          have kk3 := (hbx.cell (hs14)).trans z3
                          have kk4 := (hbx.cell (hs14)).trans z4
                          refine u_val (v := .agg #[.int .i64 xn, .int .i64 xl, .int .i64 xz, .string xf, .string xt]) ?_ rfl
                          simp [execOp, go_sem, e14, kk0, kk1, kk2, kk3, kk4]
                        · intro ρ wx hρ hbx hl
                          have e106 : ρ (.tmp 106) = .agg #[.int .i64 xn, .int .i64 xl, .int .i64 xz, .string xf, .string xt] := hl 5 (by decide +kernel) (.inl rfl) 106 rfl
                          refine u_new (v := .slice (some ⟨wx.heap.size, 0, none⟩) 1 1) (w' := wx.alloc (.cells #[.int .i64 xn, .int .i64 xl, .int .i64 xz, .string xf, .string xt] 45)) ?_ ⟨_, rfl, heap_alloc_new wx _⟩ ((Below.refl _ _).alloc (Nat.le_refl _) _)
                          simp [execOp, go_sem, e106]
                        · intro ρ wx hρ hbx hl
                          have e105 : (ownsF wj.heap.size 45 5 j ((L.take j).flatMap Tb.cells)).p (ρ (.tmp 105)) wx := hl 4 (by decide +kernel) (.inr rfl) 105 rfl
                          have e107 : (litF 45 #[.int .i64 xn, .int .i64 xl, .int .i64 xz, .string xf, .string xt] 1).p (ρ (.tmp 107)) wx := hl 6 (by decide +kernel) (.inr rfl) 107 rfl
                          obtain ⟨g107, e107, o107⟩ := e107
                          have hrd := lit_reads (cs := [.int .i64 xn, .int .i64 xl, .int .i64 xz, .string xf, .string xt]) (size := 5) o107 rfl (by decide)
                          obtain ⟨v', w', hr, ho, hg, hb, _⟩ := run_append_owns (P := Try.prog) (w := wx) wj.heap.size 22 22 22 45 j0 _ 5 56 Try.underlying22 hji hy0 hy1 hy2 rfl _ j _ e105 _ 1 [.int .i64 xn, .int .i64 xl, .int .i64 xz, .string xf, .string xt] (hrd.src Try.underlying22 (by simp [Value.oneCell'])) (by unfold maxLen; omega) (by omega) hbx.size
                          rw [show (L.take j).flatMap Tb.cells ++ [Value.int .i64 xn, .int .i64 xl, .int .i64 xz, .string xf, .string xt] = (L.take j ++ [(⟨xn, xl, xz, xf, xt⟩ : Tb)]).flatMap Tb.cells by rw [List.flatMap_append]; rfl] at ho
                          refine u_new ?_ ho hb
                          simp only [execOp, resolve, invoke, builtin, Sem.run_bind, Sem.run_pure, Result.andThen_ok, List.map_toArray, List.map_cons, List.map_nil, e107, hr]
                        · intro ρ wx hρ hbx hl
                          have e7 : ρ (.tmp 7) = .slice al nl cl := hρ.tmp 7 (by decide +kernel)
                          refine u_val (v := .slice al nl cl) ?_ rfl
                          simp [execOp, go_sem, e7]
                        · intro ρ wx hρ hbx hl
                          have e17 : ρ (.tmp 17) = .int .i64 (j : Int) := hρ.tmp 17 (by decide +kernel)
                          refine u_val (v := .int .i64 (j : Int)) ?_ rfl
                          simp [execOp, go_sem, e17]
                        · intro ρ wx hρ hbx hl
                          have e109 : ρ (.tmp 109) = .slice al nl cl := hl 8 (by decide +kernel) (.inl rfl) 109 rfl
                          have e110 : ρ (.tmp 110) = .int .i64 (j : Int) := hl 9 (by decide +kernel) (.inl rfl) 110 rfl
                          refine u_val (v := .slice (behindS al j cl 5) (nl - j) (cl - j)) ?_ rfl
                          simp [execOp, go_sem, e109, e110, behindS, hjn']
                        · intro ρ wx hρ hbx hl
                          have e108 : (ownsF wj.heap.size 45 5 (j + 1) ((L.take j ++ [(⟨xn, xl, xz, xf, xt⟩ : Tb)]).flatMap Tb.cells)).p (ρ (.tmp 108)) wx := hl 7 (by decide +kernel) (.inr rfl) 108 rfl
                          have e111 : ρ (.tmp 111) = .slice (behindS al j cl 5) (nl - j) (cl - j) := hl 10 (by decide +kernel) (.inl rfl) 111 rfl
                          obtain ⟨v', w', hr, ho, hg, hb, _⟩ := run_append_owns (P := Try.prog) (w := wx) wj.heap.size 22 22 22 45 j0 _ 5 56 Try.underlying22 hji hy0 hy1 hy2 rfl _ (j + 1) _ e108 (.slice (behindS al j cl 5) (nl - j) (cl - j)) (nl - j) ((L.drop j).flatMap Tb.cells) (by rw [← flat_drop]; exact ((HRj.out.below' hbx).rdrop j hjn').src Try.underlying22 (by rw [flat_drop]; exact flat_one _)) (by unfold maxLen; omega) (by omega) hbx.size
                          rw [← List.flatMap_append, show j + 1 + (nl - j) = nl + 1 by omega] at ho
                          refine u_new ?_ ho hb
                          simp only [execOp, resolve, invoke, builtin, Sem.run_bind, Sem.run_pure, Result.andThen_ok, List.map_toArray, List.map_cons, List.map_nil, e111, hr]
                        intro aa w8 hdef hsz hlk hbz hf
                        have ha := act_of_like hdef hsz hlk [101, 102, 103, 104, 105, 106, 107, 108, 109, 110, 111, 112] 141 rfl (by decide +kernel)
                        have e102 : aa.tmps.getD 102 undef = .slice al nl cl := hf 1 _ 102 rfl rfl rfl
                        have e103 : aa.tmps.getD 103 undef = .int .i64 (j : Int) := hf 2 _ 103 rfl rfl rfl
                        have e104 : aa.tmps.getD 104 undef = .slice al j cl := hf 3 _ 104 rfl rfl rfl
                        have e106 : aa.tmps.getD 106 undef = .agg #[.int .i64 xn, .int .i64 xl, .int .i64 xz, .string xf, .string xt] := hf 5 _ 106 rfl rfl rfl
                        have e109 : aa.tmps.getD 109 undef = .slice al nl cl := hf 8 _ 109 rfl rfl rfl
                        have e110 : aa.tmps.getD 110 undef = .int .i64 (j : Int) := hf 9 _ 110 rfl rfl rfl
                        have e111 : aa.tmps.getD 111 undef = .slice (behindS al j cl 5) (nl - j) (cl - j) := hf 10 _ 111 rfl rfl rfl
                        have e112 : (ownsF wj.heap.size 45 5 (nl + 1) ((L.take j ++ [(⟨xn, xl, xz, xf, xt⟩ : Tb)] ++ L.drop j).flatMap Tb.cells)).p (aa.tmps.getD 112 undef) w8 := hf 11 _ 112 rfl rfl rfl
                        generalize hv112 : aa.tmps.getD 112 undef = v112 at e112
                        simp only [putAll, List.foldl_cons, List.foldl_nil, e102, e103, e104, e106, e109, e110, e111, hv112] at ha
                        generalize aa.tmps.getD 101 undef = v101 at ha
                        generalize aa.tmps.getD 105 undef = v105 at ha
                        generalize aa.tmps.getD 107 undef = v107 at ha
                        generalize aa.tmps.getD 108 undef = v108 at ha
                        simp [Act.put] at ha
                        subst ha
                        clear hdef hsz hlk hf e102 e103 e104 e106 e109 e110 e111 hv112
                        clear z0 z1 z2 z3 z4 hs14
                        have HB8 := Lib.hid (HBj.out.trans (hbz.mono hbsj))
                        have ho8 : w8.ownsRow (w.heap.size + 3) 45 5 v112 (L.take j ++ [(⟨xn, xl, xz, xf, xt⟩ : Tb)] ++ L.drop j).length ((L.take j ++ [(⟨xn, xl, xz, xf, xt⟩ : Tb)] ++ L.drop j).flatMap Tb.cells) := by
                          rw [HLn.out]
                          exact own_lower e112 hbsj
                        have HO8 := Lib.hid ho8
                        clear ho8 hbz
                        go_wp2
                        exact ⟨⟨i + 1, _, _, by go_num, by rw [LA.out]; omega, HO8.out, HPm.out, HUpN.out, HAn.out, HApN.out, HLm.out, HB8.out⟩, by simp [intOf]; omega⟩
                    · have hjeq : j = nl := by omega
                      have HHi := Lib.hid (show ∀ y, L[j]? = some y → tlt y ⟨xn, xl, xz, xf, xt⟩ = false from fun y hy => by rw [List.getElem?_eq_none (by rw [HNl.out]; omega)] at hy; cases hy)
                      have hjn' : j ≤ nl := by omega
                      have hjge : nl ≤ j := by omega
                      clear hbj hjeq
                      go_upto_region 31 with fail
                      refine wp_region_some2 (by kernel_rfl) [5, 6, 7, 8, 9, 10] [eqF (.int .i64 (j : Int)), eqF (.slice al nl cl), eqF (.int .i64 (nl : Int)), eqF (.bool false), eqF (.bool false), eqF (undef), eqF (undef), eqF (undef), eqF (undef), eqF (undef), eqF (undef), eqF (.bool false)] (by kernel_rfl) ⟨on_goal (by decide) ?_, on_goal (by decide) ?_, on_goal (by decide) ?_, on_goal (by decide) ?_, on_goal (by decide) ?_, off_goal (by decide) fun _ => rfl, off_goal (by decide) fun _ => rfl, off_goal (by decide) fun _ => rfl, off_goal (by decide) fun _ => rfl, off_goal (by decide) fun _ => rfl, off_goal (by decide) fun _ => rfl, on_goal (by decide) ?_, trivial⟩ ⟨rfl, rfl, rfl, rfl, rfl, fun _ _ h => g_off (.inl h) rfl, fun _ _ h => g_off (.inl h) rfl, fun _ _ h => g_off (.inl h) rfl, fun _ _ h => g_off (.inl h) rfl, fun _ _ h => g_off (.inl h) rfl, fun _ _ h => g_off (.inl h) rfl, rfl, trivial⟩ ?_
                      · intro ρ wx hρ hbx hl
                        have e17 : ρ (.tmp 17) = .int .i64 (j : Int) := hρ.tmp 17 (by decide +kernel)
                        refine y_val (v := .int .i64 (j : Int)) ?_ rfl
                        simp [execOp, go_sem, e17]
                      · intro ρ wx hρ hbx hl
                        have e7 : ρ (.tmp 7) = .slice al nl cl := hρ.tmp 7 (by decide +kernel)
                        refine y_val (v := .slice al nl cl) ?_ rfl
                        simp [execOp, go_sem, e7]
                      · intro ρ wx hρ hbx hl
                        have e88 : ρ (.tmp 88) = .slice al nl cl := hl 1 (by decide +kernel) 88 rfl
                        refine y_val (v := .int .i64 (nl : Int)) ?_ rfl
                        simp [go_sem, e88]
                      · intro ρ wx hρ hbx hl
                        have e87 : ρ (.tmp 87) = .int .i64 (j : Int) := hl 0 (by decide +kernel) 87 rfl
                        have e89 : ρ (.tmp 89) = .int .i64 (nl : Int) := hl 2 (by decide +kernel) 89 rfl
                        refine y_val (v := .bool false) ?_ rfl
                        simp [go_sem, e87, e89]
                        exact hjge
                      · intro ρ wx hρ hbx hl
                        have e90 : ρ (.tmp 90) = .bool false := hl 3 (by decide +kernel) 90 rfl
                        refine y_val (v := .bool false) ?_ rfl
                        simp [execOp, go_sem, e90]
                      · intro ρ wx hρ hbx hl
                        have e91 : ρ (.tmp 91) = .bool false := hl 4 (by decide +kernel) 91 rfl
                        have e97 : ρ (.tmp 97) = undef := hl 10 (by decide +kernel) 97 rfl
                        refine y_val (v := .bool false) ?_ rfl
                        simp [execOp, hρ.const, go_sem, e91]
                      intro aa wj hdef hsz hlk hbz hf
                      have ha := act_of_like hdef hsz hlk [87, 88, 89, 90, 91, 92, 93, 94, 95, 96, 97, 98] 141 rfl (by decide +kernel)
                      have e87 : aa.tmps.getD 87 undef = .int .i64 (j : Int) := hf 0 _ 87 rfl rfl
                      have e88 : aa.tmps.getD 88 undef = .slice al nl cl := hf 1 _ 88 rfl rfl
                      have e89 : aa.tmps.getD 89 undef = .int .i64 (nl : Int) := hf 2 _ 89 rfl rfl
                      have e90 : aa.tmps.getD 90 undef = .bool false := hf 3 _ 90 rfl rfl
                      have e91 : aa.tmps.getD 91 undef = .bool false := hf 4 _ 91 rfl rfl
                      have e92 : aa.tmps.getD 92 undef = undef := hf 5 _ 92 rfl rfl
                      have e93 : aa.tmps.getD 93 undef = undef := hf 6 _ 93 rfl rfl
                      have e94 : aa.tmps.getD 94 undef = undef := hf 7 _ 94 rfl rfl
                      have e95 : aa.tmps.getD 95 undef = undef := hf 8 _ 95 rfl rfl
                      have e96 : aa.tmps.getD 96 undef = undef := hf 9 _ 96 rfl rfl
                      have e97 : aa.tmps.getD 97 undef = undef := hf 10 _ 97 rfl rfl
                      have e98 : aa.tmps.getD 98 undef = .bool false := hf 11 _ 98 rfl rfl
                      simp only [putAll, List.foldl_cons, List.foldl_nil, e87, e88, e89, e90, e91, e92, e93, e94, e95, e96, e97, e98] at ha
                      simp [Act.put] at ha
                      subst ha
                      clear hdef hsz hlk hf e87 e88 e89 e90 e91 e92 e93 e94 e95 e96 e97 e98
                      have HLj := Lib.hid (HLs.out.trans (hbz.mono HLs.out.size))
                      clear hbz
                      have HRj := Lib.hid (HRl.out.below' HLj.out)
                      have HBj := Lib.hid (HB14.out.trans (HLj.out.mono hs14w))
                      have hx14j := (HLj.out.block _ hg14).trans HX14.out
                      have hbsj := HBj.out.size
                      rw [X5.out] at hbsj
                      have hs14 : g14 < wj.heap.size := (Array.getElem?_eq_some_iff.1 hx14j).1
                      have z0 := Lib.cell_of_heap hx14j 0
                      have z1 := Lib.cell_of_heap hx14j 1
                      have z2 := Lib.cell_of_heap hx14j 2
                      have z3 := Lib.cell_of_heap hx14j 3
                      have z4 := Lib.cell_of_heap hx14j 4
                      simp at z0 z1 z2 z3 z4
                      have HUpN := Lib.hid (put_up (t := ⟨xn, xl, xz, xf, xt⟩) HUpL.out HLo.out HHi.out)
                      have HPm := Lib.hid (put_perm L m ⟨xn, xl, xz, xf, xt⟩ j HPerm.out)
                      have hln : (L.take j ++ [(⟨xn, xl, xz, xf, xt⟩ : Tb)] ++ L.drop j).length = nl + 1 := by
                        have := HNl.out
                        simp
                        omega
                      have HLn := Lib.hid hln
                      clear hln hx14j HLo HHi
                      go_upto_region 33 with fail
                      refine wp_region_until_last (l := [_, _, _, _, _, _, _, _, _, _, _, _]) (by kernel_rfl) [onU (zeroF wj.heap.size 45 5) (some 4), eqU (.slice al nl cl), eqU (.int .i64 (j : Int)), eqU (.slice al j cl), onU (ownsF wj.heap.size 45 5 j ((L.take j).flatMap Tb.cells)) (some 7), eqU (.agg #[.int .i64 xn, .int .i64 xl, .int .i64 xz, .string xf, .string xt]), onU (litF 45 #[.int .i64 xn, .int .i64 xl, .int .i64 xz, .string xf, .string xt] 1) (some 7), onU (ownsF wj.heap.size 45 5 (j + 1) ((L.take j ++ [(⟨xn, xl, xz, xf, xt⟩ : Tb)]).flatMap Tb.cells)) (some 11), eqU (.slice al nl cl), eqU (.int .i64 (j : Int)), eqU (.slice (behindS al j cl 5) (nl - j) (cl - j)), onU (ownsF wj.heap.size 45 5 (nl + 1) ((L.take j ++ [(⟨xn, xl, xz, xf, xt⟩ : Tb)] ++ L.drop j).flatMap Tb.cells)) none] [7, 11] (by kernel_rfl) (by kernel_rfl) (by kernel_rfl) (by kernel_rfl) (by kernel_rfl) ⟨?_, ?_, ?_, ?_, ?_, ?_, ?_, ?_, ?_, ?_, ?_, ?_, trivial⟩ ?_
                      · intro ρ wx hρ hbx hl
                        refine u_new (v := .slice (some ⟨wx.heap.size, 0, none⟩) 0 0) (w' := wx.alloc (.cells #[] 45)) ?_ ⟨_, rfl, owns_less (owns_zero wx _ 5) hbx.size⟩ ((Below.refl _ _).alloc (Nat.le_refl _) _)
                        simp [execOp, go_sem]
                      · intro ρ wx hρ hbx hl
                        have e7 : ρ (.tmp 7) = .slice al nl cl := hρ.tmp 7 (by decide +kernel)
                        refine u_val (v := .slice al nl cl) ?_ rfl
                        simp [execOp, go_sem, e7]
                      · intro ρ wx hρ hbx hl
                        have e17 : ρ (.tmp 17) = .int .i64 (j : Int) := hρ.tmp 17 (by decide +kernel)
                        refine u_val (v := .int .i64 (j : Int)) ?_ rfl
                        simp [execOp, go_sem, e17]
                      · intro ρ wx hρ hbx hl
                        have e102 : ρ (.tmp 102) = .slice al nl cl := hl 1 (by decide +kernel) (.inl rfl) 102 rfl
                        have e103 : ρ (.tmp 103) = .int .i64 (j : Int) := hl 2 (by decide +kernel) (.inl rfl) 103 rfl
                        refine u_val (v := .slice al j cl) ?_ rfl
                        simp [execOp, go_sem, e102, e103]
                        first | done | omega
                      · intro ρ wx hρ hbx hl
                        have e101 : (zeroF wj.heap.size 45 5).p (ρ (.tmp 101)) wx := hl 0 (by decide +kernel) (.inr rfl) 101 rfl
                        have e104 : ρ (.tmp 104) = .slice al j cl := hl 3 (by decide +kernel) (.inl rfl) 104 rfl
                        obtain ⟨g101, e101, o101⟩ := e101
                        rw [e101] at o101
                        obtain ⟨v', w', hr, ho, hb⟩ := run_append_zero_s (P := Try.prog) (w := wx) wj.heap.size 22 22 22 45 j0 _ 5 56 Try.underlying22 hji hy0 hy1 hy2 rfl g101 o101 (.slice al j cl) j ((L.take j).flatMap Tb.cells) (by rw [← flat_take]; exact ((HRj.out.below' hbx).rtake j hjn').src Try.underlying22 (by rw [flat_take]; exact flat_one _)) (by unfold maxLen; omega) (by omega) hbx.size
                        refine u_new ?_ ho hb
                        simp only [execOp, resolve, invoke, builtin, Sem.run_bind, Sem.run_pure, Result.andThen_ok, List.map_toArray, List.map_cons, List.map_nil, e101, e104, hr]
                      · intro ρ wx hρ hbx hl
                        have e14 : ρ (.tmp 14) = .pointer (some ⟨g14, 0, none⟩) := hρ.tmp 14 (by decide +kernel)
                        have kk0 := (hbx.cell (hs14)).trans z0
                        have kk1 := (hbx.cell (hs14)).trans z1
                        have kk2 := (hbx.cell (hs14)).trans z2
                        have kk3 := (hbx.cell (hs14)).trans z3
                        have kk4 := (hbx.cell (hs14)).trans z4
                        refine u_val (v := .agg #[.int .i64 xn, .int .i64 xl, .int .i64 xz, .string xf, .string xt]) ?_ rfl
                        simp [execOp, go_sem, e14, kk0, kk1, kk2, kk3, kk4]
                      · intro ρ wx hρ hbx hl
                        have e106 : ρ (.tmp 106) = .agg #[.int .i64 xn, .int .i64 xl, .int .i64 xz, .string xf, .string xt] := hl 5 (by decide +kernel) (.inl rfl) 106 rfl
                        refine u_new (v := .slice (some ⟨wx.heap.size, 0, none⟩) 1 1) (w' := wx.alloc (.cells #[.int .i64 xn, .int .i64 xl, .int .i64 xz, .string xf, .string xt] 45)) ?_ ⟨_, rfl, heap_alloc_new wx _⟩ ((Below.refl _ _).alloc (Nat.le_refl _) _)
                        simp [execOp, go_sem, e106]
                      · intro ρ wx hρ hbx hl
                        have e105 : (ownsF wj.heap.size 45 5 j ((L.take j).flatMap Tb.cells)).p (ρ (.tmp 105)) wx := hl 4 (by decide +kernel) (.inr rfl) 105 rfl
                        have e107 : (litF 45 #[.int .i64 xn, .int .i64 xl, .int .i64 xz, .string xf, .string xt] 1).p (ρ (.tmp 107)) wx := hl 6 (by decide +kernel) (.inr rfl) 107 rfl
                        obtain ⟨g107, e107, o107⟩ := e107
                        have hrd := lit_reads (cs := [.int .i64 xn, .int .i64 xl, .int .i64 xz, .string xf, .string xt]) (size := 5) o107 rfl (by decide)
                        obtain ⟨v', w', hr, ho, hg, hb, _⟩ := run_append_owns (P := Try.prog) (w := wx) wj.heap.size 22 22 22 45 j0 _ 5 56 Try.underlying22 hji hy0 hy1 hy2 rfl _ j _ e105 _ 1 [.int .i64 xn, .int .i64 xl, .int .i64 xz, .string xf, .string xt] (hrd.src Try.underlying22 (by simp [Value.oneCell'])) (by unfold maxLen; omega) (by omega) hbx.size
                        rw [show (L.take j).flatMap Tb.cells ++ [Value.int .i64 xn, .int .i64 xl, .int .i64 xz, .string xf, .string xt] = (L.take j ++ [(⟨xn, xl, xz, xf, xt⟩ : Tb)]).flatMap Tb.cells by rw [List.flatMap_append]; rfl] at ho
                        refine u_new ?_ ho hb
                        simp only [execOp, resolve, invoke, builtin, Sem.run_bind, Sem.run_pure, Result.andThen_ok, List.map_toArray, List.map_cons, List.map_nil, e107, hr]
                      · intro ρ wx hρ hbx hl
                        have e7 : ρ (.tmp 7) = .slice al nl cl := hρ.tmp 7 (by decide +kernel)
                        refine u_val (v := .slice al nl cl) ?_ rfl
                        simp [execOp, go_sem, e7]
                      · intro ρ wx hρ hbx hl
                        have e17 : ρ (.tmp 17) = .int .i64 (j : Int) := hρ.tmp 17 (by decide +kernel)
                        refine u_val (v := .int .i64 (j : Int)) ?_ rfl
                        simp [execOp, go_sem, e17]
                      · intro ρ wx hρ hbx hl
                        have e109 : ρ (.tmp 109) = .slice al nl cl := hl 8 (by decide +kernel) (.inl rfl) 109 rfl
                        have e110 : ρ (.tmp 110) = .int .i64 (j : Int) := hl 9 (by decide +kernel) (.inl rfl) 110 rfl
                        refine u_val (v := .slice (behindS al j cl 5) (nl - j) (cl - j)) ?_ rfl
                        simp [execOp, go_sem, e109, e110, behindS, hjn']
                      · intro ρ wx hρ hbx hl
                        have e108 : (ownsF wj.heap.size 45 5 (j + 1) ((L.take j ++ [(⟨xn, xl, xz, xf, xt⟩ : Tb)]).flatMap Tb.cells)).p (ρ (.tmp 108)) wx := hl 7 (by decide +kernel) (.inr rfl) 108 rfl
                        have e111 : ρ (.tmp 111) = .slice (behindS al j cl 5) (nl - j) (cl - j) := hl 10 (by decide +kernel) (.inl rfl) 111 rfl
                        obtain ⟨v', w', hr, ho, hg, hb, _⟩ := run_append_owns (P := Try.prog) (w := wx) wj.heap.size 22 22 22 45 j0 _ 5 56 Try.underlying22 hji hy0 hy1 hy2 rfl _ (j + 1) _ e108 (.slice (behindS al j cl 5) (nl - j) (cl - j)) (nl - j) ((L.drop j).flatMap Tb.cells) (by rw [← flat_drop]; exact ((HRj.out.below' hbx).rdrop j hjn').src Try.underlying22 (by rw [flat_drop]; exact flat_one _)) (by unfold maxLen; omega) (by omega) hbx.size
                        rw [← List.flatMap_append, show j + 1 + (nl - j) = nl + 1 by omega] at ho
                        refine u_new ?_ ho hb
                        simp only [execOp, resolve, invoke, builtin, Sem.run_bind, Sem.run_pure, Result.andThen_ok, List.map_toArray, List.map_cons, List.map_nil, e111, hr]
                      intro aa w8 hdef hsz hlk hbz hf
                      have ha := act_of_like hdef hsz hlk [101, 102, 103, 104, 105, 106, 107, 108, 109, 110, 111, 112] 141 rfl (by decide +kernel)
                      have e102 : aa.tmps.getD 102 undef = .slice al nl cl := hf 1 _ 102 rfl rfl rfl
                      have e103 : aa.tmps.getD 103 undef = .int .i64 (j : Int) := hf 2 _ 103 rfl rfl rfl
                      have e104 : aa.tmps.getD 104 undef = .slice al j cl := hf 3 _ 104 rfl rfl rfl
                      have e106 : aa.tmps.getD 106 undef = .agg #[.int .i64 xn, .int .i64 xl, .int .i64 xz, .string xf, .string xt] := hf 5 _ 106 rfl rfl rfl
                      have e109 : aa.tmps.getD 109 undef = .slice al nl cl := hf 8 _ 109 rfl rfl rfl
                      have e110 : aa.tmps.getD 110 undef = .int .i64 (j : Int) := hf 9 _ 110 rfl rfl rfl
                      have e111 : aa.tmps.getD 111 undef = .slice (behindS al j cl 5) (nl - j) (cl - j) := hf 10 _ 111 rfl rfl rfl
                      have e112 : (ownsF wj.heap.size 45 5 (nl + 1) ((L.take j ++ [(⟨xn, xl, xz, xf, xt⟩ : Tb)] ++ L.drop j).flatMap Tb.cells)).p (aa.tmps.getD 112 undef) w8 := hf 11 _ 112 rfl rfl rfl
                      generalize hv112 : aa.tmps.getD 112 undef = v112 at e112
                      simp only [putAll, List.foldl_cons, List.foldl_nil, e102, e103, e104, e106, e109, e110, e111, hv112] at ha
                      generalize aa.tmps.getD 101 undef = v101 at ha
                      generalize aa.tmps.getD 105 undef = v105 at ha
                      generalize aa.tmps.getD 107 undef = v107 at ha
                      generalize aa.tmps.getD 108 undef = v108 at ha
                      simp [Act.put] at ha
                      subst ha
                      clear hdef hsz hlk hf e102 e103 e104 e106 e109 e110 e111 hv112
                      clear z0 z1 z2 z3 z4 hs14
                      have HB8 := Lib.hid (HBj.out.trans (hbz.mono hbsj))
                      have ho8 : w8.ownsRow (w.heap.size + 3) 45 5 v112 (L.take j ++ [(⟨xn, xl, xz, xf, xt⟩ : Tb)] ++ L.drop j).length ((L.take j ++ [(⟨xn, xl, xz, xf, xt⟩ : Tb)] ++ L.drop j).flatMap Tb.cells) := by
                        rw [HLn.out]
                        exact own_lower e112 hbsj
                      have HO8 := Lib.hid ho8
                      clear ho8 hbz
                      go_wp2
                      exact ⟨⟨i + 1, _, _, by go_num, by rw [LA.out]; omega, HO8.out, HPm.out, HUpN.out, HAn.out, HApN.out, HLm.out, HB8.out⟩, by simp [intOf]; omega⟩
            · obtain rfl : i = n1 := by omega
              have HRl := HRw
              clear HRw
              have HAl := Lib.hid (show addT add l = some m from HAd.out.trans (by rw [List.drop_of_length_le (by rw [LA.out]; exact Nat.le_refl _)]; rfl))
              have HSrt := Lib.hid (srt_uniq HPerm.out.symm HUpL.out HApm.out)
              have HOrd := Lib.hid (fun h => HRv.out.symm.trans (appl_order (v := ⟨tabs, vf, vh, vl, vn⟩) (e := ⟨add, drop, ef, eh, el, en⟩) HC0.out HRt.out HDl.out HAl.out h))
              have HGood := Lib.hid (fun h => HRv.out.symm.trans (appl_good (v := ⟨tabs, vf, vh, vl, vn⟩) (e := ⟨add, drop, ef, eh, el, en⟩) HC0.out HRt.out HDl.out HAl.out h))
              have hx1 := (HB.out.block _ (by omega)).trans X1.out
              have hx2 := (HB.out.block _ (by omega)).trans X2.out
              have lt0 : w.heap.size < wi.heap.size := by omega
              have lt1 : w.heap.size + 1 < wi.heap.size := by omega
              have v0 := Lib.cell_of_heap hx1 0
              have v1 := Lib.cell_of_heap hx1 1
              have v2 := Lib.cell_of_heap hx1 2
              have v3 := Lib.cell_of_heap hx1 3
              have v4 := Lib.cell_of_heap hx1 4
              simp at v0 v1 v2 v3 v4
              have e0 := Lib.cell_of_heap hx2 0
              have e1 := Lib.cell_of_heap hx2 1
              have e2 := Lib.cell_of_heap hx2 2
              have e3 := Lib.cell_of_heap hx2 3
              have e4 := Lib.cell_of_heap hx2 4
              have e5 := Lib.cell_of_heap hx2 5
              simp at e0 e1 e2 e3 e4 e5
              have hba : Below wi.heap.size wi (wi.alloc (.cells #[.slice al nl cl, .int .u64 (max (vf : Int) (ef : Int)), .int .u64 (max (vh : Int) (eh : Int)), .int .i64 (max vl el), .int .i64 (max vn en)] 38)) := (Below.refl _ _).alloc (Nat.le_refl _) _
              have hck := refchk_any (wi.alloc (.cells #[.slice al nl cl, .int .u64 (max (vf : Int) (ef : Int)), .int .u64 (max (vh : Int) (eh : Int)), .int .i64 (max vl el), .int .i64 (max vn en)] 38)) (newV ⟨tabs, vf, vh, vl, vn⟩ ⟨add, drop, ef, eh, el, en⟩ m) al nl cl (by
                show TRows _ _ (srt m)
                unfold TRows
                rw [← HSrt.out, HNl.out]
                exact HRl.out.below' hba) (by
                show (srt m).length ≤ _
                rw [← HSrt.out, HNl.out]
                omega)
              simp only [vv, newV, maxN] at hck
              have HCk := Lib.hid hck
              have hy5 := heap_alloc_new wi (.cells #[.slice al nl cl, .int .u64 (max (vf : Int) (ef : Int)), .int .u64 (max (vh : Int) (eh : Int)), .int .i64 (max vl el), .int .i64 (max vn en)] 38)
              have HY := Lib.hid hy5
              have HB5 := Lib.hid (HBw3.out.trans (hba.mono HBw3.out.size))
              have HX5 := Lib.hid ((hba.block _ (by omega)).trans ((HB.out.block _ (by omega)).trans X3.out))
              have HO5 := Lib.hid (owns_below HO.out hba)
              have HS5 := Lib.hid (show (wi.alloc (.cells #[.slice al nl cl, .int .u64 (max (vf : Int) (ef : Int)), .int .u64 (max (vh : Int) (eh : Int)), .int .i64 (max vl el), .int .i64 (max vn en)] 38)).heap.size = wi.heap.size + 1 by simp)
              clear hx1 hx2 hck hy5 hba hb
              generalize hnv : chk (newV ⟨tabs, vf, vh, vl, vn⟩ ⟨add, drop, ef, eh, el, en⟩ m) = cN at *
              simp only [newV] at hnv
              rw [hnv] at HCk
              go_wp2_with (go_at_call 35; go_must (refine HCk.out.mono ?_))
              rintro e w6 ⟨rfl, b6⟩
              generalize wi.alloc (.cells #[.slice al nl cl, .int .u64 (max (vf : Int) (ef : Int)), .int .u64 (max (vh : Int) (eh : Int)), .int .i64 (max vl el), .int .i64 (max vn en)] 38) = w5 at *
              have hs5 := HS5.out
              have hg5 : wi.heap.size < w5.heap.size := by omega
              have HZ := Lib.hid ((b6.block _ (by omega)).trans HX5.out)
              have HBw := Lib.hid (HB5.out.trans (b6.mono HB5.out.size))
              clear v0 v1 v2 v3 v4 e0 e1 e2 e3 e4 e5 hnv HCk
              by_cases hc0 : cN = 0
              · subst hc0
                have HR := Lib.hid (HGood.out rfl)
                have hy := (b6.block _ hg5).trans HY.out
                have y0 := Lib.cell_of_heap hy 0
                have y1 := Lib.cell_of_heap hy 1
                have y2 := Lib.cell_of_heap hy 2
                have y3 := Lib.cell_of_heap hy 3
                have y4 := Lib.cell_of_heap hy 4
                simp at y0 y1 y2 y3 y4
                have z0 := Lib.cell_of_heap HZ.out 0
                have z1 := Lib.cell_of_heap HZ.out 1
                have z2 := Lib.cell_of_heap HZ.out 2
                have z3 := Lib.cell_of_heap HZ.out 3
                have z4 := Lib.cell_of_heap HZ.out 4
                simp at z0 z1 z2 z3 z4
                have zf := Lib.frozen_of_heap HZ.out
                have ho6 := owns_below HO5.out b6
                have HO6' := Lib.hid ho6
                have lt5 : wi.heap.size < w6.heap.size := Nat.lt_of_lt_of_le hg5 b6.size
                clear hy HOrd HGood b6 ho6
                go_wp2
                have hst := set5_at HZ.out (.slice al nl cl) (.int .u64 (max (vf : Int) (ef : Int))) (.int .u64 (max (vh : Int) (eh : Int))) (.int .i64 (max vl el)) (.int .i64 (max vn en))
                have htc := set5_touch w6 (w.heap.size + 1 + 1) (.slice al nl cl) (.int .u64 (max (vf : Int) (ef : Int))) (.int .u64 (max (vh : Int) (eh : Int))) (.int .i64 (max vl el)) (.int .i64 (max vn en))
                have hap := owns_other HO6'.out HZ.out (by decide)
                have ho7 := own_touch HO6'.out htc (fun g hg => by simp; exact fun e => hap (by rw [hg, e]))
                have hb7 := HBw.out.trans (htc.below (B := w.heap.size) HBw.out.size (by simp; omega))
                clear z0 z1 z2 z3 z4 zf y0 y1 y2 y3 y4 htc hap
                generalize (((((w6).setCell ⟨w.heap.size + 1 + 1, 0, none⟩ (.slice al nl cl)).setCell ⟨w.heap.size + 1 + 1, 1, none⟩ (.int .u64 (max (vf : Int) (ef : Int)))).setCell ⟨w.heap.size + 1 + 1, 2, none⟩ (.int .u64 (max (vh : Int) (eh : Int)))).setCell ⟨w.heap.size + 1 + 1, 3, none⟩ (.int .i64 (max vl el))).setCell ⟨w.heap.size + 1 + 1, 4, none⟩ (.int .i64 (max vn en)) = w7 at *
                have q0 := Lib.cell_of_heap hst 0
                have q1 := Lib.cell_of_heap hst 1
                have q2 := Lib.cell_of_heap hst 2
                have q3 := Lib.cell_of_heap hst 3
                have q4 := Lib.cell_of_heap hst 4
                simp at q0 q1 q2 q3 q4
                refine bodyPost_ret (v := .tuple #[.agg #[.slice al nl cl, .int .u64 (max (vf : Int) (ef : Int)), .int .u64 (max (vh : Int) (eh : Int)), .int .i64 (max vl el), .int .i64 (max vn en)], .int .i64 0]) ?_ rfl ?_
                · simp [results, Try.results16, go_sem, q0, q1, q2, q3, q4]
                · rw [HR.out]
                  refine ⟨al, nl, cl, by simp only [vv, newV, maxN], ?_, hb7⟩
                  show World.ownsRow w7 w.heap.size 45 5 (.slice al nl cl) (srt m).length ((srt m).flatMap Tb.cells)
                  rw [← HSrt.out, HNl.out]
                  exact own_lower ho7 (by omega)
              · have HR := Lib.hid (HOrd.out hc0)
                have hcb : (cN == 0) = false := by simpa using hc0
                clear HOrd HGood b6 hc0
                have z0 := Lib.cell_of_heap HZ.out 0
                have z1 := Lib.cell_of_heap HZ.out 1
                have z2 := Lib.cell_of_heap HZ.out 2
                have z3 := Lib.cell_of_heap HZ.out 3
                have z4 := Lib.cell_of_heap HZ.out 4
                simp at z0 z1 z2 z3 z4
                have zf := Lib.frozen_of_heap HZ.out
                go_wp2
                have hst := set5_at HZ.out (.slice none 0 0) (.int .u64 0) (.int .u64 0) (.int .i64 0) (.int .i64 0)
                have hbt := HBw.out.trans (((set5_touch (w6) (w.heap.size + 1 + 1) (.slice none 0 0) (.int .u64 0) (.int .u64 0) (.int .i64 0) (.int .i64 0)).below (B := w.heap.size) HBw.out.size (by simp; omega)))
                clear z0 z1 z2 z3 z4 zf
                generalize (((((w6).setCell ⟨w.heap.size + 1 + 1, 0, none⟩ (.slice none 0 0)).setCell ⟨w.heap.size + 1 + 1, 1, none⟩ (.int .u64 0)).setCell ⟨w.heap.size + 1 + 1, 2, none⟩ (.int .u64 0)).setCell ⟨w.heap.size + 1 + 1, 3, none⟩ (.int .i64 0)).setCell ⟨w.heap.size + 1 + 1, 4, none⟩ (.int .i64 0) = wz at *
                have q0 := Lib.cell_of_heap hst 0
                have q1 := Lib.cell_of_heap hst 1
                have q2 := Lib.cell_of_heap hst 2
                have q3 := Lib.cell_of_heap hst 3
                have q4 := Lib.cell_of_heap hst 4
                simp at q0 q1 q2 q3 q4
                refine bodyPost_ret (v := .tuple #[zeroV, .int .i64 11]) ?_ rfl (appl_zero HR.out hbt)
                simp [results, Try.results16, go_sem, q0, q1, q2, q3, q4, zeroV]
  · have hR := HB9.out hc0
    have hcb : (chk ⟨tabs, vf, vh, vl, vn⟩ == 0) = false := by simpa using hc0
    have hc9 := chk_nine hc0
    rw [hc9]
    have HR := Lib.hid hR
    have HZ := Lib.hid ((b1.block _ (by rw [X5.out]; omega)).trans X3.out)
    have HBw := Lib.hid (X4.out.trans (b1.mono (by rw [X5.out]; omega)))
    clear b1 hc0 hcb hc9 hR HB9 HB1
    have z0 := Lib.cell_of_heap HZ.out 0
    have z1 := Lib.cell_of_heap HZ.out 1
    have z2 := Lib.cell_of_heap HZ.out 2
    have z3 := Lib.cell_of_heap HZ.out 3
    have z4 := Lib.cell_of_heap HZ.out 4
    simp at z0 z1 z2 z3 z4
    have zf := Lib.frozen_of_heap HZ.out
    go_wp2
    have hst := set5_at HZ.out (.slice none 0 0) (.int .u64 0) (.int .u64 0) (.int .i64 0) (.int .i64 0)
    have hbt := HBw.out.trans (((set5_touch (w1) (w.heap.size + 1 + 1) (.slice none 0 0) (.int .u64 0) (.int .u64 0) (.int .i64 0) (.int .i64 0)).below (B := w.heap.size) HBw.out.size (by simp; omega)))
    clear z0 z1 z2 z3 z4 zf
    generalize (((((w1).setCell ⟨w.heap.size + 1 + 1, 0, none⟩ (.slice none 0 0)).setCell ⟨w.heap.size + 1 + 1, 1, none⟩ (.int .u64 0)).setCell ⟨w.heap.size + 1 + 1, 2, none⟩ (.int .u64 0)).setCell ⟨w.heap.size + 1 + 1, 3, none⟩ (.int .i64 0)).setCell ⟨w.heap.size + 1 + 1, 4, none⟩ (.int .i64 0) = wz at *
    have q0 := Lib.cell_of_heap hst 0
    have q1 := Lib.cell_of_heap hst 1
    have q2 := Lib.cell_of_heap hst 2
    have q3 := Lib.cell_of_heap hst 3
    have q4 := Lib.cell_of_heap hst 4
    simp at q0 q1 q2 q3 q4
    refine bodyPost_ret (v := .tuple #[zeroV, .int .i64 9]) ?_ rfl (appl_zero HR.out hbt)
    simp [results, Try.results16, go_sem, q0, q1, q2, q3, q4, zeroV]
end Go.Proofs.Ythjimldojdhccaa
