/- Two edits, one behind the other: the law's walk. -/
import Derived.Test.YthjimldojdhccaaEditRowM
import Derived.Test.YthjimldojdhccaaEditFixed
import Derived.Test.YthjimldojdhccaaEditOpen
import Derived.Test.YthjimldojdhccaaDrawnApart
import Derived.Test.YthjimldojdhccaaRowsUntil
namespace Go.Proofs.Ythjimldojdhccaa
open Go Go.RowKit Go.Lib

/-- Three boxes of the law's arguments stand. -/
def Boxes (w : World) (A B C : Array Value) (s t u : TypeId) (W : World) : Prop :=
  W.heap[w.heap.size]? = some (.cells A s (0, 0)) ∧ W.heap[w.heap.size + 1]? = some (.cells B t (0, 0)) ∧ W.heap[w.heap.size + 1 + 1]? = some (.cells C u (0, 0)) ∧ Below w.heap.size w W ∧ w.heap.size + 3 ≤ W.heap.size

theorem Boxes.below {w : World} {A B C : Array Value} {s t u : TypeId} {W W' : World} (h : Boxes w A B C s t u W) (hb : Below (w.heap.size + 3) W W') : Boxes w A B C s t u W' := by
  obtain ⟨h1, h2, h3, h4, h5⟩ := h
  exact ⟨(hb.block _ (by omega)).trans h1, (hb.block _ (by omega)).trans h2, (hb.block _ (by omega)).trans h3, h4.trans (hb.mono (by omega)), Nat.le_trans h5 hb.size⟩

theorem boxes_new (w : World) (A B C : Array Value) (s t u : TypeId) : Boxes w A B C s t u (((w.alloc (.cells A s)).alloc (.cells B t)).alloc (.cells C u)) := by
  obtain ⟨h1, h2, h3, h4, h5⟩ := three_boxes w A B C s t u
  exact ⟨h1, h2, h3, h4, by omega⟩

theorem Boxes.up {w : World} {A B C : Array Value} {s t u : TypeId} {W W' : World} (h : Boxes w A B C s t u W) (hb : Below W.heap.size W W') : Boxes w A B C s t u W' := h.below (hb.mono h.2.2.2.2)

theorem appl_mem (v : Ver) (e : Ed) : (∀ t ∈ (appl v e).1.tabs, t ∈ v.tabs ∨ t ∈ e.add) ∧ (appl v e).1.tabs.length ≤ v.tabs.length + e.add.length := by
  unfold appl
  split
  · exact ⟨(fun t ht => by cases ht), Nat.zero_le _⟩
  · split
    · exact ⟨(fun t ht => by cases ht), Nat.zero_le _⟩
    · cases hd : dropT e.drop v.tabs with
      | none => exact ⟨(fun t ht => by cases ht), Nat.zero_le _⟩
      | some l =>
        simp only
        cases ha : addT e.add l with
        | none => exact ⟨(fun t ht => by cases ht), Nat.zero_le _⟩
        | some m =>
          simp only
          split
          · have hm := add_eq _ _ _ ha
            have hs := drop_sub _ _ _ hd
            refine ⟨fun t ht => ?_, ?_⟩
            · have ht' : t ∈ m := (srt_perm m).mem_iff.1 ht
              rw [hm] at ht'
              rcases List.mem_append.1 ht' with h | h
              · exact .inl (hs t h)
              · exact .inr h
            · show (srt m).length ≤ _
              rw [(srt_perm m).length_eq, hm, List.length_append]
              have := drop_len _ _ _ hd
              omega
          · exact ⟨(fun t ht => by cases ht), Nat.zero_le _⟩

/-- What is of another kind stays. -/
def KeepTy (e : TypeId) (w w' : World) : Prop := ∀ (b : Nat) (cs : Array Value) (ty : TypeId) (fr : Nat × Nat), w.heap[b]? = some (.cells cs ty fr) → ty ≠ e → w'.heap[b]? = some (.cells cs ty fr)

theorem ownsF_keep {B s n : Nat} {e e' : TypeId} {xs : List Value} (hne : e' ≠ e) {v : Value} {w w' : World} (h : (ownsF B e' s n xs).p v w) (k : KeepTy e w w') : (ownsF B e' s n xs).p v w' :=
  ⟨h.1, h.2.imp_right fun ⟨g, cap, cur, q1, q2, q3, q4⟩ => ⟨g, cap, cur, q1, q2, k g _ _ _ q3 hne, q4⟩⟩
theorem zeroF_keep {B s : Nat} {e e' : TypeId} (hne : e' ≠ e) {v : Value} {w w' : World} (h : (zeroF B e' s).p v w) (k : KeepTy e w w') : (zeroF B e' s).p v w' := by
  obtain ⟨g, h1, h2⟩ := h
  exact ⟨g, h1, ownsF_keep hne h2 k⟩
theorem boxF_keep {B : Nat} {e e' : TypeId} {cs : Array Value} (hne : e' ≠ e) {v : Value} {w w' : World} (h : (boxF B cs e').p v w) (k : KeepTy e w w') : (boxF B cs e').p v w' := by
  obtain ⟨g, h1, h2, h3⟩ := h
  exact ⟨g, h1, h2, k g _ _ _ h3 hne⟩

/-- the slot holds an edit of rows of one's own -/
def bothF (B n m : Nat) (xs ys : List Value) (f h l x : Int) : SlotFact := ⟨fun v w => ∃ u z, v = .agg #[u, z, .int .u64 f, .int .u64 h, .int .i64 l, .int .i64 x] ∧ w.ownsRow B 45 5 u n xs ∧ w.ownsRow B 3 1 z m ys,
  fun _ _ _ ⟨u, z, h1, h2, h3⟩ hb => ⟨u, z, h1, owns_below h2 hb, owns_below h3 hb⟩⟩

theorem a_wild {P : Program} {ρ : Operand → Value} {o : Oper} {w w' : World} {v : Value} {p : Value → World → Prop} {B : Nat} {c : Prop} {R : World → Prop} (h : (execOp ρ o).run P w = .ok (.value v) w') (hp : p v w') (hb : Below B w w') (hr : R w') : YieldsP P ρ o w (fun u w' => p u w' ∧ Below B w w' ∧ (c → R w')) := by
  unfold YieldsP
  rw [h]
  exact ⟨hp, hb, fun _ => hr⟩

theorem flat_one (l : List Tb) : ∀ u ∈ l.flatMap Tb.cells, u.oneCell' = true := by
  intro u hu
  obtain ⟨t, _, ht⟩ := List.mem_flatMap.1 hu
  exact Tb.cells_one t u ht
theorem ncells_one (l : List Int) : ∀ u ∈ ncells l, u.oneCell' = true := by
  intro u hu
  obtain ⟨t, _, rfl⟩ := List.mem_map.1 hu
  rfl
theorem TRows.reads {w w' : World} {a : Option Addr} {n c : Nat} {l : List Tb} (h : TRows w (.slice a n c) l) (hb : Below w.heap.size w w') (hn : l.length = n) : Reads w' 5 (.slice a n c) n (l.flatMap Tb.cells) := by
  subst hn
  exact h.below hb
theorem infoI : (Try.prog.info? 3).map (fun i => (i.zero, i.size, i.bytes)) = some (some (.int .i64 0), 1, 8) := by kernel_rfl

theorem set6_at {w : World} {g : Nat} {x0 x1 x2 x3 x4 x5 : Value} {t : TypeId} (h : w.heap[g]? = some (.cells #[x0, x1, x2, x3, x4, x5] t (0, 0))) (a b c d e f : Value) :
    ((((((w.setCell ⟨g, 0, none⟩ a).setCell ⟨g, 1, none⟩ b).setCell ⟨g, 2, none⟩ c).setCell ⟨g, 3, none⟩ d).setCell ⟨g, 4, none⟩ e).setCell ⟨g, 5, none⟩ f).heap[g]? = some (.cells #[a, b, c, d, e, f] t (0, 0)) := by
  have h1 := heap_setCell_same w g 0 _ _ a h
  have h2 := heap_setCell_same _ g 1 _ _ b h1
  have h3 := heap_setCell_same _ g 2 _ _ c h2
  have h4 := heap_setCell_same _ g 3 _ _ d h3
  have h5 := heap_setCell_same _ g 4 _ _ e h4
  have h6 := heap_setCell_same _ g 5 _ _ f h5
  simpa using h6

theorem set6_touch (w : World) (g : Nat) (a b c d e f : Value) : Touch w ((((((w.setCell ⟨g, 0, none⟩ a).setCell ⟨g, 1, none⟩ b).setCell ⟨g, 2, none⟩ c).setCell ⟨g, 3, none⟩ d).setCell ⟨g, 4, none⟩ e).setCell ⟨g, 5, none⟩ f) [g] :=
  (set5_touch w g a b c d e).setCell (.inl (by simp)) f

theorem same_self (v : Ver) : sameV v v = true := by simp [sameV]

theorem few_len {e : Ed} (h : fewE e = true) : e.add.length ≤ 40 ∧ e.drop.length ≤ 40 := by
  unfold fewE at h
  simp only [Bool.and_eq_true, decide_eq_true_eq] at h
  exact ⟨h.2.1, h.2.2⟩

def RowOut (W0 : World) (add : List Tb) (drop : List Int) (iv : Value) (wr : World) : Prop :=
  ∃ k : Nat, iv = .int .i64 (k : Int) ∧ k ≤ drop.length ∧ (∀ n ∈ drop.take k, ∀ t ∈ add, t.num ≠ n) ∧ Below W0.heap.size W0 wr
def RowIn (W0 : World) (add : List Tb) (n : Int) (iv : Value) (wr : World) : Prop :=
  ∃ k : Nat, iv = .int .i64 (k : Int) ∧ k ≤ add.length ∧ (∀ t ∈ add.take k, t.num ≠ n) ∧ Below W0.heap.size W0 wr

set_option maxRecDepth 100000 in
set_option maxHeartbeats 4000000 in
theorem editRow_walk (w : World) (v : Ver) (x y : Ed) (av ax bx ay by' : Option Addr) (nv cv nx cx mx dx ny cy my dy : Nat) (hv : VerCame w v av nv cv) (hx : EdCame w x ax bx nx cx mx dx) (hy : EdCame w y ay by' ny cy my dy) :
    Calls Try.prog 5 #[vv v av nv cv, ev x ax bx nx cx mx dx, ev y ay by' ny cy my dy] w (SaysTrue w) := by
  obtain ⟨j0, hj, hy0, hy1, hy2⟩ := info_parts infoT
  obtain ⟨i0, hi, hz0, hz1, hz2⟩ := info_parts infoI
  have hfv := fun W (hb : Below w.heap.size w W) => fewV_any W v av nv cv (hv.rows.below hb) (fun t ht => ⟨(hv.ok t ht).2.2.2.1, (hv.ok t ht).2.2.2.2⟩)
  have hfx := fun W (hb : Below w.heap.size w W) => fewE_any W x ax bx nx cx mx dx (hx.rows.below hb) (num_len hx.drop).1 (fun t ht => ⟨(hx.ok t ht).2.2.2.1, (hx.ok t ht).2.2.2.2⟩)
  have hfy := fun W (hb : Below w.heap.size w W) => fewE_any W y ay by' ny cy my dy (hy.rows.below hb) (num_len hy.drop).1 (fun t ht => ⟨(hy.ok t ht).2.2.2.1, (hy.ok t ht).2.2.2.2⟩)
  have HFv := Lib.hid hfv
  have HFx := Lib.hid hfx
  have HFy := Lib.hid hfy
  have HV := Lib.hid hv
  have HX := Lib.hid hx
  have HY := Lib.hid hy
  obtain ⟨lv1, lv2, lv3⟩ := hv.rows.len
  obtain ⟨lx1, lx2, lx3⟩ := hx.rows.len
  obtain ⟨ly1, ly2, ly3⟩ := hy.rows.len
  obtain ⟨mx1, mx2, mx3⟩ := num_len hx.drop
  obtain ⟨my1, my2, my3⟩ := num_len hy.drop
  have LX := Lib.hid lx1
  have LY := Lib.hid ly1
  have LV := Lib.hid lv1
  have MX := Lib.hid mx1
  have MY := Lib.hid my1
  clear hfv hfx hfy hv hx hy lx1 ly1 lv1 mx1 my1
  obtain ⟨vt, vf, vh, vl, vn⟩ := v
  obtain ⟨xa, xd, xf, xh, xl, xn⟩ := x
  obtain ⟨ya, yd, yf, yh, yl, yn⟩ := y
  simp only [vv, ev] at *
  have hbx := boxes_new w #[.slice av nv cv, .int .u64 (vf : Int), .int .u64 (vh : Int), .int .i64 vl, .int .i64 vn] #[.slice ax nx cx, .slice bx mx dx, .int .u64 (xf : Int), .int .u64 (xh : Int), .int .i64 xl, .int .i64 xn] #[.slice ay ny cy, .slice by' my dy, .int .u64 (yf : Int), .int .u64 (yh : Int), .int .i64 yl, .int .i64 yn] 38 26 26
  have HBx := Lib.hid hbx
  clear hbx
  go_enter Try.func5, Try.ntmps5
  go_wp2_with (go_at_call 6; go_must (refine (fixed_any _).mono ?_))
  rintro e w1 ⟨rfl, b1⟩
  have HB1 := Lib.hid (HBx.out.up b1)
  clear b1 HBx
  obtain ⟨q1, q2, q3, q4, q5⟩ := HB1.out
  have l0 : w.heap.size < w1.heap.size := by omega
  have l1 : w.heap.size + 1 < w1.heap.size := by omega
  have l2 : w.heap.size + 1 + 1 < w1.heap.size := by omega
  have v0 := Lib.cell_of_heap q1 0
  have v1 := Lib.cell_of_heap q1 1
  have v2 := Lib.cell_of_heap q1 2
  have v3 := Lib.cell_of_heap q1 3
  have v4 := Lib.cell_of_heap q1 4
  have x0 := Lib.cell_of_heap q2 0
  have x1 := Lib.cell_of_heap q2 1
  have x2 := Lib.cell_of_heap q2 2
  have x3 := Lib.cell_of_heap q2 3
  have x4 := Lib.cell_of_heap q2 4
  have x5 := Lib.cell_of_heap q2 5
  have y0 := Lib.cell_of_heap q3 0
  have y1 := Lib.cell_of_heap q3 1
  have y2 := Lib.cell_of_heap q3 2
  have y3 := Lib.cell_of_heap q3 3
  have y4 := Lib.cell_of_heap q3 4
  have y5 := Lib.cell_of_heap q3 5
  simp at v0 v1 v2 v3 v4 x0 x1 x2 x3 x4 x5 y0 y1 y2 y3 y4 y5
  obtain ⟨f1, hf1⟩ : ∃ f, fewV ⟨vt, vf, vh, vl, vn⟩ = f := ⟨_, rfl⟩
  obtain ⟨f2, hf2⟩ : ∃ f, fewE ⟨xa, xd, xf, xh, xl, xn⟩ = f := ⟨_, rfl⟩
  obtain ⟨f3, hf3⟩ : ∃ f, fewE ⟨ya, yd, yf, yh, yl, yn⟩ = f := ⟨_, rfl⟩
  simp only [hf1] at HFv
  simp only [hf2] at HFx
  simp only [hf3] at HFy
  have HF1 := Lib.hid hf1
  have HF2 := Lib.hid hf2
  have HF3 := Lib.hid hf3
  clear hf1 hf2 hf3
  go_wp2_with (go_at_call 14; go_must (refine (HFv.out _ q4).mono ?_))
  rintro e w2 ⟨rfl, b2⟩
  have HB2 := Lib.hid (HB1.out.up b2)
  clear q1 q2 q3 q4 q5 l0 l1 l2 v0 v1 v2 v3 v4 x0 x1 x2 x3 x4 x5 y0 y1 y2 y3 y4 y5
  cases f1 with
  | false =>
    go_wp2
    go_ret
    exact ⟨rfl, HB2.out.2.2.2.1⟩
  | true =>
    obtain ⟨q1, q2, q3, q4, q5⟩ := HB2.out
    have l0 : w.heap.size < w2.heap.size := by omega
    have l1 : w.heap.size + 1 < w2.heap.size := by omega
    have l2 : w.heap.size + 1 + 1 < w2.heap.size := by omega
    have v0 := Lib.cell_of_heap q1 0
    have v1 := Lib.cell_of_heap q1 1
    have v2 := Lib.cell_of_heap q1 2
    have v3 := Lib.cell_of_heap q1 3
    have v4 := Lib.cell_of_heap q1 4
    have x0 := Lib.cell_of_heap q2 0
    have x1 := Lib.cell_of_heap q2 1
    have x2 := Lib.cell_of_heap q2 2
    have x3 := Lib.cell_of_heap q2 3
    have x4 := Lib.cell_of_heap q2 4
    have x5 := Lib.cell_of_heap q2 5
    have y0 := Lib.cell_of_heap q3 0
    have y1 := Lib.cell_of_heap q3 1
    have y2 := Lib.cell_of_heap q3 2
    have y3 := Lib.cell_of_heap q3 3
    have y4 := Lib.cell_of_heap q3 4
    have y5 := Lib.cell_of_heap q3 5
    simp at v0 v1 v2 v3 v4 x0 x1 x2 x3 x4 x5 y0 y1 y2 y3 y4 y5
    clear b2 HB1
    go_wp2_with (go_at_call 7; go_must (refine (HFx.out _ q4).mono ?_))
    rintro e w3 ⟨rfl, b3⟩
    have HB3 := Lib.hid (HB2.out.up b3)
    clear q1 q2 q3 q4 q5 l0 l1 l2 v0 v1 v2 v3 v4 x0 x1 x2 x3 x4 x5 y0 y1 y2 y3 y4 y5
    cases f2 with
    | false =>
      go_wp2
      go_ret
      exact ⟨rfl, HB3.out.2.2.2.1⟩
    | true =>
      obtain ⟨q1, q2, q3, q4, q5⟩ := HB3.out
      have l0 : w.heap.size < w3.heap.size := by omega
      have l1 : w.heap.size + 1 < w3.heap.size := by omega
      have l2 : w.heap.size + 1 + 1 < w3.heap.size := by omega
      have v0 := Lib.cell_of_heap q1 0
      have v1 := Lib.cell_of_heap q1 1
      have v2 := Lib.cell_of_heap q1 2
      have v3 := Lib.cell_of_heap q1 3
      have v4 := Lib.cell_of_heap q1 4
      have x0 := Lib.cell_of_heap q2 0
      have x1 := Lib.cell_of_heap q2 1
      have x2 := Lib.cell_of_heap q2 2
      have x3 := Lib.cell_of_heap q2 3
      have x4 := Lib.cell_of_heap q2 4
      have x5 := Lib.cell_of_heap q2 5
      have y0 := Lib.cell_of_heap q3 0
      have y1 := Lib.cell_of_heap q3 1
      have y2 := Lib.cell_of_heap q3 2
      have y3 := Lib.cell_of_heap q3 3
      have y4 := Lib.cell_of_heap q3 4
      have y5 := Lib.cell_of_heap q3 5
      simp at v0 v1 v2 v3 v4 x0 x1 x2 x3 x4 x5 y0 y1 y2 y3 y4 y5
      clear b3 HB2
      go_wp2_with (go_at_call 7; go_must (refine (HFy.out _ q4).mono ?_))
      rintro e w4 ⟨rfl, b4⟩
      have HB4 := Lib.hid (HB3.out.up b4)
      clear q1 q2 q3 q4 q5 l0 l1 l2 v0 v1 v2 v3 v4 x0 x1 x2 x3 x4 x5 y0 y1 y2 y3 y4 y5
      cases f3 with
      | false =>
        go_wp2
        go_ret
        exact ⟨rfl, HB4.out.2.2.2.1⟩
      | true =>
        obtain ⟨q1, q2, q3, q4, q5⟩ := HB4.out
        have l0 : w.heap.size < w4.heap.size := by omega
        have l1 : w.heap.size + 1 < w4.heap.size := by omega
        have l2 : w.heap.size + 1 + 1 < w4.heap.size := by omega
        have y0 := Lib.cell_of_heap q3 0
        have y1 := Lib.cell_of_heap q3 1
        have y2 := Lib.cell_of_heap q3 2
        have y3 := Lib.cell_of_heap q3 3
        have y4 := Lib.cell_of_heap q3 4
        have y5 := Lib.cell_of_heap q3 5
        simp at y0 y1 y2 y3 y4 y5
        have hk1 := few_len HF1.out
        have hk2 := few_len HF2.out
        have hk3 := few_len HF3.out
        simp only [LV.out, LX.out, LY.out, MX.out, MY.out, List.length_nil] at hk1 hk2 hk3
        obtain ⟨hk1, _⟩ := hk1
        obtain ⟨hk2, hk2'⟩ := hk2
        obtain ⟨hk3, hk3'⟩ := hk3
        clear b4 HB3 HFv HFx HFy
        go_wp2
        clear q1 q2 q3 q4 q5 l0 l1 l2 y0 y1 y2 y3 y4 y5
        go_loopw [36] (fun iv wr => RowOut w4 xa yd iv wr) (fun iv _ => my - (intOf iv).toNat)
        case atStart => exact ⟨0, rfl, Nat.zero_le _, (fun n hn => by simp at hn), Below.refl _ _⟩
        case round =>
          obtain ⟨k, rfl, hk, hno, hb⟩ := hrel
          rw [MY.out] at hk
          have HNo := Lib.hid hno
          have HB := Lib.hid hb
          have HBr := Lib.hid (HB4.out.up hb)
          clear hno
          by_cases hlt : k < my
          · have hkI : (k : Int) < my := by omega
            obtain ⟨n, hn⟩ : ∃ n, yd[k]? = some n := ⟨yd[k]'(by rw [MY.out]; exact hlt), List.getElem?_eq_getElem _⟩
            obtain ⟨g, off, rfl, hg, c0⟩ := num_cell (HY.out.drop.below' (HBr.out.2.2.2.1)) hn
            have HNn := Lib.hid hn
            clear hn hb
            obtain ⟨q1, q2, q3, q4, q5⟩ := HBr.out
            have l0 : w.heap.size < wr.heap.size := by omega
            have l1 : w.heap.size + 1 < wr.heap.size := by omega
            have l2 : w.heap.size + 1 + 1 < wr.heap.size := by omega
            have x0 := Lib.cell_of_heap q2 0
            have x1 := Lib.cell_of_heap q2 1
            have x2 := Lib.cell_of_heap q2 2
            have x3 := Lib.cell_of_heap q2 3
            have x4 := Lib.cell_of_heap q2 4
            have x5 := Lib.cell_of_heap q2 5
            simp at x0 x1 x2 x3 x4 x5
            go_wp2
            clear q1 q2 q3 q4 q5 l0 l1 l2 x0 x1 x2 x3 x4 x5
            obtain ⟨wo, hwo⟩ : ∃ wo, wo = wr := ⟨_, rfl⟩
            subst hwo
            go_loopw [43] (fun iv wi => RowIn wo xa n iv wi) (fun iv _ => nx - (intOf iv).toNat)
            case atStart => exact ⟨0, rfl, Nat.zero_le _, (fun t ht => by simp at ht), Below.refl _ _⟩
            case round =>
              rename World => wi
              obtain ⟨j, rfl, hj, hnj, hbj⟩ := hrel
              rw [LX.out] at hj
              have HNj := Lib.hid hnj
              have HBj := Lib.hid hbj
              have HBi := Lib.hid (HBr.out.up hbj)
              clear hnj
              by_cases hltj : j < nx
              · have hjI : (j : Int) < nx := by omega
                obtain ⟨t, ht⟩ : ∃ t, xa[j]? = some t := ⟨xa[j]'(by rw [LX.out]; exact hltj), List.getElem?_eq_getElem _⟩
                obtain ⟨g', off', rfl, hg', k0, k1, k2, k3, k4⟩ := (TRows.below HX.out.rows HBi.out.2.2.2.1).row ht
                have hsn : xa.take (j + 1) = xa.take j ++ [t] := by rw [List.take_add_one, ht]; rfl
                have HSn := Lib.hid hsn
                clear ht hsn hbj
                obtain ⟨tn, tl, tz, tf, tt⟩ := t
                simp only at k0 k1 k2 k3 k4
                by_cases hne : tn = n
                · have hI : (tn == n) = true := by simp [hne]
                  clear hne
                  go_wp2
                  go_ret
                  exact ⟨rfl, HBi.out.2.2.2.1.trans (((Below.refl _ wi).alloc (Nat.le_refl _) _).mono (HBi.out.2.2.2.1.size))⟩
                · have hI : (tn == n) = false := by simp [hne]
                  have HNe := Lib.hid hne
                  clear hne
                  go_wp2
                  exact ⟨⟨j + 1, by go_num, by rw [LX.out]; omega, (by
                    rw [HSn.out]
                    intro u hu
                    rcases List.mem_append.1 hu with hu | hu
                    · exact HNj.out u hu
                    · rw [List.mem_singleton] at hu
                      rw [hu]
                      exact HNe.out), HBj.out.trans (((Below.refl _ wi).alloc (Nat.le_refl _) _).mono HBj.out.size)⟩, by simp [intOf]; omega⟩
              · obtain rfl : j = nx := by omega
                rw [List.take_of_length_le (by rw [LX.out]; exact Nat.le_refl _)] at HNj
                have hsn : yd.take (k + 1) = yd.take k ++ [n] := by rw [List.take_add_one, HNn.out]; rfl
                have HSn := Lib.hid hsn
                have HBt := Lib.hid (HB.out.trans (hbj.mono HB.out.size))
                clear hsn hbj
                go_wp2
                exact ⟨⟨k + 1, by go_num, by rw [MY.out]; omega, (by
                  rw [HSn.out]
                  intro u hu
                  rcases List.mem_append.1 hu with hu | hu
                  · exact HNo.out u hu
                  · rw [List.mem_singleton] at hu
                    rw [hu]
                    exact HNj.out), HBt.out⟩, by simp [intOf]; omega⟩
          · obtain rfl : k = my := by omega
            rw [List.take_of_length_le (by rw [MY.out]; exact Nat.le_refl _)] at HNo
            clear hb
            obtain ⟨q1, q2, q3, q4, q5⟩ := HBr.out
            have l0 : w.heap.size < wr.heap.size := by omega
            have l1 : w.heap.size + 1 < wr.heap.size := by omega
            have l2 : w.heap.size + 1 + 1 < wr.heap.size := by omega
            have v0 := Lib.cell_of_heap q1 0
            have v1 := Lib.cell_of_heap q1 1
            have v2 := Lib.cell_of_heap q1 2
            have v3 := Lib.cell_of_heap q1 3
            have v4 := Lib.cell_of_heap q1 4
            have x0 := Lib.cell_of_heap q2 0
            have x1 := Lib.cell_of_heap q2 1
            have x2 := Lib.cell_of_heap q2 2
            have x3 := Lib.cell_of_heap q2 3
            have x4 := Lib.cell_of_heap q2 4
            have x5 := Lib.cell_of_heap q2 5
            simp at v0 v1 v2 v3 v4 x0 x1 x2 x3 x4 x5
            have hap := apply_any wr ⟨vt, vf, vh, vl, vn⟩ ⟨xa, xd, xf, xh, xl, xn⟩ av ax bx nv cv nx cx mx dx (HV.out.rows.below q4) (HX.out.rows.below q4) (HX.out.drop.below' q4) (by show vt.length + xa.length + xd.length ≤ _; rw [LV.out, LX.out, MX.out]; omega) (fun t ht => inI_wf (HV.out.ok t ht).1) (fun t ht => inI_wf (HX.out.ok t ht).1) (fun t ht => inI_wf (HX.out.dok t ht))
            obtain ⟨⟨⟨At, Af, Ah, Al, An⟩, e1⟩, hR1⟩ : ∃ r, appl ⟨vt, vf, vh, vl, vn⟩ ⟨xa, xd, xf, xh, xl, xn⟩ = r := ⟨_, rfl⟩
            have hmem := appl_mem ⟨vt, vf, vh, vl, vn⟩ ⟨xa, xd, xf, xh, xl, xn⟩
            rw [hR1] at hap hmem
            have hlA : At.length ≤ nv + nx := by have := hmem.2; simp only at this; rw [LV.out, LX.out] at this; exact this
            have hwA : ∀ t ∈ At, (Lit.int .i64 t.num).wf = true := fun t ht => by
              rcases hmem.1 t ht with h | h
              · exact inI_wf (HV.out.ok t h).1
              · exact inI_wf (HX.out.ok t h).1
            have HR1 := Lib.hid hR1
            have HAp := Lib.hid hap
            have HWA := Lib.hid hwA
            clear hap hR1 hmem hwA
            go_wp2_with (go_at_call 15; go_must (refine HAp.out.mono ?_))
            rintro e w5 ⟨a5, n5, c5, rfl, o5, b5⟩
            have HB5 := Lib.hid (HBr.out.up b5)
            clear q1 q2 q3 q4 q5 l0 l1 l2 v0 v1 v2 v3 v4 x0 x1 x2 x3 x4 x5
            have hs5 := HB5.out.2.2.2.2
            have hb6 : Below w5.heap.size w5 (w5.alloc (.cells #[.slice a5 n5 c5, .int .u64 (Af : Int), .int .u64 (Ah : Int), .int .i64 Al, .int .i64 An] 38)) := (Below.refl _ _).alloc (Nat.le_refl _) _
            have HT5 := Lib.hid (ownsRow.reads o5)
            have HB6 := Lib.hid (HB5.out.up hb6)
            have hx6 := heap_alloc_new w5 (.cells #[.slice a5 n5 c5, .int .u64 (Af : Int), .int .u64 (Ah : Int), .int .i64 Al, .int .i64 An] 38)
            have HX6 := Lib.hid hx6
            have hap := apply_any (w5.alloc (.cells #[.slice a5 n5 c5, .int .u64 (Af : Int), .int .u64 (Ah : Int), .int .i64 Al, .int .i64 An] 38)) ⟨At, Af, Ah, Al, An⟩ ⟨ya, yd, yf, yh, yl, yn⟩ a5 ay by' n5 c5 ny cy k dy (TRows.below HT5.out hb6) (HY.out.rows.below HB6.out.2.2.2.1) (HY.out.drop.below' HB6.out.2.2.2.1) (by show At.length + ya.length + yd.length ≤ _; rw [LY.out, MY.out]; omega) HWA.out (fun t ht => inI_wf (HY.out.ok t ht).1) (fun t ht => inI_wf (HY.out.dok t ht))
            obtain ⟨⟨⟨Bt, Bf, Bh, Bl, Bn⟩, e2⟩, hR2⟩ : ∃ r, appl ⟨At, Af, Ah, Al, An⟩ ⟨ya, yd, yf, yh, yl, yn⟩ = r := ⟨_, rfl⟩
            rw [hR2] at hap
            have HR2 := Lib.hid hR2
            have HAp2 := Lib.hid hap
            obtain ⟨q1, q2, q3, q4, q5⟩ := HB5.out
            have l2 : w.heap.size + 1 + 1 < w5.heap.size := by omega
            have y0 := Lib.cell_of_heap q3 0
            have y1 := Lib.cell_of_heap q3 1
            have y2 := Lib.cell_of_heap q3 2
            have y3 := Lib.cell_of_heap q3 3
            have y4 := Lib.cell_of_heap q3 4
            have y5 := Lib.cell_of_heap q3 5
            simp at y0 y1 y2 y3 y4 y5
            clear hap hR2 o5 b5 hb6 hx6 HAp
            simp only [vv] at *
            go_wp2_with (go_at_call 15; go_must (refine HAp2.out.mono ?_))
            rintro e w7 ⟨a6, n6, c6, rfl, o7, b7⟩
            have HB7 := Lib.hid (HB6.out.up b7)
            have HT7 := Lib.hid (ownsRow.reads o7)
            clear q1 q2 q3 q4 q5 l2 y0 y1 y2 y3 y4 y5 b7 HAp2 o7
            simp only [vv] at *
            by_cases he1 : e1 = 0
            · subst he1
              by_cases he2 : e2 = 0
              · subst he2
                have hmath := row_math HR1.out HR2.out HNo.out (fun _ h => chk_apart h)
                have HM := Lib.hid hmath
                clear hmath
                go_wp2
                have hb8 : Below w7.heap.size w7 (w7.alloc (.cells #[.slice a6 n6 c6, .int .u64 (Bf : Int), .int .u64 (Bh : Int), .int .i64 Bl, .int .i64 Bn] 38)) := (Below.refl _ _).alloc (Nat.le_refl _) _
                have HB8 := Lib.hid (HB7.out.up hb8)
                have HT8 := Lib.hid (TRows.below HT7.out hb8)
                have hx8 := heap_alloc_new w7 (.cells #[.slice a6 n6 c6, .int .u64 (Bf : Int), .int .u64 (Bh : Int), .int .i64 Bl, .int .i64 Bn] 38)
                have HX8 := Lib.hid hx8
                have HXr := Lib.hid HX.out.rows
                have HYr := Lib.hid HY.out.rows
                obtain ⟨q1, q2, q3, q4, q5⟩ := HB8.out
                have hs8 : (w7.alloc (.cells #[.slice a6 n6 c6, .int .u64 (Bf : Int), .int .u64 (Bh : Int), .int .i64 Bl, .int .i64 Bn] 38)).heap.size = w7.heap.size + 1 := by simp
                have HS8 := Lib.hid hs8
                clear hb8 hx8 HT7 HB7 hs8
                generalize w7.alloc (.cells #[.slice a6 n6 c6, .int .u64 (Bf : Int), .int .u64 (Bh : Int), .int .i64 Bl, .int .i64 Bn] 38) = W8 at *
                have l1 : w.heap.size + 1 < W8.heap.size := by omega
                have l2 : w.heap.size + 1 + 1 < W8.heap.size := by omega
                have x0 := Lib.cell_of_heap q2 0
                have y0 := Lib.cell_of_heap q3 0
                have x1 := Lib.cell_of_heap q2 1
                have y1 := Lib.cell_of_heap q3 1
                have x2 := Lib.cell_of_heap q2 2
                have y2 := Lib.cell_of_heap q3 2
                have x3 := Lib.cell_of_heap q2 3
                have y3 := Lib.cell_of_heap q3 3
                have x4 := Lib.cell_of_heap q2 4
                have y4 := Lib.cell_of_heap q3 4
                have x5 := Lib.cell_of_heap q2 5
                have y5 := Lib.cell_of_heap q3 5
                simp at x0 x1 x2 x3 x4 x5 y0 y1 y2 y3 y4 y5
                clear q1 q2 q3 q4 q5
                refine wp_region_apart_last (l := [_, _, _, _, _, _, _, _, _, _, _, _, _, _, _, _, _, _, _, _, _, _, _, _, _, _, _, _, _, _, _, _, _, _, _, _]) (by kernel_rfl) [onU (zeroF W8.heap.size 45 5) (some 3), eqU (.pointer (some ⟨w.heap.size + 1, 0, none⟩)), eqU (.slice ax nx cx), onU (ownsF W8.heap.size 45 5 nx (xa.flatMap Tb.cells)) (some 6), eqU (.pointer (some ⟨w.heap.size + 1 + 1, 0, none⟩)), eqU (.slice ay ny cy), onU (ownsF W8.heap.size 45 5 (nx + ny) (xa.flatMap Tb.cells ++ ya.flatMap Tb.cells)) none, onU (zeroF W8.heap.size 3 1) (some 10), eqU (.pointer (some ⟨w.heap.size + 1, 1, none⟩)), eqU (.slice bx mx dx), onU (ownsF W8.heap.size 3 1 mx (ncells xd)) (some 13), eqU (.pointer (some ⟨w.heap.size + 1 + 1, 1, none⟩)), eqU (.slice by' k dy), onU (ownsF W8.heap.size 3 1 (mx + k) (ncells xd ++ ncells yd)) none, eqU (.pointer (some ⟨w.heap.size + 1, 2, none⟩)), eqU (.int .u64 (xf : Int)), eqU (.pointer (some ⟨w.heap.size + 1 + 1, 2, none⟩)), eqU (.int .u64 (yf : Int)), eqU (.int .u64 (max (xf : Int) (yf : Int))), eqU (.pointer (some ⟨w.heap.size + 1, 3, none⟩)), eqU (.int .u64 (xh : Int)), eqU (.pointer (some ⟨w.heap.size + 1 + 1, 3, none⟩)), eqU (.int .u64 (yh : Int)), eqU (.int .u64 (max (xh : Int) (yh : Int))), eqU (.pointer (some ⟨w.heap.size + 1, 4, none⟩)), eqU (.int .i64 xl), eqU (.pointer (some ⟨w.heap.size + 1 + 1, 4, none⟩)), eqU (.int .i64 yl), eqU (.int .i64 (max xl yl)), eqU (.pointer (some ⟨w.heap.size + 1, 5, none⟩)), eqU (.int .i64 xn), eqU (.pointer (some ⟨w.heap.size + 1 + 1, 5, none⟩)), eqU (.int .i64 yn), eqU (.int .i64 (max xn yn)), onU (bothF W8.heap.size (nx + ny) (mx + k) (xa.flatMap Tb.cells ++ ya.flatMap Tb.cells) (ncells xd ++ ncells yd) (max (xf : Int) (yf : Int)) (max (xh : Int) (yh : Int)) (max xl yl) (max xn yn)) none, onU (boxF W8.heap.size #[.slice none 0 0, .slice none 0 0, .int .u64 0, .int .u64 0, .int .i64 0, .int .i64 0] 26) none] [6, 13] [(6, 7), (6, 10), (6, 13), (6, 35), (13, 0), (13, 3), (13, 6), (13, 35)] (fun i => KeepTy (if i = 6 then 45 else 3)) ⟨?_, ?_, ?_, ?_, ?_, ?_, ?_, ?_, trivial⟩ (by kernel_rfl) (by kernel_rfl) (by kernel_rfl) (by kernel_rfl) (by kernel_rfl) ⟨?_, ?_, ?_, ?_, ?_, ?_, ?_, ?_, ?_, ?_, ?_, ?_, ?_, ?_, ?_, ?_, ?_, ?_, ?_, ?_, ?_, ?_, ?_, ?_, ?_, ?_, ?_, ?_, ?_, ?_, ?_, ?_, ?_, ?_, ?_, ?_, trivial⟩ ?_
                · exact fun v w w' h k => zeroF_keep (by decide) h k
                · exact fun v w w' h k => ownsF_keep (by decide) h k
                · exact fun v w w' h k => ownsF_keep (by decide) h k
                · exact fun v w w' h k => boxF_keep (by decide) h k
                · exact fun v w w' h k => zeroF_keep (by decide) h k
                · exact fun v w w' h k => ownsF_keep (by decide) h k
                · exact fun v w w' h k => ownsF_keep (by decide) h k
                · exact fun v w w' h k => boxF_keep (by decide) h k
                · intro ρ wx hρ hbx hl
                  refine a_new (v := .slice (some ⟨wx.heap.size, 0, none⟩) 0 0) (w' := wx.alloc (.cells #[] 45)) ?_ ⟨_, rfl, owns_less (owns_zero wx _ 5) hbx.size⟩ ((Below.refl _ _).alloc (Nat.le_refl _) _) (by decide)
                  simp [execOp, go_sem]
                · intro ρ wx hρ hbx hl
                  have e4 : ρ (.tmp 4) = .pointer (some ⟨w.heap.size + 1, 0, none⟩) := hρ.tmp 4 (by decide +kernel)
                  refine a_val (v := .pointer (some ⟨w.heap.size + 1, 0, none⟩)) ?_ rfl (by decide)
                  simp [execOp, go_sem, e4]
                · intro ρ wx hρ hbx hl
                  have e72 : ρ (.tmp 72) = .pointer (some ⟨w.heap.size + 1, 0, none⟩) := hl 1 (by decide +kernel) (.inl rfl) 72 rfl
                  have kk := (hbx.cell (l1)).trans x0
                  refine a_val (v := .slice ax nx cx) ?_ rfl (by decide)
                  simp [execOp, go_sem, e72, kk]
                · intro ρ wx hρ hbx hl
                  have e71 : (zeroF W8.heap.size 45 5).p (ρ (.tmp 71)) wx := hl 0 (by decide +kernel) (.inr rfl) 71 rfl
                  have e73 : ρ (.tmp 73) = .slice ax nx cx := hl 2 (by decide +kernel) (.inl rfl) 73 rfl
                  obtain ⟨g71, e71, o71⟩ := e71
                  rw [e71] at o71
                  have bw := HB8.out.2.2.2.1.trans (hbx.mono HB8.out.2.2.2.1.size)
                  obtain ⟨v', w', hr, ho, hb⟩ := run_append_zero_s (P := Try.prog) (w := wx) W8.heap.size 22 22 22 45 j0 _ 5 56 Try.underlying22 hj hy0 hy1 hy2 rfl g71 o71 (.slice ax nx cx) nx (xa.flatMap Tb.cells) (Reads.src Try.underlying22 (TRows.reads HXr.out bw LX.out) (flat_one _)) (by unfold maxLen; omega) (by omega) hbx.size
                  refine a_new ?_ ho hb (by decide)
                  simp only [execOp, resolve, invoke, builtin, Sem.run_bind, Sem.run_pure, Result.andThen_ok, List.map_toArray, List.map_cons, List.map_nil, e71, e73, hr]
                · intro ρ wx hρ hbx hl
                  have e5 : ρ (.tmp 5) = .pointer (some ⟨w.heap.size + 1 + 1, 0, none⟩) := hρ.tmp 5 (by decide +kernel)
                  refine a_val (v := .pointer (some ⟨w.heap.size + 1 + 1, 0, none⟩)) ?_ rfl (by decide)
                  simp [execOp, go_sem, e5]
                · intro ρ wx hρ hbx hl
                  have e75 : ρ (.tmp 75) = .pointer (some ⟨w.heap.size + 1 + 1, 0, none⟩) := hl 4 (by decide +kernel) (.inl rfl) 75 rfl
                  have kk := (hbx.cell (l2)).trans y0
                  refine a_val (v := .slice ay ny cy) ?_ rfl (by decide)
                  simp [execOp, go_sem, e75, kk]
                · intro ρ wx hρ hbx hl
                  have e74 : (ownsF W8.heap.size 45 5 nx (xa.flatMap Tb.cells)).p (ρ (.tmp 74)) wx := hl 3 (by decide +kernel) (.inr rfl) 74 rfl
                  have e76 : ρ (.tmp 76) = .slice ay ny cy := hl 5 (by decide +kernel) (.inl rfl) 76 rfl
                  have bw := HB8.out.2.2.2.1.trans (hbx.mono HB8.out.2.2.2.1.size)
                  obtain ⟨v', w', hr, ho, hg, hb, _⟩ := run_append_owns (P := Try.prog) (w := wx) W8.heap.size 22 22 22 45 j0 _ 5 56 Try.underlying22 hj hy0 hy1 hy2 rfl _ nx _ e74 (.slice ay ny cy) ny (ya.flatMap Tb.cells) (Reads.src Try.underlying22 (TRows.reads HYr.out bw LY.out) (flat_one _)) (by unfold maxLen; omega) (by omega) hbx.size
                  refine a_wild ?_ ho hb (fun b cs ty fr hb' ht => (hg.block b (Array.getElem?_eq_some_iff.1 hb').1 (fun e => owns_other e74 hb' ht e.symm)).trans hb')
                  simp only [execOp, resolve, invoke, builtin, Sem.run_bind, Sem.run_pure, Result.andThen_ok, List.map_toArray, List.map_cons, List.map_nil, e76, hr]
                · intro ρ wx hρ hbx hl
                  refine a_new (v := .slice (some ⟨wx.heap.size, 0, none⟩) 0 0) (w' := wx.alloc (.cells #[] 3)) ?_ ⟨_, rfl, owns_less (owns_zero wx _ 1) hbx.size⟩ ((Below.refl _ _).alloc (Nat.le_refl _) _) (by decide)
                  simp [execOp, go_sem]
                · intro ρ wx hρ hbx hl
                  have e4 : ρ (.tmp 4) = .pointer (some ⟨w.heap.size + 1, 0, none⟩) := hρ.tmp 4 (by decide +kernel)
                  refine a_val (v := .pointer (some ⟨w.heap.size + 1, 1, none⟩)) ?_ rfl (by decide)
                  simp [execOp, go_sem, e4]
                · intro ρ wx hρ hbx hl
                  have e79 : ρ (.tmp 79) = .pointer (some ⟨w.heap.size + 1, 1, none⟩) := hl 8 (by decide +kernel) (.inl rfl) 79 rfl
                  have kk := (hbx.cell (l1)).trans x1
                  refine a_val (v := .slice bx mx dx) ?_ rfl (by decide)
                  simp [execOp, go_sem, e79, kk]
                · intro ρ wx hρ hbx hl
                  have e78 : (zeroF W8.heap.size 3 1).p (ρ (.tmp 78)) wx := hl 7 (by decide +kernel) (.inr rfl) 78 rfl
                  have e80 : ρ (.tmp 80) = .slice bx mx dx := hl 9 (by decide +kernel) (.inl rfl) 80 rfl
                  obtain ⟨g78, e78, o78⟩ := e78
                  rw [e78] at o78
                  have bw := HB8.out.2.2.2.1.trans (hbx.mono HB8.out.2.2.2.1.size)
                  obtain ⟨v', w', hr, ho, hb⟩ := run_append_zero_s (P := Try.prog) (w := wx) W8.heap.size 23 23 23 3 i0 _ 1 8 Try.underlying23 hi hz0 hz1 hz2 rfl g78 o78 (.slice bx mx dx) mx (ncells xd) (Reads.src Try.underlying23 (HX.out.drop.below' bw) (ncells_one _)) (by unfold maxLen; omega) (by omega) hbx.size
                  refine a_new ?_ ho hb (by decide)
                  simp only [execOp, resolve, invoke, builtin, Sem.run_bind, Sem.run_pure, Result.andThen_ok, List.map_toArray, List.map_cons, List.map_nil, e78, e80, hr]
                · intro ρ wx hρ hbx hl
                  have e5 : ρ (.tmp 5) = .pointer (some ⟨w.heap.size + 1 + 1, 0, none⟩) := hρ.tmp 5 (by decide +kernel)
                  refine a_val (v := .pointer (some ⟨w.heap.size + 1 + 1, 1, none⟩)) ?_ rfl (by decide)
                  simp [execOp, go_sem, e5]
                · intro ρ wx hρ hbx hl
                  have e82 : ρ (.tmp 82) = .pointer (some ⟨w.heap.size + 1 + 1, 1, none⟩) := hl 11 (by decide +kernel) (.inl rfl) 82 rfl
                  have kk := (hbx.cell (l2)).trans y1
                  refine a_val (v := .slice by' k dy) ?_ rfl (by decide)
                  simp [execOp, go_sem, e82, kk]
                · intro ρ wx hρ hbx hl
                  have e81 : (ownsF W8.heap.size 3 1 mx (ncells xd)).p (ρ (.tmp 81)) wx := hl 10 (by decide +kernel) (.inr rfl) 81 rfl
                  have e83 : ρ (.tmp 83) = .slice by' k dy := hl 12 (by decide +kernel) (.inl rfl) 83 rfl
                  have bw := HB8.out.2.2.2.1.trans (hbx.mono HB8.out.2.2.2.1.size)
                  obtain ⟨v', w', hr, ho, hg, hb, _⟩ := run_append_owns (P := Try.prog) (w := wx) W8.heap.size 23 23 23 3 i0 _ 1 8 Try.underlying23 hi hz0 hz1 hz2 rfl _ mx _ e81 (.slice by' k dy) k (ncells yd) (Reads.src Try.underlying23 (HY.out.drop.below' bw) (ncells_one _)) (by unfold maxLen; omega) (by omega) hbx.size
                  refine a_wild ?_ ho hb (fun b cs ty fr hb' ht => (hg.block b (Array.getElem?_eq_some_iff.1 hb').1 (fun e => owns_other e81 hb' ht e.symm)).trans hb')
                  simp only [execOp, resolve, invoke, builtin, Sem.run_bind, Sem.run_pure, Result.andThen_ok, List.map_toArray, List.map_cons, List.map_nil, e83, hr]
                · intro ρ wx hρ hbx hl
                  have e4 : ρ (.tmp 4) = .pointer (some ⟨w.heap.size + 1, 0, none⟩) := hρ.tmp 4 (by decide +kernel)
                  refine a_val (v := .pointer (some ⟨w.heap.size + 1, 2, none⟩)) ?_ rfl (by decide)
                  simp [execOp, go_sem, e4]
                · intro ρ wx hρ hbx hl
                  have e85 : ρ (.tmp 85) = .pointer (some ⟨w.heap.size + 1, 2, none⟩) := hl 14 (by decide +kernel) (.inl rfl) 85 rfl
                  have kk := (hbx.cell (l1)).trans x2
                  refine a_val (v := .int .u64 (xf : Int)) ?_ rfl (by decide)
                  simp [execOp, go_sem, e85, kk]
                · intro ρ wx hρ hbx hl
                  have e5 : ρ (.tmp 5) = .pointer (some ⟨w.heap.size + 1 + 1, 0, none⟩) := hρ.tmp 5 (by decide +kernel)
                  refine a_val (v := .pointer (some ⟨w.heap.size + 1 + 1, 2, none⟩)) ?_ rfl (by decide)
                  simp [execOp, go_sem, e5]
                · intro ρ wx hρ hbx hl
                  have e87 : ρ (.tmp 87) = .pointer (some ⟨w.heap.size + 1 + 1, 2, none⟩) := hl 16 (by decide +kernel) (.inl rfl) 87 rfl
                  have kk := (hbx.cell (l2)).trans y2
                  refine a_val (v := .int .u64 (yf : Int)) ?_ rfl (by decide)
                  simp [execOp, go_sem, e87, kk]
                · intro ρ wx hρ hbx hl
                  have e86 : ρ (.tmp 86) = .int .u64 (xf : Int) := hl 15 (by decide +kernel) (.inl rfl) 86 rfl
                  have e88 : ρ (.tmp 88) = .int .u64 (yf : Int) := hl 17 (by decide +kernel) (.inl rfl) 88 rfl
                  refine a_val (v := .int .u64 (max (xf : Int) (yf : Int))) ?_ rfl (by decide)
                  simp [go_sem, e86, e88]
                · intro ρ wx hρ hbx hl
                  have e4 : ρ (.tmp 4) = .pointer (some ⟨w.heap.size + 1, 0, none⟩) := hρ.tmp 4 (by decide +kernel)
                  refine a_val (v := .pointer (some ⟨w.heap.size + 1, 3, none⟩)) ?_ rfl (by decide)
                  simp [execOp, go_sem, e4]
                · intro ρ wx hρ hbx hl
                  have e90 : ρ (.tmp 90) = .pointer (some ⟨w.heap.size + 1, 3, none⟩) := hl 19 (by decide +kernel) (.inl rfl) 90 rfl
                  have kk := (hbx.cell (l1)).trans x3
                  refine a_val (v := .int .u64 (xh : Int)) ?_ rfl (by decide)
                  simp [execOp, go_sem, e90, kk]
                · intro ρ wx hρ hbx hl
                  have e5 : ρ (.tmp 5) = .pointer (some ⟨w.heap.size + 1 + 1, 0, none⟩) := hρ.tmp 5 (by decide +kernel)
                  refine a_val (v := .pointer (some ⟨w.heap.size + 1 + 1, 3, none⟩)) ?_ rfl (by decide)
                  simp [execOp, go_sem, e5]
                · intro ρ wx hρ hbx hl
                  have e92 : ρ (.tmp 92) = .pointer (some ⟨w.heap.size + 1 + 1, 3, none⟩) := hl 21 (by decide +kernel) (.inl rfl) 92 rfl
                  have kk := (hbx.cell (l2)).trans y3
                  refine a_val (v := .int .u64 (yh : Int)) ?_ rfl (by decide)
                  simp [execOp, go_sem, e92, kk]
                · intro ρ wx hρ hbx hl
                  have e91 : ρ (.tmp 91) = .int .u64 (xh : Int) := hl 20 (by decide +kernel) (.inl rfl) 91 rfl
                  have e93 : ρ (.tmp 93) = .int .u64 (yh : Int) := hl 22 (by decide +kernel) (.inl rfl) 93 rfl
                  refine a_val (v := .int .u64 (max (xh : Int) (yh : Int))) ?_ rfl (by decide)
                  simp [go_sem, e91, e93]
                · intro ρ wx hρ hbx hl
                  have e4 : ρ (.tmp 4) = .pointer (some ⟨w.heap.size + 1, 0, none⟩) := hρ.tmp 4 (by decide +kernel)
                  refine a_val (v := .pointer (some ⟨w.heap.size + 1, 4, none⟩)) ?_ rfl (by decide)
                  simp [execOp, go_sem, e4]
                · intro ρ wx hρ hbx hl
                  have e95 : ρ (.tmp 95) = .pointer (some ⟨w.heap.size + 1, 4, none⟩) := hl 24 (by decide +kernel) (.inl rfl) 95 rfl
                  have kk := (hbx.cell (l1)).trans x4
                  refine a_val (v := .int .i64 xl) ?_ rfl (by decide)
                  simp [execOp, go_sem, e95, kk]
                · intro ρ wx hρ hbx hl
                  have e5 : ρ (.tmp 5) = .pointer (some ⟨w.heap.size + 1 + 1, 0, none⟩) := hρ.tmp 5 (by decide +kernel)
                  refine a_val (v := .pointer (some ⟨w.heap.size + 1 + 1, 4, none⟩)) ?_ rfl (by decide)
                  simp [execOp, go_sem, e5]
                · intro ρ wx hρ hbx hl
                  have e97 : ρ (.tmp 97) = .pointer (some ⟨w.heap.size + 1 + 1, 4, none⟩) := hl 26 (by decide +kernel) (.inl rfl) 97 rfl
                  have kk := (hbx.cell (l2)).trans y4
                  refine a_val (v := .int .i64 yl) ?_ rfl (by decide)
                  simp [execOp, go_sem, e97, kk]
                · intro ρ wx hρ hbx hl
                  have e96 : ρ (.tmp 96) = .int .i64 xl := hl 25 (by decide +kernel) (.inl rfl) 96 rfl
                  have e98 : ρ (.tmp 98) = .int .i64 yl := hl 27 (by decide +kernel) (.inl rfl) 98 rfl
                  refine a_val (v := .int .i64 (max xl yl)) ?_ rfl (by decide)
                  simp [go_sem, e96, e98]
                · intro ρ wx hρ hbx hl
                  have e4 : ρ (.tmp 4) = .pointer (some ⟨w.heap.size + 1, 0, none⟩) := hρ.tmp 4 (by decide +kernel)
                  refine a_val (v := .pointer (some ⟨w.heap.size + 1, 5, none⟩)) ?_ rfl (by decide)
                  simp [execOp, go_sem, e4]
                · intro ρ wx hρ hbx hl
                  have e100 : ρ (.tmp 100) = .pointer (some ⟨w.heap.size + 1, 5, none⟩) := hl 29 (by decide +kernel) (.inl rfl) 100 rfl
                  have kk := (hbx.cell (l1)).trans x5
                  refine a_val (v := .int .i64 xn) ?_ rfl (by decide)
                  simp [execOp, go_sem, e100, kk]
                · intro ρ wx hρ hbx hl
                  have e5 : ρ (.tmp 5) = .pointer (some ⟨w.heap.size + 1 + 1, 0, none⟩) := hρ.tmp 5 (by decide +kernel)
                  refine a_val (v := .pointer (some ⟨w.heap.size + 1 + 1, 5, none⟩)) ?_ rfl (by decide)
                  simp [execOp, go_sem, e5]
                · intro ρ wx hρ hbx hl
                  have e102 : ρ (.tmp 102) = .pointer (some ⟨w.heap.size + 1 + 1, 5, none⟩) := hl 31 (by decide +kernel) (.inl rfl) 102 rfl
                  have kk := (hbx.cell (l2)).trans y5
                  refine a_val (v := .int .i64 yn) ?_ rfl (by decide)
                  simp [execOp, go_sem, e102, kk]
                · intro ρ wx hρ hbx hl
                  have e101 : ρ (.tmp 101) = .int .i64 xn := hl 30 (by decide +kernel) (.inl rfl) 101 rfl
                  have e103 : ρ (.tmp 103) = .int .i64 yn := hl 32 (by decide +kernel) (.inl rfl) 103 rfl
                  refine a_val (v := .int .i64 (max xn yn)) ?_ rfl (by decide)
                  simp [go_sem, e101, e103]
                · intro ρ wx hρ hbx hl
                  have e77 : (ownsF W8.heap.size 45 5 (nx + ny) (xa.flatMap Tb.cells ++ ya.flatMap Tb.cells)).p (ρ (.tmp 77)) wx := hl 6 (by decide +kernel) (.inl rfl) 77 rfl
                  have e84 : (ownsF W8.heap.size 3 1 (mx + k) (ncells xd ++ ncells yd)).p (ρ (.tmp 84)) wx := hl 13 (by decide +kernel) (.inl rfl) 84 rfl
                  have e89 : ρ (.tmp 89) = .int .u64 (max (xf : Int) (yf : Int)) := hl 18 (by decide +kernel) (.inl rfl) 89 rfl
                  have e94 : ρ (.tmp 94) = .int .u64 (max (xh : Int) (yh : Int)) := hl 23 (by decide +kernel) (.inl rfl) 94 rfl
                  have e99 : ρ (.tmp 99) = .int .i64 (max xl yl) := hl 28 (by decide +kernel) (.inl rfl) 99 rfl
                  have e104 : ρ (.tmp 104) = .int .i64 (max xn yn) := hl 33 (by decide +kernel) (.inl rfl) 104 rfl
                  obtain ⟨a77, c77, h77, _, _⟩ := (ownsRow.reads e77).le
                  obtain ⟨a84, c84, h84, _, _⟩ := (ownsRow.reads e84).le
                  refine a_val (v := .agg #[ρ (.tmp 77), ρ (.tmp 84), .int .u64 (max (xf : Int) (yf : Int)), .int .u64 (max (xh : Int) (yh : Int)), .int .i64 (max xl yl), .int .i64 (max xn yn)]) ?_ ⟨_, _, rfl, e77, e84⟩ (by decide)
                  simp [execOp, go_sem, e89, e94, e99, e104, h77, h84]
                · intro ρ wx hρ hbx hl
                  refine a_new (v := .pointer (some ⟨wx.heap.size, 0, none⟩)) (w' := wx.alloc (.cells #[.slice none 0 0, .slice none 0 0, .int .u64 0, .int .u64 0, .int .i64 0, .int .i64 0] 26)) ?_ ⟨_, rfl, hbx.size, heap_alloc_new wx _⟩ ((Below.refl _ _).alloc (Nat.le_refl _) _) (by decide)
                  simp [execOp, go_sem]
                intro aa wz hdef hsz hlk hbz hf
                have ha := act_of_like hdef hsz hlk [71, 72, 73, 74, 75, 76, 77, 78, 79, 80, 81, 82, 83, 84, 85, 86, 87, 88, 89, 90, 91, 92, 93, 94, 95, 96, 97, 98, 99, 100, 101, 102, 103, 104, 105, 15] 119 rfl (by decide +kernel)
                have e72 : aa.tmps.getD 72 undef = .pointer (some ⟨w.heap.size + 1, 0, none⟩) := hf 1 _ 72 rfl rfl rfl
                have e73 : aa.tmps.getD 73 undef = .slice ax nx cx := hf 2 _ 73 rfl rfl rfl
                have e75 : aa.tmps.getD 75 undef = .pointer (some ⟨w.heap.size + 1 + 1, 0, none⟩) := hf 4 _ 75 rfl rfl rfl
                have e76 : aa.tmps.getD 76 undef = .slice ay ny cy := hf 5 _ 76 rfl rfl rfl
                have e77 : (ownsF W8.heap.size 45 5 (nx + ny) (xa.flatMap Tb.cells ++ ya.flatMap Tb.cells)).p (aa.tmps.getD 77 undef) wz := hf 6 _ 77 rfl rfl rfl
                generalize hv77 : aa.tmps.getD 77 undef = v77 at e77
                have e79 : aa.tmps.getD 79 undef = .pointer (some ⟨w.heap.size + 1, 1, none⟩) := hf 8 _ 79 rfl rfl rfl
                have e80 : aa.tmps.getD 80 undef = .slice bx mx dx := hf 9 _ 80 rfl rfl rfl
                have e82 : aa.tmps.getD 82 undef = .pointer (some ⟨w.heap.size + 1 + 1, 1, none⟩) := hf 11 _ 82 rfl rfl rfl
                have e83 : aa.tmps.getD 83 undef = .slice by' k dy := hf 12 _ 83 rfl rfl rfl
                have e84 : (ownsF W8.heap.size 3 1 (mx + k) (ncells xd ++ ncells yd)).p (aa.tmps.getD 84 undef) wz := hf 13 _ 84 rfl rfl rfl
                generalize hv84 : aa.tmps.getD 84 undef = v84 at e84
                have e85 : aa.tmps.getD 85 undef = .pointer (some ⟨w.heap.size + 1, 2, none⟩) := hf 14 _ 85 rfl rfl rfl
                have e86 : aa.tmps.getD 86 undef = .int .u64 (xf : Int) := hf 15 _ 86 rfl rfl rfl
                have e87 : aa.tmps.getD 87 undef = .pointer (some ⟨w.heap.size + 1 + 1, 2, none⟩) := hf 16 _ 87 rfl rfl rfl
                have e88 : aa.tmps.getD 88 undef = .int .u64 (yf : Int) := hf 17 _ 88 rfl rfl rfl
                have e89 : aa.tmps.getD 89 undef = .int .u64 (max (xf : Int) (yf : Int)) := hf 18 _ 89 rfl rfl rfl
                have e90 : aa.tmps.getD 90 undef = .pointer (some ⟨w.heap.size + 1, 3, none⟩) := hf 19 _ 90 rfl rfl rfl
                have e91 : aa.tmps.getD 91 undef = .int .u64 (xh : Int) := hf 20 _ 91 rfl rfl rfl
                have e92 : aa.tmps.getD 92 undef = .pointer (some ⟨w.heap.size + 1 + 1, 3, none⟩) := hf 21 _ 92 rfl rfl rfl
                have e93 : aa.tmps.getD 93 undef = .int .u64 (yh : Int) := hf 22 _ 93 rfl rfl rfl
                have e94 : aa.tmps.getD 94 undef = .int .u64 (max (xh : Int) (yh : Int)) := hf 23 _ 94 rfl rfl rfl
                have e95 : aa.tmps.getD 95 undef = .pointer (some ⟨w.heap.size + 1, 4, none⟩) := hf 24 _ 95 rfl rfl rfl
                have e96 : aa.tmps.getD 96 undef = .int .i64 xl := hf 25 _ 96 rfl rfl rfl
                have e97 : aa.tmps.getD 97 undef = .pointer (some ⟨w.heap.size + 1 + 1, 4, none⟩) := hf 26 _ 97 rfl rfl rfl
                have e98 : aa.tmps.getD 98 undef = .int .i64 yl := hf 27 _ 98 rfl rfl rfl
                have e99 : aa.tmps.getD 99 undef = .int .i64 (max xl yl) := hf 28 _ 99 rfl rfl rfl
                have e100 : aa.tmps.getD 100 undef = .pointer (some ⟨w.heap.size + 1, 5, none⟩) := hf 29 _ 100 rfl rfl rfl
                have e101 : aa.tmps.getD 101 undef = .int .i64 xn := hf 30 _ 101 rfl rfl rfl
                have e102 : aa.tmps.getD 102 undef = .pointer (some ⟨w.heap.size + 1 + 1, 5, none⟩) := hf 31 _ 102 rfl rfl rfl
                have e103 : aa.tmps.getD 103 undef = .int .i64 yn := hf 32 _ 103 rfl rfl rfl
                have e104 : aa.tmps.getD 104 undef = .int .i64 (max xn yn) := hf 33 _ 104 rfl rfl rfl
                have e105 : (bothF W8.heap.size (nx + ny) (mx + k) (xa.flatMap Tb.cells ++ ya.flatMap Tb.cells) (ncells xd ++ ncells yd) (max (xf : Int) (yf : Int)) (max (xh : Int) (yh : Int)) (max xl yl) (max xn yn)).p (aa.tmps.getD 105 undef) wz := hf 34 _ 105 rfl rfl rfl
                generalize hv105 : aa.tmps.getD 105 undef = v105 at e105
                have e15 : (boxF W8.heap.size #[.slice none 0 0, .slice none 0 0, .int .u64 0, .int .u64 0, .int .i64 0, .int .i64 0] 26).p (aa.tmps.getD 15 undef) wz := hf 35 _ 15 rfl rfl rfl
                generalize hv15 : aa.tmps.getD 15 undef = v15 at e15
                simp only [putAll, List.foldl_cons, List.foldl_nil, e72, e73, e75, e76, hv77, e79, e80, e82, e83, hv84, e85, e86, e87, e88, e89, e90, e91, e92, e93, e94, e95, e96, e97, e98, e99, e100, e101, e102, e103, e104, hv105, hv15] at ha
                generalize aa.tmps.getD 71 undef = v71 at ha
                generalize aa.tmps.getD 74 undef = v74 at ha
                generalize aa.tmps.getD 78 undef = v78 at ha
                generalize aa.tmps.getD 81 undef = v81 at ha
                simp [Act.put] at ha
                subst ha
                clear hdef hsz hlk hf e72 e73 e75 e76 hv77 e79 e80 e82 e83 hv84 e85 e86 e87 e88 e89 e90 e91 e92 e93 e94 e95 e96 e97 e98 e99 e100 e101 e102 e103 e104 hv105 hv15
                obtain ⟨g15, rfl, hg15, hx15⟩ := e15
                obtain ⟨u0, z0, rfl, o1, o2⟩ := e105
                obtain ⟨u, cE, rfl, _, _⟩ := (ownsRow.reads o1).le
                obtain ⟨z, dE, rfl, _, _⟩ := (ownsRow.reads o2).le
                clear e77 e84 x0 x1 x2 x3 x4 x5 y0 y1 y2 y3 y4 y5
                have r0 := Lib.cell_of_heap hx15 0
                have r1 := Lib.cell_of_heap hx15 1
                have r2 := Lib.cell_of_heap hx15 2
                have r3 := Lib.cell_of_heap hx15 3
                have r4 := Lib.cell_of_heap hx15 4
                have r5 := Lib.cell_of_heap hx15 5
                have rf := Lib.frozen_of_heap hx15
                simp at r0 r1 r2 r3 r4 r5
                have hst := set6_at hx15 (.slice u (nx + ny) cE) (.slice z (mx + k) dE) (.int .u64 (max (xf : Int) (yf : Int))) (.int .u64 (max (xh : Int) (yh : Int))) (.int .i64 (max xl yl)) (.int .i64 (max xn yn))
                have htc := set6_touch wz g15 (.slice u (nx + ny) cE) (.slice z (mx + k) dE) (.int .u64 (max (xf : Int) (yf : Int))) (.int .u64 (max (xh : Int) (yh : Int))) (.int .i64 (max xl yl)) (.int .i64 (max xn yn))
                have hap1 := owns_other o1 hx15 (by decide)
                have hap2 := owns_other o2 hx15 (by decide)
                have o3 := own_touch o1 htc (fun g hg => by simp; exact fun e => hap1 (by rw [hg, e]))
                have o4 := own_touch o2 htc (fun g hg => by simp; exact fun e => hap2 (by rw [hg, e]))
                have hb9 : Below W8.heap.size W8 _ := hbz.trans (htc.below (B := W8.heap.size) hbz.size (by simp; omega))
                unfold Oper.wp
                simp [execOp, go_sem, r0, r1, r2, r3, r4, r5, rf]
                clear r0 r1 r2 r3 r4 r5 rf hx15 htc hap1 hap2 o1 o2 hbz
                generalize ((((((wz).setCell ⟨g15, 0, none⟩ (.slice u (nx + ny) cE)).setCell ⟨g15, 1, none⟩ (.slice z (mx + k) dE)).setCell ⟨g15, 2, none⟩ (.int .u64 (max (xf : Int) (yf : Int)))).setCell ⟨g15, 3, none⟩ (.int .u64 (max (xh : Int) (yh : Int)))).setCell ⟨g15, 4, none⟩ (.int .i64 (max xl yl))).setCell ⟨g15, 5, none⟩ (.int .i64 (max xn yn)) = W9 at *
                have HB9 := Lib.hid (HB8.out.up hb9)
                have HT9 := Lib.hid (TRows.below HT8.out hb9)
                have HX9 := Lib.hid ((hb9.block _ (by rw [HS8.out]; omega)).trans HX8.out)
                have hrt : TRows W9 (.slice u (nx + ny) cE) (xa ++ ya) := by
                  have := ownsRow.reads o3
                  rw [← List.flatMap_append] at this
                  unfold TRows
                  rw [List.length_append, LX.out, LY.out]
                  exact this
                have hrd : Reads W9 1 (.slice z (mx + k) dE) (mx + k) (ncells (xd ++ yd)) := by
                  have := ownsRow.reads o4
                  unfold ncells at this ⊢
                  rw [List.map_append]
                  exact this
                have hap := apply_any W9 ⟨vt, vf, vh, vl, vn⟩ (bothE ⟨xa, xd, xf, xh, xl, xn⟩ ⟨ya, yd, yf, yh, yl, yn⟩) av u z nv cv (nx + ny) cE (mx + k) dE (HV.out.rows.below HB9.out.2.2.2.1) hrt hrd (by show vt.length + (xa ++ ya).length + (xd ++ yd).length ≤ _; rw [List.length_append, List.length_append, LV.out, LX.out, LY.out, MX.out, MY.out]; omega) (fun t ht => inI_wf (HV.out.ok t ht).1) (fun t ht => by
                  rcases List.mem_append.1 ht with h | h
                  · exact inI_wf (HX.out.ok t h).1
                  · exact inI_wf (HY.out.ok t h).1) (fun t ht => by
                  rcases List.mem_append.1 ht with h | h
                  · exact inI_wf (HX.out.dok t h)
                  · exact inI_wf (HY.out.dok t h))
                rw [HM.out] at hap
                simp only [vv, ev, bothE, maxN] at hap
                have HAp9 := Lib.hid hap
                obtain ⟨q1, q2, q3, q4, q5⟩ := HB9.out
                have l0 : w.heap.size < W9.heap.size := by omega
                have lg : g15 < W9.heap.size := (Array.getElem?_eq_some_iff.1 hst).1
                have v0 := Lib.cell_of_heap q1 0
                have v1 := Lib.cell_of_heap q1 1
                have v2 := Lib.cell_of_heap q1 2
                have v3 := Lib.cell_of_heap q1 3
                have v4 := Lib.cell_of_heap q1 4
                simp at v0 v1 v2 v3 v4
                have r0 := Lib.cell_of_heap hst 0
                have r1 := Lib.cell_of_heap hst 1
                have r2 := Lib.cell_of_heap hst 2
                have r3 := Lib.cell_of_heap hst 3
                have r4 := Lib.cell_of_heap hst 4
                have r5 := Lib.cell_of_heap hst 5
                simp at r0 r1 r2 r3 r4 r5
                have HB9' := HB9
                clear hap q1 q2 q3 q4 q5 hst hb9 o3 o4 hrt hrd HB8 HT8 HX8
                go_wp2_with (go_at_call 15; go_must (refine HAp9.out.mono ?_))
                rintro e w10 ⟨a10, n10, c10, rfl, o10, b10⟩
                have hl13 : w7.heap.size < W9.heap.size := (Array.getElem?_eq_some_iff.1 HX9.out).1
                have hx13 := (b10.block _ hl13).trans HX9.out
                have hl13' : w7.heap.size < w10.heap.size := (Array.getElem?_eq_some_iff.1 hx13).1
                have hbc : Below w10.heap.size w10 (w10.alloc (.cells #[.slice a10 n10 c10, .int .u64 (Bf : Int), .int .u64 (Bh : Int), .int .i64 Bl, .int .i64 Bn] 38)) := (Below.refl _ _).alloc (Nat.le_refl _) _
                have hsm := sameV_any (w10.alloc (.cells #[.slice a10 n10 c10, .int .u64 (Bf : Int), .int .u64 (Bh : Int), .int .i64 Bl, .int .i64 Bn] 38)) ⟨Bt, Bf, Bh, Bl, Bn⟩ ⟨Bt, Bf, Bh, Bl, Bn⟩ a6 a10 n6 c6 n10 c10 ((HT9.out.below b10).below hbc) ((show TRows w10 (.slice a10 n10 c10) Bt from ownsRow.reads o10).below hbc)
                rw [same_self] at hsm
                simp only [vv] at hsm
                have HSm := Lib.hid hsm
                have HBf := Lib.hid ((HB9'.out.up b10).up hbc)
                have y0 := Lib.cell_of_heap hx13 0
                have y1 := Lib.cell_of_heap hx13 1
                have y2 := Lib.cell_of_heap hx13 2
                have y3 := Lib.cell_of_heap hx13 3
                have y4 := Lib.cell_of_heap hx13 4
                simp at y0 y1 y2 y3 y4
                clear hsm hx13 hbc v0 v1 v2 v3 v4 r0 r1 r2 r3 r4 r5 l0 lg b10 o10
                simp only [vv] at *
                go_wp2_with (go_at_call 17; go_must (refine HSm.out.mono ?_))
                rintro e w11 ⟨rfl, b11⟩
                have HB11 := Lib.hid (HBf.out.up b11)
                go_wp2
                go_ret
                exact ⟨rfl, HB11.out.2.2.2.1⟩
              · have hI : (e2 == 0) = false := by simp [he2]
                clear he2
                go_wp2
                go_ret
                exact ⟨rfl, HB7.out.2.2.2.1.trans (((Below.refl _ w7).alloc (Nat.le_refl _) _).mono HB7.out.2.2.2.1.size)⟩
            · have hI : (e1 == 0) = false := by simp [he1]
              clear he1
              go_wp2
              go_ret
              exact ⟨rfl, HB7.out.2.2.2.1.trans (((Below.refl _ w7).alloc (Nat.le_refl _) _).mono HB7.out.2.2.2.1.size)⟩
end Go.Proofs.Ythjimldojdhccaa
