/- What any version becomes by any edit: the law's walk. -/
import Derived.Test.YthjimldojdhccaaEditRefA
import Derived.Test.YthjimldojdhccaaEditFixed
import Derived.Test.YthjimldojdhccaaEditOpen
namespace Go.Proofs.Ythjimldojdhccaa
open Go Go.RowKit Go.Lib

theorem same_self' (v : Ver) : sameV v v = true := by simp [sameV]
theorem few_len' {e : Ed} (h : fewE e = true) : e.add.length ≤ 40 ∧ e.drop.length ≤ 40 := by
  unfold fewE at h
  simp only [Bool.and_eq_true, decide_eq_true_eq] at h
  exact ⟨h.2.1, h.2.2⟩
theorem infoT' : (Try.prog.info? 45).map (fun i => (i.zero, i.size, i.bytes)) = some (some (tv ⟨0, 0, 0, ⟨#[]⟩, ⟨#[]⟩⟩), 5, 56) := by kernel_rfl

set_option maxRecDepth 100000 in
set_option maxHeartbeats 4000000 in
theorem editApplies_walk (w : World) (v : Ver) (x : Ed) (av ax bx : Option Addr) (nv cv nx cx mx dx : Nat) (hv : VerCame w v av nv cv) (hx : EdCame w x ax bx nx cx mx dx) :
    Calls Try.prog 4 #[vv v av nv cv, ev x ax bx nx cx mx dx] w (SaysTrue w) := by
  obtain ⟨j0, hji, hy0, hy1, hy2⟩ := info_parts infoT
  have hfv := fun W (hb : Below w.heap.size w W) => fewV_any W v av nv cv (hv.rows.below hb) (fun t ht => ⟨(hv.ok t ht).2.2.2.1, (hv.ok t ht).2.2.2.2⟩)
  have hfx := fun W (hb : Below w.heap.size w W) => fewE_any W x ax bx nx cx mx dx (hx.rows.below hb) (num_len hx.drop).1 (fun t ht => ⟨(hx.ok t ht).2.2.2.1, (hx.ok t ht).2.2.2.2⟩)
  have HFv := Lib.hid hfv
  have HFx := Lib.hid hfx
  have HV := Lib.hid hv
  have HX := Lib.hid hx
  obtain ⟨lv1, lv2, lv3⟩ := hv.rows.len
  obtain ⟨lx1, lx2, lx3⟩ := hx.rows.len
  obtain ⟨mx1, mx2, mx3⟩ := num_len hx.drop
  have LX := Lib.hid lx1
  have LV := Lib.hid lv1
  have MX := Lib.hid mx1
  clear hfv hfx hv hx lx1 lv1 mx1
  obtain ⟨vt, vf, vh, vl, vn⟩ := v
  obtain ⟨xa, xd, xf, xh, xl, xn⟩ := x
  simp only [vv, ev] at *
  have x1 : ((w.alloc (.cells #[.slice av nv cv, .int .u64 (vf : Int), .int .u64 (vh : Int), .int .i64 vl, .int .i64 vn] 38)).alloc (.cells #[.slice ax nx cx, .slice bx mx dx, .int .u64 (xf : Int), .int .u64 (xh : Int), .int .i64 xl, .int .i64 xn] 26)).heap[w.heap.size]? = some (.cells #[.slice av nv cv, .int .u64 (vf : Int), .int .u64 (vh : Int), .int .i64 vl, .int .i64 vn] 38 (0, 0)) := (((Below.refl (w.heap.size + 1) (w.alloc (.cells #[.slice av nv cv, .int .u64 (vf : Int), .int .u64 (vh : Int), .int .i64 vl, .int .i64 vn] 38))).alloc (by simp) (.cells #[.slice ax nx cx, .slice bx mx dx, .int .u64 (xf : Int), .int .u64 (xh : Int), .int .i64 xl, .int .i64 xn] 26)).block _ (Nat.lt_succ_self _)).trans (heap_alloc_new w (.cells #[.slice av nv cv, .int .u64 (vf : Int), .int .u64 (vh : Int), .int .i64 vl, .int .i64 vn] 38))
  have x2 : ((w.alloc (.cells #[.slice av nv cv, .int .u64 (vf : Int), .int .u64 (vh : Int), .int .i64 vl, .int .i64 vn] 38)).alloc (.cells #[.slice ax nx cx, .slice bx mx dx, .int .u64 (xf : Int), .int .u64 (xh : Int), .int .i64 xl, .int .i64 xn] 26)).heap[w.heap.size + 1]? = some (.cells #[.slice ax nx cx, .slice bx mx dx, .int .u64 (xf : Int), .int .u64 (xh : Int), .int .i64 xl, .int .i64 xn] 26 (0, 0)) := by
    have := heap_alloc_new (w.alloc (.cells #[.slice av nv cv, .int .u64 (vf : Int), .int .u64 (vh : Int), .int .i64 vl, .int .i64 vn] 38)) (.cells #[.slice ax nx cx, .slice bx mx dx, .int .u64 (xf : Int), .int .u64 (xh : Int), .int .i64 xl, .int .i64 xn] 26)
    simpa using this
  have s2 : ((w.alloc (.cells #[.slice av nv cv, .int .u64 (vf : Int), .int .u64 (vh : Int), .int .i64 vl, .int .i64 vn] 38)).alloc (.cells #[.slice ax nx cx, .slice bx mx dx, .int .u64 (xf : Int), .int .u64 (xh : Int), .int .i64 xl, .int .i64 xn] 26)).heap.size = w.heap.size + 2 := by simp
  have b2 : Below w.heap.size w ((w.alloc (.cells #[.slice av nv cv, .int .u64 (vf : Int), .int .u64 (vh : Int), .int .i64 vl, .int .i64 vn] 38)).alloc (.cells #[.slice ax nx cx, .slice bx mx dx, .int .u64 (xf : Int), .int .u64 (xh : Int), .int .i64 xl, .int .i64 xn] 26)) := ((Below.refl _ _).alloc (Nat.le_refl _) _).alloc (by simp) _
  have X1 := Lib.hid x1
  have X2 := Lib.hid x2
  have S2 := Lib.hid s2
  have B2 := Lib.hid b2
  clear x1 x2 s2 b2
  go_enter Try.func4, Try.ntmps4
  go_wp2_with (go_at_call 6; go_must (refine (fixed_any _).mono ?_))
  rintro e w1 ⟨rfl, b1⟩
  generalize (w.alloc (.cells #[.slice av nv cv, .int .u64 (vf : Int), .int .u64 (vh : Int), .int .i64 vl, .int .i64 vn] 38)).alloc (.cells #[.slice ax nx cx, .slice bx mx dx, .int .u64 (xf : Int), .int .u64 (xh : Int), .int .i64 xl, .int .i64 xn] 26) = W2 at *
  have HB1 := Lib.hid (b1.mono (show w.heap.size + 2 ≤ _ by rw [S2.out]; exact Nat.le_refl _))
  clear b1
  have q1 := ((HB1.out).block _ (by omega)).trans X1.out
  have q2 := ((HB1.out).block _ (by omega)).trans X2.out
  have hsz := (HB1.out).size
  rw [S2.out] at hsz
  have l0 : w.heap.size < w1.heap.size := by omega
  have l1 : w.heap.size + 1 < w1.heap.size := by omega
  have v0 := Lib.cell_of_heap q1 0
  have v1 := Lib.cell_of_heap q1 1
  have v2 := Lib.cell_of_heap q1 2
  have v3 := Lib.cell_of_heap q1 3
  have v4 := Lib.cell_of_heap q1 4
  simp at v0 v1 v2 v3 v4
  have x0 := Lib.cell_of_heap q2 0
  have x1 := Lib.cell_of_heap q2 1
  have x2 := Lib.cell_of_heap q2 2
  have x3 := Lib.cell_of_heap q2 3
  have x4 := Lib.cell_of_heap q2 4
  have x5 := Lib.cell_of_heap q2 5
  simp at x0 x1 x2 x3 x4 x5
  clear q1 q2
  obtain ⟨f1, hf1⟩ : ∃ f, fewV ⟨vt, vf, vh, vl, vn⟩ = f := ⟨_, rfl⟩
  obtain ⟨f2, hf2⟩ : ∃ f, fewE ⟨xa, xd, xf, xh, xl, xn⟩ = f := ⟨_, rfl⟩
  simp only [hf1] at HFv
  simp only [hf2] at HFx
  have HF1 := Lib.hid hf1
  have HF2 := Lib.hid hf2
  clear hf1 hf2
  go_wp2_with (go_at_call 14; go_must (refine (HFv.out _ (B2.out.trans (HB1.out.mono (by omega)))).mono ?_))
  rintro e w2 ⟨rfl, b2⟩
  have HB2 := Lib.hid (HB1.out.trans (b2.mono hsz))
  clear v0 v1 v2 v3 v4 x0 x1 x2 x3 x4 x5 l0 l1 hsz
  cases f1 with
  | false =>
    clear b2
    go_wp2
    go_ret
    exact ⟨rfl, B2.out.trans (HB2.out.mono (by omega))⟩
  | true =>
    clear b2
    have q1 := ((HB2.out).block _ (by omega)).trans X1.out
    have q2 := ((HB2.out).block _ (by omega)).trans X2.out
    have hsz := (HB2.out).size
    rw [S2.out] at hsz
    have l0 : w.heap.size < w2.heap.size := by omega
    have l1 : w.heap.size + 1 < w2.heap.size := by omega
    have v0 := Lib.cell_of_heap q1 0
    have v1 := Lib.cell_of_heap q1 1
    have v2 := Lib.cell_of_heap q1 2
    have v3 := Lib.cell_of_heap q1 3
    have v4 := Lib.cell_of_heap q1 4
    simp at v0 v1 v2 v3 v4
    have x0 := Lib.cell_of_heap q2 0
    have x1 := Lib.cell_of_heap q2 1
    have x2 := Lib.cell_of_heap q2 2
    have x3 := Lib.cell_of_heap q2 3
    have x4 := Lib.cell_of_heap q2 4
    have x5 := Lib.cell_of_heap q2 5
    simp at x0 x1 x2 x3 x4 x5
    clear q1 q2
    go_wp2_with (go_at_call 7; go_must (refine (HFx.out _ (B2.out.trans (HB2.out.mono (by omega)))).mono ?_))
    rintro e w3 ⟨rfl, b3⟩
    have HB3 := Lib.hid (HB2.out.trans (b3.mono hsz))
    clear v0 v1 v2 v3 v4 x0 x1 x2 x3 x4 x5 l0 l1 hsz
    cases f2 with
    | false =>
      clear b3
      go_wp2
      go_ret
      exact ⟨rfl, B2.out.trans (HB3.out.mono (by omega))⟩
    | true =>
      clear b3
      obtain ⟨f5, f6⟩ := few_len' HF1.out
      obtain ⟨f7, f8⟩ := few_len' HF2.out
      simp only at f5 f6 f7 f8
      rw [LV.out] at f5
      rw [LX.out] at f7
      rw [MX.out] at f8
      clear f6
      have q1 := ((HB3.out).block _ (by omega)).trans X1.out
      have q2 := ((HB3.out).block _ (by omega)).trans X2.out
      have hsz := (HB3.out).size
      rw [S2.out] at hsz
      have l0 : w.heap.size < w3.heap.size := by omega
      have l1 : w.heap.size + 1 < w3.heap.size := by omega
      have v0 := Lib.cell_of_heap q1 0
      have v1 := Lib.cell_of_heap q1 1
      have v2 := Lib.cell_of_heap q1 2
      have v3 := Lib.cell_of_heap q1 3
      have v4 := Lib.cell_of_heap q1 4
      simp at v0 v1 v2 v3 v4
      have x0 := Lib.cell_of_heap q2 0
      have x1 := Lib.cell_of_heap q2 1
      have x2 := Lib.cell_of_heap q2 2
      have x3 := Lib.cell_of_heap q2 3
      have x4 := Lib.cell_of_heap q2 4
      have x5 := Lib.cell_of_heap q2 5
      simp at x0 x1 x2 x3 x4 x5
      clear q1 q2
      have ha5 := heap_alloc_new w3 (.cells #[.slice av nv cv, .int .u64 (vf : Int), .int .u64 (vh : Int), .int .i64 vl, .int .i64 vn] 38)
      have b5 : Below w3.heap.size w3 (w3.alloc (.cells #[.slice av nv cv, .int .u64 (vf : Int), .int .u64 (vh : Int), .int .i64 vl, .int .i64 vn] 38)) := (Below.refl _ _).alloc (Nat.le_refl _) _
      have s5 : (w3.alloc (.cells #[.slice av nv cv, .int .u64 (vf : Int), .int .u64 (vh : Int), .int .i64 vl, .int .i64 vn] 38)).heap.size = w3.heap.size + 1 := by simp
      have HO5 := Lib.hid ha5
      have HB5 := Lib.hid (HB3.out.trans (b5.mono hsz))
      have HS5 := Lib.hid s5
      have b5z : Below (w3.heap.size + 1) (w3.alloc (.cells #[.slice av nv cv, .int .u64 (vf : Int), .int .u64 (vh : Int), .int .i64 vl, .int .i64 vn] 38)) ((w3.alloc (.cells #[.slice av nv cv, .int .u64 (vf : Int), .int .u64 (vh : Int), .int .i64 vl, .int .i64 vn] 38)).alloc (.cells #[] 45)) := (Below.refl _ _).alloc (by simp) _
      have hown0 : ((w3.alloc (.cells #[.slice av nv cv, .int .u64 (vf : Int), .int .u64 (vh : Int), .int .i64 vl, .int .i64 vn] 38)).alloc (.cells #[] 45)).ownsRow (w3.heap.size + 1) 45 5 (.slice (some ⟨w3.heap.size + 1, 0, none⟩) 0 0) 0 [] := own_lower (by have := owns_zero (w3.alloc (.cells #[.slice av nv cv, .int .u64 (vf : Int), .int .u64 (vh : Int), .int .i64 vl, .int .i64 vn] 38)) 45 5; rwa [s5] at this) (Nat.le_refl _)
      have hsrc := Reads.src (P := Try.prog) Try.underlying22 (TRows.reads HV.out.rows (B2.out.trans ((HB5.out.trans (b5z.mono (by omega))).mono (by omega))) LV.out) (flat_one vt)
      have HOz := Lib.hid hown0
      have HSr := Lib.hid hsrc
      have HBz := Lib.hid b5z
      have lt5 : w3.heap.size < (w3.alloc (.cells #[.slice av nv cv, .int .u64 (vf : Int), .int .u64 (vh : Int), .int .i64 vl, .int .i64 vn] 38)).heap.size := by simp
      clear ha5 b5 s5 hown0 hsrc b5z
      go_wp2_with (at_builtin; go_must (refine wpList_append_owns rfl _ _ 22 22 rfl (w3.heap.size + 1) 45 j0 _ 5 56 Try.underlying22 hji hy0 hy1 hy2 rfl _ 0 _ rfl HOz.out _ nv _ rfl HSr.out (by unfold maxLen; omega) (by omega) (by simp) ?_))
      intro l6 w6 o6 g6 b6 _
      have hb6 := HBz.out.trans b6
      generalize w3.alloc (.cells #[.slice av nv cv, .int .u64 (vf : Int), .int .u64 (vh : Int), .int .i64 vl, .int .i64 vn] 38) = W5 at *
      have hx5 := (hb6.block _ (by have := HS5.out; omega)).trans HO5.out
      obtain ⟨a6, c6, rfl, hc61, hc62⟩ := (ownsRow.reads o6).le
      unfold maxLen at hc62
      have hst := heap_setCell_same w6 w3.heap.size 0 _ _ (.slice a6 nv c6) hx5
      simp at hst
      have htc : Touch w6 (w6.setCell ⟨w3.heap.size, 0, none⟩ (.slice a6 nv c6)) [w3.heap.size] := (Touch.refl w6 _).setCell (.inl (by simp)) _
      have ho7 := own_touch o6 htc (fun g hg => by have := (own_bound o6 hg).1; simp; omega)
      have hb7 : Below (w.heap.size + 2) W2 (w6.setCell ⟨w3.heap.size, 0, none⟩ (.slice a6 nv c6)) := (HB5.out.trans (hb6.mono (by omega))).trans (htc.below (B := w.heap.size + 2) (by have := HB5.out.size; have := hb6.size; rw [S2.out] at *; omega) (by simp; omega))
      have rf := Lib.frozen_of_heap hx5
      have hl6 : w3.heap.size < w6.heap.size := (Array.getElem?_eq_some_iff.1 hx5).1
      have r0 := Lib.cell_of_heap hx5 0
      have r1 := Lib.cell_of_heap hx5 1
      have r2 := Lib.cell_of_heap hx5 2
      have r3 := Lib.cell_of_heap hx5 3
      have r4 := Lib.cell_of_heap hx5 4
      simp at r0 r1 r2 r3 r4
      have HR7 := Lib.hid (ownsRow.reads ho7)
      have HB7 := Lib.hid hb7
      have HY7 := Lib.hid hst
      clear hx5 hst htc ho7 hb7 o6 g6 b6 hb6 HOz HSr HBz lt5 HO5 HS5 HB5
      go_upto_region 7 with fail
      generalize w6.setCell ⟨w3.heap.size, 0, none⟩ (.slice a6 nv c6) = w7 at *
      clear r0 r1 r2 r3 r4 rf hl6 v0 v1 v2 v3 v4 x0 x1 x2 x3 x4 x5 l0 l1 hsz
      have q1 := ((HB7.out).block _ (by omega)).trans X1.out
      have q2 := ((HB7.out).block _ (by omega)).trans X2.out
      have hsz := (HB7.out).size
      rw [S2.out] at hsz
      have l0 : w.heap.size < w7.heap.size := by omega
      have l1 : w.heap.size + 1 < w7.heap.size := by omega
      have v0 := Lib.cell_of_heap q1 0
      have v1 := Lib.cell_of_heap q1 1
      have v2 := Lib.cell_of_heap q1 2
      have v3 := Lib.cell_of_heap q1 3
      have v4 := Lib.cell_of_heap q1 4
      simp at v0 v1 v2 v3 v4
      have x0 := Lib.cell_of_heap q2 0
      have x1 := Lib.cell_of_heap q2 1
      have x2 := Lib.cell_of_heap q2 2
      have x3 := Lib.cell_of_heap q2 3
      have x4 := Lib.cell_of_heap q2 4
      have x5 := Lib.cell_of_heap q2 5
      simp at x0 x1 x2 x3 x4 x5
      clear q1 q2
      have y0 := Lib.cell_of_heap HY7.out 0
      have y1 := Lib.cell_of_heap HY7.out 1
      have y2 := Lib.cell_of_heap HY7.out 2
      have y3 := Lib.cell_of_heap HY7.out 3
      have y4 := Lib.cell_of_heap HY7.out 4
      simp at y0 y1 y2 y3 y4
      have l5 : w3.heap.size < w7.heap.size := (Array.getElem?_eq_some_iff.1 HY7.out).1
      have hrt : TRows w7 (.slice a6 nv c6) vt := by unfold TRows; rw [LV.out]; exact HR7.out
      have hBw7 : Below w.heap.size w w7 := B2.out.trans (HB7.out.mono (by omega))
      have HBw7 := Lib.hid hBw7
      have HRt := Lib.hid hrt
      have hap := apply_any w7 ⟨vt, vf, vh, vl, vn⟩ ⟨xa, xd, xf, xh, xl, xn⟩ a6 ax bx nv c6 nx cx mx dx hrt (HX.out.rows.below hBw7) (HX.out.drop.below' hBw7) (by show vt.length + xa.length + xd.length ≤ _; rw [LX.out, LV.out, MX.out]; omega) (fun t ht => inI_wf (HV.out.ok t ht).1) (fun t ht => inI_wf (HX.out.ok t ht).1) (fun x hx => inI_wf (HX.out.dok x hx))
      obtain ⟨⟨⟨At, Af, Ah, Al, An⟩, e1⟩, hR1⟩ : ∃ r, appl ⟨vt, vf, vh, vl, vn⟩ ⟨xa, xd, xf, xh, xl, xn⟩ = r := ⟨_, rfl⟩
      rw [hR1] at hap
      simp only [vv, ev] at hap
      have HAp := Lib.hid hap
      have HR1 := Lib.hid hR1
      clear hap hR1 hrt hBw7
      go_wp2_with (go_at_call 15; go_must (refine HAp.out.mono ?_))
      rintro e w8 ⟨a8, n8, c8, rfl, o8, b8⟩
      simp only [vv] at *
      have HB8 := Lib.hid (HB7.out.trans (b8.mono hsz))
      have HY8 := Lib.hid ((b8.block _ l5).trans HY7.out)
      have HR8 := Lib.hid (HRt.out.below b8)
      have HT8 := Lib.hid (show TRows w8 (.slice a8 n8 c8) At from ownsRow.reads o8)
      clear v0 v1 v2 v3 v4 x0 x1 x2 x3 x4 x5 y0 y1 y2 y3 y4 l0 l1 l5 hsz HY7 HR7 HRt HB7 HAp b8 o8 HBw7
      have q1 := ((HB8.out).block _ (by omega)).trans X1.out
      have q2 := ((HB8.out).block _ (by omega)).trans X2.out
      have hsz := (HB8.out).size
      rw [S2.out] at hsz
      have l0 : w.heap.size < w8.heap.size := by omega
      have l1 : w.heap.size + 1 < w8.heap.size := by omega
      have v0 := Lib.cell_of_heap q1 0
      have v1 := Lib.cell_of_heap q1 1
      have v2 := Lib.cell_of_heap q1 2
      have v3 := Lib.cell_of_heap q1 3
      have v4 := Lib.cell_of_heap q1 4
      simp at v0 v1 v2 v3 v4
      have x0 := Lib.cell_of_heap q2 0
      have x1 := Lib.cell_of_heap q2 1
      have x2 := Lib.cell_of_heap q2 2
      have x3 := Lib.cell_of_heap q2 3
      have x4 := Lib.cell_of_heap q2 4
      have x5 := Lib.cell_of_heap q2 5
      simp at x0 x1 x2 x3 x4 x5
      clear q1 q2
      have hb9 : Below w8.heap.size w8 (w8.alloc (.cells #[.slice a8 n8 c8, .int .u64 (Af : Int), .int .u64 (Ah : Int), .int .i64 Al, .int .i64 An] 38)) := (Below.refl _ _).alloc (Nat.le_refl _) _
      have hBw9 : Below w.heap.size w (w8.alloc (.cells #[.slice a8 n8 c8, .int .u64 (Af : Int), .int .u64 (Ah : Int), .int .i64 Al, .int .i64 An] 38)) := B2.out.trans ((HB8.out.trans (hb9.mono hsz)).mono (by omega))
      have hap := refapply_any (w8.alloc (.cells #[.slice a8 n8 c8, .int .u64 (Af : Int), .int .u64 (Ah : Int), .int .i64 Al, .int .i64 An] 38)) ⟨vt, vf, vh, vl, vn⟩ ⟨xa, xd, xf, xh, xl, xn⟩ av ax bx nv cv nx cx mx dx (HV.out.rows.below hBw9) (HX.out.rows.below hBw9) (HX.out.drop.below' hBw9) (by show vt.length + xa.length + xd.length ≤ _; rw [LX.out, LV.out, MX.out]; omega)
      rw [HR1.out] at hap
      simp only [vv, ev] at hap
      have HAp := Lib.hid hap
      have HX9 := Lib.hid (heap_alloc_new w8 (.cells #[.slice a8 n8 c8, .int .u64 (Af : Int), .int .u64 (Ah : Int), .int .i64 Al, .int .i64 An] 38))
      have HB9 := Lib.hid (HB8.out.trans (hb9.mono hsz))
      have HY9 := Lib.hid ((hb9.block _ (Array.getElem?_eq_some_iff.1 HY8.out).1).trans HY8.out)
      have HR9 := Lib.hid (HR8.out.below hb9)
      have HT9 := Lib.hid (HT8.out.below hb9)
      have hs9 : (w8.alloc (.cells #[.slice a8 n8 c8, .int .u64 (Af : Int), .int .u64 (Ah : Int), .int .i64 Al, .int .i64 An] 38)).heap.size = w8.heap.size + 1 := by simp
      have HS9 := Lib.hid hs9
      clear hap hb9 hBw9 HY8 HR8 HT8 HB8 HR1 hs9
      go_wp2_with (go_at_call 16; go_must (refine HAp.out.mono ?_))
      rintro e w10 ⟨a10, n10, c10, rfl, o10, b10⟩
      simp only [vv] at *
      generalize w8.alloc (.cells #[.slice a8 n8 c8, .int .u64 (Af : Int), .int .u64 (Ah : Int), .int .i64 Al, .int .i64 An] 38) = W9 at *
      clear v0 v1 v2 v3 v4 x0 x1 x2 x3 x4 x5 l0 l1
      have hs10 := b10.size
      rw [HS9.out] at hs10
      have HB10 := Lib.hid (HB9.out.trans (b10.mono (by rw [HS9.out]; omega)))
      have HX10 := Lib.hid ((b10.block _ (by rw [HS9.out]; omega)).trans HX9.out)
      have HY10 := Lib.hid ((b10.block _ (Array.getElem?_eq_some_iff.1 HY9.out).1).trans HY9.out)
      have HR10 := Lib.hid (HR9.out.below b10)
      have HT10 := Lib.hid (HT9.out.below b10)
      have HU10 := Lib.hid (show TRows w10 (.slice a10 n10 c10) At from ownsRow.reads o10)
      clear b10 o10 HB9 HX9 HY9 HR9 HT9 HAp hsz
      have hb11 : Below w10.heap.size w10 (w10.alloc (.cells #[.slice a10 n10 c10, .int .u64 (Af : Int), .int .u64 (Ah : Int), .int .i64 Al, .int .i64 An] 38)) := (Below.refl _ _).alloc (Nat.le_refl _) _
      have hsm := sameV_any (w10.alloc (.cells #[.slice a10 n10 c10, .int .u64 (Af : Int), .int .u64 (Ah : Int), .int .i64 Al, .int .i64 An] 38)) ⟨At, Af, Ah, Al, An⟩ ⟨At, Af, Ah, Al, An⟩ a8 a10 n8 c8 n10 c10 (HT10.out.below hb11) (HU10.out.below hb11)
      rw [same_self'] at hsm
      simp only [vv] at hsm
      have HSm := Lib.hid hsm
      have hl8 : w8.heap.size < w10.heap.size := by omega
      have z0 := Lib.cell_of_heap HX10.out 0
      have z1 := Lib.cell_of_heap HX10.out 1
      have z2 := Lib.cell_of_heap HX10.out 2
      have z3 := Lib.cell_of_heap HX10.out 3
      have z4 := Lib.cell_of_heap HX10.out 4
      simp at z0 z1 z2 z3 z4
      have HB11 := Lib.hid (HB10.out.trans (hb11.mono (by have := HB10.out.size; rw [S2.out] at this; omega)))
      have HY11 := Lib.hid ((hb11.block _ (Array.getElem?_eq_some_iff.1 HY10.out).1).trans HY10.out)
      have HR11 := Lib.hid (HR10.out.below hb11)
      clear hsm hb11 HB10 HX10 HY10 HR10 HT10 HU10
      go_wp2_with (go_at_call 17; go_must (refine HSm.out.mono ?_))
      rintro e w12 ⟨rfl, b12⟩
      generalize w10.alloc (.cells #[.slice a10 n10 c10, .int .u64 (Af : Int), .int .u64 (Ah : Int), .int .i64 Al, .int .i64 An] 38) = W11 at *
      clear z0 z1 z2 z3 z4 hl8 HSm
      have HB12 := Lib.hid (HB11.out.trans (b12.mono (by have := HB11.out.size; rw [S2.out] at this; omega)))
      have HY12 := Lib.hid ((b12.block _ (Array.getElem?_eq_some_iff.1 HY11.out).1).trans HY11.out)
      have hBw12 : Below w.heap.size w w12 := B2.out.trans (HB12.out.mono (by omega))
      have HBw12 := Lib.hid hBw12
      have hsm := sameV_any w12 ⟨vt, vf, vh, vl, vn⟩ ⟨vt, vf, vh, vl, vn⟩ a6 av nv c6 nv cv (HR11.out.below b12) (HV.out.rows.below hBw12)
      rw [same_self'] at hsm
      simp only [vv] at hsm
      have HSm := Lib.hid hsm
      have l5 : w3.heap.size < w12.heap.size := (Array.getElem?_eq_some_iff.1 HY12.out).1
      clear hsm hBw12 b12 HB11 HY11 HR11
      have q1 := ((HB12.out).block _ (by omega)).trans X1.out
      have q2 := ((HB12.out).block _ (by omega)).trans X2.out
      have hsz := (HB12.out).size
      rw [S2.out] at hsz
      have l0 : w.heap.size < w12.heap.size := by omega
      have l1 : w.heap.size + 1 < w12.heap.size := by omega
      have v0 := Lib.cell_of_heap q1 0
      have v1 := Lib.cell_of_heap q1 1
      have v2 := Lib.cell_of_heap q1 2
      have v3 := Lib.cell_of_heap q1 3
      have v4 := Lib.cell_of_heap q1 4
      simp at v0 v1 v2 v3 v4
      have x0 := Lib.cell_of_heap q2 0
      have x1 := Lib.cell_of_heap q2 1
      have x2 := Lib.cell_of_heap q2 2
      have x3 := Lib.cell_of_heap q2 3
      have x4 := Lib.cell_of_heap q2 4
      have x5 := Lib.cell_of_heap q2 5
      simp at x0 x1 x2 x3 x4 x5
      clear q1 q2
      have y0 := Lib.cell_of_heap HY12.out 0
      have y1 := Lib.cell_of_heap HY12.out 1
      have y2 := Lib.cell_of_heap HY12.out 2
      have y3 := Lib.cell_of_heap HY12.out 3
      have y4 := Lib.cell_of_heap HY12.out 4
      simp at y0 y1 y2 y3 y4
      go_wp2_with (go_at_call 17; go_must (refine HSm.out.mono ?_))
      rintro e w13 ⟨rfl, b13⟩
      have HBf := Lib.hid (HBw12.out.trans (b13.mono HBw12.out.size))
      go_wp2
      go_ret
      exact ⟨rfl, HBf.out⟩
end Go.Proofs.Ythjimldojdhccaa
