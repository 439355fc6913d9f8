/- sentryref37.SameResponse (written by gen_wiresr.py, gen_wiresr3.py). -/
import Derived.Test.YtdonibkkdhokpaaGreatZWireSr
namespace Go.Proofs.YtdonibkkdhokpaaGreat
open Go Go.RowKit Go.Lib

theorem rows_intC {ok : Nat → Prop} {w : World} {a : Option Addr} {n c : Nat} {ys : List Int} (h : RowsAt ok w (.slice a n c) n (ys.map intC)) {i : Nat} {x : Int} (hx : ys[i]? = some x) : ∃ g off, a = some ⟨g, off, none⟩ ∧ g < w.heap.size ∧ w.cell? ⟨g, off + i, none⟩ = some (.int .i64 x) := by
  obtain ⟨a', cap, hv, h1, h2, h3⟩ := h
  cases hv
  obtain ⟨b, off, ha, _, hl, hc⟩ := h3 i (intC x) (by rw [List.getElem?_map, hx]; rfl)
  exact ⟨b, off, ha, hl, hc⟩

set_option maxRecDepth 100000 in
set_option maxHeartbeats 8000000 in
theorem sameresp_any (w : World) (p : Resp) (a1 a2 a3 a4 a5 sa a : Option Addr) (c1 c2 c3 c4 c5 sc cap : Nat) (b1 b2 b3 b4 b5 sb b : Option Addr) (d1 d2 d3 d4 d5 sd dap : Nat) (hr : RespR (· < w.heap.size) w p a1 a2 a3 a4 a5 sa a c1 c2 c3 c4 c5 sc cap) (hr2 : RespR (· < w.heap.size) w p b1 b2 b3 b4 b5 sb b d1 d2 d3 d4 d5 sd dap) :
    Calls Tryz.prog 10 #[.agg #[.int .u64 (p.id : Int), .int .i64 p.err, .int .u64 (p.rev : Int), .string p.token, .slice a1 p.flags.length c1, .slice a2 p.tuples.length c2, .slice a3 p.objs.length c3, .slice a4 p.events.length c4, .slice a5 p.steps.length c5, .int .i64 p.th.kind, .string p.th.o, .string p.th.i, .string p.th.rel, .slice sa p.th.subs.length sc, .slice a p.tps.length cap], .agg #[.int .u64 (p.id : Int), .int .i64 p.err, .int .u64 (p.rev : Int), .string p.token, .slice b1 p.flags.length d1, .slice b2 p.tuples.length d2, .slice b3 p.objs.length d3, .slice b4 p.events.length d4, .slice b5 p.steps.length d5, .int .i64 p.th.kind, .string p.th.o, .string p.th.i, .string p.th.rel, .slice sb p.th.subs.length sd, .slice b p.tps.length dap]] w (GivesBool w true) := by
  have HR := Lib.hid hr
  have HR2 := Lib.hid hr2
  have hUp : ∀ W, Below w.heap.size w W → RespR (· < W.heap.size) W p a1 a2 a3 a4 a5 sa a c1 c2 c3 c4 c5 sc cap ∧ RespR (· < W.heap.size) W p b1 b2 b3 b4 b5 sb b d1 d2 d3 d4 d5 sd dap := fun W hb => ⟨(hr.keep (Keeps.of_below hb)).mono (fun x _ (hx : x < w.heap.size) => Nat.lt_of_lt_of_le hx hb.size), (hr2.keep (Keeps.of_below hb)).mono (fun x _ (hx : x < w.heap.size) => Nat.lt_of_lt_of_le hx hb.size)⟩
  have HU := Lib.hid hUp
  have C1 := Lib.hid (fun W hb => samefl_any W a1 b1 p.flags.length c1 d1 p.flags rfl (by have := (hUp W hb).1.flags.reads (map_lenk flagC _); rwa [← map_flat1] at this) (by have := (hUp W hb).2.flags.reads (map_lenk flagC _); rwa [← map_flat1] at this))
  have C2 := Lib.hid (fun W hb => sametp_any W a2 b2 p.tuples.length c2 d2 p.tuples rfl ((hUp W hb).1.tuples.reads (flat_lenk T6.cells 6 (fun _ => rfl) _)) ((hUp W hb).2.tuples.reads (flat_lenk T6.cells 6 (fun _ => rfl) _)))
  have C3 := Lib.hid (fun W hb => sameob_any W a3 b3 p.objs.length c3 d3 p.objs rfl ((hUp W hb).1.objs.reads (flat_lenk T2.cells 2 (fun _ => rfl) _)) ((hUp W hb).2.objs.reads (flat_lenk T2.cells 2 (fun _ => rfl) _)))
  have C4 := Lib.hid (fun W hb => sameev_any W a4 b4 p.events.length c4 d4 p.events rfl ((hUp W hb).1.events.reads (flat_lenk Evt.cells 8 (fun _ => rfl) _)) ((hUp W hb).2.events.reads (flat_lenk Evt.cells 8 (fun _ => rfl) _)))
  have C5 := Lib.hid (fun W hb => samenode_ok _ p.th p.tps (Nat.le_refl _) W a cap b dap sa sc sb sd (hUp W hb).1.capLe (hUp W hb).1.capMax (hUp W hb).1.tree (hUp W hb).2.capLe (hUp W hb).2.capMax (hUp W hb).2.tree (hUp W hb).1.subs (hUp W hb).2.subs)
  have hs1 := hr.steps
  have hs2 := hr2.steps
  obtain ⟨_, _, hv1, g1, g2, _⟩ := hs1
  cases hv1
  obtain ⟨_, _, hv2, g3, g4, _⟩ := hs2
  cases hv2
  unfold maxLen at g2 g4
  obtain ⟨n1, hn1⟩ : ∃ n, p.flags.length = n := ⟨_, rfl⟩
  obtain ⟨n2, hn2⟩ : ∃ n, p.tuples.length = n := ⟨_, rfl⟩
  obtain ⟨n3, hn3⟩ : ∃ n, p.objs.length = n := ⟨_, rfl⟩
  obtain ⟨n4, hn4⟩ : ∃ n, p.events.length = n := ⟨_, rfl⟩
  obtain ⟨n5, hn5⟩ : ∃ n, p.steps.length = n := ⟨_, rfl⟩
  rw [hn1] at C1
  rw [hn2] at C2
  rw [hn3] at C3
  rw [hn4] at C4
  rw [hn5] at g1 g3
  have H5 := Lib.hid hn5
  rw [hn1, hn2, hn3, hn4, hn5]
  clear hr hr2 hUp hn1 hn2 hn3 hn4 hn5 HR HR2
  obtain ⟨W0, hW0⟩ : ∃ W, W = w.alloc (.cells #[.int .u64 (p.id : Int), .int .i64 p.err, .int .u64 (p.rev : Int), .string p.token, .slice a1 n1 c1, .slice a2 n2 c2, .slice a3 n3 c3, .slice a4 n4 c4, .slice a5 n5 c5, .int .i64 p.th.kind, .string p.th.o, .string p.th.i, .string p.th.rel, .slice sa p.th.subs.length sc, .slice a p.tps.length cap] 36) := ⟨_, rfl⟩
  obtain ⟨W1, hW1⟩ : ∃ W, W = W0.alloc (.cells #[.int .u64 (p.id : Int), .int .i64 p.err, .int .u64 (p.rev : Int), .string p.token, .slice b1 n1 d1, .slice b2 n2 d2, .slice b3 n3 d3, .slice b4 n4 d4, .slice b5 n5 d5, .int .i64 p.th.kind, .string p.th.o, .string p.th.i, .string p.th.rel, .slice sb p.th.subs.length sd, .slice b p.tps.length dap] 36) := ⟨_, rfl⟩
  obtain ⟨N, hN⟩ : ∃ N, w.heap.size = N := ⟨_, rfl⟩
  have s0 : W0.heap.size = N + 1 := by rw [hW0, ← hN]; simp
  have s1 : W1.heap.size = N + 2 := by rw [hW1]; simp [s0]
  have b01 : Below W0.heap.size W0 W1 := by rw [hW1]; exact (Below.refl _ _).alloc (Nat.le_refl _) _
  have b0 : Below w.heap.size w W0 := by rw [hW0]; exact (Below.refl _ _).alloc (Nat.le_refl _) _
  have e0 : W0.heap[N]? = some (.cells #[.int .u64 (p.id : Int), .int .i64 p.err, .int .u64 (p.rev : Int), .string p.token, .slice a1 n1 c1, .slice a2 n2 c2, .slice a3 n3 c3, .slice a4 n4 c4, .slice a5 n5 c5, .int .i64 p.th.kind, .string p.th.o, .string p.th.i, .string p.th.rel, .slice sa p.th.subs.length sc, .slice a p.tps.length cap] 36 (0, 0)) := by rw [hW0, ← hN]; exact heap_alloc_new w _
  have e1 : W1.heap[N + 1]? = some (.cells #[.int .u64 (p.id : Int), .int .i64 p.err, .int .u64 (p.rev : Int), .string p.token, .slice b1 n1 d1, .slice b2 n2 d2, .slice b3 n3 d3, .slice b4 n4 d4, .slice b5 n5 d5, .int .i64 p.th.kind, .string p.th.o, .string p.th.i, .string p.th.rel, .slice sb p.th.subs.length sd, .slice b p.tps.length dap] 36 (0, 0)) := by rw [hW1, ← s0]; exact heap_alloc_new W0 _
  have e0' := (b01.block N (by omega)).trans e0
  have HX1 := Lib.hid e0'
  have HX2 := Lib.hid e1
  have HB := Lib.hid (b0.trans (b01.mono (by omega)))
  have HW0 := Lib.hid hW0
  have HW1 := Lib.hid hW1
  have HN := Lib.hid hN
  clear b01 b0 e0 e1 e0' hW0 hW1 hN
  go_enter Tryz.func10, Tryz.ntmps10
  go_upto_region 1 with fail
  rw [HN.out, ← HW0.out, ← HW1.out]
  clear HW0 HW1 s0
  have hl1 : N < W1.heap.size := by omega
  have hl2 : N + 1 < W1.heap.size := by omega
  have x0 := Lib.cell_of_heap HX1.out 0; have x1 := Lib.cell_of_heap HX1.out 1; have x2 := Lib.cell_of_heap HX1.out 2; have x3 := Lib.cell_of_heap HX1.out 3; have x4 := Lib.cell_of_heap HX1.out 4; have x5 := Lib.cell_of_heap HX1.out 5; have x6 := Lib.cell_of_heap HX1.out 6; have x7 := Lib.cell_of_heap HX1.out 7; have x8 := Lib.cell_of_heap HX1.out 8; have x9 := Lib.cell_of_heap HX1.out 9; have x10 := Lib.cell_of_heap HX1.out 10; have x11 := Lib.cell_of_heap HX1.out 11; have x12 := Lib.cell_of_heap HX1.out 12; have x13 := Lib.cell_of_heap HX1.out 13; have x14 := Lib.cell_of_heap HX1.out 14
  have y0 := Lib.cell_of_heap HX2.out 0; have y1 := Lib.cell_of_heap HX2.out 1; have y2 := Lib.cell_of_heap HX2.out 2; have y3 := Lib.cell_of_heap HX2.out 3; have y4 := Lib.cell_of_heap HX2.out 4; have y5 := Lib.cell_of_heap HX2.out 5; have y6 := Lib.cell_of_heap HX2.out 6; have y7 := Lib.cell_of_heap HX2.out 7; have y8 := Lib.cell_of_heap HX2.out 8; have y9 := Lib.cell_of_heap HX2.out 9; have y10 := Lib.cell_of_heap HX2.out 10; have y11 := Lib.cell_of_heap HX2.out 11; have y12 := Lib.cell_of_heap HX2.out 12; have y13 := Lib.cell_of_heap HX2.out 13; have y14 := Lib.cell_of_heap HX2.out 14
  simp at x0 x1 x2 x3 x4 x5 x6 x7 x8 x9 x10 x11 x12 x13 x14 y0 y1 y2 y3 y4 y5 y6 y7 y8 y9 y10 y11 y12 y13 y14
  have HC := Lib.hid (C1.out _ HB.out)
  go_wp2_with (go_at_call 60; go_must (refine HC.out.mono ?_))
  rintro e U1 ⟨rfl, bb⟩
  have HX1 := Lib.hid ((bb.block N hl1).trans HX1.out)
  have HX2 := Lib.hid ((bb.block (N + 1) hl2).trans HX2.out)
  have HB := Lib.hid (HB.out.trans (bb.mono HB.out.size))
  have hl1 : N < U1.heap.size := (Array.getElem?_eq_some_iff.1 HX1.out).1
  have hl2 : N + 1 < U1.heap.size := (Array.getElem?_eq_some_iff.1 HX2.out).1
  clear bb HC C1 x0 x1 x2 x3 x4 x5 x6 x7 x8 x9 x10 x11 x12 x13 x14 y0 y1 y2 y3 y4 y5 y6 y7 y8 y9 y10 y11 y12 y13 y14
  have x0 := Lib.cell_of_heap HX1.out 0; have x1 := Lib.cell_of_heap HX1.out 1; have x2 := Lib.cell_of_heap HX1.out 2; have x3 := Lib.cell_of_heap HX1.out 3; have x4 := Lib.cell_of_heap HX1.out 4; have x5 := Lib.cell_of_heap HX1.out 5; have x6 := Lib.cell_of_heap HX1.out 6; have x7 := Lib.cell_of_heap HX1.out 7; have x8 := Lib.cell_of_heap HX1.out 8; have x9 := Lib.cell_of_heap HX1.out 9; have x10 := Lib.cell_of_heap HX1.out 10; have x11 := Lib.cell_of_heap HX1.out 11; have x12 := Lib.cell_of_heap HX1.out 12; have x13 := Lib.cell_of_heap HX1.out 13; have x14 := Lib.cell_of_heap HX1.out 14
  have y0 := Lib.cell_of_heap HX2.out 0; have y1 := Lib.cell_of_heap HX2.out 1; have y2 := Lib.cell_of_heap HX2.out 2; have y3 := Lib.cell_of_heap HX2.out 3; have y4 := Lib.cell_of_heap HX2.out 4; have y5 := Lib.cell_of_heap HX2.out 5; have y6 := Lib.cell_of_heap HX2.out 6; have y7 := Lib.cell_of_heap HX2.out 7; have y8 := Lib.cell_of_heap HX2.out 8; have y9 := Lib.cell_of_heap HX2.out 9; have y10 := Lib.cell_of_heap HX2.out 10; have y11 := Lib.cell_of_heap HX2.out 11; have y12 := Lib.cell_of_heap HX2.out 12; have y13 := Lib.cell_of_heap HX2.out 13; have y14 := Lib.cell_of_heap HX2.out 14
  simp at x0 x1 x2 x3 x4 x5 x6 x7 x8 x9 x10 x11 x12 x13 x14 y0 y1 y2 y3 y4 y5 y6 y7 y8 y9 y10 y11 y12 y13 y14
  have HC := Lib.hid (C2.out _ HB.out)
  go_wp2_with (go_at_call 61; go_must (refine HC.out.mono ?_))
  rintro e U2 ⟨rfl, bb⟩
  have HX1 := Lib.hid ((bb.block N hl1).trans HX1.out)
  have HX2 := Lib.hid ((bb.block (N + 1) hl2).trans HX2.out)
  have HB := Lib.hid (HB.out.trans (bb.mono HB.out.size))
  have hl1 : N < U2.heap.size := (Array.getElem?_eq_some_iff.1 HX1.out).1
  have hl2 : N + 1 < U2.heap.size := (Array.getElem?_eq_some_iff.1 HX2.out).1
  clear bb HC C2 x0 x1 x2 x3 x4 x5 x6 x7 x8 x9 x10 x11 x12 x13 x14 y0 y1 y2 y3 y4 y5 y6 y7 y8 y9 y10 y11 y12 y13 y14
  have x0 := Lib.cell_of_heap HX1.out 0; have x1 := Lib.cell_of_heap HX1.out 1; have x2 := Lib.cell_of_heap HX1.out 2; have x3 := Lib.cell_of_heap HX1.out 3; have x4 := Lib.cell_of_heap HX1.out 4; have x5 := Lib.cell_of_heap HX1.out 5; have x6 := Lib.cell_of_heap HX1.out 6; have x7 := Lib.cell_of_heap HX1.out 7; have x8 := Lib.cell_of_heap HX1.out 8; have x9 := Lib.cell_of_heap HX1.out 9; have x10 := Lib.cell_of_heap HX1.out 10; have x11 := Lib.cell_of_heap HX1.out 11; have x12 := Lib.cell_of_heap HX1.out 12; have x13 := Lib.cell_of_heap HX1.out 13; have x14 := Lib.cell_of_heap HX1.out 14
  have y0 := Lib.cell_of_heap HX2.out 0; have y1 := Lib.cell_of_heap HX2.out 1; have y2 := Lib.cell_of_heap HX2.out 2; have y3 := Lib.cell_of_heap HX2.out 3; have y4 := Lib.cell_of_heap HX2.out 4; have y5 := Lib.cell_of_heap HX2.out 5; have y6 := Lib.cell_of_heap HX2.out 6; have y7 := Lib.cell_of_heap HX2.out 7; have y8 := Lib.cell_of_heap HX2.out 8; have y9 := Lib.cell_of_heap HX2.out 9; have y10 := Lib.cell_of_heap HX2.out 10; have y11 := Lib.cell_of_heap HX2.out 11; have y12 := Lib.cell_of_heap HX2.out 12; have y13 := Lib.cell_of_heap HX2.out 13; have y14 := Lib.cell_of_heap HX2.out 14
  simp at x0 x1 x2 x3 x4 x5 x6 x7 x8 x9 x10 x11 x12 x13 x14 y0 y1 y2 y3 y4 y5 y6 y7 y8 y9 y10 y11 y12 y13 y14
  have HC := Lib.hid (C3.out _ HB.out)
  go_wp2_with (go_at_call 62; go_must (refine HC.out.mono ?_))
  rintro e U3 ⟨rfl, bb⟩
  have HX1 := Lib.hid ((bb.block N hl1).trans HX1.out)
  have HX2 := Lib.hid ((bb.block (N + 1) hl2).trans HX2.out)
  have HB := Lib.hid (HB.out.trans (bb.mono HB.out.size))
  have hl1 : N < U3.heap.size := (Array.getElem?_eq_some_iff.1 HX1.out).1
  have hl2 : N + 1 < U3.heap.size := (Array.getElem?_eq_some_iff.1 HX2.out).1
  clear bb HC C3 x0 x1 x2 x3 x4 x5 x6 x7 x8 x9 x10 x11 x12 x13 x14 y0 y1 y2 y3 y4 y5 y6 y7 y8 y9 y10 y11 y12 y13 y14
  have x0 := Lib.cell_of_heap HX1.out 0; have x1 := Lib.cell_of_heap HX1.out 1; have x2 := Lib.cell_of_heap HX1.out 2; have x3 := Lib.cell_of_heap HX1.out 3; have x4 := Lib.cell_of_heap HX1.out 4; have x5 := Lib.cell_of_heap HX1.out 5; have x6 := Lib.cell_of_heap HX1.out 6; have x7 := Lib.cell_of_heap HX1.out 7; have x8 := Lib.cell_of_heap HX1.out 8; have x9 := Lib.cell_of_heap HX1.out 9; have x10 := Lib.cell_of_heap HX1.out 10; have x11 := Lib.cell_of_heap HX1.out 11; have x12 := Lib.cell_of_heap HX1.out 12; have x13 := Lib.cell_of_heap HX1.out 13; have x14 := Lib.cell_of_heap HX1.out 14
  have y0 := Lib.cell_of_heap HX2.out 0; have y1 := Lib.cell_of_heap HX2.out 1; have y2 := Lib.cell_of_heap HX2.out 2; have y3 := Lib.cell_of_heap HX2.out 3; have y4 := Lib.cell_of_heap HX2.out 4; have y5 := Lib.cell_of_heap HX2.out 5; have y6 := Lib.cell_of_heap HX2.out 6; have y7 := Lib.cell_of_heap HX2.out 7; have y8 := Lib.cell_of_heap HX2.out 8; have y9 := Lib.cell_of_heap HX2.out 9; have y10 := Lib.cell_of_heap HX2.out 10; have y11 := Lib.cell_of_heap HX2.out 11; have y12 := Lib.cell_of_heap HX2.out 12; have y13 := Lib.cell_of_heap HX2.out 13; have y14 := Lib.cell_of_heap HX2.out 14
  simp at x0 x1 x2 x3 x4 x5 x6 x7 x8 x9 x10 x11 x12 x13 x14 y0 y1 y2 y3 y4 y5 y6 y7 y8 y9 y10 y11 y12 y13 y14
  have HC := Lib.hid (C4.out _ HB.out)
  go_wp2_with (go_at_call 63; go_must (refine HC.out.mono ?_))
  rintro e U4 ⟨rfl, bb⟩
  have HX1 := Lib.hid ((bb.block N hl1).trans HX1.out)
  have HX2 := Lib.hid ((bb.block (N + 1) hl2).trans HX2.out)
  have HB := Lib.hid (HB.out.trans (bb.mono HB.out.size))
  have hl1 : N < U4.heap.size := (Array.getElem?_eq_some_iff.1 HX1.out).1
  have hl2 : N + 1 < U4.heap.size := (Array.getElem?_eq_some_iff.1 HX2.out).1
  clear bb HC C4 x0 x1 x2 x3 x4 x5 x6 x7 x8 x9 x10 x11 x12 x13 x14 y0 y1 y2 y3 y4 y5 y6 y7 y8 y9 y10 y11 y12 y13 y14
  have x0 := Lib.cell_of_heap HX1.out 0; have x1 := Lib.cell_of_heap HX1.out 1; have x2 := Lib.cell_of_heap HX1.out 2; have x3 := Lib.cell_of_heap HX1.out 3; have x4 := Lib.cell_of_heap HX1.out 4; have x5 := Lib.cell_of_heap HX1.out 5; have x6 := Lib.cell_of_heap HX1.out 6; have x7 := Lib.cell_of_heap HX1.out 7; have x8 := Lib.cell_of_heap HX1.out 8; have x9 := Lib.cell_of_heap HX1.out 9; have x10 := Lib.cell_of_heap HX1.out 10; have x11 := Lib.cell_of_heap HX1.out 11; have x12 := Lib.cell_of_heap HX1.out 12; have x13 := Lib.cell_of_heap HX1.out 13; have x14 := Lib.cell_of_heap HX1.out 14
  have y0 := Lib.cell_of_heap HX2.out 0; have y1 := Lib.cell_of_heap HX2.out 1; have y2 := Lib.cell_of_heap HX2.out 2; have y3 := Lib.cell_of_heap HX2.out 3; have y4 := Lib.cell_of_heap HX2.out 4; have y5 := Lib.cell_of_heap HX2.out 5; have y6 := Lib.cell_of_heap HX2.out 6; have y7 := Lib.cell_of_heap HX2.out 7; have y8 := Lib.cell_of_heap HX2.out 8; have y9 := Lib.cell_of_heap HX2.out 9; have y10 := Lib.cell_of_heap HX2.out 10; have y11 := Lib.cell_of_heap HX2.out 11; have y12 := Lib.cell_of_heap HX2.out 12; have y13 := Lib.cell_of_heap HX2.out 13; have y14 := Lib.cell_of_heap HX2.out 14
  simp at x0 x1 x2 x3 x4 x5 x6 x7 x8 x9 x10 x11 x12 x13 x14 y0 y1 y2 y3 y4 y5 y6 y7 y8 y9 y10 y11 y12 y13 y14
  have HC := Lib.hid (C5.out _ HB.out)
  go_wp2_with (go_at_call 64; go_must (refine HC.out.mono ?_))
  rintro e U5 ⟨rfl, bb⟩
  have HX1 := Lib.hid ((bb.block N hl1).trans HX1.out)
  have HX2 := Lib.hid ((bb.block (N + 1) hl2).trans HX2.out)
  have HB := Lib.hid (HB.out.trans (bb.mono HB.out.size))
  have hl1 : N < U5.heap.size := (Array.getElem?_eq_some_iff.1 HX1.out).1
  have hl2 : N + 1 < U5.heap.size := (Array.getElem?_eq_some_iff.1 HX2.out).1
  clear bb HC C5 x0 x1 x2 x3 x4 x5 x6 x7 x8 x9 x10 x11 x12 x13 x14 y0 y1 y2 y3 y4 y5 y6 y7 y8 y9 y10 y11 y12 y13 y14
  have x0 := Lib.cell_of_heap HX1.out 0; have x1 := Lib.cell_of_heap HX1.out 1; have x2 := Lib.cell_of_heap HX1.out 2; have x3 := Lib.cell_of_heap HX1.out 3; have x4 := Lib.cell_of_heap HX1.out 4; have x5 := Lib.cell_of_heap HX1.out 5; have x6 := Lib.cell_of_heap HX1.out 6; have x7 := Lib.cell_of_heap HX1.out 7; have x8 := Lib.cell_of_heap HX1.out 8; have x9 := Lib.cell_of_heap HX1.out 9; have x10 := Lib.cell_of_heap HX1.out 10; have x11 := Lib.cell_of_heap HX1.out 11; have x12 := Lib.cell_of_heap HX1.out 12; have x13 := Lib.cell_of_heap HX1.out 13; have x14 := Lib.cell_of_heap HX1.out 14
  have y0 := Lib.cell_of_heap HX2.out 0; have y1 := Lib.cell_of_heap HX2.out 1; have y2 := Lib.cell_of_heap HX2.out 2; have y3 := Lib.cell_of_heap HX2.out 3; have y4 := Lib.cell_of_heap HX2.out 4; have y5 := Lib.cell_of_heap HX2.out 5; have y6 := Lib.cell_of_heap HX2.out 6; have y7 := Lib.cell_of_heap HX2.out 7; have y8 := Lib.cell_of_heap HX2.out 8; have y9 := Lib.cell_of_heap HX2.out 9; have y10 := Lib.cell_of_heap HX2.out 10; have y11 := Lib.cell_of_heap HX2.out 11; have y12 := Lib.cell_of_heap HX2.out 12; have y13 := Lib.cell_of_heap HX2.out 13; have y14 := Lib.cell_of_heap HX2.out 14
  simp at x0 x1 x2 x3 x4 x5 x6 x7 x8 x9 x10 x11 x12 x13 x14 y0 y1 y2 y3 y4 y5 y6 y7 y8 y9 y10 y11 y12 y13 y14
  go_wp2
  clear x0 x1 x2 x3 x4 x5 x6 x7 x8 x9 x10 x11 x12 x13 x14 y0 y1 y2 y3 y4 y5 y6 y7 y8 y9 y10 y11 y12 y13 y14
  go_loopw [87] (fun iv wr => SrRel U5 n5 iv wr) (fun iv _ => n5 - (intOf iv).toNat)
  case atStart => exact ⟨0, rfl, Nat.zero_le _, Below.refl _ _⟩
  case round => as_aux_lemma =>
    obtain ⟨i, rfl, hin, hb⟩ := hrel
    by_cases hlt : i < n5
    · have hltI : (i : Int) < n5 := by omega
      have h0I : (0 : Int) ≤ i := by omega
      have hbw := HB.out.trans (hb.mono HB.out.size)
      obtain ⟨y, hy⟩ : ∃ y, p.steps[i]? = some y := ⟨p.steps[i]'(by rw [H5.out]; exact hlt), List.getElem?_eq_getElem _⟩
      obtain ⟨hq1, hq2⟩ := HU.out wr hbw
      have hss1 := hq1.steps
      have hss2 := hq2.steps
      rw [H5.out] at hss1 hss2
      obtain ⟨_, _, hv, _, _, hst1⟩ := hss1
      cases hv
      obtain ⟨_, _, hv, _, _, hst2⟩ := hss2
      cases hv
      obtain ⟨g, off, cs, rfl, hgB, hgl, hcs, xa, xcap, ba, bc, rfl, hc1, hc2, htr, hro⟩ := hst1 i y hy
      obtain ⟨g', off', cs2, rfl, hgB', hgl', hcs2, za, zcap, bz, bd, rfl, hc3, hc4, htr2, hro2⟩ := hst2 i y hy
      have k0 := hcs 0 _ rfl; have k1 := hcs 1 _ rfl; have k2 := hcs 2 _ rfl; have k3 := hcs 3 _ rfl; have k4 := hcs 4 _ rfl; have k5 := hcs 5 _ rfl; have k6 := hcs 6 _ rfl; have k7 := hcs 7 _ rfl; have k8 := hcs 8 _ rfl; have k9 := hcs 9 _ rfl; have k10 := hcs 10 _ rfl
      have q0 := hcs2 0 _ rfl; have q1 := hcs2 1 _ rfl; have q2 := hcs2 2 _ rfl; have q3 := hcs2 3 _ rfl; have q4 := hcs2 4 _ rfl; have q5 := hcs2 5 _ rfl; have q6 := hcs2 6 _ rfl; have q7 := hcs2 7 _ rfl; have q8 := hcs2 8 _ rfl; have q9 := hcs2 9 _ rfl; have q10 := hcs2 10 _ rfl
      simp only [Nat.add_zero] at k0 k1 k2 k3 k4 k5 k6 k7 k8 k9 k10 q0 q1 q2 q3 q4 q5 q6 q7 q8 q9 q10
      obtain ⟨ny, hny⟩ : ∃ n, y.ys.length = n := ⟨_, rfl⟩
      rw [hny] at k10 q10 hro hro2
      have HNy := Lib.hid hny
      clear hny
      have hnyb : ny ≤ 9223372036854775807 := by
        obtain ⟨_, _, hv, u1, u2, _⟩ := hro
        cases hv
        unfold maxLen at u2
        omega
      have hx1 := (hb.block N hl1).trans HX1.out
      have hx2 := (hb.block (N + 1) hl2).trans HX2.out
      have z2 := Lib.cell_of_heap hx2 8
      simp at z2
      have hbs := hb.size
      have hm2 : N + 1 < wr.heap.size := by omega
      obtain ⟨M, hM⟩ : ∃ M, wr.heap.size = M := ⟨_, rfl⟩
      obtain ⟨V0, hV0⟩ : ∃ W, W = wr.alloc (.cells #[.string y.p.a, .string y.p.b, .string y.p.c, .int .i64 y.h.kind, .string y.h.a, .string y.h.b, .slice xa y.ps.length xcap, .string y.s.a, .string y.s.b, .string y.s.c, .slice ba ny bc] 74) := ⟨_, rfl⟩
      obtain ⟨V1, hV1⟩ : ∃ W, W = V0.alloc (.cells #[.string y.p.a, .string y.p.b, .string y.p.c, .int .i64 y.h.kind, .string y.h.a, .string y.h.b, .slice za y.ps.length zcap, .string y.s.a, .string y.s.b, .string y.s.c, .slice bz ny bd] 74) := ⟨_, rfl⟩
      have t0 : V0.heap.size = M + 1 := by rw [hV0, ← hM]; simp
      have t1 : V1.heap.size = M + 2 := by rw [hV1]; simp [t0]
      have c01 : Below V0.heap.size V0 V1 := by rw [hV1]; exact (Below.refl _ _).alloc (Nat.le_refl _) _
      have c0 : Below wr.heap.size wr V0 := by rw [hV0]; exact (Below.refl _ _).alloc (Nat.le_refl _) _
      have c02 := c0.trans (c01.mono (by omega))
      have m0 : V0.heap[M]? = some (.cells #[.string y.p.a, .string y.p.b, .string y.p.c, .int .i64 y.h.kind, .string y.h.a, .string y.h.b, .slice xa y.ps.length xcap, .string y.s.a, .string y.s.b, .string y.s.c, .slice ba ny bc] 74 (0, 0)) := by rw [hV0, ← hM]; exact heap_alloc_new wr _
      have m1 : V1.heap[M + 1]? = some (.cells #[.string y.p.a, .string y.p.b, .string y.p.c, .int .i64 y.h.kind, .string y.h.a, .string y.h.b, .slice za y.ps.length zcap, .string y.s.a, .string y.s.b, .string y.s.c, .slice bz ny bd] 74 (0, 0)) := by rw [hV1, ← t0]; exact heap_alloc_new V0 _
      have m0' := (c01.block M (by omega)).trans m0
      have HM1 := Lib.hid m0'
      have HM2 := Lib.hid m1
      have HBr := Lib.hid (hb.trans (c02.mono hbs))
      have hsr := samerule_ok _ y.h y.ps (Nat.le_refl _) V1 xa xcap za zcap hc1 hc2 (TrsAt.mono (fun x hx _ => hx) (ruHd_mono (fun x hx _ => hx)) y.ps (TrsAt.keep (Keeps.of_below_size c02) (ruHd_keep (Keeps.of_below_size c02)) y.ps htr)) hc3 hc4 (TrsAt.mono (fun x hx _ => hx) (ruHd_mono (fun x hx _ => hx)) y.ps (TrsAt.keep (Keeps.of_below_size c02) (ruHd_keep (Keeps.of_below_size c02)) y.ps htr2))
      have HSr := Lib.hid hsr
      have HRo := Lib.hid (hro.keep (Keeps.of_below_size c02))
      have HRo2 := Lib.hid (hro2.keep (Keeps.of_below_size c02))
      have HV0 := Lib.hid hV0
      have HV1 := Lib.hid hV1
      have HM := Lib.hid hM
      have hm3 : N + 1 < V0.heap.size := by omega
      have z3 := ((c0.cell (p := ⟨N + 1, 8, none⟩) hm2).trans z2)
      have r0 := (c0.cell (p := ⟨g', off' + i * 11, none⟩) hgl').trans q0; have r1 := (c0.cell (p := ⟨g', off' + i * 11 + 1, none⟩) hgl').trans q1; have r2 := (c0.cell (p := ⟨g', off' + i * 11 + 2, none⟩) hgl').trans q2; have r3 := (c0.cell (p := ⟨g', off' + i * 11 + 3, none⟩) hgl').trans q3; have r4 := (c0.cell (p := ⟨g', off' + i * 11 + 4, none⟩) hgl').trans q4; have r5 := (c0.cell (p := ⟨g', off' + i * 11 + 5, none⟩) hgl').trans q5; have r6 := (c0.cell (p := ⟨g', off' + i * 11 + 6, none⟩) hgl').trans q6; have r7 := (c0.cell (p := ⟨g', off' + i * 11 + 7, none⟩) hgl').trans q7; have r8 := (c0.cell (p := ⟨g', off' + i * 11 + 8, none⟩) hgl').trans q8; have r9 := (c0.cell (p := ⟨g', off' + i * 11 + 9, none⟩) hgl').trans q9; have r10 := (c0.cell (p := ⟨g', off' + i * 11 + 10, none⟩) hgl').trans q10
      have hgl2 : g' < V0.heap.size := by omega
      clear hst1 hst2 hq1 hq2 hcs hcs2 htr htr2 hro hro2 hsr hx1 hx2 hb hbw c0 m0 m1 m0' hy hV0 hV1 hM
      go_upto_region 6 with fail
      rw [← HV0.out]
      simp only [HM.out]
      as_aux_lemma =>
        have HM2' := HM2
        go_upto_region 7 with fail
        rw [← HV1.out]
        clear HV0 HV1 z2 z3 k0 k1 k2 k3 k4 k5 k6 k7 k8 k9 k10 q0 q1 q2 q3 q4 q5 q6 q7 q8 q9 q10 r0 r1 r2 r3 r4 r5 r6 r7 r8 r9 r10
        as_aux_lemma =>
          have hl3 : M < V1.heap.size := by omega
          have hl4 : M + 1 < V1.heap.size := by omega
          have x0 := Lib.cell_of_heap HM1.out 0; have x1 := Lib.cell_of_heap HM1.out 1; have x2 := Lib.cell_of_heap HM1.out 2; have x3 := Lib.cell_of_heap HM1.out 3; have x4 := Lib.cell_of_heap HM1.out 4; have x5 := Lib.cell_of_heap HM1.out 5; have x6 := Lib.cell_of_heap HM1.out 6; have x7 := Lib.cell_of_heap HM1.out 7; have x8 := Lib.cell_of_heap HM1.out 8; have x9 := Lib.cell_of_heap HM1.out 9; have x10 := Lib.cell_of_heap HM1.out 10
          have y0 := Lib.cell_of_heap HM2.out 0; have y1 := Lib.cell_of_heap HM2.out 1; have y2 := Lib.cell_of_heap HM2.out 2; have y3 := Lib.cell_of_heap HM2.out 3; have y4 := Lib.cell_of_heap HM2.out 4; have y5 := Lib.cell_of_heap HM2.out 5; have y6 := Lib.cell_of_heap HM2.out 6; have y7 := Lib.cell_of_heap HM2.out 7; have y8 := Lib.cell_of_heap HM2.out 8; have y9 := Lib.cell_of_heap HM2.out 9; have y10 := Lib.cell_of_heap HM2.out 10
          simp at x0 x1 x2 x3 x4 x5 x6 x7 x8 x9 x10 y0 y1 y2 y3 y4 y5 y6 y7 y8 y9 y10
          go_wp2_with (go_at_call 65; go_must (refine HSr.out.mono ?_))
          rintro e V2 ⟨rfl, bb⟩
          as_aux_lemma =>
            have HM1 := Lib.hid ((bb.block M hl3).trans HM1.out)
            have HM2 := Lib.hid ((bb.block (M + 1) hl4).trans HM2.out)
            have HBr := Lib.hid (HBr.out.trans (bb.mono (by have := HM.out; omega)))
            have HRo := Lib.hid (HRo.out.keep (Keeps.of_below_size bb))
            have HRo2 := Lib.hid (HRo2.out.keep (Keeps.of_below_size bb))
            have hbs2 := bb.size
            have hl3 : M < V2.heap.size := by omega
            have hl4 : M + 1 < V2.heap.size := by omega
            clear bb HSr x0 x1 x2 x3 x4 x5 x6 x7 x8 x9 x10 y0 y1 y2 y3 y4 y5 y6 y7 y8 y9 y10
            have x0 := Lib.cell_of_heap HM1.out 0; have x1 := Lib.cell_of_heap HM1.out 1; have x2 := Lib.cell_of_heap HM1.out 2; have x3 := Lib.cell_of_heap HM1.out 3; have x4 := Lib.cell_of_heap HM1.out 4; have x5 := Lib.cell_of_heap HM1.out 5; have x6 := Lib.cell_of_heap HM1.out 6; have x7 := Lib.cell_of_heap HM1.out 7; have x8 := Lib.cell_of_heap HM1.out 8; have x9 := Lib.cell_of_heap HM1.out 9; have x10 := Lib.cell_of_heap HM1.out 10
            have y0 := Lib.cell_of_heap HM2.out 0; have y1 := Lib.cell_of_heap HM2.out 1; have y2 := Lib.cell_of_heap HM2.out 2; have y3 := Lib.cell_of_heap HM2.out 3; have y4 := Lib.cell_of_heap HM2.out 4; have y5 := Lib.cell_of_heap HM2.out 5; have y6 := Lib.cell_of_heap HM2.out 6; have y7 := Lib.cell_of_heap HM2.out 7; have y8 := Lib.cell_of_heap HM2.out 8; have y9 := Lib.cell_of_heap HM2.out 9; have y10 := Lib.cell_of_heap HM2.out 10
            simp at x0 x1 x2 x3 x4 x5 x6 x7 x8 x9 x10 y0 y1 y2 y3 y4 y5 y6 y7 y8 y9 y10
            go_wp2
            clear x0 x1 x2 x3 x4 x5 x6 x7 x8 x9 x10 y0 y1 y2 y3 y4 y5 y6 y7 y8 y9 y10
            go_loopw [129] (fun iv wr2 => SrRel V2 ny iv wr2) (fun iv _ => ny - (intOf iv).toNat)
            case atStart => exact ⟨0, rfl, Nat.zero_le _, Below.refl _ _⟩
            case round =>
              as_aux_lemma =>
                rename World => wr2
                obtain ⟨j, rfl, hjn, hb2⟩ := hrel
                have hb2s := hb2.size
                by_cases hjl : j < ny
                · have hjI : (j : Int) < ny := by omega
                  obtain ⟨v, hv⟩ : ∃ v, y.ys[j]? = some v := ⟨y.ys[j]'(by rw [HNy.out]; exact hjl), List.getElem?_eq_getElem _⟩
                  obtain ⟨ga, oa, rfl, hga, ra⟩ := rows_intC (HRo.out.keep (Keeps.of_below_size hb2)) hv
                  obtain ⟨gb, ob, rfl, hgb, rb⟩ := rows_intC (HRo2.out.keep (Keeps.of_below_size hb2)) hv
                  have hm1 := (hb2.block M hl3).trans HM1.out
                  have hm2' := (hb2.block (M + 1) hl4).trans HM2.out
                  have x10 := Lib.cell_of_heap hm1 10
                  have y10 := Lib.cell_of_heap hm2' 10
                  simp at x10 y10
                  have hl5 : M < wr2.heap.size := by omega
                  have hl6 : M + 1 < wr2.heap.size := by omega
                  have HB2 := Lib.hid hb2
                  clear hv hb2 hm1 hm2'
                  go_wp2_with fail
                  go_quiet (fail)
                  go_wp2
                  exact ⟨⟨j + 1, by go_num, by omega, below_quietS HB2.out _⟩, by simp [intOf]; omega⟩
                · obtain rfl : ny = j := by omega
                  have hjI : ¬ (ny : Int) < ny := by omega
                  have HBz := Lib.hid (HBr.out.trans (hb2.mono (by have := HM.out; omega)))
                  clear hb2
                  go_wp2
                  exact ⟨⟨i + 1, by go_num, by omega, HBz.out⟩, by simp [intOf]; omega⟩
    · obtain rfl : i = n5 := by omega
      have hltI : ¬ (i : Int) < i := by omega
      have HBz := Lib.hid (HB.out.trans (hb.mono HB.out.size))
      clear hb
      go_wp2
      go_ret
      exact ⟨rfl, HBz.out⟩

end Go.Proofs.YtdonibkkdhokpaaGreat
