/- What is written of a response is read: the law's walk (written by gen_wirerw2.py). -/
import Derived.Test.YtdonibkkdhokpaaGreatZWireFl
import Derived.Test.YtdonibkkdhokpaaGreatZWireSr2
import Derived.Test.YtdonibkkdhokpaaGreatZWireRo
import Derived.Test.YtdonibkkdhokpaaGreatZWireGr
import Derived.Test.YtdonibkkdhokpaaGreatZWireFixed
namespace Go.Proofs.YtdonibkkdhokpaaGreat
open Go Go.RowKit Go.Lib

def RespGot (w : World) (p : Resp) (e : Ending) (w' : World) : Prop :=
  ∃ b1 b2 b3 b4 b5 sb b d1 d2 d3 d4 d5 sd dap, e = .returned (.tuple #[.agg #[.int .u64 (p.id : Int), .int .i64 p.err, .int .u64 (p.rev : Int), .string p.token, .slice b1 p.flags.length d1, .slice b2 p.tuples.length d2, .slice b3 p.objs.length d3, .slice b4 p.events.length d4, .slice b5 p.steps.length d5, .int .i64 p.th.kind, .string p.th.o, .string p.th.i, .string p.th.rel, .slice sb p.th.subs.length sd, .slice b p.tps.length dap], .int .i64 0]) ∧ RespR (· < w'.heap.size) w' p b1 b2 b3 b4 b5 sb b d1 d2 d3 d4 d5 sd dap ∧ Below w.heap.size w w'
theorem resp_got {w : World} {p : Resp} {e : Ending} {w' : World} (h : GotResp w (some p) e w') : RespGot w p e w' := by
  obtain ⟨hb, ⟨hn, _⟩ | ⟨p', b1, b2, b3, b4, b5, sb, b, d1, d2, d3, d4, d5, sd, dap, hs, rfl, hr⟩⟩ := h
  · cases hn
  · cases hs
    exact ⟨b1, b2, b3, b4, b5, sb, b, d1, d2, d3, d4, d5, sd, dap, rfl, hr.mono (fun x hx _ => hx), hb⟩

theorem sl_upR {B C : Nat} {w : World} {v : Value} {l : List UInt8} (h : Sl B w v l) (hB : B ≤ C) : Sl C w v l := by
  rcases h with h | ⟨b, off, cap, rfl, h1, h2, h3⟩
  · exact .inl h
  · exact .inr ⟨b, off, cap, rfl, fun hl => Nat.lt_of_lt_of_le (h1 hl) hB, h2, h3⟩

def PrP (w : World) (L : List UInt8) (f : Bool) (e : Ending) (w' : World) : Prop :=
  (f = true ∧ ∃ ab cb, e = .returned (.tuple #[.slice ab L.length cb, .int .i64 0]) ∧ w'.ownsRow w.heap.size 5 1 (.slice ab L.length cb) L.length (bcells L) ∧ Below w.heap.size w w') ∨
  (f = false ∧ e = .returned (.tuple #[.slice none 0 0, .int .i64 10]) ∧ Below w.heap.size w w')
theorem prP_of {w : World} {p : Resp} {e : Ending} {w' : World} (h : PrPost w p e w') : PrP w (respB p) (respFit p) e w' := by
  rcases h with ⟨h1, v, rfl, ho, hb⟩ | ⟨h1, h2, h3⟩
  · obtain ⟨ab, cb, rfl, _, _⟩ := (ownsRow.reads ho).le
    exact .inl ⟨h1, ab, cb, rfl, ho, hb⟩
  · exact .inr ⟨h1, h2, h3⟩

set_option maxRecDepth 100000 in
set_option maxHeartbeats 8000000 in
theorem wireResponses_walk (w : World) (p : Resp) (a1 a2 a3 a4 a5 sa a : Option Addr) (c1 c2 c3 c4 c5 sc cap : Nat) (hr : RespR (· < w.heap.size) w p a1 a2 a3 a4 a5 sa a c1 c2 c3 c4 c5 sc cap) (hin : RespIn p) (hsm : RespSm p) (hl : (respB p).length ≤ 20000000) :
    Calls Tryz.prog 3 #[.agg #[.int .u64 (p.id : Int), .int .i64 p.err, .int .u64 (p.rev : Int), .string p.token, .slice a1 p.flags.length c1, .slice a2 p.tuples.length c2, .slice a3 p.objs.length c3, .slice a4 p.events.length c4, .slice a5 p.steps.length c5, .int .i64 p.th.kind, .string p.th.o, .string p.th.i, .string p.th.rel, .slice sa p.th.subs.length sc, .slice a p.tps.length cap]] w (SaysTrue w) := by
  have hUp : ∀ W, Below w.heap.size w W → RespR (· < W.heap.size) W p a1 a2 a3 a4 a5 sa a c1 c2 c3 c4 c5 sc cap := fun W hb => (hr.keep (Keeps.of_below hb)).mono (fun x _ (hx : x < w.heap.size) => Nat.lt_of_lt_of_le hx hb.size)
  have HU := Lib.hid hUp
  have HSm := Lib.hid (fun W hb => small37_any W p a1 a2 a3 a4 a5 sa a c1 c2 c3 c4 c5 sc cap (hUp W hb) hl hin)
  have HPt := Lib.hid (fun W hb => (putresponse_any W p a1 a2 a3 a4 a5 sa a c1 c2 c3 c4 c5 sc cap (hUp W hb) hin hl).mono fun e w' h => prP_of h)
  have HFl := Lib.hid (fun W hb => flat37_any W p a1 a2 a3 a4 a5 sa a c1 c2 c3 c4 c5 sc cap (hUp W hb) hl)
  have HRf := Lib.hid (fun W hb => refresponse_any W p a1 a2 a3 a4 a5 sa a c1 c2 c3 c4 c5 sc cap (hUp W hb) hin hl)
  have hrd := (readResp_B p hin hsm hl).1
  have HGt := Lib.hid (fun (hf : respFit p = true) (W : World) (u : Value) (h : Sl W.heap.size W u (respB p)) => (getresponse_any W W.heap.size u _ h (Nat.le_refl _) hl).mono fun e w' hp => resp_got (by rw [hrd hf] at hp; exact hp))
  have HSs := Lib.hid (fun (W : World) (hb : Below w.heap.size w W) b1 b2 b3 b4 b5 sb b d1 d2 d3 d4 d5 sd dap (h : RespR (· < W.heap.size) W p b1 b2 b3 b4 b5 sb b d1 d2 d3 d4 d5 sd dap) => sameresp_any W p b1 b2 b3 b4 b5 sb b d1 d2 d3 d4 d5 sd dap a1 a2 a3 a4 a5 sa a c1 c2 c3 c4 c5 sc cap h (hUp W hb))
  obtain ⟨L, hL⟩ : ∃ L, respB p = L := ⟨_, rfl⟩
  rw [hL] at HPt HRf HGt
  obtain ⟨ft, hft⟩ : ∃ f, respFit p = f := ⟨_, rfl⟩
  rw [hft] at HPt HFl HGt
  have HB := Lib.hid (show Below w.heap.size w (w.alloc (.cells #[.int .u64 (p.id : Int), .int .i64 p.err, .int .u64 (p.rev : Int), .string p.token, .slice a1 p.flags.length c1, .slice a2 p.tuples.length c2, .slice a3 p.objs.length c3, .slice a4 p.events.length c4, .slice a5 p.steps.length c5, .int .i64 p.th.kind, .string p.th.o, .string p.th.i, .string p.th.rel, .slice sa p.th.subs.length sc, .slice a p.tps.length cap] 36)) from (Below.refl _ _).alloc (Nat.le_refl _) _)
  have HX := Lib.hid (heap_alloc_new w (.cells #[.int .u64 (p.id : Int), .int .i64 p.err, .int .u64 (p.rev : Int), .string p.token, .slice a1 p.flags.length c1, .slice a2 p.tuples.length c2, .slice a3 p.objs.length c3, .slice a4 p.events.length c4, .slice a5 p.steps.length c5, .int .i64 p.th.kind, .string p.th.o, .string p.th.i, .string p.th.rel, .slice sa p.th.subs.length sc, .slice a p.tps.length cap] 36))
  obtain ⟨N, hN⟩ : ∃ N, w.heap.size = N := ⟨_, rfl⟩
  have HN := Lib.hid hN
  rw [hN] at HX
  clear hr hin hsm hl hUp hrd hL hft hN
  go_enter Tryz.func3, Tryz.ntmps3
  go_upto_region 1 with fail
  rw [HN.out]
  generalize w.alloc (.cells #[.int .u64 (p.id : Int), .int .i64 p.err, .int .u64 (p.rev : Int), .string p.token, .slice a1 p.flags.length c1, .slice a2 p.tuples.length c2, .slice a3 p.objs.length c3, .slice a4 p.events.length c4, .slice a5 p.steps.length c5, .int .i64 p.th.kind, .string p.th.o, .string p.th.i, .string p.th.rel, .slice sa p.th.subs.length sc, .slice a p.tps.length cap] 36) = W0 at *
  have hgx := (Array.getElem?_eq_some_iff.1 HX.out).1
  go_wp2_with (go_at_call 4; go_must (refine (fixed37_any _).mono ?_))
  rintro e w1 ⟨rfl, bb⟩
  have HX := Lib.hid ((bb.block N hgx).trans HX.out)
  have HB := Lib.hid (HB.out.trans (bb.mono HB.out.size))
  have hgx := (Array.getElem?_eq_some_iff.1 HX.out).1
  clear bb
  have k0 := Lib.cell_of_heap HX.out 0; have k1 := Lib.cell_of_heap HX.out 1; have k2 := Lib.cell_of_heap HX.out 2; have k3 := Lib.cell_of_heap HX.out 3; have k4 := Lib.cell_of_heap HX.out 4; have k5 := Lib.cell_of_heap HX.out 5; have k6 := Lib.cell_of_heap HX.out 6; have k7 := Lib.cell_of_heap HX.out 7; have k8 := Lib.cell_of_heap HX.out 8; have k9 := Lib.cell_of_heap HX.out 9; have k10 := Lib.cell_of_heap HX.out 10; have k11 := Lib.cell_of_heap HX.out 11; have k12 := Lib.cell_of_heap HX.out 12; have k13 := Lib.cell_of_heap HX.out 13; have k14 := Lib.cell_of_heap HX.out 14
  simp at k0 k1 k2 k3 k4 k5 k6 k7 k8 k9 k10 k11 k12 k13 k14
  have HC := Lib.hid (HSm.out _ HB.out)
  go_wp2_with (go_at_call 5; go_must (refine HC.out.mono ?_))
  rintro e w2 ⟨sb0, rfl, bb⟩
  have HX := Lib.hid ((bb.block N hgx).trans HX.out)
  have HB := Lib.hid (HB.out.trans (bb.mono HB.out.size))
  have hgx := (Array.getElem?_eq_some_iff.1 HX.out).1
  clear bb HC HSm k0 k1 k2 k3 k4 k5 k6 k7 k8 k9 k10 k11 k12 k13 k14
  cases sb0 with
  | false =>
    go_wp2
    go_ret
    exact ⟨rfl, HB.out⟩
  | true =>
    have k0 := Lib.cell_of_heap HX.out 0; have k1 := Lib.cell_of_heap HX.out 1; have k2 := Lib.cell_of_heap HX.out 2; have k3 := Lib.cell_of_heap HX.out 3; have k4 := Lib.cell_of_heap HX.out 4; have k5 := Lib.cell_of_heap HX.out 5; have k6 := Lib.cell_of_heap HX.out 6; have k7 := Lib.cell_of_heap HX.out 7; have k8 := Lib.cell_of_heap HX.out 8; have k9 := Lib.cell_of_heap HX.out 9; have k10 := Lib.cell_of_heap HX.out 10; have k11 := Lib.cell_of_heap HX.out 11; have k12 := Lib.cell_of_heap HX.out 12; have k13 := Lib.cell_of_heap HX.out 13; have k14 := Lib.cell_of_heap HX.out 14
    simp at k0 k1 k2 k3 k4 k5 k6 k7 k8 k9 k10 k11 k12 k13 k14
    have HC := Lib.hid (HPt.out _ HB.out)
    go_wp2_with (go_at_call 6; go_must (refine HC.out.mono ?_))
    intro e w3 hp
    rcases hp with ⟨rfl, ab, cb, rfl, ho, bb⟩ | ⟨rfl, rfl, bb⟩
    rotate_left
    · have HX := Lib.hid ((bb.block N hgx).trans HX.out)
      have HB := Lib.hid (HB.out.trans (bb.mono HB.out.size))
      have hgx := (Array.getElem?_eq_some_iff.1 HX.out).1
      clear bb HC HPt HGt HRf k0 k1 k2 k3 k4 k5 k6 k7 k8 k9 k10 k11 k12 k13 k14
      have k0 := Lib.cell_of_heap HX.out 0; have k1 := Lib.cell_of_heap HX.out 1; have k2 := Lib.cell_of_heap HX.out 2; have k3 := Lib.cell_of_heap HX.out 3; have k4 := Lib.cell_of_heap HX.out 4; have k5 := Lib.cell_of_heap HX.out 5; have k6 := Lib.cell_of_heap HX.out 6; have k7 := Lib.cell_of_heap HX.out 7; have k8 := Lib.cell_of_heap HX.out 8; have k9 := Lib.cell_of_heap HX.out 9; have k10 := Lib.cell_of_heap HX.out 10; have k11 := Lib.cell_of_heap HX.out 11; have k12 := Lib.cell_of_heap HX.out 12; have k13 := Lib.cell_of_heap HX.out 13; have k14 := Lib.cell_of_heap HX.out 14
      simp at k0 k1 k2 k3 k4 k5 k6 k7 k8 k9 k10 k11 k12 k13 k14
      have HC := Lib.hid (HFl.out _ HB.out)
      go_wp2_with (go_at_call 7; go_must (refine HC.out.mono ?_))
      rintro e w4 ⟨rfl, bb⟩
      have HB := Lib.hid (HB.out.trans (bb.mono HB.out.size))
      clear bb HC HFl k0 k1 k2 k3 k4 k5 k6 k7 k8 k9 k10 k11 k12 k13 k14
      go_wp2
      go_ret
      exact ⟨rfl, HB.out⟩
    · have HX := Lib.hid ((bb.block N hgx).trans HX.out)
      have HB := Lib.hid (HB.out.trans (bb.mono HB.out.size))
      have hgx := (Array.getElem?_eq_some_iff.1 HX.out).1
      have HRb := Lib.hid (ownsRow.reads ho)
      have HSl := Lib.hid (own_sl ho)
      clear bb ho HC HPt k0 k1 k2 k3 k4 k5 k6 k7 k8 k9 k10 k11 k12 k13 k14
      have k0 := Lib.cell_of_heap HX.out 0; have k1 := Lib.cell_of_heap HX.out 1; have k2 := Lib.cell_of_heap HX.out 2; have k3 := Lib.cell_of_heap HX.out 3; have k4 := Lib.cell_of_heap HX.out 4; have k5 := Lib.cell_of_heap HX.out 5; have k6 := Lib.cell_of_heap HX.out 6; have k7 := Lib.cell_of_heap HX.out 7; have k8 := Lib.cell_of_heap HX.out 8; have k9 := Lib.cell_of_heap HX.out 9; have k10 := Lib.cell_of_heap HX.out 10; have k11 := Lib.cell_of_heap HX.out 11; have k12 := Lib.cell_of_heap HX.out 12; have k13 := Lib.cell_of_heap HX.out 13; have k14 := Lib.cell_of_heap HX.out 14
      simp at k0 k1 k2 k3 k4 k5 k6 k7 k8 k9 k10 k11 k12 k13 k14
      have HC := Lib.hid (HFl.out _ HB.out)
      go_wp2_with (go_at_call 7; go_must (refine HC.out.mono ?_))
      rintro e w4 ⟨rfl, bb⟩
      have HX := Lib.hid ((bb.block N hgx).trans HX.out)
      have HB := Lib.hid (HB.out.trans (bb.mono HB.out.size))
      have hgx := (Array.getElem?_eq_some_iff.1 HX.out).1
      have HRb := Lib.hid (HRb.out.below' bb)
      have HSl := Lib.hid (sl_upR (HSl.out.below bb) bb.size)
      clear bb HC HFl k0 k1 k2 k3 k4 k5 k6 k7 k8 k9 k10 k11 k12 k13 k14
      have HC := Lib.hid (HGt.out (by first | exact rfl | exact True.intro) w4 _ HSl.out)
      go_wp2_with (go_at_call 8; go_must (refine HC.out.mono ?_))
      rintro e w5 ⟨b1, b2, b3, b4, b5, sb, b, d1, d2, d3, d4, d5, sd, dap, rfl, hrr, bb⟩
      have hba : Below w5.heap.size w5 (w5.alloc (.cells #[.int .u64 (p.id : Int), .int .i64 p.err, .int .u64 (p.rev : Int), .string p.token, .slice b1 p.flags.length d1, .slice b2 p.tuples.length d2, .slice b3 p.objs.length d3, .slice b4 p.events.length d4, .slice b5 p.steps.length d5, .int .i64 p.th.kind, .string p.th.o, .string p.th.i, .string p.th.rel, .slice sb p.th.subs.length sd, .slice b p.tps.length dap] 36)) := (Below.refl _ _).alloc (Nat.le_refl _) _
      have HY := Lib.hid (heap_alloc_new w5 (.cells #[.int .u64 (p.id : Int), .int .i64 p.err, .int .u64 (p.rev : Int), .string p.token, .slice b1 p.flags.length d1, .slice b2 p.tuples.length d2, .slice b3 p.objs.length d3, .slice b4 p.events.length d4, .slice b5 p.steps.length d5, .int .i64 p.th.kind, .string p.th.o, .string p.th.i, .string p.th.rel, .slice sb p.th.subs.length sd, .slice b p.tps.length dap] 36))
      have hb6 := bb.trans (hba.mono bb.size)
      have HRr := Lib.hid ((hrr.keep (Keeps.of_below_size hba)).mono (ok' := (· < (w5.alloc (.cells #[.int .u64 (p.id : Int), .int .i64 p.err, .int .u64 (p.rev : Int), .string p.token, .slice b1 p.flags.length d1, .slice b2 p.tuples.length d2, .slice b3 p.objs.length d3, .slice b4 p.events.length d4, .slice b5 p.steps.length d5, .int .i64 p.th.kind, .string p.th.o, .string p.th.i, .string p.th.rel, .slice sb p.th.subs.length sd, .slice b p.tps.length dap] 36)).heap.size)) (fun x hx _ => hx))
      have HX := Lib.hid ((hb6.block N hgx).trans HX.out)
      have HB := Lib.hid (HB.out.trans (hb6.mono HB.out.size))
      have HRb := Lib.hid (HRb.out.below' hb6)
      clear bb hba hb6 hrr HC HGt hgx HSl
      go_upto_region 9 with fail
      obtain ⟨g5, hg5⟩ : ∃ g, w5.heap.size = g := ⟨_, rfl⟩
      rw [hg5] at HY
      rw [hg5]
      clear hg5
      generalize w5.alloc (.cells #[.int .u64 (p.id : Int), .int .i64 p.err, .int .u64 (p.rev : Int), .string p.token, .slice b1 p.flags.length d1, .slice b2 p.tuples.length d2, .slice b3 p.objs.length d3, .slice b4 p.events.length d4, .slice b5 p.steps.length d5, .int .i64 p.th.kind, .string p.th.o, .string p.th.i, .string p.th.rel, .slice sb p.th.subs.length sd, .slice b p.tps.length dap] 36) = w6 at *
      have hgx := (Array.getElem?_eq_some_iff.1 HX.out).1
      have hg5l := (Array.getElem?_eq_some_iff.1 HY.out).1
      refine wp_region_all (by kernel_rfl) [eqF (.int .i64 0), eqF (.bool true), eqF (.bool true), eqF (.int .i64 0), eqF (.bool true), eqF (.bool true), eqF (.bool true), eqF (.slice ab L.length cb), eqF (.string ⟨L.toArray⟩), eqF (.agg #[.int .u64 (p.id : Int), .int .i64 p.err, .int .u64 (p.rev : Int), .string p.token, .slice a1 p.flags.length c1, .slice a2 p.tuples.length c2, .slice a3 p.objs.length c3, .slice a4 p.events.length c4, .slice a5 p.steps.length c5, .int .i64 p.th.kind, .string p.th.o, .string p.th.i, .string p.th.rel, .slice sa p.th.subs.length sc, .slice a p.tps.length cap]), ownsF w6.heap.size 5 1 L.length (bcells L), eqF (.string ⟨L.toArray⟩), eqF (.bool true), eqF (.bool true), eqF (.bool true), eqF (.agg #[.int .u64 (p.id : Int), .int .i64 p.err, .int .u64 (p.rev : Int), .string p.token, .slice b1 p.flags.length d1, .slice b2 p.tuples.length d2, .slice b3 p.objs.length d3, .slice b4 p.events.length d4, .slice b5 p.steps.length d5, .int .i64 p.th.kind, .string p.th.o, .string p.th.i, .string p.th.rel, .slice sb p.th.subs.length sd, .slice b p.tps.length dap]), eqF (.agg #[.int .u64 (p.id : Int), .int .i64 p.err, .int .u64 (p.rev : Int), .string p.token, .slice a1 p.flags.length c1, .slice a2 p.tuples.length c2, .slice a3 p.objs.length c3, .slice a4 p.events.length c4, .slice a5 p.steps.length c5, .int .i64 p.th.kind, .string p.th.o, .string p.th.i, .string p.th.rel, .slice sa p.th.subs.length sc, .slice a p.tps.length cap]), eqF (.bool true), eqF (.bool true), eqF (.bool true)] (by kernel_rfl) ⟨?_, ?_, ?_, ?_, ?_, ?_, ?_, ?_, ?_, ?_, ?_, ?_, ?_, ?_, ?_, ?_, ?_, ?_, ?_, ?_, trivial⟩ ⟨trivial, trivial, trivial, fun _ _ h => h, fun _ _ h => h, trivial, trivial, fun _ _ h => h, fun _ _ h => h, fun _ _ h => h, fun _ _ h => h, fun _ _ h => h, fun _ _ h => h, trivial, trivial, fun _ _ h => h, fun _ _ h => h, fun _ _ h => h, trivial, trivial, trivial⟩ ?_
      · intro ρ wx hρ hbx hl
        have e4 : ρ (.tmp 4) = .int .i64 0 := hρ.tmp 4 (by decide +kernel)
        refine y_val (v := .int .i64 0) ?_ rfl
        simp [execOp, go_sem, e4]
      · intro ρ wx hρ hbx hl
        have e32 : ρ (.tmp 32) = .int .i64 0 := hl 0 (by decide +kernel) 32 rfl
        refine y_val (v := .bool true) ?_ rfl
        simp [execOp, hρ.const, go_sem, e32]
      · intro ρ wx hρ hbx hl
        have e33 : ρ (.tmp 33) = .bool true := hl 1 (by decide +kernel) 33 rfl
        refine y_val (v := .bool true) ?_ rfl
        simp [execOp, go_sem, e33]
      · intro ρ wx hρ hbx hl
        have e6 : ρ (.tmp 6) = .int .i64 0 := hρ.tmp 6 (by decide +kernel)
        refine y_val (v := .int .i64 0) ?_ rfl
        simp [execOp, go_sem, e6]
      · intro ρ wx hρ hbx hl
        have e35 : ρ (.tmp 35) = .int .i64 0 := hl 3 (by decide +kernel) 35 rfl
        refine y_val (v := .bool true) ?_ rfl
        simp [execOp, hρ.const, go_sem, e35]
      · intro ρ wx hρ hbx hl
        have e34 : ρ (.tmp 34) = .bool true := hl 2 (by decide +kernel) 34 rfl
        have e36 : ρ (.tmp 36) = .bool true := hl 4 (by decide +kernel) 36 rfl
        refine y_val (v := .bool true) ?_ rfl
        simp [execOp, go_sem, e34, e36]
      · intro ρ wx hρ hbx hl
        have e37 : ρ (.tmp 37) = .bool true := hl 5 (by decide +kernel) 37 rfl
        refine y_val (v := .bool true) ?_ rfl
        simp [execOp, go_sem, e37]
      · intro ρ wx hρ hbx hl
        have e3 : ρ (.tmp 3) = .slice ab L.length cb := hρ.tmp 3 (by decide +kernel)
        refine y_val (v := .slice ab L.length cb) ?_ rfl
        simp [execOp, go_sem, e3]
      · intro ρ wx hρ hbx hl
        have e39 : ρ (.tmp 39) = .slice ab L.length cb := hl 7 (by decide +kernel) 39 rfl
        have hc := Reads.conv (P := Tryz.prog) (w := wx) (src := 39) (e := 5) (dst := 9) Tryz.underlying39 Tryz.underlying5 Tryz.underlying9 (HRb.out.below' hbx)
        refine y_val (v := .string ⟨L.toArray⟩) ?_ rfl
        simp [execOp, e39, hc]
      · intro ρ wx hρ hbx hl
        have e1 : ρ (.tmp 1) = .pointer (some ⟨N, 0, none⟩) := hρ.tmp 1 (by decide +kernel)
        exact y_load_row _ _ rfl N e1 _ _ _ _ ((hbx.block N hgx).trans HX.out) Tryz.underlying36 rfl (by kernel_rfl) rfl
      · intro ρ wx hρ hbx hl
        have e41 : ρ (.tmp 41) = .agg #[.int .u64 (p.id : Int), .int .i64 p.err, .int .u64 (p.rev : Int), .string p.token, .slice a1 p.flags.length c1, .slice a2 p.tuples.length c2, .slice a3 p.objs.length c3, .slice a4 p.events.length c4, .slice a5 p.steps.length c5, .int .i64 p.th.kind, .string p.th.o, .string p.th.i, .string p.th.rel, .slice sa p.th.subs.length sc, .slice a p.tps.length cap] := hl 9 (by decide +kernel) 41 rfl
        refine y_call (f := 9) (args := #[.agg #[.int .u64 (p.id : Int), .int .i64 p.err, .int .u64 (p.rev : Int), .string p.token, .slice a1 p.flags.length c1, .slice a2 p.tuples.length c2, .slice a3 p.objs.length c3, .slice a4 p.events.length c4, .slice a5 p.steps.length c5, .int .i64 p.th.kind, .string p.th.o, .string p.th.i, .string p.th.rel, .slice sa p.th.subs.length sc, .slice a p.tps.length cap]]) (by simp [execOp, resolve, invoke, hρ.func, go_sem, e41]) ?_
        refine (HRf.out wx (HB.out.trans (hbx.mono HB.out.size))).mono ?_
        rintro e w7 ⟨v7, rfl, f7, b7⟩
        exact ⟨v7, rfl, owns_less f7 hbx.size, b7⟩
      · intro ρ wx hρ hbx hl
        have e42 := hl 10 (by decide +kernel) 42 rfl
        obtain ⟨sa', sc', hsv, _, _⟩ := (ownsRow.reads e42).le
        have hc := Reads.conv (P := Tryz.prog) (w := wx) (src := 39) (e := 5) (dst := 9) Tryz.underlying39 Tryz.underlying5 Tryz.underlying9 (ownsRow.reads e42)
        refine y_val (v := .string ⟨L.toArray⟩) ?_ rfl
        simp [execOp, hc]
      · intro ρ wx hρ hbx hl
        have e40 : ρ (.tmp 40) = .string ⟨L.toArray⟩ := hl 8 (by decide +kernel) 40 rfl
        have e43 : ρ (.tmp 43) = .string ⟨L.toArray⟩ := hl 11 (by decide +kernel) 43 rfl
        refine y_val (v := .bool true) ?_ rfl
        simp [execOp, go_sem, e40, e43]
      · intro ρ wx hρ hbx hl
        have e38 : ρ (.tmp 38) = .bool true := hl 6 (by decide +kernel) 38 rfl
        have e44 : ρ (.tmp 44) = .bool true := hl 12 (by decide +kernel) 44 rfl
        refine y_val (v := .bool true) ?_ rfl
        simp [execOp, go_sem, e38, e44]
      · intro ρ wx hρ hbx hl
        have e45 : ρ (.tmp 45) = .bool true := hl 13 (by decide +kernel) 45 rfl
        refine y_val (v := .bool true) ?_ rfl
        simp [execOp, go_sem, e45]
      · intro ρ wx hρ hbx hl
        have e5 : ρ (.tmp 5) = .pointer (some ⟨g5, 0, none⟩) := hρ.tmp 5 (by decide +kernel)
        exact y_load_row _ _ rfl g5 e5 _ _ _ _ ((hbx.block g5 hg5l).trans HY.out) Tryz.underlying36 rfl (by kernel_rfl) rfl
      · intro ρ wx hρ hbx hl
        have e1 : ρ (.tmp 1) = .pointer (some ⟨N, 0, none⟩) := hρ.tmp 1 (by decide +kernel)
        exact y_load_row _ _ rfl N e1 _ _ _ _ ((hbx.block N hgx).trans HX.out) Tryz.underlying36 rfl (by kernel_rfl) rfl
      · intro ρ wx hρ hbx hl
        have e47 : ρ (.tmp 47) = .agg #[.int .u64 (p.id : Int), .int .i64 p.err, .int .u64 (p.rev : Int), .string p.token, .slice b1 p.flags.length d1, .slice b2 p.tuples.length d2, .slice b3 p.objs.length d3, .slice b4 p.events.length d4, .slice b5 p.steps.length d5, .int .i64 p.th.kind, .string p.th.o, .string p.th.i, .string p.th.rel, .slice sb p.th.subs.length sd, .slice b p.tps.length dap] := hl 15 (by decide +kernel) 47 rfl
        have e48 : ρ (.tmp 48) = .agg #[.int .u64 (p.id : Int), .int .i64 p.err, .int .u64 (p.rev : Int), .string p.token, .slice a1 p.flags.length c1, .slice a2 p.tuples.length c2, .slice a3 p.objs.length c3, .slice a4 p.events.length c4, .slice a5 p.steps.length c5, .int .i64 p.th.kind, .string p.th.o, .string p.th.i, .string p.th.rel, .slice sa p.th.subs.length sc, .slice a p.tps.length cap] := hl 16 (by decide +kernel) 48 rfl
        refine y_call (f := 10) (args := #[.agg #[.int .u64 (p.id : Int), .int .i64 p.err, .int .u64 (p.rev : Int), .string p.token, .slice b1 p.flags.length d1, .slice b2 p.tuples.length d2, .slice b3 p.objs.length d3, .slice b4 p.events.length d4, .slice b5 p.steps.length d5, .int .i64 p.th.kind, .string p.th.o, .string p.th.i, .string p.th.rel, .slice sb p.th.subs.length sd, .slice b p.tps.length dap], .agg #[.int .u64 (p.id : Int), .int .i64 p.err, .int .u64 (p.rev : Int), .string p.token, .slice a1 p.flags.length c1, .slice a2 p.tuples.length c2, .slice a3 p.objs.length c3, .slice a4 p.events.length c4, .slice a5 p.steps.length c5, .int .i64 p.th.kind, .string p.th.o, .string p.th.i, .string p.th.rel, .slice sa p.th.subs.length sc, .slice a p.tps.length cap]]) (by simp [execOp, resolve, invoke, hρ.func, go_sem, e47, e48]) ?_
        refine (HSs.out wx (HB.out.trans (hbx.mono HB.out.size)) b1 b2 b3 b4 b5 sb b d1 d2 d3 d4 d5 sd dap ((HRr.out.keep (Keeps.of_below_size hbx)).mono (fun x hx _ => hx))).mono ?_
        rintro e w7 ⟨rfl, b7⟩
        exact ⟨_, rfl, rfl, b7⟩
      · intro ρ wx hρ hbx hl
        have e46 : ρ (.tmp 46) = .bool true := hl 14 (by decide +kernel) 46 rfl
        have e49 : ρ (.tmp 49) = .bool true := hl 17 (by decide +kernel) 49 rfl
        refine y_val (v := .bool true) ?_ rfl
        simp [execOp, go_sem, e46, e49]
      · intro ρ wx hρ hbx hl
        have e50 : ρ (.tmp 50) = .bool true := hl 18 (by decide +kernel) 50 rfl
        refine y_val (v := .bool true) ?_ rfl
        simp [execOp, go_sem, e50]
      intro aa wz hdef hsz hlk hbz hf
      have ha := act_of_like hdef hsz hlk [32, 33, 34, 35, 36, 37, 38, 39, 40, 41, 42, 43, 44, 45, 46, 47, 48, 49, 50, 2] 51 rfl (by decide +kernel)
      have e32 : aa.tmps.getD 32 undef = .int .i64 0 := hf 0 _ 32 rfl rfl
      have e33 : aa.tmps.getD 33 undef = .bool true := hf 1 _ 33 rfl rfl
      have e34 : aa.tmps.getD 34 undef = .bool true := hf 2 _ 34 rfl rfl
      have e35 : aa.tmps.getD 35 undef = .int .i64 0 := hf 3 _ 35 rfl rfl
      have e36 : aa.tmps.getD 36 undef = .bool true := hf 4 _ 36 rfl rfl
      have e37 : aa.tmps.getD 37 undef = .bool true := hf 5 _ 37 rfl rfl
      have e38 : aa.tmps.getD 38 undef = .bool true := hf 6 _ 38 rfl rfl
      have e39 : aa.tmps.getD 39 undef = .slice ab L.length cb := hf 7 _ 39 rfl rfl
      have e40 : aa.tmps.getD 40 undef = .string ⟨L.toArray⟩ := hf 8 _ 40 rfl rfl
      have e41 : aa.tmps.getD 41 undef = .agg #[.int .u64 (p.id : Int), .int .i64 p.err, .int .u64 (p.rev : Int), .string p.token, .slice a1 p.flags.length c1, .slice a2 p.tuples.length c2, .slice a3 p.objs.length c3, .slice a4 p.events.length c4, .slice a5 p.steps.length c5, .int .i64 p.th.kind, .string p.th.o, .string p.th.i, .string p.th.rel, .slice sa p.th.subs.length sc, .slice a p.tps.length cap] := hf 9 _ 41 rfl rfl
      have e43 : aa.tmps.getD 43 undef = .string ⟨L.toArray⟩ := hf 11 _ 43 rfl rfl
      have e44 : aa.tmps.getD 44 undef = .bool true := hf 12 _ 44 rfl rfl
      have e45 : aa.tmps.getD 45 undef = .bool true := hf 13 _ 45 rfl rfl
      have e46 : aa.tmps.getD 46 undef = .bool true := hf 14 _ 46 rfl rfl
      have e47 : aa.tmps.getD 47 undef = .agg #[.int .u64 (p.id : Int), .int .i64 p.err, .int .u64 (p.rev : Int), .string p.token, .slice b1 p.flags.length d1, .slice b2 p.tuples.length d2, .slice b3 p.objs.length d3, .slice b4 p.events.length d4, .slice b5 p.steps.length d5, .int .i64 p.th.kind, .string p.th.o, .string p.th.i, .string p.th.rel, .slice sb p.th.subs.length sd, .slice b p.tps.length dap] := hf 15 _ 47 rfl rfl
      have e48 : aa.tmps.getD 48 undef = .agg #[.int .u64 (p.id : Int), .int .i64 p.err, .int .u64 (p.rev : Int), .string p.token, .slice a1 p.flags.length c1, .slice a2 p.tuples.length c2, .slice a3 p.objs.length c3, .slice a4 p.events.length c4, .slice a5 p.steps.length c5, .int .i64 p.th.kind, .string p.th.o, .string p.th.i, .string p.th.rel, .slice sa p.th.subs.length sc, .slice a p.tps.length cap] := hf 16 _ 48 rfl rfl
      have e49 : aa.tmps.getD 49 undef = .bool true := hf 17 _ 49 rfl rfl
      have e50 : aa.tmps.getD 50 undef = .bool true := hf 18 _ 50 rfl rfl
      have e2 : aa.tmps.getD 2 undef = .bool true := hf 19 _ 2 rfl rfl
      simp only [putAll, List.foldl_cons, List.foldl_nil, e32, e33, e34, e35, e36, e37, e38, e39, e40, e41, e43, e44, e45, e46, e47, e48, e49, e50, e2] at ha
      generalize aa.tmps.getD 42 undef = v42 at ha
      simp [Act.put] at ha
      subst ha
      clear hdef hsz hlk hf e32 e33 e34 e35 e36 e37 e38 e39 e40 e41 e43 e44 e45 e46 e47 e48 e49 e50 e2
      have HB := Lib.hid (HB.out.trans (hbz.mono HB.out.size))
      clear hbz HX HY HRr HRb HRf HSs
      go_wp2
      go_ret
      exact ⟨rfl, HB.out⟩
end Go.Proofs.YtdonibkkdhokpaaGreat
