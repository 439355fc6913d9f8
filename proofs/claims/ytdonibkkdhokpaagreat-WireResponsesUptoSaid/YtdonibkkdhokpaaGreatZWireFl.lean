/- sentryref37.Flat, sentrylaw37.small (written by gen_wirefl.py). -/
import Derived.Test.YtdonibkkdhokpaaGreatZWireSm
import Derived.Test.YtdonibkkdhokpaaGreatZWireShort
import Derived.Test.YtdonibkkdhokpaaGreatMga
namespace Go.Proofs.YtdonibkkdhokpaaGreat
open Go Go.RowKit Go.Lib

def FlRel (B : Nat) (w : World) (ss : List Stp) (iv : Value) (wr : World) : Prop := ∃ i : Nat, iv = .int .i64 (i : Int) ∧ i ≤ ss.length ∧ (ss.take i).all (stFit 0) = true ∧ Below B w wr

theorem stFit_le (y : Stp) : stFit 0 y = decide ((Tr.mk y.h y.ps).depth ≤ 64) := by
  unfold stFit fit
  exact decide_eq_decide.2 (by omega)

set_option maxRecDepth 100000 in
set_option maxHeartbeats 4000000 in
theorem flat37_any (w : World) (p : Resp) (a1 a2 a3 a4 a5 sa a : Option Addr) (c1 c2 c3 c4 c5 sc cap : Nat) (hr : RespR (· < w.heap.size) w p a1 a2 a3 a4 a5 sa a c1 c2 c3 c4 c5 sc cap) (hl : (respB p).length ≤ 20000000) :
    Calls Tryz.prog 7 #[.agg #[.int .u64 (p.id : Int), .int .i64 p.err, .int .u64 (p.rev : Int), .string p.token, .slice a1 p.flags.length c1, .slice a2 p.tuples.length c2, .slice a3 p.objs.length c3, .slice a4 p.events.length c4, .slice a5 p.steps.length c5, .int .i64 p.th.kind, .string p.th.o, .string p.th.i, .string p.th.rel, .slice sa p.th.subs.length sc, .slice a p.tps.length cap]] w (GivesBool w (respFit p)) := by
  have hdt : (Tr.mk p.th p.tps).depth ≤ 20000000 := by
    have h1 := Tr.depth_bytes noB _ (Tr.mk p.th p.tps) (Nat.le_refl _)
    have h2 : ((Tr.mk p.th p.tps).bytes noB).length ≤ (respB p).length := by unfold respB; simp only [List.length_append]; omega
    omega
  have hds : ∀ y ∈ p.steps, (Tr.mk y.h y.ps).depth ≤ 20000000 := fun y hy => by
    have h1 := Tr.depth_bytes ruB _ (Tr.mk y.h y.ps) (Nat.le_refl _)
    have h2 : (stB y).length ≤ (p.steps.flatMap stB).length := by
      obtain ⟨l1, l2, e⟩ := List.append_of_mem hy
      rw [e]
      simp only [List.flatMap_append, List.flatMap_cons, List.length_append]
      omega
    have h3 : ((Tr.mk y.h y.ps).bytes ruB).length ≤ (stB y).length := by unfold stB; simp only [List.length_append]; omega
    have h4 : (p.steps.flatMap stB).length ≤ (respB p).length := by unfold respB listB; simp only [List.length_append]; omega
    omega
  have HRf := Lib.hid (show respFit p = (p.steps.all (stFit 0) && fit 0 (Tr.mk p.th p.tps)) from rfl)
  have HDs := Lib.hid hds
  have HDp := Lib.hid (fun (W : World) (h : RespR (· < W.heap.size) W p a1 a2 a3 a4 a5 sa a c1 c2 c3 c4 c5 sc cap) => deep37_ok _ (Nat.le_trans hdt (by decide)) p.th p.tps (Nat.le_refl _) W a cap sa sc h.capLe h.capMax h.tree)
  have HFt := Lib.hid (show fit 0 (Tr.mk p.th p.tps) = decide ((Tr.mk p.th p.tps).depth ≤ 64) from decide_eq_decide.2 (by omega))
  obtain ⟨E, hE⟩ : ∃ E, (Tr.mk p.th p.tps).depth = E := ⟨_, rfl⟩
  rw [hE] at HDp HFt
  have hstl := hr.steps
  obtain ⟨_, _, hsv, hsc1, hsc2, _⟩ := hstl
  cases hsv
  unfold maxLen at hsc2
  have HR := Lib.hid hr
  have HB := Lib.hid (show Below w.heap.size w (w.alloc (.cells #[.int .u64 (p.id : Int), .int .i64 p.err, .int .u64 (p.rev : Int), .string p.token, .slice a1 p.flags.length c1, .slice a2 p.tuples.length c2, .slice a3 p.objs.length c3, .slice a4 p.events.length c4, .slice a5 p.steps.length c5, .int .i64 p.th.kind, .string p.th.o, .string p.th.i, .string p.th.rel, .slice sa p.th.subs.length sc, .slice a p.tps.length cap] 36)) from (Below.refl _ _).alloc (Nat.le_refl _) _)
  have HX := Lib.hid (heap_alloc_new w (.cells #[.int .u64 (p.id : Int), .int .i64 p.err, .int .u64 (p.rev : Int), .string p.token, .slice a1 p.flags.length c1, .slice a2 p.tuples.length c2, .slice a3 p.objs.length c3, .slice a4 p.events.length c4, .slice a5 p.steps.length c5, .int .i64 p.th.kind, .string p.th.o, .string p.th.i, .string p.th.rel, .slice sa p.th.subs.length sc, .slice a p.tps.length cap] 36))
  obtain ⟨N, hN⟩ : ∃ N, w.heap.size = N := ⟨_, rfl⟩
  have HN := Lib.hid hN
  rw [hN] at HX
  clear hds hdt hr hE hN
  go_enter Tryz.func7, Tryz.ntmps7
  go_upto_region 1 with fail
  rw [HN.out]
  generalize w.alloc (.cells #[.int .u64 (p.id : Int), .int .i64 p.err, .int .u64 (p.rev : Int), .string p.token, .slice a1 p.flags.length c1, .slice a2 p.tuples.length c2, .slice a3 p.objs.length c3, .slice a4 p.events.length c4, .slice a5 p.steps.length c5, .int .i64 p.th.kind, .string p.th.o, .string p.th.i, .string p.th.rel, .slice sa p.th.subs.length sc, .slice a p.tps.length cap] 36) = W0 at *
  have k8 := Lib.cell_of_heap HX.out 8
  simp at k8
  have hgx := (Array.getElem?_eq_some_iff.1 HX.out).1
  go_wp2
  clear k8
  go_loopw [8] (fun iv wr => FlRel W0.heap.size W0 p.steps iv wr) (fun iv _ => p.steps.length - (intOf iv).toNat)
  case atStart => exact ⟨0, rfl, Nat.zero_le _, rfl, Below.refl _ _⟩
  case round =>
    obtain ⟨i, rfl, hin, hal, hb⟩ := hrel
    have hbw := HB.out.trans (hb.mono HB.out.size)
    have hRw := (HR.out.keep (Keeps.of_below hbw)).mono (fun x _ (hx : x < w.heap.size) => Nat.lt_of_lt_of_le hx hbw.size)
    by_cases hlt : i < p.steps.length
    · have hltI : (i : Int) < (p.steps.length : Nat) := by omega
      obtain ⟨y, hy⟩ : ∃ y, p.steps[i]? = some y := ⟨p.steps[i]'hlt, List.getElem?_eq_getElem _⟩
      have hym := List.mem_of_getElem? hy
      obtain ⟨_, _, hv, _, _, hst⟩ := hRw.steps
      cases hv
      obtain ⟨b, off, cs, rfl, hbB, hbl, hcs, xa, xcap, ba, bc, rfl, hc1, hc2, htr, hro⟩ := hst i y hy
      have k0 := hcs 0 _ rfl
      have k1 := hcs 1 _ rfl
      have k2 := hcs 2 _ rfl
      have k3 := hcs 3 _ rfl
      have k4 := hcs 4 _ rfl
      have k5 := hcs 5 _ rfl
      have k6 := hcs 6 _ rfl
      have k7 := hcs 7 _ rfl
      have k8 := hcs 8 _ rfl
      have k9 := hcs 9 _ rfl
      have k10 := hcs 10 _ rfl
      simp only [Nat.add_zero] at k0 k1 k2 k3 k4 k5 k6 k7 k8 k9 k10
      have hbs := hb.size
      have hba : Below wr.heap.size wr (wr.alloc (.cells #[.string y.p.a, .string y.p.b, .string y.p.c, .int .i64 y.h.kind, .string y.h.a, .string y.h.b, .slice xa y.ps.length xcap, .string y.s.a, .string y.s.b, .string y.s.c, .slice ba y.ys.length bc] 74)) := (Below.refl _ _).alloc (Nat.le_refl _) _
      have HBx := Lib.hid (heap_alloc_new wr (.cells #[.string y.p.a, .string y.p.b, .string y.p.c, .int .i64 y.h.kind, .string y.h.a, .string y.h.b, .slice xa y.ps.length xcap, .string y.s.a, .string y.s.b, .string y.s.c, .slice ba y.ys.length bc] 74))
      have HB2 := Lib.hid (hb.trans (hba.mono hb.size))
      have HXt := Lib.hid (TrsAt.mono (ok' := (· < (wr.alloc (.cells #[.string y.p.a, .string y.p.b, .string y.p.c, .int .i64 y.h.kind, .string y.h.a, .string y.h.b, .slice xa y.ps.length xcap, .string y.s.a, .string y.s.b, .string y.s.c, .slice ba y.ys.length bc] 74)).heap.size)) (fun x hx _ => hx) (ruHd_mono (fun x hx _ => hx)) y.ps (TrsAt.keep (Keeps.of_below_size hba) (ruHd_keep (Keeps.of_below_size hba)) y.ps htr))
      have hsn : (p.steps.take (i + 1)).all (stFit 0) = decide ((Tr.mk y.h y.ps).depth ≤ 64) := by
        rw [List.take_add_one, hy, List.all_append, hal, ← stFit_le]
        simp
      have hdy := HDs.out y hym
      have HSn := Lib.hid hsn
      have HAll := Lib.hid (show stFit 0 y = false → p.steps.all (stFit 0) = false from fun h => List.all_eq_false.2 ⟨y, hym, by rw [h]; decide⟩)
      rw [stFit_le] at HAll
      obtain ⟨yh, hyh⟩ : ∃ h, h = y.h := ⟨_, rfl⟩
      obtain ⟨yp, hyp⟩ : ∃ h, h = y.ps := ⟨_, rfl⟩
      have HIt := Lib.hid (fun W h => depth37_ok _ (Nat.le_trans hdy (by decide)) y.h y.ps (Nat.le_refl _) W xa xcap hc1 hc2 h)
      obtain ⟨Dy, hDy⟩ : ∃ D, (Tr.mk y.h y.ps).depth = D := ⟨_, rfl⟩
      rw [hDy] at HIt HSn HAll hdy
      clear hDy hb hbw hRw hba hy hst hcs htr hro hsn hal hyh hyp HR
      go_upto_region 4 with fail
      generalize wr.alloc (.cells #[.string y.p.a, .string y.p.b, .string y.p.c, .int .i64 y.h.kind, .string y.h.a, .string y.h.b, .slice xa y.ps.length xcap, .string y.s.a, .string y.s.b, .string y.s.c, .slice ba y.ys.length bc] 74) = w2 at *
      have x3 := Lib.cell_of_heap HBx.out 3
      have x4 := Lib.cell_of_heap HBx.out 4
      have x5 := Lib.cell_of_heap HBx.out 5
      have x6 := Lib.cell_of_heap HBx.out 6
      simp at x3 x4 x5 x6
      have hbl2 : wr.heap.size < w2.heap.size := (Array.getElem?_eq_some_iff.1 HBx.out).1
      have HI2 := Lib.hid (HIt.out w2 HXt.out)
      clear HIt
      go_wp2_with (go_at_call 32; go_must (refine HI2.out.mono ?_))
      rintro e w3 ⟨rfl, b3⟩
      have HB3 := Lib.hid (HB2.out.trans (b3.mono (by omega)))
      clear b3 HI2 HB2 HBx HXt x3 x4 x5 x6 k0 k1 k2 k3 k4 k5 k6 k7 k8 k9 k10
      by_cases h64 : Dy ≤ 64
      · have h64I : ¬ (64 : Int) < Dy := by omega
        go_wp2
        exact ⟨⟨i + 1, by go_num, by omega, by rw [HSn.out, decide_eq_true h64], HB3.out⟩, by simp [intOf]; omega⟩
      · have h64I : (64 : Int) < Dy := by omega
        have hres : respFit p = false := by rw [HRf.out, HAll.out (decide_eq_false h64), Bool.false_and]
        have HRes := Lib.hid hres
        clear hres
        go_wp2
        go_ret
        rw [HRes.out]
        exact ⟨rfl, HB.out.trans (HB3.out.mono HB.out.size)⟩
    · obtain hie : i = p.steps.length := by omega
      subst hie
      have hltI : ¬ ((p.steps.length : Nat) : Int) < (p.steps.length : Nat) := by omega
      rw [List.take_of_length_le (Nat.le_refl _)] at hal
      have hres : respFit p = decide (E ≤ 64) := by rw [HRf.out, hal, Bool.true_and, HFt.out]
      have hxx := (hb.block N hgx).trans HX.out
      have hbs := hb.size
      have x9 := Lib.cell_of_heap hxx 9
      have x10 := Lib.cell_of_heap hxx 10
      have x11 := Lib.cell_of_heap hxx 11
      have x12 := Lib.cell_of_heap hxx 12
      have x13 := Lib.cell_of_heap hxx 13
      have x14 := Lib.cell_of_heap hxx 14
      simp at x9 x10 x11 x12 x13 x14
      have hgx2 : N < wr.heap.size := by omega
      have HI2 := Lib.hid (HDp.out wr hRw)
      have HBw := Lib.hid hbw
      have HRes := Lib.hid hres
      clear hb hbw hRw hal hxx hres HDp HR
      go_wp2_with (go_at_call 33; go_must (refine HI2.out.mono ?_))
      rintro e w3 ⟨rfl, b3⟩
      have HB3 := Lib.hid (HBw.out.trans (b3.mono HBw.out.size))
      clear b3 HI2 x9 x10 x11 x12 x13 x14
      by_cases h64 : E ≤ 64
      · have h64I : (E : Int) ≤ 64 := by omega
        go_wp2
        go_ret
        rw [HRes.out, decide_eq_true h64]
        exact ⟨by simp, HB3.out⟩
      · have h64I : ¬ (E : Int) ≤ 64 := by omega
        go_wp2
        go_ret
        rw [HRes.out, decide_eq_false h64]
        exact ⟨by simp [h64I], HB3.out⟩

def SmPost (w : World) (e : Ending) (w' : World) : Prop := ∃ b, e = .returned (.bool b) ∧ Below w.heap.size w w'
def CnRel (w : World) (n : Nat) (iv : Value) (wr : World) : Prop := ∃ i : Nat, iv = .int .i64 (i : Int) ∧ i ≤ n ∧ Below w.heap.size w wr
def CkRel (w : World) (n : Nat) (kv iv : Value) (wr : World) : Prop := ∃ (i : Nat) (k : Int), iv = .int .i64 (i : Int) ∧ kv = .int .i64 k ∧ i ≤ n ∧ Below w.heap.size w wr
def intF : SlotFact := ⟨fun v _ => ∃ k : Int, v = .int .i64 k, fun _ _ _ h _ => h⟩
theorem shortAny (w : World) (a b c d e f : ByteArray) : Calls Tryz.prog 15 #[.agg #[.string a, .string b, .string c, .string d, .string e, .string f]] w (SmPost w) := (short_any w ⟨a, b, c, d, e, f⟩).mono fun _ _ h => ⟨_, h.1, h.2⟩

set_option maxRecDepth 100000 in
set_option maxHeartbeats 4000000 in
theorem small37_any (w : World) (p : Resp) (a1 a2 a3 a4 a5 sa a : Option Addr) (c1 c2 c3 c4 c5 sc cap : Nat) (hr : RespR (· < w.heap.size) w p a1 a2 a3 a4 a5 sa a c1 c2 c3 c4 c5 sc cap) (hl : (respB p).length ≤ 20000000) (hin : RespIn p) :
    Calls Tryz.prog 5 #[.agg #[.int .u64 (p.id : Int), .int .i64 p.err, .int .u64 (p.rev : Int), .string p.token, .slice a1 p.flags.length c1, .slice a2 p.tuples.length c2, .slice a3 p.objs.length c3, .slice a4 p.events.length c4, .slice a5 p.steps.length c5, .int .i64 p.th.kind, .string p.th.o, .string p.th.i, .string p.th.rel, .slice sa p.th.subs.length sc, .slice a p.tps.length cap]] w (SmPost w) := by
  have hdt : (Tr.mk p.th p.tps).depth ≤ 20000000 := by
    have h1 := Tr.depth_bytes noB _ (Tr.mk p.th p.tps) (Nat.le_refl _)
    have h2 : ((Tr.mk p.th p.tps).bytes noB).length ≤ (respB p).length := by unfold respB; simp only [List.length_append]; omega
    omega
  have hds : ∀ y ∈ p.steps, (Tr.mk y.h y.ps).depth ≤ 20000000 := fun y hy => by
    have h1 := Tr.depth_bytes ruB _ (Tr.mk y.h y.ps) (Nat.le_refl _)
    have h2 : (stB y).length ≤ (p.steps.flatMap stB).length := by
      obtain ⟨l1, l2, e⟩ := List.append_of_mem hy
      rw [e]
      simp only [List.flatMap_append, List.flatMap_cons, List.length_append]
      omega
    have h3 : ((Tr.mk y.h y.ps).bytes ruB).length ≤ (stB y).length := by unfold stB; simp only [List.length_append]; omega
    have h4 : (p.steps.flatMap stB).length ≤ (respB p).length := by unfold respB listB; simp only [List.length_append]; omega
    omega
  have HDs := Lib.hid hds
  have HFe := Lib.hid (fun (W : World) (l : Int) (h : RespR (· < W.heap.size) W p a1 a2 a3 a4 a5 sa a c1 c2 c3 c4 c5 sc cap) => few28_ok _ (Nat.le_trans hdt (by decide)) p.th p.tps (Nat.le_refl _) W a cap sa sc l h.capLe h.capMax h.tree)
  have HSh := Lib.hid shortAny
  obtain ⟨n1, hn1⟩ : ∃ n, p.flags.length = n := ⟨_, rfl⟩
  obtain ⟨n2, hn2⟩ : ∃ n, p.tuples.length = n := ⟨_, rfl⟩
  obtain ⟨n3, hn3⟩ : ∃ n, p.objs.length = n := ⟨_, rfl⟩
  obtain ⟨n4, hn4⟩ : ∃ n, p.events.length = n := ⟨_, rfl⟩
  obtain ⟨n5, hn5⟩ : ∃ n, p.steps.length = n := ⟨_, rfl⟩
  have l1 := hin.flags
  have l2 := hin.tuples
  have l3 := hin.objs
  have l4 := hin.events
  have l5 := hin.steps
  rw [hn1] at l1
  rw [hn2] at l2
  rw [hn3] at l3
  rw [hn4] at l4
  rw [hn5] at l5
  have q1 : IntKind.i64.wrap ((n2 : Int) + n3) = (n2 : Int) + n3 := by rw [IntKind.wrap_i64] <;> omega
  have q2 : IntKind.i64.wrap ((n2 : Int) + n3 + n4) = (n2 : Int) + n3 + n4 := by rw [IntKind.wrap_i64] <;> omega
  have q3 : IntKind.i64.wrap ((n2 : Int) + n3 + n4 + n5) = (n2 : Int) + n3 + n4 + n5 := by rw [IntKind.wrap_i64] <;> omega
  have HR := Lib.hid hr
  have H1 := Lib.hid hn1
  have H2 := Lib.hid hn2
  have H3 := Lib.hid hn3
  have H4 := Lib.hid hn4
  have H5 := Lib.hid hn5
  have HB := Lib.hid (show Below w.heap.size w (w.alloc (.cells #[.int .u64 (p.id : Int), .int .i64 p.err, .int .u64 (p.rev : Int), .string p.token, .slice a1 p.flags.length c1, .slice a2 p.tuples.length c2, .slice a3 p.objs.length c3, .slice a4 p.events.length c4, .slice a5 p.steps.length c5, .int .i64 p.th.kind, .string p.th.o, .string p.th.i, .string p.th.rel, .slice sa p.th.subs.length sc, .slice a p.tps.length cap] 36)) from (Below.refl _ _).alloc (Nat.le_refl _) _)
  have HX := Lib.hid (heap_alloc_new w (.cells #[.int .u64 (p.id : Int), .int .i64 p.err, .int .u64 (p.rev : Int), .string p.token, .slice a1 p.flags.length c1, .slice a2 p.tuples.length c2, .slice a3 p.objs.length c3, .slice a4 p.events.length c4, .slice a5 p.steps.length c5, .int .i64 p.th.kind, .string p.th.o, .string p.th.i, .string p.th.rel, .slice sa p.th.subs.length sc, .slice a p.tps.length cap] 36))
  obtain ⟨N, hN⟩ : ∃ N, w.heap.size = N := ⟨_, rfl⟩
  have HN := Lib.hid hN
  rw [hN] at HX
  rw [hn1, hn2, hn3, hn4, hn5] at HX HB
  rw [hn1, hn2, hn3, hn4, hn5]
  clear hds hdt hr hN hin hn1 hn2 hn3 hn4 hn5
  go_enter Tryz.func5, Tryz.ntmps5
  go_upto_region 1 with fail
  rw [HN.out]
  generalize w.alloc (.cells #[.int .u64 (p.id : Int), .int .i64 p.err, .int .u64 (p.rev : Int), .string p.token, .slice a1 n1 c1, .slice a2 n2 c2, .slice a3 n3 c3, .slice a4 n4 c4, .slice a5 n5 c5, .int .i64 p.th.kind, .string p.th.o, .string p.th.i, .string p.th.rel, .slice sa p.th.subs.length sc, .slice a p.tps.length cap] 36) = W0 at *
  have hgx := (Array.getElem?_eq_some_iff.1 HX.out).1
  have k3 := Lib.cell_of_heap HX.out 3; have k4 := Lib.cell_of_heap HX.out 4; have k5 := Lib.cell_of_heap HX.out 5; have k6 := Lib.cell_of_heap HX.out 6; have k7 := Lib.cell_of_heap HX.out 7; have k8 := Lib.cell_of_heap HX.out 8; have k9 := Lib.cell_of_heap HX.out 9; have k10 := Lib.cell_of_heap HX.out 10; have k11 := Lib.cell_of_heap HX.out 11; have k12 := Lib.cell_of_heap HX.out 12; have k13 := Lib.cell_of_heap HX.out 13; have k14 := Lib.cell_of_heap HX.out 14
  simp at k3 k4 k5 k6 k7 k8 k9 k10 k11 k12 k13 k14
  by_cases g1 : 100 < n1
  · have g1I : (100 : Int) < n1 := by omega
    go_wp2
    go_ret
    exact ⟨false, rfl, HB.out⟩
  have g1I : ¬ (100 : Int) < n1 := by omega
  by_cases g2 : 40 < n2 + n3 + n4 + n5
  · have g2I : (40 : Int) < (n2 : Int) + n3 + n4 + n5 := by omega
    go_wp2
    go_ret
    exact ⟨false, rfl, HB.out⟩
  have g2I : ¬ (40 : Int) < (n2 : Int) + n3 + n4 + n5 := by omega
  by_cases g3 : 300 < p.token.size
  · have g3I : (300 : Int) < p.token.size := by omega
    go_wp2
    go_ret
    exact ⟨false, rfl, HB.out⟩
  have g3I : ¬ (300 : Int) < p.token.size := by omega
  have hR0 := (HR.out.keep (Keeps.of_below HB.out)).mono (fun x _ (hx : x < w.heap.size) => Nat.lt_of_lt_of_le hx HB.out.size)
  have HI := Lib.hid (HFe.out W0 200 hR0)
  clear hR0
  go_wp2_with (go_at_call 14; go_must (refine HI.out.mono ?_))
  rintro e w1 ⟨kf, rfl, b1⟩
  have HX := Lib.hid ((b1.block N hgx).trans HX.out)
  have HB := Lib.hid (HB.out.trans (b1.mono HB.out.size))
  clear b1 HI HFe k3 k4 k5 k6 k7 k8 k9 k10 k11 k12 k13 k14 hgx
  by_cases g4 : kf < 0
  · go_wp2
    go_ret
    exact ⟨false, rfl, HB.out⟩
  have hgx := (Array.getElem?_eq_some_iff.1 HX.out).1
  have k3 := Lib.cell_of_heap HX.out 3; have k4 := Lib.cell_of_heap HX.out 4; have k5 := Lib.cell_of_heap HX.out 5; have k6 := Lib.cell_of_heap HX.out 6; have k7 := Lib.cell_of_heap HX.out 7; have k8 := Lib.cell_of_heap HX.out 8; have k9 := Lib.cell_of_heap HX.out 9; have k10 := Lib.cell_of_heap HX.out 10; have k11 := Lib.cell_of_heap HX.out 11; have k12 := Lib.cell_of_heap HX.out 12; have k13 := Lib.cell_of_heap HX.out 13; have k14 := Lib.cell_of_heap HX.out 14
  simp at k3 k4 k5 k6 k7 k8 k9 k10 k11 k12 k13 k14
  go_wp2
  clear k3 k4 k5 k6 k7 k8 k9 k10 k11 k12 k13 k14
  go_loopw [49] (fun iv wr => CnRel w1 n2 iv wr) (fun iv _ => n2 - (intOf iv).toNat)
  case atStart => exact ⟨0, rfl, Nat.zero_le _, Below.refl _ _⟩
  case round =>
    rename World => wr
    obtain ⟨i, rfl, hin, hb⟩ := hrel
    have hbs := hb.size
    have hbw := HB.out.trans (hb.mono HB.out.size)
    by_cases hlt : i < n2
    · have hltI : (i : Int) < n2 := by omega
      obtain ⟨y, hy⟩ : ∃ y, p.tuples[i]? = some y := ⟨p.tuples[i]'(by rw [H2.out]; exact hlt), List.getElem?_eq_getElem _⟩
      have hrr := (HR.out.keep (Keeps.of_below hbw)).tuples
      have hrr2 := hrr.reads (flat_lenk T6.cells 6 (fun _ => rfl) _)
      rw [H2.out] at hrr2
      obtain ⟨b, off, rfl, hbl, hcs⟩ := rows_at T6.cells 6 (fun _ => rfl) hrr2 hy (by decide)
      have k0 := hcs 0 _ rfl; have k1 := hcs 1 _ rfl; have k2 := hcs 2 _ rfl; have k3 := hcs 3 _ rfl; have k4 := hcs 4 _ rfl; have k5 := hcs 5 _ rfl
      simp only [Nat.add_zero] at k0 k1 k2 k3 k4 k5
      have hba : Below wr.heap.size wr (wr.alloc (.cells #[.string y.a, .string y.b, .string y.c, .string y.d, .string y.e, .string y.f] 62)) := (Below.refl _ _).alloc (Nat.le_refl _) _
      have HBx := Lib.hid (heap_alloc_new wr (.cells #[.string y.a, .string y.b, .string y.c, .string y.d, .string y.e, .string y.f] 62))
      have HB2 := Lib.hid (hb.trans (hba.mono hbs))
      clear hba hrr hrr2 hcs hy hb hbw
      go_upto_region 6 with fail
      generalize wr.alloc (.cells #[.string y.a, .string y.b, .string y.c, .string y.d, .string y.e, .string y.f] 62) = w2 at *
      have x0 := Lib.cell_of_heap HBx.out 0; have x1 := Lib.cell_of_heap HBx.out 1; have x2 := Lib.cell_of_heap HBx.out 2; have x3 := Lib.cell_of_heap HBx.out 3; have x4 := Lib.cell_of_heap HBx.out 4; have x5 := Lib.cell_of_heap HBx.out 5
      simp at x0 x1 x2 x3 x4 x5
      have hbl2 : wr.heap.size < w2.heap.size := (Array.getElem?_eq_some_iff.1 HBx.out).1
      go_wp2_with (go_at_call 15; go_must (refine (HSh.out _ _ _ _ _ _ _).mono ?_))
      rintro e w3 ⟨sb, rfl, b3⟩
      have HB3 := Lib.hid (HB2.out.trans (b3.mono (by omega)))
      clear b3 HB2 HBx k0 k1 k2 k3 k4 k5 x0 x1 x2 x3 x4 x5
      cases sb with
      | false =>
        go_wp2
        go_ret
        exact ⟨false, rfl, HB.out.trans (HB3.out.mono HB.out.size)⟩
      | true =>
        go_wp2
        exact ⟨⟨i + 1, by go_num, by omega, HB3.out⟩, by simp [intOf]; omega⟩
    · obtain hie : i = n2 := by omega
      subst hie
      have hltI : ¬ ((i : Nat) : Int) < (i : Nat) := by omega
      have HX := Lib.hid ((hb.block N hgx).trans HX.out)
      have HB := Lib.hid hbw
      have hgx := (Array.getElem?_eq_some_iff.1 HX.out).1
      clear hb hbw
      have k3 := Lib.cell_of_heap HX.out 3; have k4 := Lib.cell_of_heap HX.out 4; have k5 := Lib.cell_of_heap HX.out 5; have k6 := Lib.cell_of_heap HX.out 6; have k7 := Lib.cell_of_heap HX.out 7; have k8 := Lib.cell_of_heap HX.out 8; have k9 := Lib.cell_of_heap HX.out 9; have k10 := Lib.cell_of_heap HX.out 10; have k11 := Lib.cell_of_heap HX.out 11; have k12 := Lib.cell_of_heap HX.out 12; have k13 := Lib.cell_of_heap HX.out 13; have k14 := Lib.cell_of_heap HX.out 14
      simp at k3 k4 k5 k6 k7 k8 k9 k10 k11 k12 k13 k14
      go_wp2
      clear k3 k4 k5 k6 k7 k8 k9 k10 k11 k12 k13 k14
      go_loopw [60] (fun iv wr2 => CnRel wr n3 iv wr2) (fun iv _ => n3 - (intOf iv).toNat)
      case atStart => exact ⟨0, rfl, Nat.zero_le _, Below.refl _ _⟩
      case round =>
        rename World => wr2
        obtain ⟨i, rfl, hin, hb⟩ := hrel
        have hbs := hb.size
        have hbw := HB.out.trans (hb.mono HB.out.size)
        by_cases hlt : i < n3
        · have hltI : (i : Int) < n3 := by omega
          obtain ⟨y, hy⟩ : ∃ y, p.objs[i]? = some y := ⟨p.objs[i]'(by rw [H3.out]; exact hlt), List.getElem?_eq_getElem _⟩
          have hrr := (HR.out.keep (Keeps.of_below hbw)).objs
          have hrr2 := hrr.reads (flat_lenk T2.cells 2 (fun _ => rfl) _)
          rw [H3.out] at hrr2
          obtain ⟨b, off, rfl, hbl, hcs⟩ := rows_at T2.cells 2 (fun _ => rfl) hrr2 hy (by decide)
          have k0 := hcs 0 _ rfl; have k1 := hcs 1 _ rfl
          simp only [Nat.add_zero] at k0 k1
          have hba : Below wr2.heap.size wr2 (wr2.alloc (.cells #[.string y.a, .string y.b] 30)) := (Below.refl _ _).alloc (Nat.le_refl _) _
          have HBx := Lib.hid (heap_alloc_new wr2 (.cells #[.string y.a, .string y.b] 30))
          have HB2 := Lib.hid (hb.trans (hba.mono hbs))
          clear hba hrr hrr2 hcs hy hb hbw
          go_upto_region 12 with fail
          generalize wr2.alloc (.cells #[.string y.a, .string y.b] 30) = w2 at *
          have x0 := Lib.cell_of_heap HBx.out 0; have x1 := Lib.cell_of_heap HBx.out 1
          simp at x0 x1
          have hbl2 : wr2.heap.size < w2.heap.size := (Array.getElem?_eq_some_iff.1 HBx.out).1
          have HB3 := HB2
          go_wp2
          all_goals first | exact ⟨⟨i + 1, by go_num, by omega, HB3.out⟩, by simp [intOf]; omega⟩ | (go_ret; exact ⟨false, rfl, HB.out.trans (HB3.out.mono HB.out.size)⟩)
        · obtain hie : i = n3 := by omega
          subst hie
          have hltI : ¬ ((i : Nat) : Int) < (i : Nat) := by omega
          have HX := Lib.hid ((hb.block N hgx).trans HX.out)
          have HB := Lib.hid hbw
          have hgx := (Array.getElem?_eq_some_iff.1 HX.out).1
          clear hb hbw
          have k3 := Lib.cell_of_heap HX.out 3; have k4 := Lib.cell_of_heap HX.out 4; have k5 := Lib.cell_of_heap HX.out 5; have k6 := Lib.cell_of_heap HX.out 6; have k7 := Lib.cell_of_heap HX.out 7; have k8 := Lib.cell_of_heap HX.out 8; have k9 := Lib.cell_of_heap HX.out 9; have k10 := Lib.cell_of_heap HX.out 10; have k11 := Lib.cell_of_heap HX.out 11; have k12 := Lib.cell_of_heap HX.out 12; have k13 := Lib.cell_of_heap HX.out 13; have k14 := Lib.cell_of_heap HX.out 14
          simp at k3 k4 k5 k6 k7 k8 k9 k10 k11 k12 k13 k14
          go_wp2
          clear k3 k4 k5 k6 k7 k8 k9 k10 k11 k12 k13 k14
          go_loopw [76] (fun iv wr3 => CnRel wr2 n4 iv wr3) (fun iv _ => n4 - (intOf iv).toNat)
          case atStart => exact ⟨0, rfl, Nat.zero_le _, Below.refl _ _⟩
          case round =>
            rename World => wr3
            obtain ⟨i, rfl, hin, hb⟩ := hrel
            have hbs := hb.size
            have hbw := HB.out.trans (hb.mono HB.out.size)
            by_cases hlt : i < n4
            · have hltI : (i : Int) < n4 := by omega
              obtain ⟨y, hy⟩ : ∃ y, p.events[i]? = some y := ⟨p.events[i]'(by rw [H4.out]; exact hlt), List.getElem?_eq_getElem _⟩
              have hrr := (HR.out.keep (Keeps.of_below hbw)).events
              have hrr2 := hrr.reads (flat_lenk Evt.cells 8 (fun _ => rfl) _)
              rw [H4.out] at hrr2
              obtain ⟨b, off, rfl, hbl, hcs⟩ := rows_at Evt.cells 8 (fun _ => rfl) hrr2 hy (by decide)
              have k0 := hcs 0 _ rfl; have k1 := hcs 1 _ rfl; have k2 := hcs 2 _ rfl; have k3 := hcs 3 _ rfl; have k4 := hcs 4 _ rfl; have k5 := hcs 5 _ rfl; have k6 := hcs 6 _ rfl; have k7 := hcs 7 _ rfl
              simp only [Nat.add_zero] at k0 k1 k2 k3 k4 k5 k6 k7
              have hba : Below wr3.heap.size wr3 (wr3.alloc (.cells #[.int .u64 (y.rev : Int), .bool y.x.is, .string y.x.t.a, .string y.x.t.b, .string y.x.t.c, .string y.x.t.d, .string y.x.t.e, .string y.x.t.f] 67)) := (Below.refl _ _).alloc (Nat.le_refl _) _
              have HBx := Lib.hid (heap_alloc_new wr3 (.cells #[.int .u64 (y.rev : Int), .bool y.x.is, .string y.x.t.a, .string y.x.t.b, .string y.x.t.c, .string y.x.t.d, .string y.x.t.e, .string y.x.t.f] 67))
              have HB2 := Lib.hid (hb.trans (hba.mono hbs))
              clear hba hrr hrr2 hcs hy hb hbw
              go_upto_region 18 with fail
              generalize wr3.alloc (.cells #[.int .u64 (y.rev : Int), .bool y.x.is, .string y.x.t.a, .string y.x.t.b, .string y.x.t.c, .string y.x.t.d, .string y.x.t.e, .string y.x.t.f] 67) = w2 at *
              have x0 := Lib.cell_of_heap HBx.out 0; have x1 := Lib.cell_of_heap HBx.out 1; have x2 := Lib.cell_of_heap HBx.out 2; have x3 := Lib.cell_of_heap HBx.out 3; have x4 := Lib.cell_of_heap HBx.out 4; have x5 := Lib.cell_of_heap HBx.out 5; have x6 := Lib.cell_of_heap HBx.out 6; have x7 := Lib.cell_of_heap HBx.out 7
              simp at x0 x1 x2 x3 x4 x5 x6 x7
              have hbl2 : wr3.heap.size < w2.heap.size := (Array.getElem?_eq_some_iff.1 HBx.out).1
              go_wp2_with (go_at_call 15; go_must (refine (HSh.out _ _ _ _ _ _ _).mono ?_))
              rintro e w3 ⟨sb, rfl, b3⟩
              have HB3 := Lib.hid (HB2.out.trans (b3.mono (by omega)))
              clear b3 HB2 HBx k0 k1 k2 k3 k4 k5 k6 k7 x0 x1 x2 x3 x4 x5 x6 x7
              cases sb with
              | false =>
                go_wp2
                go_ret
                exact ⟨false, rfl, HB.out.trans (HB3.out.mono HB.out.size)⟩
              | true =>
                go_wp2
                exact ⟨⟨i + 1, by go_num, by omega, HB3.out⟩, by simp [intOf]; omega⟩
            · obtain hie : i = n4 := by omega
              subst hie
              have hltI : ¬ ((i : Nat) : Int) < (i : Nat) := by omega
              have HX := Lib.hid ((hb.block N hgx).trans HX.out)
              have HB := Lib.hid hbw
              have hgx := (Array.getElem?_eq_some_iff.1 HX.out).1
              clear hb hbw
              have k3 := Lib.cell_of_heap HX.out 3; have k4 := Lib.cell_of_heap HX.out 4; have k5 := Lib.cell_of_heap HX.out 5; have k6 := Lib.cell_of_heap HX.out 6; have k7 := Lib.cell_of_heap HX.out 7; have k8 := Lib.cell_of_heap HX.out 8; have k9 := Lib.cell_of_heap HX.out 9; have k10 := Lib.cell_of_heap HX.out 10; have k11 := Lib.cell_of_heap HX.out 11; have k12 := Lib.cell_of_heap HX.out 12; have k13 := Lib.cell_of_heap HX.out 13; have k14 := Lib.cell_of_heap HX.out 14
              simp at k3 k4 k5 k6 k7 k8 k9 k10 k11 k12 k13 k14
              go_wp2
              clear k3 k4 k5 k6 k7 k8 k9 k10 k11 k12 k13 k14
              go_loopw [9, 89] (fun kv iv wr4 => CkRel wr3 n5 kv iv wr4) (fun _ iv _ => n5 - (intOf iv).toNat)
              case atStart => exact ⟨0, _, rfl, rfl, Nat.zero_le _, Below.refl _ _⟩
              case round =>
                rename World => wr4
                obtain ⟨i, kl, rfl, rfl, hin, hb⟩ := hrel
                have hbs := hb.size
                have hbw := HB.out.trans (hb.mono HB.out.size)
                by_cases hlt : i < n5
                · have hltI : (i : Int) < n5 := by omega
                  obtain ⟨y, hy⟩ : ∃ y, p.steps[i]? = some y := ⟨p.steps[i]'(by rw [H5.out]; exact hlt), List.getElem?_eq_getElem _⟩
                  have hym := List.mem_of_getElem? hy
                  have hRw := (HR.out.keep (Keeps.of_below hbw)).mono (fun x _ (hx : x < w.heap.size) => Nat.lt_of_lt_of_le hx hbw.size)
                  have hss := hRw.steps
                  rw [H5.out] at hss
                  obtain ⟨_, _, hv, _, _, hst⟩ := hss
                  cases hv
                  obtain ⟨b, off, cs, rfl, hbB, hbl, hcs, xa, xcap, ba, bc, rfl, hc1, hc2, htr, hro⟩ := hst i y hy
                  have k0 := hcs 0 _ rfl; have k1 := hcs 1 _ rfl; have k2 := hcs 2 _ rfl; have k3 := hcs 3 _ rfl; have k4 := hcs 4 _ rfl; have k5 := hcs 5 _ rfl; have k6 := hcs 6 _ rfl; have k7 := hcs 7 _ rfl; have k8 := hcs 8 _ rfl; have k9 := hcs 9 _ rfl; have k10 := hcs 10 _ rfl
                  simp only [Nat.add_zero] at k0 k1 k2 k3 k4 k5 k6 k7 k8 k9 k10
                  have hba : Below wr4.heap.size wr4 (wr4.alloc (.cells #[.string y.p.a, .string y.p.b, .string y.p.c, .int .i64 y.h.kind, .string y.h.a, .string y.h.b, .slice xa y.ps.length xcap, .string y.s.a, .string y.s.b, .string y.s.c, .slice ba y.ys.length bc] 74)) := (Below.refl _ _).alloc (Nat.le_refl _) _
                  have HBx := Lib.hid (heap_alloc_new wr4 (.cells #[.string y.p.a, .string y.p.b, .string y.p.c, .int .i64 y.h.kind, .string y.h.a, .string y.h.b, .slice xa y.ps.length xcap, .string y.s.a, .string y.s.b, .string y.s.c, .slice ba y.ys.length bc] 74))
                  have HB2 := Lib.hid (hb.trans (hba.mono hbs))
                  have HXt := Lib.hid (TrsAt.mono (ok' := (· < (wr4.alloc (.cells #[.string y.p.a, .string y.p.b, .string y.p.c, .int .i64 y.h.kind, .string y.h.a, .string y.h.b, .slice xa y.ps.length xcap, .string y.s.a, .string y.s.b, .string y.s.c, .slice ba y.ys.length bc] 74)).heap.size)) (fun x hx _ => hx) (ruHd_mono (fun x hx _ => hx)) y.ps (TrsAt.keep (Keeps.of_below_size hba) (ruHd_keep (Keeps.of_below_size hba)) y.ps htr))
                  have hbaS := hba.size
                  have HIt := Lib.hid (fun W l h => small05_ok _ (Nat.le_trans (HDs.out y hym) (by decide)) y.h y.ps (Nat.le_refl _) W xa xcap l hc1 hc2 h)
                  clear hba hRw hst hcs hy hb hbw htr hro
                  go_upto_region 25 with fail
                  generalize wr4.alloc (.cells #[.string y.p.a, .string y.p.b, .string y.p.c, .int .i64 y.h.kind, .string y.h.a, .string y.h.b, .slice xa y.ps.length xcap, .string y.s.a, .string y.s.b, .string y.s.c, .slice ba y.ys.length bc] 74) = w2 at *
                  have x0 := Lib.cell_of_heap HBx.out 0; have x1 := Lib.cell_of_heap HBx.out 1; have x2 := Lib.cell_of_heap HBx.out 2; have x3 := Lib.cell_of_heap HBx.out 3; have x4 := Lib.cell_of_heap HBx.out 4; have x5 := Lib.cell_of_heap HBx.out 5; have x6 := Lib.cell_of_heap HBx.out 6; have x7 := Lib.cell_of_heap HBx.out 7; have x8 := Lib.cell_of_heap HBx.out 8; have x9 := Lib.cell_of_heap HBx.out 9; have x10 := Lib.cell_of_heap HBx.out 10
                  simp at x0 x1 x2 x3 x4 x5 x6 x7 x8 x9 x10
                  have hbl2 : wr4.heap.size < w2.heap.size := (Array.getElem?_eq_some_iff.1 HBx.out).1
                  obtain ⟨tb, htb⟩ : ∃ t, wr4.heap.size = t := ⟨_, rfl⟩
                  rw [htb]
                  rw [htb] at HBx hbl2 x0 x1 x2 x3 x4 x5 x6 x7 x8 x9 x10
                  refine wp_region_last (l := [_, _, _, _, _, _, _, _]) (by kernel_rfl) [eqF (.pointer (some ⟨tb, 3, none⟩)), eqF (.agg #[.int .i64 y.h.kind, .string y.h.a, .string y.h.b, .slice xa y.ps.length xcap]), eqF (.int .i64 kl), intF, eqF (.pointer (some ⟨tb, 10, none⟩)), eqF (.slice ba y.ys.length bc), eqF (.int .i64 (y.ys.length : Int)), intF] (by kernel_rfl) (by kernel_rfl) (by kernel_rfl) ⟨?_, ?_, ?_, ?_, ?_, ?_, ?_, ?_, trivial⟩ ?_
                  · intro ρ wx hρ hbx hl
                    have e11 : ρ (.tmp 11) = .pointer (some ⟨tb, 0, none⟩) := hρ.tmp 11 (by decide +kernel)
                    refine y_val (v := .pointer (some ⟨tb, 3, none⟩)) ?_ rfl
                    simp [execOp, go_sem, e11]
                  · intro ρ wx hρ hbx hl
                    have e93 : ρ (.tmp 93) = .pointer (some ⟨tb, 3, none⟩) := hl 0 (by decide +kernel) 93 rfl
                    have j3 := (hbx.cell hbl2).trans x3
                    have j4 := (hbx.cell hbl2).trans x4
                    have j5 := (hbx.cell hbl2).trans x5
                    have j6 := (hbx.cell hbl2).trans x6
                    refine y_val (v := .agg #[.int .i64 y.h.kind, .string y.h.a, .string y.h.b, .slice xa y.ps.length xcap]) ?_ rfl
                    simp [execOp, go_sem, e93, j3, j4, j5, j6]
                  · intro ρ wx hρ hbx hl
                    have e9 : ρ (.tmp 9) = .int .i64 kl := hρ.tmp 9 (by decide +kernel)
                    refine y_val (v := .int .i64 kl) ?_ rfl
                    simp [execOp, go_sem, e9]
                  · intro ρ wx hρ hbx hl
                    have e94 : ρ (.tmp 94) = .agg #[.int .i64 y.h.kind, .string y.h.a, .string y.h.b, .slice xa y.ps.length xcap] := hl 1 (by decide +kernel) 94 rfl
                    have e95 : ρ (.tmp 95) = .int .i64 kl := hl 2 (by decide +kernel) 95 rfl
                    refine y_call (f := 16) (args := #[.agg #[.int .i64 y.h.kind, .string y.h.a, .string y.h.b, .slice xa y.ps.length xcap], .int .i64 kl]) (by simp [execOp, resolve, invoke, hρ.func, go_sem, e94, e95]) ?_
                    refine (HIt.out wx kl (TrsAt.mono (fun x hx _ => hx) (ruHd_mono (fun x hx _ => hx)) y.ps (TrsAt.keep (Keeps.of_below_size hbx) (ruHd_keep (Keeps.of_below_size hbx)) y.ps HXt.out))).mono ?_
                    rintro e w6 ⟨k7, rfl, b7⟩
                    exact ⟨_, rfl, ⟨k7, rfl⟩, b7⟩
                  · intro ρ wx hρ hbx hl
                    have e11 : ρ (.tmp 11) = .pointer (some ⟨tb, 0, none⟩) := hρ.tmp 11 (by decide +kernel)
                    refine y_val (v := .pointer (some ⟨tb, 10, none⟩)) ?_ rfl
                    simp [execOp, go_sem, e11]
                  · intro ρ wx hρ hbx hl
                    have e97 : ρ (.tmp 97) = .pointer (some ⟨tb, 10, none⟩) := hl 4 (by decide +kernel) 97 rfl
                    have kk := (hbx.cell (hbl2)).trans x10
                    refine y_val (v := .slice ba y.ys.length bc) ?_ rfl
                    simp [execOp, go_sem, e97, kk]
                  · intro ρ wx hρ hbx hl
                    have e98 : ρ (.tmp 98) = .slice ba y.ys.length bc := hl 5 (by decide +kernel) 98 rfl
                    refine y_val (v := .int .i64 (y.ys.length : Int)) ?_ rfl
                    simp [go_sem, e98]
                  · intro ρ wx hρ hbx hl
                    have e96 := hl 3 (by decide +kernel) 96 rfl
                    have e99 : ρ (.tmp 99) = .int .i64 (y.ys.length : Int) := hl 6 (by decide +kernel) 99 rfl
                    obtain ⟨k, hk⟩ := e96
                    refine y_val (v := .int .i64 (IntKind.i64.wrap (k - (y.ys.length : Int)))) ?_ ⟨_, rfl⟩
                    simp [execOp, go_sem, hk, e99]
                  intro aa w4 hdef hsz hlk hbz hf
                  have ha := act_of_like hdef hsz hlk [93, 94, 95, 96, 97, 98, 99, 100] 117 rfl (by decide +kernel)
                  have e93 : aa.tmps.getD 93 undef = .pointer (some ⟨tb, 3, none⟩) := hf 0 _ 93 rfl rfl
                  have e94 : aa.tmps.getD 94 undef = .agg #[.int .i64 y.h.kind, .string y.h.a, .string y.h.b, .slice xa y.ps.length xcap] := hf 1 _ 94 rfl rfl
                  have e95 : aa.tmps.getD 95 undef = .int .i64 kl := hf 2 _ 95 rfl rfl
                  have e96 : (intF).1 (aa.tmps.getD 96 undef) w4 := hf 3 _ 96 rfl rfl
                  obtain ⟨k96, hk96⟩ := e96
                  have e97 : aa.tmps.getD 97 undef = .pointer (some ⟨tb, 10, none⟩) := hf 4 _ 97 rfl rfl
                  have e98 : aa.tmps.getD 98 undef = .slice ba y.ys.length bc := hf 5 _ 98 rfl rfl
                  have e99 : aa.tmps.getD 99 undef = .int .i64 (y.ys.length : Int) := hf 6 _ 99 rfl rfl
                  have e100 : (intF).1 (aa.tmps.getD 100 undef) w4 := hf 7 _ 100 rfl rfl
                  obtain ⟨k100, hk100⟩ := e100
                  simp only [putAll, List.foldl_cons, List.foldl_nil, e93, e94, e95, hk96, e97, e98, e99, hk100] at ha
                  simp [Act.put] at ha
                  subst ha
                  clear hdef hsz hlk hf e93 e94 e95 hk96 e97 e98 e99 hk100
                  have HBx := Lib.hid ((hbz.block tb hbl2).trans HBx.out)
                  have HB2 := Lib.hid (HB2.out.trans (hbz.mono (by omega)))
                  have hbs4 := hbz.size
                  clear hbz x0 x1 x2 x3 x4 x5 x6 x7 x8 x9 x10 k0 k1 k2 k3 k4 k5 k6 k7 k8 k9 k10 HIt HXt
                  by_cases hneg : k100 < 0
                  · go_wp2
                    go_ret
                    exact ⟨false, rfl, HB.out.trans (HB2.out.mono HB.out.size)⟩
                  · have hbl4 : tb < w4.heap.size := (Array.getElem?_eq_some_iff.1 HBx.out).1
                    have x0 := Lib.cell_of_heap HBx.out 0; have x1 := Lib.cell_of_heap HBx.out 1; have x2 := Lib.cell_of_heap HBx.out 2; have x3 := Lib.cell_of_heap HBx.out 3; have x4 := Lib.cell_of_heap HBx.out 4; have x5 := Lib.cell_of_heap HBx.out 5; have x6 := Lib.cell_of_heap HBx.out 6; have x7 := Lib.cell_of_heap HBx.out 7; have x8 := Lib.cell_of_heap HBx.out 8; have x9 := Lib.cell_of_heap HBx.out 9; have x10 := Lib.cell_of_heap HBx.out 10
                    simp at x0 x1 x2 x3 x4 x5 x6 x7 x8 x9 x10
                    go_wp2_with (go_at_call 15; go_must (refine (HSh.out _ _ _ _ _ _ _).mono ?_))
                    rintro e w5 ⟨sb, rfl, b5⟩
                    have HB3 := Lib.hid (HB2.out.trans (b5.mono (by omega)))
                    clear b5 HB2 HBx x0 x1 x2 x3 x4 x5 x6 x7 x8 x9 x10
                    cases sb with
                    | false =>
                      go_wp2
                      go_ret
                      exact ⟨false, rfl, HB.out.trans (HB3.out.mono HB.out.size)⟩
                    | true =>
                      go_wp2
                      exact ⟨⟨i + 1, k100, by go_num, rfl, by omega, HB3.out⟩, by simp [intOf]; omega⟩
                · obtain hie : i = n5 := by omega
                  subst hie
                  have hltI : ¬ ((i : Nat) : Int) < (i : Nat) := by omega
                  have HBz := Lib.hid hbw
                  clear hb hbw
                  go_wp2
                  go_ret
                  exact ⟨true, rfl, HBz.out⟩

end Go.Proofs.YtdonibkkdhokpaaGreat
