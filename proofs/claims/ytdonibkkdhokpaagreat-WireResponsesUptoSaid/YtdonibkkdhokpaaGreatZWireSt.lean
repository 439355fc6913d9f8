/- The writer's step, and lists of steps (written by gen_wirest.py). -/
import Derived.Test.YtdonibkkdhokpaaGreatZWireLs
namespace Go.Proofs.YtdonibkkdhokpaaGreat
open Go Go.RowKit

structure Stp where
  p : T3
  h : RuH
  ps : List (Tr RuH)
  s : T3
  ys : List Int

def stB (y : Stp) : List UInt8 := t3B y.p ++ ((Tr.mk y.h y.ps).bytes ruB ++ (t3B y.s ++ listB intB y.ys))
def stIn (y : Stp) : Prop := (Tr.mk y.h y.ps).all ruIn ∧ (∀ n ∈ y.ys, in64 n) ∧ y.ys.length ≤ 20000000
def stFit (d : Int) (y : Stp) : Bool := fit d (Tr.mk y.h y.ps)

def StAt (ok : Nat → Prop) (w : World) (cs : List Value) (y : Stp) : Prop :=
  ∃ a cap ba bc, cs = [.string y.p.a, .string y.p.b, .string y.p.c, .int .i64 y.h.kind, .string y.h.a, .string y.h.b, .slice a y.ps.length cap, .string y.s.a, .string y.s.b, .string y.s.c, .slice ba y.ys.length bc] ∧ y.ps.length ≤ cap ∧ cap ≤ maxLen ∧ TrsAt ruHd ok 4 w a 0 y.ps ∧ RowsAt ok w (.slice ba y.ys.length bc) y.ys.length (y.ys.map intC)

theorem StAt.keep {ok : Nat → Prop} {w w' : World} {cs : List Value} {y : Stp} (h : StAt ok w cs y) (k : Keeps ok w w') : StAt ok w' cs y := by
  obtain ⟨a, cap, ba, bc, h1, h2, h3, h4, h5⟩ := h
  exact ⟨a, cap, ba, bc, h1, h2, h3, TrsAt.keep k (ruHd_keep k) _ h4, h5.keep k⟩

theorem StAt.mono {ok ok' : Nat → Prop} {w : World} {cs : List Value} {y : Stp} (h : StAt ok w cs y) (k : ∀ x, x < w.heap.size → ok x → ok' x) : StAt ok' w cs y := by
  obtain ⟨a, cap, ba, bc, h1, h2, h3, h4, h5⟩ := h
  exact ⟨a, cap, ba, bc, h1, h2, h3, TrsAt.mono k (ruHd_mono k) _ h4, h5.mono k⟩

def StsAt (ok : Nat → Prop) (w : World) (v : Value) (n : Nat) (ss : List Stp) : Prop :=
  ∃ a cap, v = .slice a n cap ∧ n ≤ cap ∧ cap ≤ maxLen ∧ ∀ (i : Nat) (y : Stp), ss[i]? = some y → ∃ b off cs, a = some ⟨b, off, none⟩ ∧ ok b ∧ b < w.heap.size ∧ (∀ (j : Nat) (u : Value), cs[j]? = some u → w.cell? ⟨b, off + i * 11 + j, none⟩ = some u) ∧ StAt ok w cs y

theorem StsAt.keep {ok : Nat → Prop} {w w' : World} {v : Value} {n : Nat} {ss : List Stp} (h : StsAt ok w v n ss) (k : Keeps ok w w') : StsAt ok w' v n ss := by
  obtain ⟨a, cap, hv, h1, h2, h3⟩ := h
  refine ⟨a, cap, hv, h1, h2, fun i y hi => ?_⟩
  obtain ⟨b, off, cs, ha, hb, hl, hc, hs⟩ := h3 i y hi
  exact ⟨b, off, cs, ha, hb, Nat.lt_of_lt_of_le hl k.size, fun j u hj => (cell_same (k.block b hb hl) _).trans (hc j u hj), hs.keep k⟩

theorem StsAt.mono {ok ok' : Nat → Prop} {w : World} {v : Value} {n : Nat} {ss : List Stp} (h : StsAt ok w v n ss) (k : ∀ x, x < w.heap.size → ok x → ok' x) : StsAt ok' w v n ss := by
  obtain ⟨a, cap, hv, h1, h2, h3⟩ := h
  refine ⟨a, cap, hv, h1, h2, fun i y hi => ?_⟩
  obtain ⟨b, off, cs, ha, hb, hl, hc, hs⟩ := h3 i y hi
  exact ⟨b, off, cs, ha, k b hl hb, hl, hc, hs.mono k⟩

def SLRel {α : Type} (f : α → List UInt8) (fi : α → Bool) (B : Nat) (w : World) (g : Nat) (l : List UInt8) (d : Int) (ps : List α) (v : Value) (wr : World) : Prop :=
  ∃ i : Nat, v = .int .i64 (i : Int) ∧ i ≤ ps.length ∧ WS B wr g (l ++ (ps.take i).flatMap f) d ((ps.take i).all fi) ∧ Below B w wr ∧ KeepW g w wr

theorem map_len (l : List Int) : (l.map intC).length = l.length * 1 := by rw [List.length_map, Nat.mul_one]

set_option maxRecDepth 100000 in
set_option maxHeartbeats 4000000 in
theorem wstep_any (w : World) (B g : Nat) (l : List UInt8) (d : Int) (y : Stp) (a ba : Option Addr) (cap bc : Nat) (h : WAt B w g l d false) (hB : B ≤ w.heap.size) (hin : stIn y) (hcap : y.ps.length ≤ cap) (hcm : cap ≤ maxLen) (hr : TrsAt ruHd (· < B) 4 w a 0 y.ps) (hy : RowsAt (· < B) w (.slice ba y.ys.length bc) y.ys.length (y.ys.map intC))
    (hl : l.length + (stB y).length ≤ 1000000000) (hd0 : 0 ≤ d) (hd1 : d ≤ 64) :
    Calls Tryz.prog 29 #[.pointer (some ⟨g, 0, none⟩), .agg #[.string y.p.a, .string y.p.b, .string y.p.c, .int .i64 y.h.kind, .string y.h.a, .string y.h.b, .slice a y.ps.length cap, .string y.s.a, .string y.s.b, .string y.s.c, .slice ba y.ys.length bc]] w (WSPost B w g (l ++ stB y) d (stFit d y)) := by
  have hmf : ∀ (fn : Fn) (first cap : Array Value) (w : World), (Instr.makeFunc fn first cap).run Tryz.prog w = .ok (.func fn first cap) w := fun _ _ _ _ => rfl
  obtain ⟨hi1, hi2, hi3⟩ := hin
  obtain ⟨rb, hrb⟩ : ∃ z, (Tr.mk y.h y.ps).bytes ruB = z := ⟨_, rfl⟩
  have heq : l ++ stB y = l ++ t3B y.p ++ rb ++ t3B y.s ++ listB intB y.ys := by
    rw [← hrb]
    simp [stB]
  rw [heq]
  have hlen := congrArg List.length heq
  simp only [List.length_append] at hlen hl
  obtain ⟨FIN, hF⟩ : ∃ F, l ++ t3B y.p ++ rb ++ t3B y.s ++ listB intB y.ys = F := ⟨_, rfl⟩
  rw [hF]
  have hFl := congrArg List.length hF
  simp only [List.length_append] at hFl
  obtain ⟨RES, hR⟩ : ∃ R, stFit d y = R := ⟨_, rfl⟩
  rw [hR]
  have hba : Below w.heap.size w (w.alloc (.cells #[.string y.p.a, .string y.p.b, .string y.p.c, .int .i64 y.h.kind, .string y.h.a, .string y.h.b, .slice a y.ps.length cap, .string y.s.a, .string y.s.b, .string y.s.c, .slice ba y.ys.length bc] 74)) := (Below.refl _ _).alloc (Nat.le_refl _) _
  have hg := h.lt
  have hne : w.heap.size ≠ g := by omega
  have HX := Lib.hid (show (w.alloc (.cells #[.string y.p.a, .string y.p.b, .string y.p.c, .int .i64 y.h.kind, .string y.h.a, .string y.h.b, .slice a y.ps.length cap, .string y.s.a, .string y.s.b, .string y.s.c, .slice ba y.ys.length bc] 74)).heap[w.heap.size]? = some (.cells #[.string y.p.a, .string y.p.b, .string y.p.c, .int .i64 y.h.kind, .string y.h.a, .string y.h.b, .slice a y.ps.length cap, .string y.s.a, .string y.s.b, .string y.s.c, .slice ba y.ys.length bc] 74 (0, 0)) from heap_alloc_new _ _)
  have HW := Lib.hid (h.below hba)
  have HB := Lib.hid (hba.mono hB)
  have HK := Lib.hid (KeepW.of_below (g := g) hba)
  have HR := Lib.hid hr
  have HY := Lib.hid hy
  have HF := Lib.hid hF
  have HRb := Lib.hid hrb
  have HRes := Lib.hid hR
  have hyl : (listB intB y.ys).length = (enc y.ys.length).length + (y.ys.flatMap intB).length := by unfold listB; rw [List.length_append]
  clear h hba hr hy hF hrb hR heq
  go_enter Tryz.func29, Tryz.ntmps29
  go_upto_region 1 with fail
  generalize w.alloc (.cells #[.string y.p.a, .string y.p.b, .string y.p.c, .int .i64 y.h.kind, .string y.h.a, .string y.h.b, .slice a y.ps.length cap, .string y.s.a, .string y.s.b, .string y.s.c, .slice ba y.ys.length bc] 74) = w0 at *
  have c0 := Lib.cell_of_heap HX.out 0
  have c1 := Lib.cell_of_heap HX.out 1
  have c2 := Lib.cell_of_heap HX.out 2
  have c3 := Lib.cell_of_heap HX.out 3
  have c4 := Lib.cell_of_heap HX.out 4
  have c5 := Lib.cell_of_heap HX.out 5
  have c6 := Lib.cell_of_heap HX.out 6
  have c7 := Lib.cell_of_heap HX.out 7
  have c8 := Lib.cell_of_heap HX.out 8
  have c9 := Lib.cell_of_heap HX.out 9
  have c10 := Lib.cell_of_heap HX.out 10
  simp at c0 c1 c2 c3 c4 c5 c6 c7 c8 c9 c10
  have hxl := (Array.getElem?_eq_some_iff.1 HX.out).1
  have HC := Lib.hid (wpoint_any w0 B g l d false y.p.a y.p.b y.p.c HW.out (Nat.le_trans hB HB.out.size) (by show _ + (t3B y.p).length ≤ _; omega))
  clear HW
  go_wp2_with (go_at_call 88; go_must (refine HC.out.mono ?_))
  rintro e w1 ⟨rfl, hw, hb, hk⟩
  have HW := Lib.hid (show WAt B w1 g (l ++ t3B y.p) d false from hw)
  have HX := Lib.hid (hk _ _ _ _ HX.out (by decide) hne)
  have HB := Lib.hid (HB.out.trans hb)
  have HK := Lib.hid (HK.out.trans hk)
  clear HC hw hb hk c0 c1 c2 c3 c4 c5 c6 c7 c8 c9 c10 hxl
  have c0 := Lib.cell_of_heap HX.out 0
  have c1 := Lib.cell_of_heap HX.out 1
  have c2 := Lib.cell_of_heap HX.out 2
  have c3 := Lib.cell_of_heap HX.out 3
  have c4 := Lib.cell_of_heap HX.out 4
  have c5 := Lib.cell_of_heap HX.out 5
  have c6 := Lib.cell_of_heap HX.out 6
  have c7 := Lib.cell_of_heap HX.out 7
  have c8 := Lib.cell_of_heap HX.out 8
  have c9 := Lib.cell_of_heap HX.out 9
  have c10 := Lib.cell_of_heap HX.out 10
  simp at c0 c1 c2 c3 c4 c5 c6 c7 c8 c9 c10
  have hxl := (Array.getElem?_eq_some_iff.1 HX.out).1
  have hC := wRu_ok (Tr.mk y.h y.ps).depth y.h y.ps (Nat.le_refl _) hi1 w1 B g (l ++ t3B y.p) d a cap HW.out (Nat.le_trans hB HB.out.size) hcap hcm (TrsAt.keep (Keeps.of_below HB.out) (ruHd_keep (Keeps.of_below HB.out)) _ HR.out) (by rw [HRb.out, List.length_append]; omega) hd0 hd1
  rw [HRb.out, show fit d (Tr.mk y.h y.ps) = RES from HRes.out] at hC
  have HC := Lib.hid hC
  clear HW hC
  go_wp2_with (go_at_call 89; go_must (refine HC.out.mono ?_))
  rintro e w2 ⟨rfl, hw, hb, hk⟩
  have HX := Lib.hid (hk _ _ _ _ HX.out (by decide) hne)
  have HB := Lib.hid (HB.out.trans hb)
  have HK := Lib.hid (HK.out.trans hk)
  have hbB := HB.out.size
  have HYr := Lib.hid (fun W (k : Below B w2 W) => ((HY.out.keep (Keeps.of_below (HB.out.trans k)))).reads (map_len y.ys))
  clear HC hb hk c0 c1 c2 c3 c4 c5 c6 c7 c8 c9 c10 hxl HR HY
  rcases hw with ⟨rfl, hw⟩ | ⟨rfl, l', hl', hw⟩
  · have HW := Lib.hid hw
    clear hw
    have c0 := Lib.cell_of_heap HX.out 0
    have c1 := Lib.cell_of_heap HX.out 1
    have c2 := Lib.cell_of_heap HX.out 2
    have c3 := Lib.cell_of_heap HX.out 3
    have c4 := Lib.cell_of_heap HX.out 4
    have c5 := Lib.cell_of_heap HX.out 5
    have c6 := Lib.cell_of_heap HX.out 6
    have c7 := Lib.cell_of_heap HX.out 7
    have c8 := Lib.cell_of_heap HX.out 8
    have c9 := Lib.cell_of_heap HX.out 9
    have c10 := Lib.cell_of_heap HX.out 10
    simp at c0 c1 c2 c3 c4 c5 c6 c7 c8 c9 c10
    have hxl := (Array.getElem?_eq_some_iff.1 HX.out).1
    have HC := Lib.hid (wsub_t3 w2 B g (l ++ t3B y.p ++ rb) d false y.s HW.out (Nat.le_trans hB hbB) (by simp only [List.length_append]; omega))
    clear HW
    go_wp2_with (go_at_call 87; go_must (refine HC.out.mono ?_))
    rintro e w3 ⟨rfl, hw, hb, hk⟩
    have HW := Lib.hid hw
    have HX := Lib.hid (hk _ _ _ _ HX.out (by decide) hne)
    have HB := Lib.hid (HB.out.trans hb)
    have HK := Lib.hid (HK.out.trans hk)
    have HYr := Lib.hid (fun W (k : Below B w3 W) => HYr.out W (hb.trans k))
    clear HC hw hb hk c0 c1 c2 c3 c4 c5 c6 c7 c8 c9 c10 hxl
    have c0 := Lib.cell_of_heap HX.out 0
    have c1 := Lib.cell_of_heap HX.out 1
    have c2 := Lib.cell_of_heap HX.out 2
    have c3 := Lib.cell_of_heap HX.out 3
    have c4 := Lib.cell_of_heap HX.out 4
    have c5 := Lib.cell_of_heap HX.out 5
    have c6 := Lib.cell_of_heap HX.out 6
    have c7 := Lib.cell_of_heap HX.out 7
    have c8 := Lib.cell_of_heap HX.out 8
    have c9 := Lib.cell_of_heap HX.out 9
    have c10 := Lib.cell_of_heap HX.out 10
    simp at c0 c1 c2 c3 c4 c5 c6 c7 c8 c9 c10
    have hxl := (Array.getElem?_eq_some_iff.1 HX.out).1
    have hC := wputInts_any w3 B g (l ++ t3B y.p ++ rb ++ t3B y.s) d ba y.ys.length bc y.ys HW.out (Nat.le_trans hB HB.out.size) rfl HYr.out hi2 (by simp only [List.length_append]; omega) hi3
    rw [HF.out] at hC
    have HC := Lib.hid hC
    clear HW hC
    go_wp2_with (go_at_call 90; go_must (refine HC.out.mono ?_))
    rintro e w4 ⟨rfl, hw, hb, hk⟩
    have HW := Lib.hid (WS.yes hw)
    have HB := Lib.hid (HB.out.trans hb)
    have HK := Lib.hid (HK.out.trans hk)
    clear HC hw hb hk c0 c1 c2 c3 c4 c5 c6 c7 c8 c9 c10 hxl
    go_wp2
    go_end0
    exact ⟨rfl, HW.out, HB.out, HK.out⟩
  · simp only [List.length_append] at hl'
    have HW := Lib.hid hw
    clear hw
    have c0 := Lib.cell_of_heap HX.out 0
    have c1 := Lib.cell_of_heap HX.out 1
    have c2 := Lib.cell_of_heap HX.out 2
    have c3 := Lib.cell_of_heap HX.out 3
    have c4 := Lib.cell_of_heap HX.out 4
    have c5 := Lib.cell_of_heap HX.out 5
    have c6 := Lib.cell_of_heap HX.out 6
    have c7 := Lib.cell_of_heap HX.out 7
    have c8 := Lib.cell_of_heap HX.out 8
    have c9 := Lib.cell_of_heap HX.out 9
    have c10 := Lib.cell_of_heap HX.out 10
    simp at c0 c1 c2 c3 c4 c5 c6 c7 c8 c9 c10
    have hxl := (Array.getElem?_eq_some_iff.1 HX.out).1
    have HC := Lib.hid (wsub_t3 w2 B g l' d true y.s HW.out (Nat.le_trans hB hbB) (by omega))
    clear HW
    go_wp2_with (go_at_call 87; go_must (refine HC.out.mono ?_))
    rintro e w3 ⟨rfl, hw, hb, hk⟩
    have HW := Lib.hid hw
    have HX := Lib.hid (hk _ _ _ _ HX.out (by decide) hne)
    have HB := Lib.hid (HB.out.trans hb)
    have HK := Lib.hid (HK.out.trans hk)
    have HYr := Lib.hid (fun W (k : Below B w3 W) => HYr.out W (hb.trans k))
    clear HC hw hb hk c0 c1 c2 c3 c4 c5 c6 c7 c8 c9 c10 hxl
    have c0 := Lib.cell_of_heap HX.out 0
    have c1 := Lib.cell_of_heap HX.out 1
    have c2 := Lib.cell_of_heap HX.out 2
    have c3 := Lib.cell_of_heap HX.out 3
    have c4 := Lib.cell_of_heap HX.out 4
    have c5 := Lib.cell_of_heap HX.out 5
    have c6 := Lib.cell_of_heap HX.out 6
    have c7 := Lib.cell_of_heap HX.out 7
    have c8 := Lib.cell_of_heap HX.out 8
    have c9 := Lib.cell_of_heap HX.out 9
    have c10 := Lib.cell_of_heap HX.out 10
    simp at c0 c1 c2 c3 c4 c5 c6 c7 c8 c9 c10
    have hxl := (Array.getElem?_eq_some_iff.1 HX.out).1
    have HC := Lib.hid (wputInts_deep w3 B g (l' ++ t3B y.s) d ba y.ys.length bc y.ys HW.out (Nat.le_trans hB HB.out.size) rfl HYr.out (by simp only [List.length_append]; omega) hi3)
    clear HW
    go_wp2_with (go_at_call 90; go_must (refine HC.out.mono ?_))
    rintro e w4 ⟨rfl, hw, hb, hk⟩
    have HW := Lib.hid (show WS B w4 g FIN d false from .inr ⟨rfl, _, by simp only [List.length_append]; omega, hw⟩)
    have HB := Lib.hid (HB.out.trans hb)
    have HK := Lib.hid (HK.out.trans hk)
    clear HC hw hb hk c0 c1 c2 c3 c4 c5 c6 c7 c8 c9 c10 hxl
    go_wp2
    go_end0
    exact ⟨rfl, HW.out, HB.out, HK.out⟩

set_option maxRecDepth 100000 in
set_option maxHeartbeats 4000000 in
theorem wputSteps_any (w : World) (B g : Nat) (l : List UInt8) (d : Int) (v : Value) (m : Nat) (ss : List Stp) (h : WAt B w g l d false) (hB : B ≤ w.heap.size) (hin : ∀ y ∈ ss, stIn y) (hr : StsAt (· < B) w v m ss) (hkl : ss.length = m) (hl : l.length + (listB stB ss).length ≤ 1000000000) (hn : m ≤ 20000000) (hd0 : 0 ≤ d) (hd1 : d ≤ 64) :
    Calls Tryz.prog 28 #[.pointer (some ⟨g, 0, none⟩), v, .func (.func 29) #[.pointer (some ⟨g, 0, none⟩)] #[]] w (WSPost B w g (l ++ listB stB ss) d (ss.all (stFit d))) := by
  obtain ⟨a, cap, rfl, hc1, hc2, hr⟩ := hr
  unfold maxLen at hc2
  have hen : ∀ (args : Array Value) (w : World), (callFunc 29 args).run Tryz.prog w = .ok (.enter 29 args) w := fun _ _ => by kernel_rfl
  have hw0 : IntKind.u64.wrap (m : Int) = (m : Int) := by rw [IntKind.wrap_u64]; omega
  obtain ⟨f, hf⟩ : ∃ f, stB = f := ⟨_, rfl⟩
  have Hf := Lib.hid hf
  rw [hf] at hl ⊢
  have heq : l ++ listB f ss = l ++ enc m ++ ss.flatMap f := by unfold listB; rw [hkl, List.append_assoc]
  have hlen := congrArg List.length heq
  simp only [List.length_append] at hlen
  obtain ⟨FIN, hF⟩ : ∃ FIN, l ++ listB f ss = FIN := ⟨_, rfl⟩
  rw [hF] at heq ⊢
  obtain ⟨fi, hfi⟩ : ∃ fi, stFit d = fi := ⟨_, rfl⟩
  obtain ⟨RES, hR⟩ : ∃ R, ss.all fi = R := ⟨_, rfl⟩
  rw [hfi, hR]
  have HNum := Lib.hid (wnumber_any w B g l d false m h hB (by omega) (by omega))
  have HR := Lib.hid (fun W (k : Below B w W) => (show StsAt (· < B) w (.slice a m cap) m ss from ⟨a, cap, rfl, hc1, (by unfold maxLen; exact hc2), hr⟩).keep (Keeps.of_below k))
  have HL := Lib.hid hkl
  have HRes := Lib.hid hR
  have HIn := Lib.hid hin
  have HFi := Lib.hid hfi
  clear h hr hkl hF hR hin hf hfi
  go_enter Tryz.func28, Tryz.ntmps28
  go_wp2_with (go_at_call 17; go_must (refine HNum.out.mono ?_))
  rintro e w1 ⟨rfl, hw1, hb1, hk1⟩
  obtain ⟨L, hL⟩ : ∃ L, l ++ enc m = L := ⟨_, rfl⟩
  have hLl : L.length + (ss.flatMap f).length ≤ 1000000000 := by rw [← hL, List.length_append]; omega
  rw [hL] at hw1 heq
  have HF := Lib.hid heq
  have HW1 := Lib.hid hw1
  have HB1 := Lib.hid hb1
  have HK1 := Lib.hid hk1
  clear hw1 hb1 hk1 HNum hlen hL hl heq
  go_wp2
  go_loopw [15] (fun v wr => SLRel f fi B w g L d ss v wr) (fun v _ => m - (intOf v).toNat)
  case atStart => exact ⟨0, rfl, Nat.zero_le _, WS.yes (by simpa using HW1.out), HB1.out, HK1.out⟩
  case round =>
    obtain ⟨i, rfl, hin, hw, hb, hk⟩ := hrel
    rw [HL.out] at hin
    clear HW1 HB1 HK1
    by_cases hlt : i < m
    · have hltI : (i : Int) < m := by omega
      obtain ⟨y, hx⟩ : ∃ x, ss[i]? = some x := ⟨ss[i]'(by rw [HL.out]; exact hlt), List.getElem?_eq_getElem _⟩
      obtain ⟨_, _, hv, _, _, hat⟩ := HR.out wr hb
      cases hv
      obtain ⟨b, off, cs, rfl, hbB, hbl, hcs, a, cap2, ba, bc, rfl, hy1, hy2, hy3, hy4⟩ := hat i y hx
      have hxm := List.mem_of_getElem? hx
      have k0 := hcs 0 _ rfl
      have k1 := hcs 1 _ rfl
      have k2 := hcs 2 _ rfl
      have k3 := hcs 3 _ rfl
      have k4 := hcs 4 _ rfl
      have k5 := hcs 5 _ rfl
      have k6 := hcs 6 _ rfl
      have k7 := hcs 7 _ rfl
      have k8 := hcs 8 _ rfl
      have k9 := hcs 9 _ rfl
      have k10 := hcs 10 _ rfl
      simp only [Nat.add_zero] at k0
      have hne := flat_next f hx
      have htk := flat_take f ss (i + 1)
      rw [hne, List.length_append] at htk
      obtain ⟨c, hc⟩ : ∃ c, L ++ (ss.take i).flatMap f = c := ⟨_, rfl⟩
      have hcl : c.length + (f y).length ≤ 1000000000 := by rw [← hc, List.length_append]; omega
      have hfin : L ++ (ss.take (i + 1)).flatMap f = c ++ f y := by rw [hne, ← hc, List.append_assoc]
      have hal : (ss.take (i + 1)).all fi = ((ss.take i).all fi && fi y) := by rw [List.take_add_one, hx]; simp
      have hcf : c.length ≤ FIN.length := by
        have := flat_take f ss i
        rw [HF.out, ← hc, List.length_append, List.length_append]
        omega
      rw [hc] at hw
      have hwB : B ≤ wr.heap.size := Nat.le_trans hB hb.size
      have hba : Below wr.heap.size wr (wr.alloc (.cells #[.string y.p.a, .string y.p.b, .string y.p.c, .int .i64 y.h.kind, .string y.h.a, .string y.h.b, .slice a y.ps.length cap2, .string y.s.a, .string y.s.b, .string y.s.c, .slice ba y.ys.length bc] 74)) := (Below.refl _ _).alloc (Nat.le_refl _) _
      have hbx : (wr.alloc (.cells #[.string y.p.a, .string y.p.b, .string y.p.c, .int .i64 y.h.kind, .string y.h.a, .string y.h.b, .slice a y.ps.length cap2, .string y.s.a, .string y.s.b, .string y.s.c, .slice ba y.ys.length bc] 74)).heap[wr.heap.size]? = some (.cells #[.string y.p.a, .string y.p.b, .string y.p.c, .int .i64 y.h.kind, .string y.h.a, .string y.h.b, .slice a y.ps.length cap2, .string y.s.a, .string y.s.b, .string y.s.c, .slice ba y.ys.length bc] 74 (0, 0)) := heap_alloc_new _ _
      have hbaB := hba.mono hwB
      have HB2 := Lib.hid (hb.trans hbaB)
      have HK2 := Lib.hid (hk.trans (KeepW.of_below (g := g) hba))
      have HBx := Lib.hid hbx
      have HFn := Lib.hid hfin
      have HAl := Lib.hid hal
      have HXt := Lib.hid (TrsAt.keep (Keeps.of_below hbaB) (ruHd_keep (Keeps.of_below hbaB)) _ hy3)
      have HXy := Lib.hid (hy4.keep (Keeps.of_below hbaB))
      rcases hw with ⟨ht, hw⟩ | ⟨hfa, l', hl', hw⟩
      · have hdeep : (wr.alloc (.cells #[.string y.p.a, .string y.p.b, .string y.p.c, .int .i64 y.h.kind, .string y.h.a, .string y.h.b, .slice a y.ps.length cap2, .string y.s.a, .string y.s.b, .string y.s.c, .slice ba y.ys.length bc] 74)).cell? ⟨g, 2, none⟩ = some (.bool false) := by
          obtain ⟨_, _, q1, _, _⟩ := hw.below hba
          have := Lib.cell_of_heap q1 2
          simpa using this
        have hg := (hw.below hba).lt
        have HW2 := Lib.hid (hw.below hba)
        have hIy := HIn.out y hxm
        have HTk := Lib.hid ht
        rw [← Hf.out] at hcl
        have hcl2 := hcl
        clear hw hb hk hba hbaB hbx hfin hne htk hx hc hcs hal ht hy3 hy4 hat
        go_upto_region 4 with fail
        generalize wr.alloc (.cells #[.string y.p.a, .string y.p.b, .string y.p.c, .int .i64 y.h.kind, .string y.h.a, .string y.h.b, .slice a y.ps.length cap2, .string y.s.a, .string y.s.b, .string y.s.c, .slice ba y.ys.length bc] 74) = w2 at *
        have x0 := Lib.cell_of_heap HBx.out 0
        have x1 := Lib.cell_of_heap HBx.out 1
        have x2 := Lib.cell_of_heap HBx.out 2
        have x3 := Lib.cell_of_heap HBx.out 3
        have x4 := Lib.cell_of_heap HBx.out 4
        have x5 := Lib.cell_of_heap HBx.out 5
        have x6 := Lib.cell_of_heap HBx.out 6
        have x7 := Lib.cell_of_heap HBx.out 7
        have x8 := Lib.cell_of_heap HBx.out 8
        have x9 := Lib.cell_of_heap HBx.out 9
        have x10 := Lib.cell_of_heap HBx.out 10
        simp at x0 x1 x2 x3 x4 x5 x6 x7 x8 x9 x10
        have hbl2 : wr.heap.size < w2.heap.size := (Array.getElem?_eq_some_iff.1 HBx.out).1
        have hC := wstep_any w2 B g c d y a ba cap2 bc HW2.out (Nat.le_trans hwB (Nat.le_of_lt hbl2)) hIy hy1 hy2 HXt.out HXy.out hcl2 hd0 hd1
        rw [Hf.out, HFi.out] at hC
        have HIt := Lib.hid hC
        clear hC
        go_wp2_with (go_at_call 29; go_must (refine HIt.out.mono ?_))
        rintro e w3 ⟨rfl, hw3, hb3, hk3⟩
        have HW3 := Lib.hid hw3
        have HB3 := Lib.hid (HB2.out.trans hb3)
        have HK3 := Lib.hid (HK2.out.trans hk3)
        clear hw3 hb3 hk3 HIt
        go_wp2
        exact ⟨⟨i + 1, by go_num, by rw [HL.out]; omega, by rw [HFn.out, HAl.out, HTk.out, Bool.true_and]; exact HW3.out, HB3.out, HK3.out⟩, by simp [intOf]; omega⟩
      · have hdeep : (wr.alloc (.cells #[.string y.p.a, .string y.p.b, .string y.p.c, .int .i64 y.h.kind, .string y.h.a, .string y.h.b, .slice a y.ps.length cap2, .string y.s.a, .string y.s.b, .string y.s.c, .slice ba y.ys.length bc] 74)).cell? ⟨g, 2, none⟩ = some (.bool true) := by
          obtain ⟨_, _, q1, _, _⟩ := hw.below hba
          have := Lib.cell_of_heap q1 2
          simpa using this
        have hg := (hw.below hba).lt
        have hres : RES = false := by
          rw [← HRes.out, List.all_eq_false]
          obtain ⟨z, hz, hzf⟩ := List.all_eq_false.1 hfa
          exact ⟨z, List.mem_of_mem_take hz, hzf⟩
        subst hres
        have HWz := Lib.hid (show WS B (wr.alloc (.cells #[.string y.p.a, .string y.p.b, .string y.p.c, .int .i64 y.h.kind, .string y.h.a, .string y.h.b, .slice a y.ps.length cap2, .string y.s.a, .string y.s.b, .string y.s.c, .slice ba y.ys.length bc] 74)) g FIN d false from .inr ⟨rfl, l', Nat.le_trans hl' hcf, hw.below hba⟩)
        clear hw hb hk hba hbaB hbx hfin hne htk hx hc hcs hal hy3 hy4 hat hl' hfa HXt HXy
        go_upto_region 4 with fail
        generalize wr.alloc (.cells #[.string y.p.a, .string y.p.b, .string y.p.c, .int .i64 y.h.kind, .string y.h.a, .string y.h.b, .slice a y.ps.length cap2, .string y.s.a, .string y.s.b, .string y.s.c, .slice ba y.ys.length bc] 74) = w2 at *
        go_wp2
        go_end0
        exact ⟨rfl, HWz.out, HB2.out, HK2.out⟩
    · obtain rfl : i = m := by omega
      have hltI : ¬ (i : Int) < i := by omega
      rw [List.take_of_length_le (by rw [HL.out]; exact Nat.le_refl _), ← HF.out, HRes.out] at hw
      have HWf := Lib.hid hw
      have HBf := Lib.hid hb
      have HKf := Lib.hid hk
      clear hw hb hk
      go_wp2
      go_end0
      exact ⟨rfl, HWf.out, HBf.out, HKf.out⟩
end Go.Proofs.YtdonibkkdhokpaaGreat
