/- wire.PutResponse of any response (written by gen_wirepr.py). -/
import Derived.Test.YtdonibkkdhokpaaGreatZWireSt
namespace Go.Proofs.YtdonibkkdhokpaaGreat
open Go Go.RowKit

structure Resp where
  id : Nat
  err : Int
  rev : Nat
  token : ByteArray
  flags : List Bool
  tuples : List T6
  objs : List T2
  events : List Evt
  steps : List Stp
  th : NoH
  tps : List (Tr NoH)

def respB (p : Resp) : List UInt8 := [112, 49] ++ enc p.id ++ enc (zig p.err) ++ enc p.rev ++ txts [p.token] ++ listB flagB p.flags ++ listB t6B p.tuples ++ listB t2B p.objs ++ listB evB p.events ++ listB stB p.steps ++ (Tr.mk p.th p.tps).bytes noB
def respFit (p : Resp) : Bool := p.steps.all (stFit 0) && fit 0 (Tr.mk p.th p.tps)

structure RespIn (p : Resp) : Prop where
  id : p.id < 18446744073709551616
  err : in64 p.err
  rev : p.rev < 18446744073709551616
  flags : p.flags.length ≤ 20000000
  tuples : p.tuples.length ≤ 20000000
  objs : p.objs.length ≤ 20000000
  events : p.events.length ≤ 20000000
  steps : p.steps.length ≤ 20000000
  evs : ∀ x ∈ p.events, x.rev < 18446744073709551616
  sts : ∀ y ∈ p.steps, stIn y
  tree : (Tr.mk p.th p.tps).all noIn

/-- A response in memory. -/
structure RespR (ok : Nat → Prop) (w : World) (p : Resp) (a1 a2 a3 a4 a5 sa a : Option Addr) (c1 c2 c3 c4 c5 sc cap : Nat) : Prop where
  flags : RowsAt ok w (.slice a1 p.flags.length c1) p.flags.length (p.flags.map flagC)
  tuples : RowsAt ok w (.slice a2 p.tuples.length c2) p.tuples.length (p.tuples.flatMap T6.cells)
  objs : RowsAt ok w (.slice a3 p.objs.length c3) p.objs.length (p.objs.flatMap T2.cells)
  events : RowsAt ok w (.slice a4 p.events.length c4) p.events.length (p.events.flatMap Evt.cells)
  steps : StsAt ok w (.slice a5 p.steps.length c5) p.steps.length p.steps
  subs : RowsAt ok w (.slice sa p.th.subs.length sc) p.th.subs.length (p.th.subs.flatMap T3.cells)
  capLe : p.tps.length ≤ cap
  capMax : cap ≤ maxLen
  tree : TrsAt noHd ok 6 w a 0 p.tps

theorem RespR.keep {ok : Nat → Prop} {w w' : World} {p : Resp} {a1 a2 a3 a4 a5 sa a : Option Addr} {c1 c2 c3 c4 c5 sc cap : Nat} (h : RespR ok w p a1 a2 a3 a4 a5 sa a c1 c2 c3 c4 c5 sc cap) (k : Keeps ok w w') : RespR ok w' p a1 a2 a3 a4 a5 sa a c1 c2 c3 c4 c5 sc cap :=
  ⟨h.flags.keep k, h.tuples.keep k, h.objs.keep k, h.events.keep k, h.steps.keep k, h.subs.keep k, h.capLe, h.capMax, TrsAt.keep k (noHd_keep k) _ h.tree⟩

theorem RespR.mono {ok ok' : Nat → Prop} {w : World} {p : Resp} {a1 a2 a3 a4 a5 sa a : Option Addr} {c1 c2 c3 c4 c5 sc cap : Nat} (h : RespR ok w p a1 a2 a3 a4 a5 sa a c1 c2 c3 c4 c5 sc cap) (k : ∀ x, x < w.heap.size → ok x → ok' x) : RespR ok' w p a1 a2 a3 a4 a5 sa a c1 c2 c3 c4 c5 sc cap :=
  ⟨h.flags.mono k, h.tuples.mono k, h.objs.mono k, h.events.mono k, h.steps.mono k, h.subs.mono k, h.capLe, h.capMax, TrsAt.mono k (noHd_mono k) _ h.tree⟩

theorem flat_lenk {α : Type} (f : α → List Value) (k : Nat) (hk : ∀ x, (f x).length = k) (l : List α) : (l.flatMap f).length = l.length * k := by
  induction l with
  | nil => simp
  | cons x l ih =>
    rw [List.flatMap_cons, List.length_append, ih, List.length_cons, hk, Nat.succ_mul]
    omega

theorem map_lenk {α : Type} (f : α → Value) (l : List α) : (l.map f).length = l.length * 1 := by rw [List.length_map, Nat.mul_one]

set_option maxRecDepth 100000 in
theorem wbytes_deep (w : World) (B g : Nat) (l : List UInt8) (d : Int) (h : WAt B w g l d true) :
    Calls Tryz.prog 31 #[.pointer (some ⟨g, 0, none⟩)] w (fun e w' => e = .returned (.tuple #[.slice none 0 0, .int .i64 10]) ∧ w = w') := by
  obtain ⟨a, cap, h1, h2, _⟩ := h
  have c0 := Lib.cell_of_heap h1 0
  have c2 := Lib.cell_of_heap h1 2
  simp at c0 c2
  have hg : g < w.heap.size := (Array.getElem?_eq_some_iff.1 h1).1
  clear h1 h2
  go_enter Tryz.func31, Tryz.ntmps31
  go_wp2
  go_ret2
  exact ⟨rfl, rfl⟩

set_option maxRecDepth 100000 in
set_option maxHeartbeats 4000000 in
theorem wwithin_deep (w : World) (B g : Nat) (l : List UInt8) (d : Int) (f : Value) (hw : WAt B w g l d true) (hd0 : 0 ≤ d) (hd1 : d ≤ 64) :
    Calls Tryz.prog 91 #[.pointer (some ⟨g, 0, none⟩), f] w (WPost B w g l d true) := by
  have hg := hw.lt
  have hBg : B ≤ g := by obtain ⟨_, _, _, _, h3⟩ := hw; exact h3
  obtain ⟨wa, wc, h1, _, _⟩ := id hw
  have c1 := Lib.cell_of_heap h1 1
  have c2 := Lib.cell_of_heap h1 2
  have cf1 := Lib.frozen_of_heap h1 1
  have cf2 := Lib.frozen_of_heap h1 2
  simp at c1 c2
  have hwr : IntKind.i64.wrap (d + 1) = d + 1 := by rw [IntKind.wrap_i64]; omega
  have hwm : IntKind.i64.wrap (d + 1 - 1) = d := by rw [IntKind.wrap_i64]; omega
  have HW := Lib.hid (((hw.depth (d + 1)).deepSet true).depth d)
  have HK := Lib.hid (((KeepW.store g w 1 (.int .i64 (d + 1))).trans (KeepW.store g _ 2 (.bool true))).trans (KeepW.store g _ 1 (.int .i64 d)))
  have HB := Lib.hid ((((Below.refl B w).setCell (p := ⟨g, 1, none⟩) hBg (.int .i64 (d + 1))).setCell (p := ⟨g, 2, none⟩) hBg (.bool true)).setCell (p := ⟨g, 1, none⟩) hBg (.int .i64 d))
  clear hw h1
  go_enter Tryz.func91, Tryz.ntmps91
  go_wp2
  go_end0
  exact ⟨rfl, HW.out, HB.out, HK.out⟩

set_option maxRecDepth 100000 in
set_option maxHeartbeats 4000000 in
theorem wnode_deep (w : World) (B g : Nat) (l : List UInt8) (d : Int) (p : Resp) (sa a : Option Addr) (sc cap : Nat) (h : WAt B w g l d true) (hB : B ≤ w.heap.size) (hd0 : 0 ≤ d) (hd1 : d ≤ 64) :
    Calls Tryz.prog 30 #[.pointer (some ⟨g, 0, none⟩), .agg #[.int .i64 p.th.kind, .string p.th.o, .string p.th.i, .string p.th.rel, .slice sa p.th.subs.length sc, .slice a p.tps.length cap]] w (WPost B w g l d true) := by
  have hmf : ∀ (fn : Fn) (first cap : Array Value) (w : World), (Instr.makeFunc fn first cap).run Tryz.prog w = .ok (.func fn first cap) w := fun _ _ _ _ => rfl
  have hg := h.lt
  have hb0 : Below w.heap.size w ((w.alloc (.cells #[.pointer (some ⟨g, 0, none⟩)] 76)).alloc (.cells #[.int .i64 p.th.kind, .string p.th.o, .string p.th.i, .string p.th.rel, .slice sa p.th.subs.length sc, .slice a p.tps.length cap] 34)) := ((Below.refl _ _).alloc (Nat.le_refl _) _).alloc (by simp) _
  have hx1 : ((w.alloc (.cells #[.pointer (some ⟨g, 0, none⟩)] 76)).alloc (.cells #[.int .i64 p.th.kind, .string p.th.o, .string p.th.i, .string p.th.rel, .slice sa p.th.subs.length sc, .slice a p.tps.length cap] 34)).heap[w.heap.size]? = some (.cells #[.pointer (some ⟨g, 0, none⟩)] 76 (0, 0)) := (Below.heap_alloc _ _ _ (by simp)).trans (heap_alloc_new _ _)
  have HC := Lib.hid (wwithin_deep ((w.alloc (.cells #[.pointer (some ⟨g, 0, none⟩)] 76)).alloc (.cells #[.int .i64 p.th.kind, .string p.th.o, .string p.th.i, .string p.th.rel, .slice sa p.th.subs.length sc, .slice a p.tps.length cap] 34)) B g l d (.func (.func 92) #[] #[.pointer (some ⟨w.heap.size, 0, none⟩), .pointer (some ⟨w.heap.size + 1, 0, none⟩)]) (h.below hb0) hd0 hd1)
  have HB := Lib.hid (hb0.mono hB)
  have HK := Lib.hid (KeepW.of_below (g := g) hb0)
  have q0 := Lib.cell_of_heap hx1 0
  simp at q0
  clear h hb0 hx1
  go_enter Tryz.func30, Tryz.ntmps30
  go_wp2_with (go_at_call 91; go_must (refine HC.out.mono ?_))
  rintro e w2 ⟨rfl, hw, hb, hk⟩
  have HW := Lib.hid hw
  have HB2 := Lib.hid (HB.out.trans hb)
  have HK2 := Lib.hid (HK.out.trans hk)
  clear hw hb hk HC HB HK q0
  go_wp2
  go_end0
  exact ⟨rfl, HW.out, HB2.out, HK2.out⟩

def PrPost (w : World) (p : Resp) (e : Ending) (w' : World) : Prop :=
  (respFit p = true ∧ BytesPost w (respB p) e w') ∨ (respFit p = false ∧ e = .returned (.tuple #[.slice none 0 0, .int .i64 10]) ∧ Below w.heap.size w w')

set_option maxRecDepth 100000 in
set_option maxHeartbeats 8000000 in
theorem putresponse_any (w : World) (p : Resp) (a1 a2 a3 a4 a5 sa a : Option Addr) (c1 c2 c3 c4 c5 sc cap : Nat) (hr : RespR (· < w.heap.size) w p a1 a2 a3 a4 a5 sa a c1 c2 c3 c4 c5 sc cap) (hin : RespIn p) (hl : (respB p).length ≤ 20000000) :
    Calls Tryz.prog 6 #[.agg #[.int .u64 (p.id : Int), .int .i64 p.err, .int .u64 (p.rev : Int), .string p.token, .slice a1 p.flags.length c1, .slice a2 p.tuples.length c2, .slice a3 p.objs.length c3, .slice a4 p.events.length c4, .slice a5 p.steps.length c5, .int .i64 p.th.kind, .string p.th.o, .string p.th.i, .string p.th.rel, .slice sa p.th.subs.length sc, .slice a p.tps.length cap]] w (PrPost w p) := by
  have hmf : ∀ (fn : Fn) (first cap : Array Value) (w : World), (Instr.makeFunc fn first cap).run Tryz.prog w = .ok (.func fn first cap) w := fun _ _ _ _ => rfl
  have kc := Lib.run_convert_bytes_const (P := Tryz.prog) (w.alloc (.cells #[.int .u64 (p.id : Int), .int .i64 p.err, .int .u64 (p.rev : Int), .string p.token, .slice a1 p.flags.length c1, .slice a2 p.tuples.length c2, .slice a3 p.objs.length c3, .slice a4 p.events.length c4, .slice a5 p.steps.length c5, .int .i64 p.th.kind, .string p.th.o, .string p.th.i, .string p.th.rel, .slice sa p.th.subs.length sc, .slice a p.tps.length cap] 36)) 39 5 #[.int .u8 112, .int .u8 49] 2 2 Tryz.underlying39 Tryz.underlying5
  simp at kc
  have hb0 : Below w.heap.size w (((w.alloc (.cells #[.int .u64 (p.id : Int), .int .i64 p.err, .int .u64 (p.rev : Int), .string p.token, .slice a1 p.flags.length c1, .slice a2 p.tuples.length c2, .slice a3 p.objs.length c3, .slice a4 p.events.length c4, .slice a5 p.steps.length c5, .int .i64 p.th.kind, .string p.th.o, .string p.th.i, .string p.th.rel, .slice sa p.th.subs.length sc, .slice a p.tps.length cap] 36)).alloc (.cells #[.int .u8 112, .int .u8 49] 5 (2, 3))).alloc (.cells #[.slice (some ⟨w.heap.size + 1, 0, none⟩) 2 2, .int .i64 0, .bool false] 78)) := (((Below.refl _ _).alloc (Nat.le_refl _) _).alloc (by simp) _).alloc (by simp; omega) _
  have hx : (((w.alloc (.cells #[.int .u64 (p.id : Int), .int .i64 p.err, .int .u64 (p.rev : Int), .string p.token, .slice a1 p.flags.length c1, .slice a2 p.tuples.length c2, .slice a3 p.objs.length c3, .slice a4 p.events.length c4, .slice a5 p.steps.length c5, .int .i64 p.th.kind, .string p.th.o, .string p.th.i, .string p.th.rel, .slice sa p.th.subs.length sc, .slice a p.tps.length cap] 36)).alloc (.cells #[.int .u8 112, .int .u8 49] 5 (2, 3))).alloc (.cells #[.slice (some ⟨w.heap.size + 1, 0, none⟩) 2 2, .int .i64 0, .bool false] 78)).heap[w.heap.size]? = some (.cells #[.int .u64 (p.id : Int), .int .i64 p.err, .int .u64 (p.rev : Int), .string p.token, .slice a1 p.flags.length c1, .slice a2 p.tuples.length c2, .slice a3 p.objs.length c3, .slice a4 p.events.length c4, .slice a5 p.steps.length c5, .int .i64 p.th.kind, .string p.th.o, .string p.th.i, .string p.th.rel, .slice sa p.th.subs.length sc, .slice a p.tps.length cap] 36 (0, 0)) := (Below.heap_alloc _ _ _ (by simp; omega)).trans ((Below.heap_alloc _ _ _ (by simp)).trans (heap_alloc_new _ _))
  have hw0 : WAt0 w.heap.size (((w.alloc (.cells #[.int .u64 (p.id : Int), .int .i64 p.err, .int .u64 (p.rev : Int), .string p.token, .slice a1 p.flags.length c1, .slice a2 p.tuples.length c2, .slice a3 p.objs.length c3, .slice a4 p.events.length c4, .slice a5 p.steps.length c5, .int .i64 p.th.kind, .string p.th.o, .string p.th.i, .string p.th.rel, .slice sa p.th.subs.length sc, .slice a p.tps.length cap] 36)).alloc (.cells #[.int .u8 112, .int .u8 49] 5 (2, 3))).alloc (.cells #[.slice (some ⟨w.heap.size + 1, 0, none⟩) 2 2, .int .i64 0, .bool false] 78)) (w.heap.size + 2) (w.heap.size + 1) [112, 49] := by
    refine ⟨?_, ?_, by omega⟩
    · have := heap_alloc_new ((w.alloc (.cells #[.int .u64 (p.id : Int), .int .i64 p.err, .int .u64 (p.rev : Int), .string p.token, .slice a1 p.flags.length c1, .slice a2 p.tuples.length c2, .slice a3 p.objs.length c3, .slice a4 p.events.length c4, .slice a5 p.steps.length c5, .int .i64 p.th.kind, .string p.th.o, .string p.th.i, .string p.th.rel, .slice sa p.th.subs.length sc, .slice a p.tps.length cap] 36)).alloc (.cells #[.int .u8 112, .int .u8 49] 5 (2, 3))) (.cells #[.slice (some ⟨w.heap.size + 1, 0, none⟩) 2 2, .int .i64 0, .bool false] 78)
      simpa using this
    · refine (Below.heap_alloc _ _ _ (by simp)).trans ?_
      have := heap_alloc_new (w.alloc (.cells #[.int .u64 (p.id : Int), .int .i64 p.err, .int .u64 (p.rev : Int), .string p.token, .slice a1 p.flags.length c1, .slice a2 p.tuples.length c2, .slice a3 p.objs.length c3, .slice a4 p.events.length c4, .slice a5 p.steps.length c5, .int .i64 p.th.kind, .string p.th.o, .string p.th.i, .string p.th.rel, .slice sa p.th.subs.length sc, .slice a p.tps.length cap] 36)) (.cells #[.int .u8 112, .int .u8 49] 5 (2, 3))
      simpa [bcells] using this
  have HB := Lib.hid hb0
  have HX := Lib.hid hx
  have HW0 := Lib.hid hw0
  have HR := Lib.hid (fun W (k : Below w.heap.size w W) => hr.keep (Keeps.of_below k))
  have HIn := Lib.hid hin
  have hrb : respB p = [112, 49] ++ enc p.id ++ enc (zig p.err) ++ enc p.rev ++ txts [p.token] ++ listB flagB p.flags ++ listB t6B p.tuples ++ listB t2B p.objs ++ listB evB p.events ++ listB stB p.steps ++ (Tr.mk p.th p.tps).bytes noB := rfl
  rw [hrb] at hl
  obtain ⟨l1, hl1⟩ : ∃ z, ([112, 49] : List UInt8) ++ enc p.id = z := ⟨_, rfl⟩
  rw [hl1] at hl hrb
  obtain ⟨l2, hl2⟩ : ∃ z, l1 ++ enc (zig p.err) = z := ⟨_, rfl⟩
  rw [hl2] at hl hrb
  obtain ⟨l3, hl3⟩ : ∃ z, l2 ++ enc p.rev = z := ⟨_, rfl⟩
  rw [hl3] at hl hrb
  obtain ⟨l4, hl4⟩ : ∃ z, l3 ++ txts [p.token] = z := ⟨_, rfl⟩
  rw [hl4] at hl hrb
  obtain ⟨l5, hl5⟩ : ∃ z, l4 ++ listB flagB p.flags = z := ⟨_, rfl⟩
  rw [hl5] at hl hrb
  obtain ⟨l6, hl6⟩ : ∃ z, l5 ++ listB t6B p.tuples = z := ⟨_, rfl⟩
  rw [hl6] at hl hrb
  obtain ⟨l7, hl7⟩ : ∃ z, l6 ++ listB t2B p.objs = z := ⟨_, rfl⟩
  rw [hl7] at hl hrb
  obtain ⟨l8, hl8⟩ : ∃ z, l7 ++ listB evB p.events = z := ⟨_, rfl⟩
  rw [hl8] at hl hrb
  obtain ⟨l9, hl9⟩ : ∃ z, l8 ++ listB stB p.steps = z := ⟨_, rfl⟩
  rw [hl9] at hl hrb
  obtain ⟨l10, hl10⟩ : ∃ z, l9 ++ (Tr.mk p.th p.tps).bytes noB = z := ⟨_, rfl⟩
  rw [hl10] at hl hrb
  have hz10 : l10.length = l9.length + ((Tr.mk p.th p.tps).bytes noB).length := by rw [← hl10, List.length_append]
  have hz9 : l9.length = l8.length + (listB stB p.steps).length := by rw [← hl9, List.length_append]
  have hz8 : l8.length = l7.length + (listB evB p.events).length := by rw [← hl8, List.length_append]
  have hz7 : l7.length = l6.length + (listB t2B p.objs).length := by rw [← hl7, List.length_append]
  have hz6 : l6.length = l5.length + (listB t6B p.tuples).length := by rw [← hl6, List.length_append]
  have hz5 : l5.length = l4.length + (listB flagB p.flags).length := by rw [← hl5, List.length_append]
  have hz4 : l4.length = l3.length + (txts [p.token]).length := by rw [← hl4, List.length_append]
  have hz3 : l3.length = l2.length + (enc p.rev).length := by rw [← hl3, List.length_append]
  have hz2 : l2.length = l1.length + (enc (zig p.err)).length := by rw [← hl2, List.length_append]
  have hz1 : l1.length = ([112, 49] : List UInt8).length + (enc p.id).length := by rw [← hl1, List.length_append]
  have Hl1 := Lib.hid hl1
  have Hl2 := Lib.hid hl2
  have Hl3 := Lib.hid hl3
  have Hl4 := Lib.hid hl4
  have Hl5 := Lib.hid hl5
  have Hl6 := Lib.hid hl6
  have Hl7 := Lib.hid hl7
  have Hl8 := Lib.hid hl8
  have Hl9 := Lib.hid hl9
  have Hl10 := Lib.hid hl10
  have HRb := Lib.hid hrb
  obtain ⟨F1, hF1⟩ : ∃ F, p.steps.all (stFit 0) = F := ⟨_, rfl⟩
  obtain ⟨F2, hF2⟩ : ∃ F, fit 0 (Tr.mk p.th p.tps) = F := ⟨_, rfl⟩
  have HFi := Lib.hid (show respFit p = (F1 && F2) by unfold respFit; rw [hF1, hF2])
  have HF1 := Lib.hid hF1
  have HF2 := Lib.hid hF2
  have hzl : ([112, 49] : List UInt8).length = 2 := rfl
  clear hb0 hx hw0 hr hin hrb hF1 hF2 hl1 hl2 hl3 hl4 hl5 hl6 hl7 hl8 hl9 hl10
  go_enter Tryz.func6, Tryz.ntmps6
  go_upto_region 2 with fail
  obtain ⟨g, hgd⟩ : ∃ g, w.heap.size + 2 = g := ⟨_, rfl⟩
  obtain ⟨b0, hbd⟩ : ∃ b0, w.heap.size + 1 = b0 := ⟨_, rfl⟩
  have hne : w.heap.size ≠ g := by omega
  rw [hgd, hbd] at HW0
  rw [hgd, hbd]
  rw [hbd] at HB HX
  clear kc hbd hgd
  generalize (((w.alloc (.cells #[.int .u64 (p.id : Int), .int .i64 p.err, .int .u64 (p.rev : Int), .string p.token, .slice a1 p.flags.length c1, .slice a2 p.tuples.length c2, .slice a3 p.objs.length c3, .slice a4 p.events.length c4, .slice a5 p.steps.length c5, .int .i64 p.th.kind, .string p.th.o, .string p.th.i, .string p.th.rel, .slice sa p.th.subs.length sc, .slice a p.tps.length cap] 36)).alloc (.cells #[.int .u8 112, .int .u8 49] 5 (2, 3))).alloc (.cells #[.slice (some ⟨b0, 0, none⟩) 2 2, .int .i64 0, .bool false] 78)) = w0 at *
  have hx0 : w.heap.size < w0.heap.size := (Array.getElem?_eq_some_iff.1 HX.out).1
  have z0 := Lib.cell_of_heap HX.out 0
  simp at z0
  have hC := wnumber0_any w0 w.heap.size g b0 [112, 49] p.id HW0.out HB.out.size (by decide) HIn.out.id
  rw [Hl1.out] at hC
  have HC := Lib.hid hC
  clear HW0 hC
  go_wp2_with (go_at_call 17; go_must (refine HC.out.mono ?_))
  rintro e w1 ⟨rfl, hw, hb, hk⟩
  have HW := Lib.hid hw
  have HX := Lib.hid (hk _ _ _ _ HX.out (by decide) hne)
  have HB := Lib.hid (HB.out.trans hb)
  clear HC hw hb hk z0 hx0
  have hx0 : w.heap.size < w1.heap.size := (Array.getElem?_eq_some_iff.1 HX.out).1
  have z1 := Lib.cell_of_heap HX.out 1
  simp at z1
  have hC := wwhole_any w1 w.heap.size g l1 0 false p.err HW.out HB.out.size (by omega) HIn.out.err
  rw [Hl2.out] at hC
  have HC := Lib.hid hC
  clear HW hC
  go_wp2_with (go_at_call 18; go_must (refine HC.out.mono ?_))
  rintro e w2 ⟨rfl, hw, hb, hk⟩
  have HW := Lib.hid hw
  have HX := Lib.hid (hk _ _ _ _ HX.out (by decide) hne)
  have HB := Lib.hid (HB.out.trans hb)
  clear HC hw hb hk z1 hx0
  have hx0 : w.heap.size < w2.heap.size := (Array.getElem?_eq_some_iff.1 HX.out).1
  have z2 := Lib.cell_of_heap HX.out 2
  simp at z2
  have hC := wnumber_any w2 w.heap.size g l2 0 false p.rev HW.out HB.out.size (by omega) HIn.out.rev
  rw [Hl3.out] at hC
  have HC := Lib.hid hC
  clear HW hC
  go_wp2_with (go_at_call 17; go_must (refine HC.out.mono ?_))
  rintro e w3 ⟨rfl, hw, hb, hk⟩
  have HW := Lib.hid hw
  have HX := Lib.hid (hk _ _ _ _ HX.out (by decide) hne)
  have HB := Lib.hid (HB.out.trans hb)
  clear HC hw hb hk z2 hx0
  have hx0 : w.heap.size < w3.heap.size := (Array.getElem?_eq_some_iff.1 HX.out).1
  have z3 := Lib.cell_of_heap HX.out 3
  simp at z3
  have hla : Below w3.heap.size w3 (w3.alloc (.cells #[.string p.token] 9)) := (Below.refl _ _).alloc (Nat.le_refl _) _
  have hC := wtexts_any (w3.alloc (.cells #[.string p.token] 9)) w.heap.size g l3 0 false w3.heap.size 1 [p.token] (HW.out.below hla) (Nat.le_trans HB.out.size hla.size) rfl (by decide) (heap_alloc_new _ _) (by have := HW.out.lt; omega) (by omega)
  rw [Hl4.out] at hC
  have HC := Lib.hid hC
  have HL := Lib.hid hla
  clear hla HW hC
  go_wp2_with (go_at_call 19; go_must (refine HC.out.mono ?_))
  rintro e w4 ⟨rfl, hw, hb, hk⟩
  have hk := (KeepW.of_below (g := g) HL.out).trans hk
  have hb := (HL.out.mono HB.out.size).trans hb
  have HW := Lib.hid hw
  have HX := Lib.hid (hk _ _ _ _ HX.out (by decide) hne)
  have HB := Lib.hid (HB.out.trans hb)
  clear HC hw hb hk z3 hx0 HL
  have hx0 : w.heap.size < w4.heap.size := (Array.getElem?_eq_some_iff.1 HX.out).1
  have z4 := Lib.cell_of_heap HX.out 4
  simp at z4
  have hC := wputFlags_any w4 w.heap.size g l4 0 a1 p.flags.length c1 p.flags HW.out HB.out.size rfl (fun W k => ((HR.out W (HB.out.trans k)).flags).reads (map_lenk flagC _)) (by omega) HIn.out.flags
  rw [Hl5.out] at hC
  have HC := Lib.hid hC
  clear HW hC
  go_wp2_with (go_at_call 20; go_must (refine HC.out.mono ?_))
  rintro e w5 ⟨rfl, hw, hb, hk⟩
  have HW := Lib.hid hw
  have HX := Lib.hid (hk _ _ _ _ HX.out (by decide) hne)
  have HB := Lib.hid (HB.out.trans hb)
  clear HC hw hb hk z4 hx0
  have hx0 : w.heap.size < w5.heap.size := (Array.getElem?_eq_some_iff.1 HX.out).1
  have z5 := Lib.cell_of_heap HX.out 5
  simp at z5
  have hC := wputTuples_any w5 w.heap.size g l5 0 a2 p.tuples.length c2 p.tuples HW.out HB.out.size rfl (fun W k => ((HR.out W (HB.out.trans k)).tuples).reads (flat_lenk T6.cells 6 (fun _ => rfl) _)) (by omega) HIn.out.tuples
  rw [Hl6.out] at hC
  have HC := Lib.hid hC
  clear HW hC
  go_wp2_with (go_at_call 22; go_must (refine HC.out.mono ?_))
  rintro e w6 ⟨rfl, hw, hb, hk⟩
  have HW := Lib.hid hw
  have HX := Lib.hid (hk _ _ _ _ HX.out (by decide) hne)
  have HB := Lib.hid (HB.out.trans hb)
  clear HC hw hb hk z5 hx0
  have hx0 : w.heap.size < w6.heap.size := (Array.getElem?_eq_some_iff.1 HX.out).1
  have z6 := Lib.cell_of_heap HX.out 6
  simp at z6
  have hC := wputObjs_any w6 w.heap.size g l6 0 a3 p.objs.length c3 p.objs HW.out HB.out.size rfl (fun W k => ((HR.out W (HB.out.trans k)).objs).reads (flat_lenk T2.cells 2 (fun _ => rfl) _)) (by omega) HIn.out.objs
  rw [Hl7.out] at hC
  have HC := Lib.hid hC
  clear HW hC
  go_wp2_with (go_at_call 24; go_must (refine HC.out.mono ?_))
  rintro e w7 ⟨rfl, hw, hb, hk⟩
  have HW := Lib.hid hw
  have HX := Lib.hid (hk _ _ _ _ HX.out (by decide) hne)
  have HB := Lib.hid (HB.out.trans hb)
  clear HC hw hb hk z6 hx0
  have hx0 : w.heap.size < w7.heap.size := (Array.getElem?_eq_some_iff.1 HX.out).1
  have z7 := Lib.cell_of_heap HX.out 7
  simp at z7
  have hC := wputEvents_any w7 w.heap.size g l7 0 a4 p.events.length c4 p.events HW.out HB.out.size rfl (fun W k => ((HR.out W (HB.out.trans k)).events).reads (flat_lenk Evt.cells 8 (fun _ => rfl) _)) HIn.out.evs (by omega) HIn.out.events
  rw [Hl8.out] at hC
  have HC := Lib.hid hC
  clear HW hC
  go_wp2_with (go_at_call 26; go_must (refine HC.out.mono ?_))
  rintro e w8 ⟨rfl, hw, hb, hk⟩
  have HW := Lib.hid hw
  have HX := Lib.hid (hk _ _ _ _ HX.out (by decide) hne)
  have HB := Lib.hid (HB.out.trans hb)
  clear HC hw hb hk z7 hx0
  have hx0 : w.heap.size < w8.heap.size := (Array.getElem?_eq_some_iff.1 HX.out).1
  have z8 := Lib.cell_of_heap HX.out 8
  simp at z8
  have hC := wputSteps_any w8 w.heap.size g l8 0 (.slice a5 p.steps.length c5) p.steps.length p.steps HW.out HB.out.size HIn.out.sts (HR.out w8 HB.out).steps rfl (by omega) HIn.out.steps (by omega) (by omega)
  rw [Hl9.out, HF1.out] at hC
  have HC := Lib.hid hC
  clear HW hC
  go_wp2_with (go_at_call 28; go_must (refine HC.out.mono ?_))
  rintro e w9 ⟨rfl, hw, hb, hk⟩
  have HX := Lib.hid (hk _ _ _ _ HX.out (by decide) hne)
  have HB := Lib.hid (HB.out.trans hb)
  clear HC hb hk z8 hx0
  rcases hw with ⟨rfl, hw⟩ | ⟨rfl, l', hl', hw⟩
  · have HW := Lib.hid hw
    clear hw
    have z9 := Lib.cell_of_heap HX.out 9
    have z10 := Lib.cell_of_heap HX.out 10
    have z11 := Lib.cell_of_heap HX.out 11
    have z12 := Lib.cell_of_heap HX.out 12
    have z13 := Lib.cell_of_heap HX.out 13
    have z14 := Lib.cell_of_heap HX.out 14
    simp at z9 z10 z11 z12 z13 z14
    have hx0 : w.heap.size < w9.heap.size := (Array.getElem?_eq_some_iff.1 HX.out).1
    have hRn := HR.out w9 HB.out
    have hC := wNo_ok (Tr.mk p.th p.tps).depth p.th p.tps (Nat.le_refl _) HIn.out.tree w9 w.heap.size g l9 0 a cap sa sc HW.out HB.out.size hRn.capLe hRn.capMax hRn.tree hRn.subs (by omega) (by omega) (by omega)
    rw [Hl10.out, HF2.out] at hC
    have HC := Lib.hid hC
    clear HW hC hRn
    go_wp2_with (go_at_call 30; go_must (refine HC.out.mono ?_))
    rintro e w10 ⟨rfl, hw, hb, hk⟩
    have HB := Lib.hid (HB.out.trans hb)
    clear HC hb hk z9 z10 z11 z12 z13 z14 hx0 HX
    rcases hw with ⟨rfl, hw⟩ | ⟨rfl, l', hl', hw⟩
    · have HC := Lib.hid (wbytes_any w10 w.heap.size g l10 0 hw)
      clear hw
      go_wp2_with (go_at_call 31; go_must (refine HC.out.mono ?_))
      rintro e w11 ⟨v, rfl, ho, rfl⟩
      obtain ⟨xa, xc, rfl, _, _⟩ := (ownsRow.reads ho).le
      have hfin : PrPost w p (.returned (.tuple #[.slice xa l10.length xc, .int .i64 0])) w10 := by
        refine .inl ⟨by rw [HFi.out]; rfl, _, rfl, ?_, HB.out⟩
        rw [HRb.out]
        exact ho
      have HFn := Lib.hid hfin
      clear ho HC hfin hz1 hz2 hz3 hz4 hz5 hz6 hz7 hz8 hz9 hz10 hzl hl
      go_wp2
      go_ret2
      exact HFn.out
    · have HC := Lib.hid (wbytes_deep w10 w.heap.size g l' 0 hw)
      clear hw
      go_wp2_with (go_at_call 31; go_must (refine HC.out.mono ?_))
      rintro e w11 ⟨rfl, rfl⟩
      have hfin : PrPost w p (.returned (.tuple #[.slice none 0 0, .int .i64 10])) w10 := by
        exact .inr ⟨by rw [HFi.out]; rfl, rfl, HB.out⟩
      have HFn := Lib.hid hfin
      clear HC hfin hl'
      go_wp2
      go_ret2
      exact HFn.out
  · have HW := Lib.hid hw
    clear hw hl'
    have z9 := Lib.cell_of_heap HX.out 9
    have z10 := Lib.cell_of_heap HX.out 10
    have z11 := Lib.cell_of_heap HX.out 11
    have z12 := Lib.cell_of_heap HX.out 12
    have z13 := Lib.cell_of_heap HX.out 13
    have z14 := Lib.cell_of_heap HX.out 14
    simp at z9 z10 z11 z12 z13 z14
    have hx0 : w.heap.size < w9.heap.size := (Array.getElem?_eq_some_iff.1 HX.out).1
    have HC := Lib.hid (wnode_deep w9 w.heap.size g l' 0 p sa a sc cap HW.out HB.out.size (by omega) (by omega))
    clear HW
    go_wp2_with (go_at_call 30; go_must (refine HC.out.mono ?_))
    rintro e w10 ⟨rfl, hw, hb, hk⟩
    have HB := Lib.hid (HB.out.trans hb)
    clear HC hb hk z9 z10 z11 z12 z13 z14 hx0 HX
    have HC := Lib.hid (wbytes_deep w10 w.heap.size g l' 0 hw)
    clear hw
    go_wp2_with (go_at_call 31; go_must (refine HC.out.mono ?_))
    rintro e w11 ⟨rfl, rfl⟩
    have hfin : PrPost w p (.returned (.tuple #[.slice none 0 0, .int .i64 10])) w10 := by
      exact .inr ⟨by rw [HFi.out]; rfl, rfl, HB.out⟩
    have HFn := Lib.hid hfin
    clear HC hfin
    go_wp2
    go_ret2
    exact HFn.out
end Go.Proofs.YtdonibkkdhokpaaGreat
