/- wire.PutRequest (written by gen_wireput.py). -/
import Derived.Test.YtdonibkkdhokpaaGreatZWireQ
import Derived.Test.YtdonibkkdhokpaaGreatZWireT
import Derived.Lib.SlBytesConst
namespace Go.Proofs.YtdonibkkdhokpaaGreat
open Go Go.RowKit

def BytesPost (w : World) (l : List UInt8) (e : Ending) (w' : World) : Prop :=
  ∃ v, e = .returned (.tuple #[v, .int .i64 0]) ∧ w'.ownsRow w.heap.size 5 1 v l.length (bcells l) ∧ Below w.heap.size w w'

set_option maxRecDepth 100000 in
theorem wbytes_any (w : World) (B g : Nat) (l : List UInt8) (d : Int) (h : WAt B w g l d false) :
    Calls Tryz.prog 31 #[.pointer (some ⟨g, 0, none⟩)] w (fun e w' => ∃ v, e = .returned (.tuple #[v, .int .i64 0]) ∧ w.ownsRow B 5 1 v l.length (bcells l) ∧ w = w') := by
  obtain ⟨a, cap, h1, h2, _⟩ := h
  have c0 := Lib.cell_of_heap h1 0
  have c2 := Lib.cell_of_heap h1 2
  simp at c0 c2
  have hg : g < w.heap.size := (Array.getElem?_eq_some_iff.1 h1).1
  have H2 := Lib.hid h2
  clear h1 h2
  go_enter Tryz.func31, Tryz.ntmps31
  go_wp2
  go_ret2
  exact ⟨_, rfl, H2.out, rfl⟩

structure ReqIn (q : Req) : Prop where
  ints : in64 q.kind ∧ in64 q.how
  id : q.id < 18446744073709551616
  n : q.n < 18446744073709551616
  args : ∀ x ∈ q.args, in64 x.kind ∧ in64 x.n

set_option maxRecDepth 100000 in
set_option maxHeartbeats 4000000 in
theorem putrequest_any (w : World) (q : Req) (a1 a2 a3 a4 : Option Addr) (n1 n2 n3 n4 c1 c2 c3 c4 : Nat) (hr1 : Reads w 7 (.slice a1 n1 c1) n1 (q.writes.flatMap Wri.cells)) (hr2 : Reads w 7 (.slice a2 n2 c2) n2 (q.pres.flatMap Wri.cells)) (hr3 : Reads w 6 (.slice a3 n3 c3) n3 (q.asks.flatMap T6.cells)) (hr4 : Reads w 4 (.slice a4 n4 c4) n4 (q.args.flatMap Arg4.cells))
    (hk1 : q.writes.length = n1) (hk2 : q.pres.length = n2) (hk3 : q.asks.length = n3) (hk4 : q.args.length = n4) (hin : ReqIn q) (hl : (reqB q).length ≤ 20000000) (hn : n1 ≤ 20000000 ∧ n2 ≤ 20000000 ∧ n3 ≤ 20000000 ∧ n4 ≤ 20000000) :
    Calls Tryz.prog 11 #[.agg #[.string q.client, .int .u64 (q.id : Int), .int .i64 q.kind, .int .i64 q.how, .string q.token, .int .u64 (q.n : Int), .string q.typ, .string q.f1, .string q.f2, .string q.f3, .slice a1 n1 c1, .slice a2 n2 c2, .slice a3 n3 c3, .slice a4 n4 c4]] w (BytesPost w (reqB q)) := by
  obtain ⟨hq, hid, hnn, har⟩ := hin
  have heq : reqB q = [113, 49] ++ txt q.client ++ enc q.id ++ enc (zig q.kind) ++ enc (zig q.how) ++ txts [q.token] ++ enc q.n ++ txts [q.typ, q.f1, q.f2, q.f3] ++ listB wriB q.writes ++ listB wriB q.pres ++ listB t6B q.asks ++ listB argB q.args := by simp [reqB, txts]
  have hlen := congrArg List.length heq
  simp only [List.length_append] at hlen
  obtain ⟨hn1, hn2, hn3, hn4⟩ := hn
  obtain ⟨FIN, hF⟩ : ∃ FIN, reqB q = FIN := ⟨_, rfl⟩
  rw [hF] at heq hl hlen ⊢
  have HF := Lib.hid heq
  have HR1 := Lib.hid hr1
  have HR2 := Lib.hid hr2
  have HR3 := Lib.hid hr3
  have HR4 := Lib.hid hr4
  have HK1 := Lib.hid hk1
  have HK2 := Lib.hid hk2
  have HK3 := Lib.hid hk3
  have HK4 := Lib.hid hk4
  have HAr := Lib.hid har
  have hmf : ∀ (fn : Fn) (first cap : Array Value) (w : World), (Instr.makeFunc fn first cap).run Tryz.prog w = .ok (.func fn first cap) w := fun _ _ _ _ => rfl
  have kc := Lib.run_convert_bytes_const (P := Tryz.prog) (w.alloc (.cells #[.string q.client, .int .u64 (q.id : Int), .int .i64 q.kind, .int .i64 q.how, .string q.token, .int .u64 (q.n : Int), .string q.typ, .string q.f1, .string q.f2, .string q.f3, .slice a1 n1 c1, .slice a2 n2 c2, .slice a3 n3 c3, .slice a4 n4 c4] 54)) 39 5 #[.int .u8 113, .int .u8 49] 2 2 Tryz.underlying39 Tryz.underlying5
  simp at kc
  have hb0 : Below w.heap.size w (((w.alloc (.cells #[.string q.client, .int .u64 (q.id : Int), .int .i64 q.kind, .int .i64 q.how, .string q.token, .int .u64 (q.n : Int), .string q.typ, .string q.f1, .string q.f2, .string q.f3, .slice a1 n1 c1, .slice a2 n2 c2, .slice a3 n3 c3, .slice a4 n4 c4] 54)).alloc (.cells #[.int .u8 113, .int .u8 49] 5 (2, 3))).alloc (.cells #[.slice (some ⟨w.heap.size + 1, 0, none⟩) 2 2, .int .i64 0, .bool false] 78)) := (((Below.refl _ _).alloc (Nat.le_refl _) _).alloc (by simp) _).alloc (by simp; omega) _
  have hx : (((w.alloc (.cells #[.string q.client, .int .u64 (q.id : Int), .int .i64 q.kind, .int .i64 q.how, .string q.token, .int .u64 (q.n : Int), .string q.typ, .string q.f1, .string q.f2, .string q.f3, .slice a1 n1 c1, .slice a2 n2 c2, .slice a3 n3 c3, .slice a4 n4 c4] 54)).alloc (.cells #[.int .u8 113, .int .u8 49] 5 (2, 3))).alloc (.cells #[.slice (some ⟨w.heap.size + 1, 0, none⟩) 2 2, .int .i64 0, .bool false] 78)).heap[w.heap.size]? = some (.cells #[.string q.client, .int .u64 (q.id : Int), .int .i64 q.kind, .int .i64 q.how, .string q.token, .int .u64 (q.n : Int), .string q.typ, .string q.f1, .string q.f2, .string q.f3, .slice a1 n1 c1, .slice a2 n2 c2, .slice a3 n3 c3, .slice a4 n4 c4] 54 (0, 0)) := by
    exact (Below.heap_alloc _ _ _ (by simp; omega)).trans ((Below.heap_alloc _ _ _ (by simp)).trans (heap_alloc_new _ _))
  have hw0 : WAt0 w.heap.size (((w.alloc (.cells #[.string q.client, .int .u64 (q.id : Int), .int .i64 q.kind, .int .i64 q.how, .string q.token, .int .u64 (q.n : Int), .string q.typ, .string q.f1, .string q.f2, .string q.f3, .slice a1 n1 c1, .slice a2 n2 c2, .slice a3 n3 c3, .slice a4 n4 c4] 54)).alloc (.cells #[.int .u8 113, .int .u8 49] 5 (2, 3))).alloc (.cells #[.slice (some ⟨w.heap.size + 1, 0, none⟩) 2 2, .int .i64 0, .bool false] 78)) (w.heap.size + 2) (w.heap.size + 1) [113, 49] := by
    refine ⟨?_, ?_, by omega⟩
    · have := heap_alloc_new ((w.alloc (.cells #[.string q.client, .int .u64 (q.id : Int), .int .i64 q.kind, .int .i64 q.how, .string q.token, .int .u64 (q.n : Int), .string q.typ, .string q.f1, .string q.f2, .string q.f3, .slice a1 n1 c1, .slice a2 n2 c2, .slice a3 n3 c3, .slice a4 n4 c4] 54)).alloc (.cells #[.int .u8 113, .int .u8 49] 5 (2, 3))) (.cells #[.slice (some ⟨w.heap.size + 1, 0, none⟩) 2 2, .int .i64 0, .bool false] 78)
      simpa using this
    · refine (Below.heap_alloc _ _ _ (by simp)).trans ?_
      have := heap_alloc_new (w.alloc (.cells #[.string q.client, .int .u64 (q.id : Int), .int .i64 q.kind, .int .i64 q.how, .string q.token, .int .u64 (q.n : Int), .string q.typ, .string q.f1, .string q.f2, .string q.f3, .slice a1 n1 c1, .slice a2 n2 c2, .slice a3 n3 c3, .slice a4 n4 c4] 54)) (.cells #[.int .u8 113, .int .u8 49] 5 (2, 3))
      simpa [bcells] using this
  have HB := Lib.hid hb0
  have HX := Lib.hid hx
  have HW0 := Lib.hid hw0
  clear hr1 hr2 hr3 hr4 hk1 hk2 hk3 hk4 har hb0 hx hw0 heq hF
  go_enter Tryz.func11, Tryz.ntmps11
  go_upto_region 2 with fail
  obtain ⟨g, hgd⟩ : ∃ g, w.heap.size + 2 = g := ⟨_, rfl⟩
  obtain ⟨b0, hbd⟩ : ∃ b0, w.heap.size + 1 = b0 := ⟨_, rfl⟩
  have hne : w.heap.size ≠ g := by omega
  have hgB : w.heap.size ≤ g := by omega
  rw [hgd, hbd] at HW0
  rw [hgd, hbd]
  rw [hbd] at HB HX
  clear kc hbd
  generalize ((w.alloc (.cells #[.string q.client, .int .u64 (q.id : Int), .int .i64 q.kind, .int .i64 q.how, .string q.token, .int .u64 (q.n : Int), .string q.typ, .string q.f1, .string q.f2, .string q.f3, .slice a1 n1 c1, .slice a2 n2 c2, .slice a3 n3 c3, .slice a4 n4 c4] 54)).alloc (.cells #[.int .u8 113, .int .u8 49] 5 (2, 3))).alloc (.cells #[.slice (some ⟨b0, 0, none⟩) 2 2, .int .i64 0, .bool false] 78) = w0 at *
  have hx0 : w.heap.size < w0.heap.size := (Array.getElem?_eq_some_iff.1 HX.out).1
  have z0 := Lib.cell_of_heap HX.out 0
  simp at z0
  have hla : Below w0.heap.size w0 (w0.alloc (.cells #[.string q.client] 9)) := (Below.refl _ _).alloc (Nat.le_refl _) _
  have HC := Lib.hid (wtexts0_any (w0.alloc (.cells #[.string q.client] 9)) w.heap.size g b0 w0.heap.size [113, 49] q.client (HW0.out.below hla) (Nat.le_trans HB.out.size hla.size) (heap_alloc_new _ _) (by decide) (by omega))
  have HLa := Lib.hid hla
  clear hla HW0
  go_wp2_with (go_at_call 19; go_must (refine HC.out.mono ?_))
  rintro e w1 ⟨rfl, hw, hb, hk⟩
  have hk := (KeepW.of_below (g := g) HLa.out).trans hk
  have HB := Lib.hid ((HB.out.trans (HLa.out.mono HB.out.size)).trans hb)
  have HW := Lib.hid hw
  have HX := Lib.hid (hk _ _ _ _ HX.out (by decide) hne)
  have hx0 : w.heap.size < w1.heap.size := (Array.getElem?_eq_some_iff.1 HX.out).1
  clear hw hb hk HC HLa
  clear z0
  have z1 := Lib.cell_of_heap HX.out 1
  simp at z1
  have HC := Lib.hid (wnumber_any w1 w.heap.size g ([113, 49] ++ txt q.client) 0 false q.id HW.out HB.out.size (by (try simp only [List.length_append]); omega) hid)
  clear HW
  go_wp2_with (go_at_call 17; go_must (refine HC.out.mono ?_))
  rintro e w2 ⟨rfl, hw, hb, hk⟩
  have HB := Lib.hid (HB.out.trans hb)
  have HW := Lib.hid hw
  have HX := Lib.hid (hk _ _ _ _ HX.out (by decide) hne)
  have hx0 : w.heap.size < w2.heap.size := (Array.getElem?_eq_some_iff.1 HX.out).1
  clear hw hb hk HC
  clear z1
  have z2 := Lib.cell_of_heap HX.out 2
  simp at z2
  have HC := Lib.hid (wwhole_any w2 w.heap.size g ([113, 49] ++ txt q.client ++ enc q.id) 0 false q.kind HW.out HB.out.size (by (try simp only [List.length_append]); omega) hq.1)
  clear HW
  go_wp2_with (go_at_call 18; go_must (refine HC.out.mono ?_))
  rintro e w3 ⟨rfl, hw, hb, hk⟩
  have HB := Lib.hid (HB.out.trans hb)
  have HW := Lib.hid hw
  have HX := Lib.hid (hk _ _ _ _ HX.out (by decide) hne)
  have hx0 : w.heap.size < w3.heap.size := (Array.getElem?_eq_some_iff.1 HX.out).1
  clear hw hb hk HC
  clear z2
  have z3 := Lib.cell_of_heap HX.out 3
  simp at z3
  have HC := Lib.hid (wwhole_any w3 w.heap.size g ([113, 49] ++ txt q.client ++ enc q.id ++ enc (zig q.kind)) 0 false q.how HW.out HB.out.size (by (try simp only [List.length_append]); omega) hq.2)
  clear HW
  go_wp2_with (go_at_call 18; go_must (refine HC.out.mono ?_))
  rintro e w4 ⟨rfl, hw, hb, hk⟩
  have HB := Lib.hid (HB.out.trans hb)
  have HW := Lib.hid hw
  have HX := Lib.hid (hk _ _ _ _ HX.out (by decide) hne)
  have hx0 : w.heap.size < w4.heap.size := (Array.getElem?_eq_some_iff.1 HX.out).1
  clear hw hb hk HC
  clear z3
  have z4 := Lib.cell_of_heap HX.out 4
  simp at z4
  have hla : Below w4.heap.size w4 (w4.alloc (.cells #[.string q.token] 9)) := (Below.refl _ _).alloc (Nat.le_refl _) _
  have HC := Lib.hid (wtexts_any (w4.alloc (.cells #[.string q.token] 9)) w.heap.size g ([113, 49] ++ txt q.client ++ enc q.id ++ enc (zig q.kind) ++ enc (zig q.how)) 0 false w4.heap.size 1 [q.token] (HW.out.below hla) (Nat.le_trans HB.out.size hla.size) rfl (by decide) (heap_alloc_new _ _) (by have := HW.out.lt; omega) (by (try simp only [List.length_append]); omega))
  have HLa := Lib.hid hla
  clear hla HW
  go_wp2_with (go_at_call 19; go_must (refine HC.out.mono ?_))
  rintro e w5 ⟨rfl, hw, hb, hk⟩
  have hk := (KeepW.of_below (g := g) HLa.out).trans hk
  have HB := Lib.hid ((HB.out.trans (HLa.out.mono HB.out.size)).trans hb)
  have HW := Lib.hid hw
  have HX := Lib.hid (hk _ _ _ _ HX.out (by decide) hne)
  have hx0 : w.heap.size < w5.heap.size := (Array.getElem?_eq_some_iff.1 HX.out).1
  clear hw hb hk HC HLa
  clear z4
  have z5 := Lib.cell_of_heap HX.out 5
  simp at z5
  have HC := Lib.hid (wnumber_any w5 w.heap.size g ([113, 49] ++ txt q.client ++ enc q.id ++ enc (zig q.kind) ++ enc (zig q.how) ++ txts [q.token]) 0 false q.n HW.out HB.out.size (by (try simp only [List.length_append]); omega) hnn)
  clear HW
  go_wp2_with (go_at_call 17; go_must (refine HC.out.mono ?_))
  rintro e w6 ⟨rfl, hw, hb, hk⟩
  have HB := Lib.hid (HB.out.trans hb)
  have HW := Lib.hid hw
  have HX := Lib.hid (hk _ _ _ _ HX.out (by decide) hne)
  have hx0 : w.heap.size < w6.heap.size := (Array.getElem?_eq_some_iff.1 HX.out).1
  clear hw hb hk HC
  clear z5
  have z6 := Lib.cell_of_heap HX.out 6
  have z7 := Lib.cell_of_heap HX.out 7
  have z8 := Lib.cell_of_heap HX.out 8
  have z9 := Lib.cell_of_heap HX.out 9
  simp at z6 z7 z8 z9
  have hla : Below w6.heap.size w6 (w6.alloc (.cells #[.string q.typ, .string q.f1, .string q.f2, .string q.f3] 9)) := (Below.refl _ _).alloc (Nat.le_refl _) _
  have HC := Lib.hid (wtexts_any (w6.alloc (.cells #[.string q.typ, .string q.f1, .string q.f2, .string q.f3] 9)) w.heap.size g ([113, 49] ++ txt q.client ++ enc q.id ++ enc (zig q.kind) ++ enc (zig q.how) ++ txts [q.token] ++ enc q.n) 0 false w6.heap.size 4 [q.typ, q.f1, q.f2, q.f3] (HW.out.below hla) (Nat.le_trans HB.out.size hla.size) rfl (by decide) (heap_alloc_new _ _) (by have := HW.out.lt; omega) (by (try simp only [List.length_append]); omega))
  have HLa := Lib.hid hla
  clear hla HW
  go_wp2_with (go_at_call 19; go_must (refine HC.out.mono ?_))
  rintro e w7 ⟨rfl, hw, hb, hk⟩
  have hk := (KeepW.of_below (g := g) HLa.out).trans hk
  have HB := Lib.hid ((HB.out.trans (HLa.out.mono HB.out.size)).trans hb)
  have HW := Lib.hid hw
  have HX := Lib.hid (hk _ _ _ _ HX.out (by decide) hne)
  have hx0 : w.heap.size < w7.heap.size := (Array.getElem?_eq_some_iff.1 HX.out).1
  clear hw hb hk HC HLa
  clear z6 z7 z8 z9
  have z10 := Lib.cell_of_heap HX.out 10
  simp at z10
  have HC := Lib.hid (wputWrites_any w7 w.heap.size g ([113, 49] ++ txt q.client ++ enc q.id ++ enc (zig q.kind) ++ enc (zig q.how) ++ txts [q.token] ++ enc q.n ++ txts [q.typ, q.f1, q.f2, q.f3]) 0 a1 n1 c1 q.writes HW.out HB.out.size HK1.out (fun W hW => HR1.out.below' (HB.out.trans hW)) (by (try simp only [List.length_append]); omega) hn1)
  clear HW
  go_wp2_with (go_at_call 66; go_must (refine HC.out.mono ?_))
  rintro e w8 ⟨rfl, hw, hb, hk⟩
  have HB := Lib.hid (HB.out.trans hb)
  have HW := Lib.hid hw
  have HX := Lib.hid (hk _ _ _ _ HX.out (by decide) hne)
  have hx0 : w.heap.size < w8.heap.size := (Array.getElem?_eq_some_iff.1 HX.out).1
  clear hw hb hk HC
  clear z10
  have z11 := Lib.cell_of_heap HX.out 11
  simp at z11
  have HC := Lib.hid (wputPres_any w8 w.heap.size g ([113, 49] ++ txt q.client ++ enc q.id ++ enc (zig q.kind) ++ enc (zig q.how) ++ txts [q.token] ++ enc q.n ++ txts [q.typ, q.f1, q.f2, q.f3] ++ listB wriB q.writes) 0 a2 n2 c2 q.pres HW.out HB.out.size HK2.out (fun W hW => HR2.out.below' (HB.out.trans hW)) (by (try simp only [List.length_append]); omega) hn2)
  clear HW
  go_wp2_with (go_at_call 68; go_must (refine HC.out.mono ?_))
  rintro e w9 ⟨rfl, hw, hb, hk⟩
  have HB := Lib.hid (HB.out.trans hb)
  have HW := Lib.hid hw
  have HX := Lib.hid (hk _ _ _ _ HX.out (by decide) hne)
  have hx0 : w.heap.size < w9.heap.size := (Array.getElem?_eq_some_iff.1 HX.out).1
  clear hw hb hk HC
  clear z11
  have z12 := Lib.cell_of_heap HX.out 12
  simp at z12
  have HC := Lib.hid (wputAsks_any w9 w.heap.size g ([113, 49] ++ txt q.client ++ enc q.id ++ enc (zig q.kind) ++ enc (zig q.how) ++ txts [q.token] ++ enc q.n ++ txts [q.typ, q.f1, q.f2, q.f3] ++ listB wriB q.writes ++ listB wriB q.pres) 0 a3 n3 c3 q.asks HW.out HB.out.size HK3.out (fun W hW => HR3.out.below' (HB.out.trans hW)) (by (try simp only [List.length_append]); omega) hn3)
  clear HW
  go_wp2_with (go_at_call 70; go_must (refine HC.out.mono ?_))
  rintro e w10 ⟨rfl, hw, hb, hk⟩
  have HB := Lib.hid (HB.out.trans hb)
  have HW := Lib.hid hw
  have HX := Lib.hid (hk _ _ _ _ HX.out (by decide) hne)
  have hx0 : w.heap.size < w10.heap.size := (Array.getElem?_eq_some_iff.1 HX.out).1
  clear hw hb hk HC
  clear z12
  have z13 := Lib.cell_of_heap HX.out 13
  simp at z13
  have HC := Lib.hid (wputArgs_any w10 w.heap.size g ([113, 49] ++ txt q.client ++ enc q.id ++ enc (zig q.kind) ++ enc (zig q.how) ++ txts [q.token] ++ enc q.n ++ txts [q.typ, q.f1, q.f2, q.f3] ++ listB wriB q.writes ++ listB wriB q.pres ++ listB t6B q.asks) 0 a4 n4 c4 q.args HW.out HB.out.size HK4.out (fun W hW => HR4.out.below' (HB.out.trans hW)) HAr.out (by (try simp only [List.length_append]); omega) hn4)
  clear HW
  go_wp2_with (go_at_call 72; go_must (refine HC.out.mono ?_))
  rintro e w11 ⟨rfl, hw, hb, hk⟩
  have HB := Lib.hid (HB.out.trans hb)
  have HW := Lib.hid hw
  have HX := Lib.hid (hk _ _ _ _ HX.out (by decide) hne)
  have hx0 : w.heap.size < w11.heap.size := (Array.getElem?_eq_some_iff.1 HX.out).1
  clear hw hb hk HC
  clear z13
  have HC := Lib.hid (wbytes_any w11 w.heap.size g ([113, 49] ++ txt q.client ++ enc q.id ++ enc (zig q.kind) ++ enc (zig q.how) ++ txts [q.token] ++ enc q.n ++ txts [q.typ, q.f1, q.f2, q.f3] ++ listB wriB q.writes ++ listB wriB q.pres ++ listB t6B q.asks ++ listB argB q.args) 0 HW.out)
  go_wp2_with (go_at_call 31; go_must (refine HC.out.mono ?_))
  rintro e wz ⟨vz, rfl, oz, rfl⟩
  go_wp2
  go_ret2
  refine ⟨_, rfl, ?_, HB.out⟩
  rw [HF.out]
  exact oz
end Go.Proofs.YtdonibkkdhokpaaGreat
