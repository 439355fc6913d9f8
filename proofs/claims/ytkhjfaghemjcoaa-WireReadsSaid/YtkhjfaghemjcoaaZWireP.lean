/- The writer: what structs are written as (written by gen_wirep.py). -/
import Derived.Test.YtkhjfaghemjcoaaZWireL
namespace Go.Proofs.Ytkhjfaghemjcoaa
open Go Go.RowKit

theorem txts_two (x y : List ByteArray) : txts (x ++ y) = txts x ++ txts y := by simp [txts]
set_option maxRecDepth 100000 in
set_option maxHeartbeats 1000000 in
theorem wobj_any (w : World) (B g : Nat) (l : List UInt8) (d : Int) (deep : Bool) (x y : ByteArray) (h : WAt B w g l d deep) (hB : B ≤ w.heap.size) (hl : l.length + (txts [x, y]).length ≤ 1000000000) :
    Calls Try.prog 67 #[.pointer (some ⟨g, 0, none⟩), .agg #[.string x, .string y]] w (WPost B w g (l ++ (txts [x, y])) d deep) := by
  have hg := h.lt
  have heq : l ++ (txts [x, y]) = l ++ txts [x, y] := by simp [txts]
  have hlen := congrArg List.length heq
  simp only [List.length_append] at hlen hl
  have hba : Below w.heap.size w (w.alloc (.cells #[.string x, .string y] 48)) := (Below.refl _ _).alloc (Nat.le_refl _) _
  have hbx : (w.alloc (.cells #[.string x, .string y] 48)).heap[w.heap.size]? = some (.cells #[.string x, .string y] 48 (0, 0)) := heap_alloc_new _ _
  have HW := Lib.hid (h.below hba)
  have HB := Lib.hid (hba.mono hB)
  have HX := Lib.hid hbx
  have HK := Lib.hid (KeepW.of_below (g := g) hba)
  have hne : w.heap.size ≠ g := by omega
  rw [heq]
  clear h hba hbx heq
  go_enter Try.func67, Try.ntmps67
  go_upto_region 1 with fail
  generalize w.alloc (.cells #[.string x, .string y] 48) = w0 at *
  have hx0 : w.heap.size < w0.heap.size := (Array.getElem?_eq_some_iff.1 HX.out).1
  have c0 := Lib.cell_of_heap HX.out 0
  have c1 := Lib.cell_of_heap HX.out 1
  simp at c0 c1
  have hla : Below w0.heap.size w0 (w0.alloc (.cells #[.string x, .string y] 9)) := (Below.refl _ _).alloc (Nat.le_refl _) _
  have HC := Lib.hid (wtexts_any (w0.alloc (.cells #[.string x, .string y] 9)) B g (l) d deep w0.heap.size 2 [x, y] (HW.out.below hla) (Nat.le_trans hB (Nat.le_trans HB.out.size hla.size)) rfl (by decide) (heap_alloc_new _ _) (by have := HW.out.lt; omega) (by (try simp only [List.length_append]); omega))
  have HL := Lib.hid hla
  clear HW hla
  go_wp2_with (go_at_call 16; go_must (refine HC.out.mono ?_))
  rintro e w1 ⟨rfl, hw, hb, hk⟩
  have hk := (KeepW.of_below (g := g) HL.out).trans hk
  have HW := Lib.hid hw
  have HX := Lib.hid (hk _ _ _ _ HX.out (by decide) hne)
  have HB := Lib.hid ((HB.out.trans (HL.out.mono (Nat.le_trans hB HB.out.size))).trans hb)
  have HK := Lib.hid (HK.out.trans hk)
  clear HL
  have hx1 : w.heap.size < w1.heap.size := (Array.getElem?_eq_some_iff.1 HX.out).1
  clear HC hw hb hk c0 c1
  go_wp2
  go_end0
  exact ⟨rfl, HW.out, HB.out, HK.out⟩

set_option maxRecDepth 100000 in
set_option maxHeartbeats 1000000 in
theorem wsub_any (w : World) (B g : Nat) (l : List UInt8) (d : Int) (deep : Bool) (x y z : ByteArray) (h : WAt B w g l d deep) (hB : B ≤ w.heap.size) (hl : l.length + (txts [x, y, z]).length ≤ 1000000000) :
    Calls Try.prog 78 #[.pointer (some ⟨g, 0, none⟩), .agg #[.string x, .string y, .string z]] w (WPost B w g (l ++ (txts [x, y, z])) d deep) := by
  have hg := h.lt
  have heq : l ++ (txts [x, y, z]) = l ++ txts [x, y] ++ txts [z] := by simp [txts]
  have hlen := congrArg List.length heq
  simp only [List.length_append] at hlen hl
  have hba : Below w.heap.size w (w.alloc (.cells #[.string x, .string y, .string z] 64)) := (Below.refl _ _).alloc (Nat.le_refl _) _
  have hbx : (w.alloc (.cells #[.string x, .string y, .string z] 64)).heap[w.heap.size]? = some (.cells #[.string x, .string y, .string z] 64 (0, 0)) := heap_alloc_new _ _
  have HW := Lib.hid (h.below hba)
  have HB := Lib.hid (hba.mono hB)
  have HX := Lib.hid hbx
  have HK := Lib.hid (KeepW.of_below (g := g) hba)
  have hne : w.heap.size ≠ g := by omega
  rw [heq]
  clear h hba hbx heq
  go_enter Try.func78, Try.ntmps78
  go_upto_region 1 with fail
  generalize w.alloc (.cells #[.string x, .string y, .string z] 64) = w0 at *
  have hx0 : w.heap.size < w0.heap.size := (Array.getElem?_eq_some_iff.1 HX.out).1
  have c0 := Lib.cell_of_heap HX.out 0
  have c1 := Lib.cell_of_heap HX.out 1
  have c2 := Lib.cell_of_heap HX.out 2
  simp at c0 c1 c2
  have HC := Lib.hid (wobj_any w0 B g (l) d deep x y HW.out (Nat.le_trans hB HB.out.size) (by (try simp only [List.length_append]); omega))
  clear HW
  go_wp2_with (go_at_call 67; go_must (refine HC.out.mono ?_))
  rintro e w1 ⟨rfl, hw, hb, hk⟩
  have HW := Lib.hid hw
  have HX := Lib.hid (hk _ _ _ _ HX.out (by decide) hne)
  have HB := Lib.hid (HB.out.trans hb)
  have HK := Lib.hid (HK.out.trans hk)
  have hx1 : w.heap.size < w1.heap.size := (Array.getElem?_eq_some_iff.1 HX.out).1
  clear HC hw hb hk c0 c1 c2
  have c0 := Lib.cell_of_heap HX.out 0
  have c1 := Lib.cell_of_heap HX.out 1
  have c2 := Lib.cell_of_heap HX.out 2
  simp at c0 c1 c2
  have hla : Below w1.heap.size w1 (w1.alloc (.cells #[.string z] 9)) := (Below.refl _ _).alloc (Nat.le_refl _) _
  have HC := Lib.hid (wtexts_any (w1.alloc (.cells #[.string z] 9)) B g (l ++ txts [x, y]) d deep w1.heap.size 1 [z] (HW.out.below hla) (Nat.le_trans hB (Nat.le_trans HB.out.size hla.size)) rfl (by decide) (heap_alloc_new _ _) (by have := HW.out.lt; omega) (by (try simp only [List.length_append]); omega))
  have HL := Lib.hid hla
  clear HW hla
  go_wp2_with (go_at_call 16; go_must (refine HC.out.mono ?_))
  rintro e w2 ⟨rfl, hw, hb, hk⟩
  have hk := (KeepW.of_below (g := g) HL.out).trans hk
  have HW := Lib.hid hw
  have HX := Lib.hid (hk _ _ _ _ HX.out (by decide) hne)
  have HB := Lib.hid ((HB.out.trans (HL.out.mono (Nat.le_trans hB HB.out.size))).trans hb)
  have HK := Lib.hid (HK.out.trans hk)
  clear HL
  have hx2 : w.heap.size < w2.heap.size := (Array.getElem?_eq_some_iff.1 HX.out).1
  clear HC hw hb hk c0 c1 c2
  go_wp2
  go_end0
  exact ⟨rfl, HW.out, HB.out, HK.out⟩

set_option maxRecDepth 100000 in
set_option maxHeartbeats 1000000 in
theorem wpoint_any (w : World) (B g : Nat) (l : List UInt8) (d : Int) (deep : Bool) (x y z : ByteArray) (h : WAt B w g l d deep) (hB : B ≤ w.heap.size) (hl : l.length + (txts [x, y, z]).length ≤ 1000000000) :
    Calls Try.prog 77 #[.pointer (some ⟨g, 0, none⟩), .agg #[.string x, .string y, .string z]] w (WPost B w g (l ++ (txts [x, y, z])) d deep) := by
  have hg := h.lt
  have heq : l ++ (txts [x, y, z]) = l ++ txts [x, y] ++ txts [z] := by simp [txts]
  have hlen := congrArg List.length heq
  simp only [List.length_append] at hlen hl
  have hba : Below w.heap.size w (w.alloc (.cells #[.string x, .string y, .string z] 63)) := (Below.refl _ _).alloc (Nat.le_refl _) _
  have hbx : (w.alloc (.cells #[.string x, .string y, .string z] 63)).heap[w.heap.size]? = some (.cells #[.string x, .string y, .string z] 63 (0, 0)) := heap_alloc_new _ _
  have HW := Lib.hid (h.below hba)
  have HB := Lib.hid (hba.mono hB)
  have HX := Lib.hid hbx
  have HK := Lib.hid (KeepW.of_below (g := g) hba)
  have hne : w.heap.size ≠ g := by omega
  rw [heq]
  clear h hba hbx heq
  go_enter Try.func77, Try.ntmps77
  go_upto_region 1 with fail
  generalize w.alloc (.cells #[.string x, .string y, .string z] 63) = w0 at *
  have hx0 : w.heap.size < w0.heap.size := (Array.getElem?_eq_some_iff.1 HX.out).1
  have c0 := Lib.cell_of_heap HX.out 0
  have c1 := Lib.cell_of_heap HX.out 1
  have c2 := Lib.cell_of_heap HX.out 2
  simp at c0 c1 c2
  have HC := Lib.hid (wobj_any w0 B g (l) d deep x y HW.out (Nat.le_trans hB HB.out.size) (by (try simp only [List.length_append]); omega))
  clear HW
  go_wp2_with (go_at_call 67; go_must (refine HC.out.mono ?_))
  rintro e w1 ⟨rfl, hw, hb, hk⟩
  have HW := Lib.hid hw
  have HX := Lib.hid (hk _ _ _ _ HX.out (by decide) hne)
  have HB := Lib.hid (HB.out.trans hb)
  have HK := Lib.hid (HK.out.trans hk)
  have hx1 : w.heap.size < w1.heap.size := (Array.getElem?_eq_some_iff.1 HX.out).1
  clear HC hw hb hk c0 c1 c2
  have c0 := Lib.cell_of_heap HX.out 0
  have c1 := Lib.cell_of_heap HX.out 1
  have c2 := Lib.cell_of_heap HX.out 2
  simp at c0 c1 c2
  have hla : Below w1.heap.size w1 (w1.alloc (.cells #[.string z] 9)) := (Below.refl _ _).alloc (Nat.le_refl _) _
  have HC := Lib.hid (wtexts_any (w1.alloc (.cells #[.string z] 9)) B g (l ++ txts [x, y]) d deep w1.heap.size 1 [z] (HW.out.below hla) (Nat.le_trans hB (Nat.le_trans HB.out.size hla.size)) rfl (by decide) (heap_alloc_new _ _) (by have := HW.out.lt; omega) (by (try simp only [List.length_append]); omega))
  have HL := Lib.hid hla
  clear HW hla
  go_wp2_with (go_at_call 16; go_must (refine HC.out.mono ?_))
  rintro e w2 ⟨rfl, hw, hb, hk⟩
  have hk := (KeepW.of_below (g := g) HL.out).trans hk
  have HW := Lib.hid hw
  have HX := Lib.hid (hk _ _ _ _ HX.out (by decide) hne)
  have HB := Lib.hid ((HB.out.trans (HL.out.mono (Nat.le_trans hB HB.out.size))).trans hb)
  have HK := Lib.hid (HK.out.trans hk)
  clear HL
  have hx2 : w.heap.size < w2.heap.size := (Array.getElem?_eq_some_iff.1 HX.out).1
  clear HC hw hb hk c0 c1 c2
  go_wp2
  go_end0
  exact ⟨rfl, HW.out, HB.out, HK.out⟩

set_option maxRecDepth 100000 in
set_option maxHeartbeats 1000000 in
theorem wtuple_any (w : World) (B g : Nat) (l : List UInt8) (d : Int) (deep : Bool) (t : T6) (h : WAt B w g l d deep) (hB : B ≤ w.heap.size) (hl : l.length + (t6B t).length ≤ 1000000000) :
    Calls Try.prog 65 #[.pointer (some ⟨g, 0, none⟩), .agg #[.string t.a, .string t.b, .string t.c, .string t.d, .string t.e, .string t.f]] w (WPost B w g (l ++ (t6B t)) d deep) := by
  have hg := h.lt
  have heq : l ++ (t6B t) = l ++ txts [t.a, t.b] ++ txts [t.c] ++ txts [t.d, t.e, t.f] := by simp [t6B, T6.list, txts]
  have hlen := congrArg List.length heq
  simp only [List.length_append] at hlen hl
  have hba : Below w.heap.size w (w.alloc (.cells #[.string t.a, .string t.b, .string t.c, .string t.d, .string t.e, .string t.f] 71)) := (Below.refl _ _).alloc (Nat.le_refl _) _
  have hbx : (w.alloc (.cells #[.string t.a, .string t.b, .string t.c, .string t.d, .string t.e, .string t.f] 71)).heap[w.heap.size]? = some (.cells #[.string t.a, .string t.b, .string t.c, .string t.d, .string t.e, .string t.f] 71 (0, 0)) := heap_alloc_new _ _
  have HW := Lib.hid (h.below hba)
  have HB := Lib.hid (hba.mono hB)
  have HX := Lib.hid hbx
  have HK := Lib.hid (KeepW.of_below (g := g) hba)
  have hne : w.heap.size ≠ g := by omega
  rw [heq]
  clear h hba hbx heq
  go_enter Try.func65, Try.ntmps65
  go_upto_region 1 with fail
  generalize w.alloc (.cells #[.string t.a, .string t.b, .string t.c, .string t.d, .string t.e, .string t.f] 71) = w0 at *
  have hx0 : w.heap.size < w0.heap.size := (Array.getElem?_eq_some_iff.1 HX.out).1
  have c0 := Lib.cell_of_heap HX.out 0
  have c1 := Lib.cell_of_heap HX.out 1
  have c2 := Lib.cell_of_heap HX.out 2
  have c3 := Lib.cell_of_heap HX.out 3
  have c4 := Lib.cell_of_heap HX.out 4
  have c5 := Lib.cell_of_heap HX.out 5
  simp at c0 c1 c2 c3 c4 c5
  have HC := Lib.hid (wobj_any w0 B g (l) d deep t.a t.b HW.out (Nat.le_trans hB HB.out.size) (by (try simp only [List.length_append]); omega))
  clear HW
  go_wp2_with (go_at_call 67; go_must (refine HC.out.mono ?_))
  rintro e w1 ⟨rfl, hw, hb, hk⟩
  have HW := Lib.hid hw
  have HX := Lib.hid (hk _ _ _ _ HX.out (by decide) hne)
  have HB := Lib.hid (HB.out.trans hb)
  have HK := Lib.hid (HK.out.trans hk)
  have hx1 : w.heap.size < w1.heap.size := (Array.getElem?_eq_some_iff.1 HX.out).1
  clear HC hw hb hk c0 c1 c2 c3 c4 c5
  have c0 := Lib.cell_of_heap HX.out 0
  have c1 := Lib.cell_of_heap HX.out 1
  have c2 := Lib.cell_of_heap HX.out 2
  have c3 := Lib.cell_of_heap HX.out 3
  have c4 := Lib.cell_of_heap HX.out 4
  have c5 := Lib.cell_of_heap HX.out 5
  simp at c0 c1 c2 c3 c4 c5
  have hla : Below w1.heap.size w1 (w1.alloc (.cells #[.string t.c] 9)) := (Below.refl _ _).alloc (Nat.le_refl _) _
  have HC := Lib.hid (wtexts_any (w1.alloc (.cells #[.string t.c] 9)) B g (l ++ txts [t.a, t.b]) d deep w1.heap.size 1 [t.c] (HW.out.below hla) (Nat.le_trans hB (Nat.le_trans HB.out.size hla.size)) rfl (by decide) (heap_alloc_new _ _) (by have := HW.out.lt; omega) (by (try simp only [List.length_append]); omega))
  have HL := Lib.hid hla
  clear HW hla
  go_wp2_with (go_at_call 16; go_must (refine HC.out.mono ?_))
  rintro e w2 ⟨rfl, hw, hb, hk⟩
  have hk := (KeepW.of_below (g := g) HL.out).trans hk
  have HW := Lib.hid hw
  have HX := Lib.hid (hk _ _ _ _ HX.out (by decide) hne)
  have HB := Lib.hid ((HB.out.trans (HL.out.mono (Nat.le_trans hB HB.out.size))).trans hb)
  have HK := Lib.hid (HK.out.trans hk)
  clear HL
  have hx2 : w.heap.size < w2.heap.size := (Array.getElem?_eq_some_iff.1 HX.out).1
  clear HC hw hb hk c0 c1 c2 c3 c4 c5
  have c0 := Lib.cell_of_heap HX.out 0
  have c1 := Lib.cell_of_heap HX.out 1
  have c2 := Lib.cell_of_heap HX.out 2
  have c3 := Lib.cell_of_heap HX.out 3
  have c4 := Lib.cell_of_heap HX.out 4
  have c5 := Lib.cell_of_heap HX.out 5
  simp at c0 c1 c2 c3 c4 c5
  have HC := Lib.hid (wsub_any w2 B g (l ++ txts [t.a, t.b] ++ txts [t.c]) d deep t.d t.e t.f HW.out (Nat.le_trans hB HB.out.size) (by (try simp only [List.length_append]); omega))
  clear HW
  go_wp2_with (go_at_call 78; go_must (refine HC.out.mono ?_))
  rintro e w3 ⟨rfl, hw, hb, hk⟩
  have HW := Lib.hid hw
  have HX := Lib.hid (hk _ _ _ _ HX.out (by decide) hne)
  have HB := Lib.hid (HB.out.trans hb)
  have HK := Lib.hid (HK.out.trans hk)
  have hx3 : w.heap.size < w3.heap.size := (Array.getElem?_eq_some_iff.1 HX.out).1
  clear HC hw hb hk c0 c1 c2 c3 c4 c5
  go_wp2
  go_end0
  exact ⟨rfl, HW.out, HB.out, HK.out⟩

set_option maxRecDepth 100000 in
set_option maxHeartbeats 1000000 in
theorem wwrite_any (w : World) (B g : Nat) (l : List UInt8) (d : Int) (deep : Bool) (x : Wri) (h : WAt B w g l d deep) (hB : B ≤ w.heap.size) (hl : l.length + (wriB x).length ≤ 1000000000) :
    Calls Try.prog 20 #[.pointer (some ⟨g, 0, none⟩), .agg #[.bool x.is, .string x.t.a, .string x.t.b, .string x.t.c, .string x.t.d, .string x.t.e, .string x.t.f]] w (WPost B w g (l ++ (wriB x)) d deep) := by
  have hg := h.lt
  have heq : l ++ (wriB x) = l ++ enc (bitN x.is) ++ t6B x.t := by simp [wriB]
  have hlen := congrArg List.length heq
  simp only [List.length_append] at hlen hl
  have hba : Below w.heap.size w (w.alloc (.cells #[.bool x.is, .string x.t.a, .string x.t.b, .string x.t.c, .string x.t.d, .string x.t.e, .string x.t.f] 73)) := (Below.refl _ _).alloc (Nat.le_refl _) _
  have hbx : (w.alloc (.cells #[.bool x.is, .string x.t.a, .string x.t.b, .string x.t.c, .string x.t.d, .string x.t.e, .string x.t.f] 73)).heap[w.heap.size]? = some (.cells #[.bool x.is, .string x.t.a, .string x.t.b, .string x.t.c, .string x.t.d, .string x.t.e, .string x.t.f] 73 (0, 0)) := heap_alloc_new _ _
  have HW := Lib.hid (h.below hba)
  have HB := Lib.hid (hba.mono hB)
  have HX := Lib.hid hbx
  have HK := Lib.hid (KeepW.of_below (g := g) hba)
  have hne : w.heap.size ≠ g := by omega
  rw [heq]
  clear h hba hbx heq
  go_enter Try.func20, Try.ntmps20
  go_upto_region 1 with fail
  generalize w.alloc (.cells #[.bool x.is, .string x.t.a, .string x.t.b, .string x.t.c, .string x.t.d, .string x.t.e, .string x.t.f] 73) = w0 at *
  have hx0 : w.heap.size < w0.heap.size := (Array.getElem?_eq_some_iff.1 HX.out).1
  have c0 := Lib.cell_of_heap HX.out 0
  have c1 := Lib.cell_of_heap HX.out 1
  have c2 := Lib.cell_of_heap HX.out 2
  have c3 := Lib.cell_of_heap HX.out 3
  have c4 := Lib.cell_of_heap HX.out 4
  have c5 := Lib.cell_of_heap HX.out 5
  have c6 := Lib.cell_of_heap HX.out 6
  simp at c0 c1 c2 c3 c4 c5 c6
  have HC := Lib.hid (wtruth_any w0 B g (l) d deep x.is HW.out (Nat.le_trans hB HB.out.size) (by (try simp only [List.length_append]); omega))
  clear HW
  go_wp2_with (go_at_call 63; go_must (refine HC.out.mono ?_))
  rintro e w1 ⟨rfl, hw, hb, hk⟩
  have HW := Lib.hid hw
  have HX := Lib.hid (hk _ _ _ _ HX.out (by decide) hne)
  have HB := Lib.hid (HB.out.trans hb)
  have HK := Lib.hid (HK.out.trans hk)
  have hx1 : w.heap.size < w1.heap.size := (Array.getElem?_eq_some_iff.1 HX.out).1
  clear HC hw hb hk c0 c1 c2 c3 c4 c5 c6
  have c0 := Lib.cell_of_heap HX.out 0
  have c1 := Lib.cell_of_heap HX.out 1
  have c2 := Lib.cell_of_heap HX.out 2
  have c3 := Lib.cell_of_heap HX.out 3
  have c4 := Lib.cell_of_heap HX.out 4
  have c5 := Lib.cell_of_heap HX.out 5
  have c6 := Lib.cell_of_heap HX.out 6
  simp at c0 c1 c2 c3 c4 c5 c6
  have HC := Lib.hid (wtuple_any w1 B g (l ++ enc (bitN x.is)) d deep x.t HW.out (Nat.le_trans hB HB.out.size) (by (try simp only [List.length_append]); omega))
  clear HW
  go_wp2_with (go_at_call 65; go_must (refine HC.out.mono ?_))
  rintro e w2 ⟨rfl, hw, hb, hk⟩
  have HW := Lib.hid hw
  have HX := Lib.hid (hk _ _ _ _ HX.out (by decide) hne)
  have HB := Lib.hid (HB.out.trans hb)
  have HK := Lib.hid (HK.out.trans hk)
  have hx2 : w.heap.size < w2.heap.size := (Array.getElem?_eq_some_iff.1 HX.out).1
  clear HC hw hb hk c0 c1 c2 c3 c4 c5 c6
  go_wp2
  go_end0
  exact ⟨rfl, HW.out, HB.out, HK.out⟩

set_option maxRecDepth 100000 in
set_option maxHeartbeats 1000000 in
theorem wpre_any (w : World) (B g : Nat) (l : List UInt8) (d : Int) (deep : Bool) (x : Wri) (h : WAt B w g l d deep) (hB : B ≤ w.heap.size) (hl : l.length + (wriB x).length ≤ 1000000000) :
    Calls Try.prog 22 #[.pointer (some ⟨g, 0, none⟩), .agg #[.bool x.is, .string x.t.a, .string x.t.b, .string x.t.c, .string x.t.d, .string x.t.e, .string x.t.f]] w (WPost B w g (l ++ (wriB x)) d deep) := by
  have hg := h.lt
  have heq : l ++ (wriB x) = l ++ enc (bitN x.is) ++ t6B x.t := by simp [wriB]
  have hlen := congrArg List.length heq
  simp only [List.length_append] at hlen hl
  have hba : Below w.heap.size w (w.alloc (.cells #[.bool x.is, .string x.t.a, .string x.t.b, .string x.t.c, .string x.t.d, .string x.t.e, .string x.t.f] 76)) := (Below.refl _ _).alloc (Nat.le_refl _) _
  have hbx : (w.alloc (.cells #[.bool x.is, .string x.t.a, .string x.t.b, .string x.t.c, .string x.t.d, .string x.t.e, .string x.t.f] 76)).heap[w.heap.size]? = some (.cells #[.bool x.is, .string x.t.a, .string x.t.b, .string x.t.c, .string x.t.d, .string x.t.e, .string x.t.f] 76 (0, 0)) := heap_alloc_new _ _
  have HW := Lib.hid (h.below hba)
  have HB := Lib.hid (hba.mono hB)
  have HX := Lib.hid hbx
  have HK := Lib.hid (KeepW.of_below (g := g) hba)
  have hne : w.heap.size ≠ g := by omega
  rw [heq]
  clear h hba hbx heq
  go_enter Try.func22, Try.ntmps22
  go_upto_region 1 with fail
  generalize w.alloc (.cells #[.bool x.is, .string x.t.a, .string x.t.b, .string x.t.c, .string x.t.d, .string x.t.e, .string x.t.f] 76) = w0 at *
  have hx0 : w.heap.size < w0.heap.size := (Array.getElem?_eq_some_iff.1 HX.out).1
  have c0 := Lib.cell_of_heap HX.out 0
  have c1 := Lib.cell_of_heap HX.out 1
  have c2 := Lib.cell_of_heap HX.out 2
  have c3 := Lib.cell_of_heap HX.out 3
  have c4 := Lib.cell_of_heap HX.out 4
  have c5 := Lib.cell_of_heap HX.out 5
  have c6 := Lib.cell_of_heap HX.out 6
  simp at c0 c1 c2 c3 c4 c5 c6
  have HC := Lib.hid (wtruth_any w0 B g (l) d deep x.is HW.out (Nat.le_trans hB HB.out.size) (by (try simp only [List.length_append]); omega))
  clear HW
  go_wp2_with (go_at_call 63; go_must (refine HC.out.mono ?_))
  rintro e w1 ⟨rfl, hw, hb, hk⟩
  have HW := Lib.hid hw
  have HX := Lib.hid (hk _ _ _ _ HX.out (by decide) hne)
  have HB := Lib.hid (HB.out.trans hb)
  have HK := Lib.hid (HK.out.trans hk)
  have hx1 : w.heap.size < w1.heap.size := (Array.getElem?_eq_some_iff.1 HX.out).1
  clear HC hw hb hk c0 c1 c2 c3 c4 c5 c6
  have c0 := Lib.cell_of_heap HX.out 0
  have c1 := Lib.cell_of_heap HX.out 1
  have c2 := Lib.cell_of_heap HX.out 2
  have c3 := Lib.cell_of_heap HX.out 3
  have c4 := Lib.cell_of_heap HX.out 4
  have c5 := Lib.cell_of_heap HX.out 5
  have c6 := Lib.cell_of_heap HX.out 6
  simp at c0 c1 c2 c3 c4 c5 c6
  have HC := Lib.hid (wtuple_any w1 B g (l ++ enc (bitN x.is)) d deep x.t HW.out (Nat.le_trans hB HB.out.size) (by (try simp only [List.length_append]); omega))
  clear HW
  go_wp2_with (go_at_call 65; go_must (refine HC.out.mono ?_))
  rintro e w2 ⟨rfl, hw, hb, hk⟩
  have HW := Lib.hid hw
  have HX := Lib.hid (hk _ _ _ _ HX.out (by decide) hne)
  have HB := Lib.hid (HB.out.trans hb)
  have HK := Lib.hid (HK.out.trans hk)
  have hx2 : w.heap.size < w2.heap.size := (Array.getElem?_eq_some_iff.1 HX.out).1
  clear HC hw hb hk c0 c1 c2 c3 c4 c5 c6
  go_wp2
  go_end0
  exact ⟨rfl, HW.out, HB.out, HK.out⟩

set_option maxRecDepth 100000 in
set_option maxHeartbeats 1000000 in
theorem wask_any (w : World) (B g : Nat) (l : List UInt8) (d : Int) (deep : Bool) (t : T6) (h : WAt B w g l d deep) (hB : B ≤ w.heap.size) (hl : l.length + (t6B t).length ≤ 1000000000) :
    Calls Try.prog 24 #[.pointer (some ⟨g, 0, none⟩), .agg #[.string t.a, .string t.b, .string t.c, .string t.d, .string t.e, .string t.f]] w (WPost B w g (l ++ (t6B t)) d deep) := by
  have hg := h.lt
  have heq : l ++ (t6B t) = l ++ txts [t.a, t.b, t.c] ++ txts [t.d, t.e, t.f] := by simp [t6B, T6.list, txts]
  have hlen := congrArg List.length heq
  simp only [List.length_append] at hlen hl
  have hba : Below w.heap.size w (w.alloc (.cells #[.string t.a, .string t.b, .string t.c, .string t.d, .string t.e, .string t.f] 78)) := (Below.refl _ _).alloc (Nat.le_refl _) _
  have hbx : (w.alloc (.cells #[.string t.a, .string t.b, .string t.c, .string t.d, .string t.e, .string t.f] 78)).heap[w.heap.size]? = some (.cells #[.string t.a, .string t.b, .string t.c, .string t.d, .string t.e, .string t.f] 78 (0, 0)) := heap_alloc_new _ _
  have HW := Lib.hid (h.below hba)
  have HB := Lib.hid (hba.mono hB)
  have HX := Lib.hid hbx
  have HK := Lib.hid (KeepW.of_below (g := g) hba)
  have hne : w.heap.size ≠ g := by omega
  rw [heq]
  clear h hba hbx heq
  go_enter Try.func24, Try.ntmps24
  go_upto_region 1 with fail
  generalize w.alloc (.cells #[.string t.a, .string t.b, .string t.c, .string t.d, .string t.e, .string t.f] 78) = w0 at *
  have hx0 : w.heap.size < w0.heap.size := (Array.getElem?_eq_some_iff.1 HX.out).1
  have c0 := Lib.cell_of_heap HX.out 0
  have c1 := Lib.cell_of_heap HX.out 1
  have c2 := Lib.cell_of_heap HX.out 2
  have c3 := Lib.cell_of_heap HX.out 3
  have c4 := Lib.cell_of_heap HX.out 4
  have c5 := Lib.cell_of_heap HX.out 5
  simp at c0 c1 c2 c3 c4 c5
  have HC := Lib.hid (wpoint_any w0 B g (l) d deep t.a t.b t.c HW.out (Nat.le_trans hB HB.out.size) (by (try simp only [List.length_append]); omega))
  clear HW
  go_wp2_with (go_at_call 77; go_must (refine HC.out.mono ?_))
  rintro e w1 ⟨rfl, hw, hb, hk⟩
  have HW := Lib.hid hw
  have HX := Lib.hid (hk _ _ _ _ HX.out (by decide) hne)
  have HB := Lib.hid (HB.out.trans hb)
  have HK := Lib.hid (HK.out.trans hk)
  have hx1 : w.heap.size < w1.heap.size := (Array.getElem?_eq_some_iff.1 HX.out).1
  clear HC hw hb hk c0 c1 c2 c3 c4 c5
  have c0 := Lib.cell_of_heap HX.out 0
  have c1 := Lib.cell_of_heap HX.out 1
  have c2 := Lib.cell_of_heap HX.out 2
  have c3 := Lib.cell_of_heap HX.out 3
  have c4 := Lib.cell_of_heap HX.out 4
  have c5 := Lib.cell_of_heap HX.out 5
  simp at c0 c1 c2 c3 c4 c5
  have HC := Lib.hid (wsub_any w1 B g (l ++ txts [t.a, t.b, t.c]) d deep t.d t.e t.f HW.out (Nat.le_trans hB HB.out.size) (by (try simp only [List.length_append]); omega))
  clear HW
  go_wp2_with (go_at_call 78; go_must (refine HC.out.mono ?_))
  rintro e w2 ⟨rfl, hw, hb, hk⟩
  have HW := Lib.hid hw
  have HX := Lib.hid (hk _ _ _ _ HX.out (by decide) hne)
  have HB := Lib.hid (HB.out.trans hb)
  have HK := Lib.hid (HK.out.trans hk)
  have hx2 : w.heap.size < w2.heap.size := (Array.getElem?_eq_some_iff.1 HX.out).1
  clear HC hw hb hk c0 c1 c2 c3 c4 c5
  go_wp2
  go_end0
  exact ⟨rfl, HW.out, HB.out, HK.out⟩

set_option maxRecDepth 100000 in
set_option maxHeartbeats 1000000 in
theorem warg_any (w : World) (B g : Nat) (l : List UInt8) (d : Int) (deep : Bool) (x : Arg4) (h : WAt B w g l d deep) (hB : B ≤ w.heap.size) (hi : in64 x.kind ∧ in64 x.n) (hl : l.length + (argB x).length ≤ 1000000000) :
    Calls Try.prog 26 #[.pointer (some ⟨g, 0, none⟩), .agg #[.string x.name, .int .i64 x.kind, .int .i64 x.n, .string x.s]] w (WPost B w g (l ++ (argB x)) d deep) := by
  have hg := h.lt
  have heq : l ++ (argB x) = l ++ txts [x.name] ++ enc (zig x.kind) ++ enc (zig x.n) ++ txts [x.s] := by simp [argB, txts]
  have hlen := congrArg List.length heq
  simp only [List.length_append] at hlen hl
  have hba : Below w.heap.size w (w.alloc (.cells #[.string x.name, .int .i64 x.kind, .int .i64 x.n, .string x.s] 82)) := (Below.refl _ _).alloc (Nat.le_refl _) _
  have hbx : (w.alloc (.cells #[.string x.name, .int .i64 x.kind, .int .i64 x.n, .string x.s] 82)).heap[w.heap.size]? = some (.cells #[.string x.name, .int .i64 x.kind, .int .i64 x.n, .string x.s] 82 (0, 0)) := heap_alloc_new _ _
  have HW := Lib.hid (h.below hba)
  have HB := Lib.hid (hba.mono hB)
  have HX := Lib.hid hbx
  have HK := Lib.hid (KeepW.of_below (g := g) hba)
  have hne : w.heap.size ≠ g := by omega
  rw [heq]
  clear h hba hbx heq
  go_enter Try.func26, Try.ntmps26
  go_upto_region 1 with fail
  generalize w.alloc (.cells #[.string x.name, .int .i64 x.kind, .int .i64 x.n, .string x.s] 82) = w0 at *
  have hx0 : w.heap.size < w0.heap.size := (Array.getElem?_eq_some_iff.1 HX.out).1
  have c0 := Lib.cell_of_heap HX.out 0
  have c1 := Lib.cell_of_heap HX.out 1
  have c2 := Lib.cell_of_heap HX.out 2
  have c3 := Lib.cell_of_heap HX.out 3
  simp at c0 c1 c2 c3
  have hla : Below w0.heap.size w0 (w0.alloc (.cells #[.string x.name] 9)) := (Below.refl _ _).alloc (Nat.le_refl _) _
  have HC := Lib.hid (wtexts_any (w0.alloc (.cells #[.string x.name] 9)) B g (l) d deep w0.heap.size 1 [x.name] (HW.out.below hla) (Nat.le_trans hB (Nat.le_trans HB.out.size hla.size)) rfl (by decide) (heap_alloc_new _ _) (by have := HW.out.lt; omega) (by (try simp only [List.length_append]); omega))
  have HL := Lib.hid hla
  clear HW hla
  go_wp2_with (go_at_call 16; go_must (refine HC.out.mono ?_))
  rintro e w1 ⟨rfl, hw, hb, hk⟩
  have hk := (KeepW.of_below (g := g) HL.out).trans hk
  have HW := Lib.hid hw
  have HX := Lib.hid (hk _ _ _ _ HX.out (by decide) hne)
  have HB := Lib.hid ((HB.out.trans (HL.out.mono (Nat.le_trans hB HB.out.size))).trans hb)
  have HK := Lib.hid (HK.out.trans hk)
  clear HL
  have hx1 : w.heap.size < w1.heap.size := (Array.getElem?_eq_some_iff.1 HX.out).1
  clear HC hw hb hk c0 c1 c2 c3
  have c0 := Lib.cell_of_heap HX.out 0
  have c1 := Lib.cell_of_heap HX.out 1
  have c2 := Lib.cell_of_heap HX.out 2
  have c3 := Lib.cell_of_heap HX.out 3
  simp at c0 c1 c2 c3
  have HC := Lib.hid (wwhole_any w1 B g (l ++ txts [x.name]) d deep x.kind HW.out (Nat.le_trans hB HB.out.size) (by (try simp only [List.length_append]); omega) hi.1)
  clear HW
  go_wp2_with (go_at_call 18; go_must (refine HC.out.mono ?_))
  rintro e w2 ⟨rfl, hw, hb, hk⟩
  have HW := Lib.hid hw
  have HX := Lib.hid (hk _ _ _ _ HX.out (by decide) hne)
  have HB := Lib.hid (HB.out.trans hb)
  have HK := Lib.hid (HK.out.trans hk)
  have hx2 : w.heap.size < w2.heap.size := (Array.getElem?_eq_some_iff.1 HX.out).1
  clear HC hw hb hk c0 c1 c2 c3
  have c0 := Lib.cell_of_heap HX.out 0
  have c1 := Lib.cell_of_heap HX.out 1
  have c2 := Lib.cell_of_heap HX.out 2
  have c3 := Lib.cell_of_heap HX.out 3
  simp at c0 c1 c2 c3
  have HC := Lib.hid (wlong_any w2 B g (l ++ txts [x.name] ++ enc (zig x.kind)) d deep x.n HW.out (Nat.le_trans hB HB.out.size) (by (try simp only [List.length_append]); omega) hi.2)
  clear HW
  go_wp2_with (go_at_call 76; go_must (refine HC.out.mono ?_))
  rintro e w3 ⟨rfl, hw, hb, hk⟩
  have HW := Lib.hid hw
  have HX := Lib.hid (hk _ _ _ _ HX.out (by decide) hne)
  have HB := Lib.hid (HB.out.trans hb)
  have HK := Lib.hid (HK.out.trans hk)
  have hx3 : w.heap.size < w3.heap.size := (Array.getElem?_eq_some_iff.1 HX.out).1
  clear HC hw hb hk c0 c1 c2 c3
  have c0 := Lib.cell_of_heap HX.out 0
  have c1 := Lib.cell_of_heap HX.out 1
  have c2 := Lib.cell_of_heap HX.out 2
  have c3 := Lib.cell_of_heap HX.out 3
  simp at c0 c1 c2 c3
  have hla : Below w3.heap.size w3 (w3.alloc (.cells #[.string x.s] 9)) := (Below.refl _ _).alloc (Nat.le_refl _) _
  have HC := Lib.hid (wtexts_any (w3.alloc (.cells #[.string x.s] 9)) B g (l ++ txts [x.name] ++ enc (zig x.kind) ++ enc (zig x.n)) d deep w3.heap.size 1 [x.s] (HW.out.below hla) (Nat.le_trans hB (Nat.le_trans HB.out.size hla.size)) rfl (by decide) (heap_alloc_new _ _) (by have := HW.out.lt; omega) (by (try simp only [List.length_append]); omega))
  have HL := Lib.hid hla
  clear HW hla
  go_wp2_with (go_at_call 16; go_must (refine HC.out.mono ?_))
  rintro e w4 ⟨rfl, hw, hb, hk⟩
  have hk := (KeepW.of_below (g := g) HL.out).trans hk
  have HW := Lib.hid hw
  have HX := Lib.hid (hk _ _ _ _ HX.out (by decide) hne)
  have HB := Lib.hid ((HB.out.trans (HL.out.mono (Nat.le_trans hB HB.out.size))).trans hb)
  have HK := Lib.hid (HK.out.trans hk)
  clear HL
  have hx4 : w.heap.size < w4.heap.size := (Array.getElem?_eq_some_iff.1 HX.out).1
  clear HC hw hb hk c0 c1 c2 c3
  go_wp2
  go_end0
  exact ⟨rfl, HW.out, HB.out, HK.out⟩

end Go.Proofs.Ytkhjfaghemjcoaa
