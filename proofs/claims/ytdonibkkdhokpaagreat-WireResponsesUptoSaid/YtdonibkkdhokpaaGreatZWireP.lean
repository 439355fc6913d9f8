/- The writer: what structs are written as (written by gen_wirep.py). -/
import Derived.Test.YtdonibkkdhokpaaGreatZWireL
namespace Go.Proofs.YtdonibkkdhokpaaGreat
open Go Go.RowKit

theorem txts_two (x y : List ByteArray) : txts (x ++ y) = txts x ++ txts y := by simp [txts]
set_option maxRecDepth 100000 in
set_option maxHeartbeats 1000000 in
theorem wobj_any (w : World) (B g : Nat) (l : List UInt8) (d : Int) (deep : Bool) (x y : ByteArray) (h : WAt B w g l d deep) (hB : B ≤ w.heap.size) (hl : l.length + (txts [x, y]).length ≤ 1000000000) :
    Calls Tryz.prog 25 #[.pointer (some ⟨g, 0, none⟩), .agg #[.string x, .string y]] w (WPost B w g (l ++ (txts [x, y])) d deep) := by
  have hg := h.lt
  have heq : l ++ (txts [x, y]) = l ++ txts [x, y] := by simp [txts]
  have hlen := congrArg List.length heq
  simp only [List.length_append] at hlen hl
  have hba : Below w.heap.size w (w.alloc (.cells #[.string x, .string y] 30)) := (Below.refl _ _).alloc (Nat.le_refl _) _
  have hbx : (w.alloc (.cells #[.string x, .string y] 30)).heap[w.heap.size]? = some (.cells #[.string x, .string y] 30 (0, 0)) := heap_alloc_new _ _
  have HW := Lib.hid (h.below hba)
  have HB := Lib.hid (hba.mono hB)
  have HX := Lib.hid hbx
  have HK := Lib.hid (KeepW.of_below (g := g) hba)
  have hne : w.heap.size ≠ g := by omega
  rw [heq]
  clear h hba hbx heq
  go_enter Tryz.func25, Tryz.ntmps25
  go_upto_region 1 with fail
  generalize w.alloc (.cells #[.string x, .string y] 30) = w0 at *
  have hx0 : w.heap.size < w0.heap.size := (Array.getElem?_eq_some_iff.1 HX.out).1
  have c0 := Lib.cell_of_heap HX.out 0
  have c1 := Lib.cell_of_heap HX.out 1
  simp at c0 c1
  have hla : Below w0.heap.size w0 (w0.alloc (.cells #[.string x, .string y] 9)) := (Below.refl _ _).alloc (Nat.le_refl _) _
  have HC := Lib.hid (wtexts_any (w0.alloc (.cells #[.string x, .string y] 9)) B g (l) d deep w0.heap.size 2 [x, y] (HW.out.below hla) (Nat.le_trans hB (Nat.le_trans HB.out.size hla.size)) rfl (by decide) (heap_alloc_new _ _) (by have := HW.out.lt; omega) (by (try simp only [List.length_append]); omega))
  have HL := Lib.hid hla
  clear HW hla
  go_wp2_with (go_at_call 19; go_must (refine HC.out.mono ?_))
  rintro e w1 ⟨rfl, hw, hb, hk⟩
  have hk := (KeepW.of_below (g := g) HL.out).trans hk
  have HW := Lib.hid hw
  have HX := Lib.hid (hk _ _ _ _ HX.out (by decide) hne)
  have HB := Lib.hid ((HB.out.trans (HL.out.mono (Nat.le_trans hB HB.out.size))).trans hb)
  have HK := Lib.hid (HK.out.trans hk)
  clear HL
  have hx1 : w.heap.size < w1.heap.size := (Array.getElem?_eq_some_iff.1 HX.out).1
  clear HC hw hb hk c0 c1
  go_wp2
  go_end0
  exact ⟨rfl, HW.out, HB.out, HK.out⟩

set_option maxRecDepth 100000 in
set_option maxHeartbeats 1000000 in
theorem wsub_any (w : World) (B g : Nat) (l : List UInt8) (d : Int) (deep : Bool) (x y z : ByteArray) (h : WAt B w g l d deep) (hB : B ≤ w.heap.size) (hl : l.length + (txts [x, y, z]).length ≤ 1000000000) :
    Calls Tryz.prog 87 #[.pointer (some ⟨g, 0, none⟩), .agg #[.string x, .string y, .string z]] w (WPost B w g (l ++ (txts [x, y, z])) d deep) := by
  have hg := h.lt
  have heq : l ++ (txts [x, y, z]) = l ++ txts [x, y] ++ txts [z] := by simp [txts]
  have hlen := congrArg List.length heq
  simp only [List.length_append] at hlen hl
  have hba : Below w.heap.size w (w.alloc (.cells #[.string x, .string y, .string z] 60)) := (Below.refl _ _).alloc (Nat.le_refl _) _
  have hbx : (w.alloc (.cells #[.string x, .string y, .string z] 60)).heap[w.heap.size]? = some (.cells #[.string x, .string y, .string z] 60 (0, 0)) := heap_alloc_new _ _
  have HW := Lib.hid (h.below hba)
  have HB := Lib.hid (hba.mono hB)
  have HX := Lib.hid hbx
  have HK := Lib.hid (KeepW.of_below (g := g) hba)
  have hne : w.heap.size ≠ g := by omega
  rw [heq]
  clear h hba hbx heq
  go_enter Tryz.func87, Tryz.ntmps87
  go_upto_region 1 with fail
  generalize w.alloc (.cells #[.string x, .string y, .string z] 60) = w0 at *
  have hx0 : w.heap.size < w0.heap.size := (Array.getElem?_eq_some_iff.1 HX.out).1
  have c0 := Lib.cell_of_heap HX.out 0
  have c1 := Lib.cell_of_heap HX.out 1
  have c2 := Lib.cell_of_heap HX.out 2
  simp at c0 c1 c2
  have HC := Lib.hid (wobj_any w0 B g (l) d deep x y HW.out (Nat.le_trans hB HB.out.size) (by (try simp only [List.length_append]); omega))
  clear HW
  go_wp2_with (go_at_call 25; go_must (refine HC.out.mono ?_))
  rintro e w1 ⟨rfl, hw, hb, hk⟩
  have HW := Lib.hid hw
  have HX := Lib.hid (hk _ _ _ _ HX.out (by decide) hne)
  have HB := Lib.hid (HB.out.trans hb)
  have HK := Lib.hid (HK.out.trans hk)
  have hx1 : w.heap.size < w1.heap.size := (Array.getElem?_eq_some_iff.1 HX.out).1
  clear HC hw hb hk c0 c1 c2
  have c0 := Lib.cell_of_heap HX.out 0
  have c1 := Lib.cell_of_heap HX.out 1
  have c2 := Lib.cell_of_heap HX.out 2
  simp at c0 c1 c2
  have hla : Below w1.heap.size w1 (w1.alloc (.cells #[.string z] 9)) := (Below.refl _ _).alloc (Nat.le_refl _) _
  have HC := Lib.hid (wtexts_any (w1.alloc (.cells #[.string z] 9)) B g (l ++ txts [x, y]) d deep w1.heap.size 1 [z] (HW.out.below hla) (Nat.le_trans hB (Nat.le_trans HB.out.size hla.size)) rfl (by decide) (heap_alloc_new _ _) (by have := HW.out.lt; omega) (by (try simp only [List.length_append]); omega))
  have HL := Lib.hid hla
  clear HW hla
  go_wp2_with (go_at_call 19; go_must (refine HC.out.mono ?_))
  rintro e w2 ⟨rfl, hw, hb, hk⟩
  have hk := (KeepW.of_below (g := g) HL.out).trans hk
  have HW := Lib.hid hw
  have HX := Lib.hid (hk _ _ _ _ HX.out (by decide) hne)
  have HB := Lib.hid ((HB.out.trans (HL.out.mono (Nat.le_trans hB HB.out.size))).trans hb)
  have HK := Lib.hid (HK.out.trans hk)
  clear HL
  have hx2 : w.heap.size < w2.heap.size := (Array.getElem?_eq_some_iff.1 HX.out).1
  clear HC hw hb hk c0 c1 c2
  go_wp2
  go_end0
  exact ⟨rfl, HW.out, HB.out, HK.out⟩

set_option maxRecDepth 100000 in
set_option maxHeartbeats 1000000 in
theorem wpoint_any (w : World) (B g : Nat) (l : List UInt8) (d : Int) (deep : Bool) (x y z : ByteArray) (h : WAt B w g l d deep) (hB : B ≤ w.heap.size) (hl : l.length + (txts [x, y, z]).length ≤ 1000000000) :
    Calls Tryz.prog 88 #[.pointer (some ⟨g, 0, none⟩), .agg #[.string x, .string y, .string z]] w (WPost B w g (l ++ (txts [x, y, z])) d deep) := by
  have hg := h.lt
  have heq : l ++ (txts [x, y, z]) = l ++ txts [x, y] ++ txts [z] := by simp [txts]
  have hlen := congrArg List.length heq
  simp only [List.length_append] at hlen hl
  have hba : Below w.heap.size w (w.alloc (.cells #[.string x, .string y, .string z] 68)) := (Below.refl _ _).alloc (Nat.le_refl _) _
  have hbx : (w.alloc (.cells #[.string x, .string y, .string z] 68)).heap[w.heap.size]? = some (.cells #[.string x, .string y, .string z] 68 (0, 0)) := heap_alloc_new _ _
  have HW := Lib.hid (h.below hba)
  have HB := Lib.hid (hba.mono hB)
  have HX := Lib.hid hbx
  have HK := Lib.hid (KeepW.of_below (g := g) hba)
  have hne : w.heap.size ≠ g := by omega
  rw [heq]
  clear h hba hbx heq
  go_enter Tryz.func88, Tryz.ntmps88
  go_upto_region 1 with fail
  generalize w.alloc (.cells #[.string x, .string y, .string z] 68) = w0 at *
  have hx0 : w.heap.size < w0.heap.size := (Array.getElem?_eq_some_iff.1 HX.out).1
  have c0 := Lib.cell_of_heap HX.out 0
  have c1 := Lib.cell_of_heap HX.out 1
  have c2 := Lib.cell_of_heap HX.out 2
  simp at c0 c1 c2
  have HC := Lib.hid (wobj_any w0 B g (l) d deep x y HW.out (Nat.le_trans hB HB.out.size) (by (try simp only [List.length_append]); omega))
  clear HW
  go_wp2_with (go_at_call 25; go_must (refine HC.out.mono ?_))
  rintro e w1 ⟨rfl, hw, hb, hk⟩
  have HW := Lib.hid hw
  have HX := Lib.hid (hk _ _ _ _ HX.out (by decide) hne)
  have HB := Lib.hid (HB.out.trans hb)
  have HK := Lib.hid (HK.out.trans hk)
  have hx1 : w.heap.size < w1.heap.size := (Array.getElem?_eq_some_iff.1 HX.out).1
  clear HC hw hb hk c0 c1 c2
  have c0 := Lib.cell_of_heap HX.out 0
  have c1 := Lib.cell_of_heap HX.out 1
  have c2 := Lib.cell_of_heap HX.out 2
  simp at c0 c1 c2
  have hla : Below w1.heap.size w1 (w1.alloc (.cells #[.string z] 9)) := (Below.refl _ _).alloc (Nat.le_refl _) _
  have HC := Lib.hid (wtexts_any (w1.alloc (.cells #[.string z] 9)) B g (l ++ txts [x, y]) d deep w1.heap.size 1 [z] (HW.out.below hla) (Nat.le_trans hB (Nat.le_trans HB.out.size hla.size)) rfl (by decide) (heap_alloc_new _ _) (by have := HW.out.lt; omega) (by (try simp only [List.length_append]); omega))
  have HL := Lib.hid hla
  clear HW hla
  go_wp2_with (go_at_call 19; go_must (refine HC.out.mono ?_))
  rintro e w2 ⟨rfl, hw, hb, hk⟩
  have hk := (KeepW.of_below (g := g) HL.out).trans hk
  have HW := Lib.hid hw
  have HX := Lib.hid (hk _ _ _ _ HX.out (by decide) hne)
  have HB := Lib.hid ((HB.out.trans (HL.out.mono (Nat.le_trans hB HB.out.size))).trans hb)
  have HK := Lib.hid (HK.out.trans hk)
  clear HL
  have hx2 : w.heap.size < w2.heap.size := (Array.getElem?_eq_some_iff.1 HX.out).1
  clear HC hw hb hk c0 c1 c2
  go_wp2
  go_end0
  exact ⟨rfl, HW.out, HB.out, HK.out⟩

set_option maxRecDepth 100000 in
set_option maxHeartbeats 1000000 in
theorem wtuple_any (w : World) (B g : Nat) (l : List UInt8) (d : Int) (deep : Bool) (t : T6) (h : WAt B w g l d deep) (hB : B ≤ w.heap.size) (hl : l.length + (t6B t).length ≤ 1000000000) :
    Calls Tryz.prog 23 #[.pointer (some ⟨g, 0, none⟩), .agg #[.string t.a, .string t.b, .string t.c, .string t.d, .string t.e, .string t.f]] w (WPost B w g (l ++ (t6B t)) d deep) := by
  have hg := h.lt
  have heq : l ++ (t6B t) = l ++ txts [t.a, t.b] ++ txts [t.c] ++ txts [t.d, t.e, t.f] := by simp [t6B, T6.list, txts]
  have hlen := congrArg List.length heq
  simp only [List.length_append] at hlen hl
  have hba : Below w.heap.size w (w.alloc (.cells #[.string t.a, .string t.b, .string t.c, .string t.d, .string t.e, .string t.f] 62)) := (Below.refl _ _).alloc (Nat.le_refl _) _
  have hbx : (w.alloc (.cells #[.string t.a, .string t.b, .string t.c, .string t.d, .string t.e, .string t.f] 62)).heap[w.heap.size]? = some (.cells #[.string t.a, .string t.b, .string t.c, .string t.d, .string t.e, .string t.f] 62 (0, 0)) := heap_alloc_new _ _
  have HW := Lib.hid (h.below hba)
  have HB := Lib.hid (hba.mono hB)
  have HX := Lib.hid hbx
  have HK := Lib.hid (KeepW.of_below (g := g) hba)
  have hne : w.heap.size ≠ g := by omega
  rw [heq]
  clear h hba hbx heq
  go_enter Tryz.func23, Tryz.ntmps23
  go_upto_region 1 with fail
  generalize w.alloc (.cells #[.string t.a, .string t.b, .string t.c, .string t.d, .string t.e, .string t.f] 62) = w0 at *
  have hx0 : w.heap.size < w0.heap.size := (Array.getElem?_eq_some_iff.1 HX.out).1
  have c0 := Lib.cell_of_heap HX.out 0
  have c1 := Lib.cell_of_heap HX.out 1
  have c2 := Lib.cell_of_heap HX.out 2
  have c3 := Lib.cell_of_heap HX.out 3
  have c4 := Lib.cell_of_heap HX.out 4
  have c5 := Lib.cell_of_heap HX.out 5
  simp at c0 c1 c2 c3 c4 c5
  have HC := Lib.hid (wobj_any w0 B g (l) d deep t.a t.b HW.out (Nat.le_trans hB HB.out.size) (by (try simp only [List.length_append]); omega))
  clear HW
  go_wp2_with (go_at_call 25; go_must (refine HC.out.mono ?_))
  rintro e w1 ⟨rfl, hw, hb, hk⟩
  have HW := Lib.hid hw
  have HX := Lib.hid (hk _ _ _ _ HX.out (by decide) hne)
  have HB := Lib.hid (HB.out.trans hb)
  have HK := Lib.hid (HK.out.trans hk)
  have hx1 : w.heap.size < w1.heap.size := (Array.getElem?_eq_some_iff.1 HX.out).1
  clear HC hw hb hk c0 c1 c2 c3 c4 c5
  have c0 := Lib.cell_of_heap HX.out 0
  have c1 := Lib.cell_of_heap HX.out 1
  have c2 := Lib.cell_of_heap HX.out 2
  have c3 := Lib.cell_of_heap HX.out 3
  have c4 := Lib.cell_of_heap HX.out 4
  have c5 := Lib.cell_of_heap HX.out 5
  simp at c0 c1 c2 c3 c4 c5
  have hla : Below w1.heap.size w1 (w1.alloc (.cells #[.string t.c] 9)) := (Below.refl _ _).alloc (Nat.le_refl _) _
  have HC := Lib.hid (wtexts_any (w1.alloc (.cells #[.string t.c] 9)) B g (l ++ txts [t.a, t.b]) d deep w1.heap.size 1 [t.c] (HW.out.below hla) (Nat.le_trans hB (Nat.le_trans HB.out.size hla.size)) rfl (by decide) (heap_alloc_new _ _) (by have := HW.out.lt; omega) (by (try simp only [List.length_append]); omega))
  have HL := Lib.hid hla
  clear HW hla
  go_wp2_with (go_at_call 19; go_must (refine HC.out.mono ?_))
  rintro e w2 ⟨rfl, hw, hb, hk⟩
  have hk := (KeepW.of_below (g := g) HL.out).trans hk
  have HW := Lib.hid hw
  have HX := Lib.hid (hk _ _ _ _ HX.out (by decide) hne)
  have HB := Lib.hid ((HB.out.trans (HL.out.mono (Nat.le_trans hB HB.out.size))).trans hb)
  have HK := Lib.hid (HK.out.trans hk)
  clear HL
  have hx2 : w.heap.size < w2.heap.size := (Array.getElem?_eq_some_iff.1 HX.out).1
  clear HC hw hb hk c0 c1 c2 c3 c4 c5
  have c0 := Lib.cell_of_heap HX.out 0
  have c1 := Lib.cell_of_heap HX.out 1
  have c2 := Lib.cell_of_heap HX.out 2
  have c3 := Lib.cell_of_heap HX.out 3
  have c4 := Lib.cell_of_heap HX.out 4
  have c5 := Lib.cell_of_heap HX.out 5
  simp at c0 c1 c2 c3 c4 c5
  have HC := Lib.hid (wsub_any w2 B g (l ++ txts [t.a, t.b] ++ txts [t.c]) d deep t.d t.e t.f HW.out (Nat.le_trans hB HB.out.size) (by (try simp only [List.length_append]); omega))
  clear HW
  go_wp2_with (go_at_call 87; go_must (refine HC.out.mono ?_))
  rintro e w3 ⟨rfl, hw, hb, hk⟩
  have HW := Lib.hid hw
  have HX := Lib.hid (hk _ _ _ _ HX.out (by decide) hne)
  have HB := Lib.hid (HB.out.trans hb)
  have HK := Lib.hid (HK.out.trans hk)
  have hx3 : w.heap.size < w3.heap.size := (Array.getElem?_eq_some_iff.1 HX.out).1
  clear HC hw hb hk c0 c1 c2 c3 c4 c5
  go_wp2
  go_end0
  exact ⟨rfl, HW.out, HB.out, HK.out⟩

set_option maxRecDepth 100000 in
set_option maxHeartbeats 1000000 in
theorem wwrite_any (w : World) (B g : Nat) (l : List UInt8) (d : Int) (deep : Bool) (x : Wri) (h : WAt B w g l d deep) (hB : B ≤ w.heap.size) (hl : l.length + (wriB x).length ≤ 1000000000) :
    Calls Tryz.prog 67 #[.pointer (some ⟨g, 0, none⟩), .agg #[.bool x.is, .string x.t.a, .string x.t.b, .string x.t.c, .string x.t.d, .string x.t.e, .string x.t.f]] w (WPost B w g (l ++ (wriB x)) d deep) := by
  have hg := h.lt
  have heq : l ++ (wriB x) = l ++ enc (bitN x.is) ++ t6B x.t := by simp [wriB]
  have hlen := congrArg List.length heq
  simp only [List.length_append] at hlen hl
  have hba : Below w.heap.size w (w.alloc (.cells #[.bool x.is, .string x.t.a, .string x.t.b, .string x.t.c, .string x.t.d, .string x.t.e, .string x.t.f] 65)) := (Below.refl _ _).alloc (Nat.le_refl _) _
  have hbx : (w.alloc (.cells #[.bool x.is, .string x.t.a, .string x.t.b, .string x.t.c, .string x.t.d, .string x.t.e, .string x.t.f] 65)).heap[w.heap.size]? = some (.cells #[.bool x.is, .string x.t.a, .string x.t.b, .string x.t.c, .string x.t.d, .string x.t.e, .string x.t.f] 65 (0, 0)) := heap_alloc_new _ _
  have HW := Lib.hid (h.below hba)
  have HB := Lib.hid (hba.mono hB)
  have HX := Lib.hid hbx
  have HK := Lib.hid (KeepW.of_below (g := g) hba)
  have hne : w.heap.size ≠ g := by omega
  rw [heq]
  clear h hba hbx heq
  go_enter Tryz.func67, Tryz.ntmps67
  go_upto_region 1 with fail
  generalize w.alloc (.cells #[.bool x.is, .string x.t.a, .string x.t.b, .string x.t.c, .string x.t.d, .string x.t.e, .string x.t.f] 65) = w0 at *
  have hx0 : w.heap.size < w0.heap.size := (Array.getElem?_eq_some_iff.1 HX.out).1
  have c0 := Lib.cell_of_heap HX.out 0
  have c1 := Lib.cell_of_heap HX.out 1
  have c2 := Lib.cell_of_heap HX.out 2
  have c3 := Lib.cell_of_heap HX.out 3
  have c4 := Lib.cell_of_heap HX.out 4
  have c5 := Lib.cell_of_heap HX.out 5
  have c6 := Lib.cell_of_heap HX.out 6
  simp at c0 c1 c2 c3 c4 c5 c6
  have HC := Lib.hid (wtruth_any w0 B g (l) d deep x.is HW.out (Nat.le_trans hB HB.out.size) (by (try simp only [List.length_append]); omega))
  clear HW
  go_wp2_with (go_at_call 21; go_must (refine HC.out.mono ?_))
  rintro e w1 ⟨rfl, hw, hb, hk⟩
  have HW := Lib.hid hw
  have HX := Lib.hid (hk _ _ _ _ HX.out (by decide) hne)
  have HB := Lib.hid (HB.out.trans hb)
  have HK := Lib.hid (HK.out.trans hk)
  have hx1 : w.heap.size < w1.heap.size := (Array.getElem?_eq_some_iff.1 HX.out).1
  clear HC hw hb hk c0 c1 c2 c3 c4 c5 c6
  have c0 := Lib.cell_of_heap HX.out 0
  have c1 := Lib.cell_of_heap HX.out 1
  have c2 := Lib.cell_of_heap HX.out 2
  have c3 := Lib.cell_of_heap HX.out 3
  have c4 := Lib.cell_of_heap HX.out 4
  have c5 := Lib.cell_of_heap HX.out 5
  have c6 := Lib.cell_of_heap HX.out 6
  simp at c0 c1 c2 c3 c4 c5 c6
  have HC := Lib.hid (wtuple_any w1 B g (l ++ enc (bitN x.is)) d deep x.t HW.out (Nat.le_trans hB HB.out.size) (by (try simp only [List.length_append]); omega))
  clear HW
  go_wp2_with (go_at_call 23; go_must (refine HC.out.mono ?_))
  rintro e w2 ⟨rfl, hw, hb, hk⟩
  have HW := Lib.hid hw
  have HX := Lib.hid (hk _ _ _ _ HX.out (by decide) hne)
  have HB := Lib.hid (HB.out.trans hb)
  have HK := Lib.hid (HK.out.trans hk)
  have hx2 : w.heap.size < w2.heap.size := (Array.getElem?_eq_some_iff.1 HX.out).1
  clear HC hw hb hk c0 c1 c2 c3 c4 c5 c6
  go_wp2
  go_end0
  exact ⟨rfl, HW.out, HB.out, HK.out⟩

set_option maxRecDepth 100000 in
set_option maxHeartbeats 1000000 in
theorem wpre_any (w : World) (B g : Nat) (l : List UInt8) (d : Int) (deep : Bool) (x : Wri) (h : WAt B w g l d deep) (hB : B ≤ w.heap.size) (hl : l.length + (wriB x).length ≤ 1000000000) :
    Calls Tryz.prog 69 #[.pointer (some ⟨g, 0, none⟩), .agg #[.bool x.is, .string x.t.a, .string x.t.b, .string x.t.c, .string x.t.d, .string x.t.e, .string x.t.f]] w (WPost B w g (l ++ (wriB x)) d deep) := by
  have hg := h.lt
  have heq : l ++ (wriB x) = l ++ enc (bitN x.is) ++ t6B x.t := by simp [wriB]
  have hlen := congrArg List.length heq
  simp only [List.length_append] at hlen hl
  have hba : Below w.heap.size w (w.alloc (.cells #[.bool x.is, .string x.t.a, .string x.t.b, .string x.t.c, .string x.t.d, .string x.t.e, .string x.t.f] 131)) := (Below.refl _ _).alloc (Nat.le_refl _) _
  have hbx : (w.alloc (.cells #[.bool x.is, .string x.t.a, .string x.t.b, .string x.t.c, .string x.t.d, .string x.t.e, .string x.t.f] 131)).heap[w.heap.size]? = some (.cells #[.bool x.is, .string x.t.a, .string x.t.b, .string x.t.c, .string x.t.d, .string x.t.e, .string x.t.f] 131 (0, 0)) := heap_alloc_new _ _
  have HW := Lib.hid (h.below hba)
  have HB := Lib.hid (hba.mono hB)
  have HX := Lib.hid hbx
  have HK := Lib.hid (KeepW.of_below (g := g) hba)
  have hne : w.heap.size ≠ g := by omega
  rw [heq]
  clear h hba hbx heq
  go_enter Tryz.func69, Tryz.ntmps69
  go_upto_region 1 with fail
  generalize w.alloc (.cells #[.bool x.is, .string x.t.a, .string x.t.b, .string x.t.c, .string x.t.d, .string x.t.e, .string x.t.f] 131) = w0 at *
  have hx0 : w.heap.size < w0.heap.size := (Array.getElem?_eq_some_iff.1 HX.out).1
  have c0 := Lib.cell_of_heap HX.out 0
  have c1 := Lib.cell_of_heap HX.out 1
  have c2 := Lib.cell_of_heap HX.out 2
  have c3 := Lib.cell_of_heap HX.out 3
  have c4 := Lib.cell_of_heap HX.out 4
  have c5 := Lib.cell_of_heap HX.out 5
  have c6 := Lib.cell_of_heap HX.out 6
  simp at c0 c1 c2 c3 c4 c5 c6
  have HC := Lib.hid (wtruth_any w0 B g (l) d deep x.is HW.out (Nat.le_trans hB HB.out.size) (by (try simp only [List.length_append]); omega))
  clear HW
  go_wp2_with (go_at_call 21; go_must (refine HC.out.mono ?_))
  rintro e w1 ⟨rfl, hw, hb, hk⟩
  have HW := Lib.hid hw
  have HX := Lib.hid (hk _ _ _ _ HX.out (by decide) hne)
  have HB := Lib.hid (HB.out.trans hb)
  have HK := Lib.hid (HK.out.trans hk)
  have hx1 : w.heap.size < w1.heap.size := (Array.getElem?_eq_some_iff.1 HX.out).1
  clear HC hw hb hk c0 c1 c2 c3 c4 c5 c6
  have c0 := Lib.cell_of_heap HX.out 0
  have c1 := Lib.cell_of_heap HX.out 1
  have c2 := Lib.cell_of_heap HX.out 2
  have c3 := Lib.cell_of_heap HX.out 3
  have c4 := Lib.cell_of_heap HX.out 4
  have c5 := Lib.cell_of_heap HX.out 5
  have c6 := Lib.cell_of_heap HX.out 6
  simp at c0 c1 c2 c3 c4 c5 c6
  have HC := Lib.hid (wtuple_any w1 B g (l ++ enc (bitN x.is)) d deep x.t HW.out (Nat.le_trans hB HB.out.size) (by (try simp only [List.length_append]); omega))
  clear HW
  go_wp2_with (go_at_call 23; go_must (refine HC.out.mono ?_))
  rintro e w2 ⟨rfl, hw, hb, hk⟩
  have HW := Lib.hid hw
  have HX := Lib.hid (hk _ _ _ _ HX.out (by decide) hne)
  have HB := Lib.hid (HB.out.trans hb)
  have HK := Lib.hid (HK.out.trans hk)
  have hx2 : w.heap.size < w2.heap.size := (Array.getElem?_eq_some_iff.1 HX.out).1
  clear HC hw hb hk c0 c1 c2 c3 c4 c5 c6
  go_wp2
  go_end0
  exact ⟨rfl, HW.out, HB.out, HK.out⟩

set_option maxRecDepth 100000 in
set_option maxHeartbeats 1000000 in
theorem wask_any (w : World) (B g : Nat) (l : List UInt8) (d : Int) (deep : Bool) (t : T6) (h : WAt B w g l d deep) (hB : B ≤ w.heap.size) (hl : l.length + (t6B t).length ≤ 1000000000) :
    Calls Tryz.prog 71 #[.pointer (some ⟨g, 0, none⟩), .agg #[.string t.a, .string t.b, .string t.c, .string t.d, .string t.e, .string t.f]] w (WPost B w g (l ++ (t6B t)) d deep) := by
  have hg := h.lt
  have heq : l ++ (t6B t) = l ++ txts [t.a, t.b, t.c] ++ txts [t.d, t.e, t.f] := by simp [t6B, T6.list, txts]
  have hlen := congrArg List.length heq
  simp only [List.length_append] at hlen hl
  have hba : Below w.heap.size w (w.alloc (.cells #[.string t.a, .string t.b, .string t.c, .string t.d, .string t.e, .string t.f] 135)) := (Below.refl _ _).alloc (Nat.le_refl _) _
  have hbx : (w.alloc (.cells #[.string t.a, .string t.b, .string t.c, .string t.d, .string t.e, .string t.f] 135)).heap[w.heap.size]? = some (.cells #[.string t.a, .string t.b, .string t.c, .string t.d, .string t.e, .string t.f] 135 (0, 0)) := heap_alloc_new _ _
  have HW := Lib.hid (h.below hba)
  have HB := Lib.hid (hba.mono hB)
  have HX := Lib.hid hbx
  have HK := Lib.hid (KeepW.of_below (g := g) hba)
  have hne : w.heap.size ≠ g := by omega
  rw [heq]
  clear h hba hbx heq
  go_enter Tryz.func71, Tryz.ntmps71
  go_upto_region 1 with fail
  generalize w.alloc (.cells #[.string t.a, .string t.b, .string t.c, .string t.d, .string t.e, .string t.f] 135) = w0 at *
  have hx0 : w.heap.size < w0.heap.size := (Array.getElem?_eq_some_iff.1 HX.out).1
  have c0 := Lib.cell_of_heap HX.out 0
  have c1 := Lib.cell_of_heap HX.out 1
  have c2 := Lib.cell_of_heap HX.out 2
  have c3 := Lib.cell_of_heap HX.out 3
  have c4 := Lib.cell_of_heap HX.out 4
  have c5 := Lib.cell_of_heap HX.out 5
  simp at c0 c1 c2 c3 c4 c5
  have HC := Lib.hid (wpoint_any w0 B g (l) d deep t.a t.b t.c HW.out (Nat.le_trans hB HB.out.size) (by (try simp only [List.length_append]); omega))
  clear HW
  go_wp2_with (go_at_call 88; go_must (refine HC.out.mono ?_))
  rintro e w1 ⟨rfl, hw, hb, hk⟩
  have HW := Lib.hid hw
  have HX := Lib.hid (hk _ _ _ _ HX.out (by decide) hne)
  have HB := Lib.hid (HB.out.trans hb)
  have HK := Lib.hid (HK.out.trans hk)
  have hx1 : w.heap.size < w1.heap.size := (Array.getElem?_eq_some_iff.1 HX.out).1
  clear HC hw hb hk c0 c1 c2 c3 c4 c5
  have c0 := Lib.cell_of_heap HX.out 0
  have c1 := Lib.cell_of_heap HX.out 1
  have c2 := Lib.cell_of_heap HX.out 2
  have c3 := Lib.cell_of_heap HX.out 3
  have c4 := Lib.cell_of_heap HX.out 4
  have c5 := Lib.cell_of_heap HX.out 5
  simp at c0 c1 c2 c3 c4 c5
  have HC := Lib.hid (wsub_any w1 B g (l ++ txts [t.a, t.b, t.c]) d deep t.d t.e t.f HW.out (Nat.le_trans hB HB.out.size) (by (try simp only [List.length_append]); omega))
  clear HW
  go_wp2_with (go_at_call 87; go_must (refine HC.out.mono ?_))
  rintro e w2 ⟨rfl, hw, hb, hk⟩
  have HW := Lib.hid hw
  have HX := Lib.hid (hk _ _ _ _ HX.out (by decide) hne)
  have HB := Lib.hid (HB.out.trans hb)
  have HK := Lib.hid (HK.out.trans hk)
  have hx2 : w.heap.size < w2.heap.size := (Array.getElem?_eq_some_iff.1 HX.out).1
  clear HC hw hb hk c0 c1 c2 c3 c4 c5
  go_wp2
  go_end0
  exact ⟨rfl, HW.out, HB.out, HK.out⟩

set_option maxRecDepth 100000 in
set_option maxHeartbeats 1000000 in
theorem warg_any (w : World) (B g : Nat) (l : List UInt8) (d : Int) (deep : Bool) (x : Arg4) (h : WAt B w g l d deep) (hB : B ≤ w.heap.size) (hi : in64 x.kind ∧ in64 x.n) (hl : l.length + (argB x).length ≤ 1000000000) :
    Calls Tryz.prog 73 #[.pointer (some ⟨g, 0, none⟩), .agg #[.string x.name, .int .i64 x.kind, .int .i64 x.n, .string x.s]] w (WPost B w g (l ++ (argB x)) d deep) := by
  have hg := h.lt
  have heq : l ++ (argB x) = l ++ txts [x.name] ++ enc (zig x.kind) ++ enc (zig x.n) ++ txts [x.s] := by simp [argB, txts]
  have hlen := congrArg List.length heq
  simp only [List.length_append] at hlen hl
  have hba : Below w.heap.size w (w.alloc (.cells #[.string x.name, .int .i64 x.kind, .int .i64 x.n, .string x.s] 141)) := (Below.refl _ _).alloc (Nat.le_refl _) _
  have hbx : (w.alloc (.cells #[.string x.name, .int .i64 x.kind, .int .i64 x.n, .string x.s] 141)).heap[w.heap.size]? = some (.cells #[.string x.name, .int .i64 x.kind, .int .i64 x.n, .string x.s] 141 (0, 0)) := heap_alloc_new _ _
  have HW := Lib.hid (h.below hba)
  have HB := Lib.hid (hba.mono hB)
  have HX := Lib.hid hbx
  have HK := Lib.hid (KeepW.of_below (g := g) hba)
  have hne : w.heap.size ≠ g := by omega
  rw [heq]
  clear h hba hbx heq
  go_enter Tryz.func73, Tryz.ntmps73
  go_upto_region 1 with fail
  generalize w.alloc (.cells #[.string x.name, .int .i64 x.kind, .int .i64 x.n, .string x.s] 141) = w0 at *
  have hx0 : w.heap.size < w0.heap.size := (Array.getElem?_eq_some_iff.1 HX.out).1
  have c0 := Lib.cell_of_heap HX.out 0
  have c1 := Lib.cell_of_heap HX.out 1
  have c2 := Lib.cell_of_heap HX.out 2
  have c3 := Lib.cell_of_heap HX.out 3
  simp at c0 c1 c2 c3
  have hla : Below w0.heap.size w0 (w0.alloc (.cells #[.string x.name] 9)) := (Below.refl _ _).alloc (Nat.le_refl _) _
  have HC := Lib.hid (wtexts_any (w0.alloc (.cells #[.string x.name] 9)) B g (l) d deep w0.heap.size 1 [x.name] (HW.out.below hla) (Nat.le_trans hB (Nat.le_trans HB.out.size hla.size)) rfl (by decide) (heap_alloc_new _ _) (by have := HW.out.lt; omega) (by (try simp only [List.length_append]); omega))
  have HL := Lib.hid hla
  clear HW hla
  go_wp2_with (go_at_call 19; go_must (refine HC.out.mono ?_))
  rintro e w1 ⟨rfl, hw, hb, hk⟩
  have hk := (KeepW.of_below (g := g) HL.out).trans hk
  have HW := Lib.hid hw
  have HX := Lib.hid (hk _ _ _ _ HX.out (by decide) hne)
  have HB := Lib.hid ((HB.out.trans (HL.out.mono (Nat.le_trans hB HB.out.size))).trans hb)
  have HK := Lib.hid (HK.out.trans hk)
  clear HL
  have hx1 : w.heap.size < w1.heap.size := (Array.getElem?_eq_some_iff.1 HX.out).1
  clear HC hw hb hk c0 c1 c2 c3
  have c0 := Lib.cell_of_heap HX.out 0
  have c1 := Lib.cell_of_heap HX.out 1
  have c2 := Lib.cell_of_heap HX.out 2
  have c3 := Lib.cell_of_heap HX.out 3
  simp at c0 c1 c2 c3
  have HC := Lib.hid (wwhole_any w1 B g (l ++ txts [x.name]) d deep x.kind HW.out (Nat.le_trans hB HB.out.size) (by (try simp only [List.length_append]); omega) hi.1)
  clear HW
  go_wp2_with (go_at_call 18; go_must (refine HC.out.mono ?_))
  rintro e w2 ⟨rfl, hw, hb, hk⟩
  have HW := Lib.hid hw
  have HX := Lib.hid (hk _ _ _ _ HX.out (by decide) hne)
  have HB := Lib.hid (HB.out.trans hb)
  have HK := Lib.hid (HK.out.trans hk)
  have hx2 : w.heap.size < w2.heap.size := (Array.getElem?_eq_some_iff.1 HX.out).1
  clear HC hw hb hk c0 c1 c2 c3
  have c0 := Lib.cell_of_heap HX.out 0
  have c1 := Lib.cell_of_heap HX.out 1
  have c2 := Lib.cell_of_heap HX.out 2
  have c3 := Lib.cell_of_heap HX.out 3
  simp at c0 c1 c2 c3
  have HC := Lib.hid (wlong_any w2 B g (l ++ txts [x.name] ++ enc (zig x.kind)) d deep x.n HW.out (Nat.le_trans hB HB.out.size) (by (try simp only [List.length_append]); omega) hi.2)
  clear HW
  go_wp2_with (go_at_call 85; go_must (refine HC.out.mono ?_))
  rintro e w3 ⟨rfl, hw, hb, hk⟩
  have HW := Lib.hid hw
  have HX := Lib.hid (hk _ _ _ _ HX.out (by decide) hne)
  have HB := Lib.hid (HB.out.trans hb)
  have HK := Lib.hid (HK.out.trans hk)
  have hx3 : w.heap.size < w3.heap.size := (Array.getElem?_eq_some_iff.1 HX.out).1
  clear HC hw hb hk c0 c1 c2 c3
  have c0 := Lib.cell_of_heap HX.out 0
  have c1 := Lib.cell_of_heap HX.out 1
  have c2 := Lib.cell_of_heap HX.out 2
  have c3 := Lib.cell_of_heap HX.out 3
  simp at c0 c1 c2 c3
  have hla : Below w3.heap.size w3 (w3.alloc (.cells #[.string x.s] 9)) := (Below.refl _ _).alloc (Nat.le_refl _) _
  have HC := Lib.hid (wtexts_any (w3.alloc (.cells #[.string x.s] 9)) B g (l ++ txts [x.name] ++ enc (zig x.kind) ++ enc (zig x.n)) d deep w3.heap.size 1 [x.s] (HW.out.below hla) (Nat.le_trans hB (Nat.le_trans HB.out.size hla.size)) rfl (by decide) (heap_alloc_new _ _) (by have := HW.out.lt; omega) (by (try simp only [List.length_append]); omega))
  have HL := Lib.hid hla
  clear HW hla
  go_wp2_with (go_at_call 19; go_must (refine HC.out.mono ?_))
  rintro e w4 ⟨rfl, hw, hb, hk⟩
  have hk := (KeepW.of_below (g := g) HL.out).trans hk
  have HW := Lib.hid hw
  have HX := Lib.hid (hk _ _ _ _ HX.out (by decide) hne)
  have HB := Lib.hid ((HB.out.trans (HL.out.mono (Nat.le_trans hB HB.out.size))).trans hb)
  have HK := Lib.hid (HK.out.trans hk)
  clear HL
  have hx4 : w.heap.size < w4.heap.size := (Array.getElem?_eq_some_iff.1 HX.out).1
  clear HC hw hb hk c0 c1 c2 c3
  go_wp2
  go_end0
  exact ⟨rfl, HW.out, HB.out, HK.out⟩

end Go.Proofs.YtdonibkkdhokpaaGreat
