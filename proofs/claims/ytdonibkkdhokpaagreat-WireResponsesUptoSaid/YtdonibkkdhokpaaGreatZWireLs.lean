/- The writer's lists of a response (written by gen_wirels.py). -/
import Derived.Test.YtdonibkkdhokpaaGreatZWireWu
namespace Go.Proofs.YtdonibkkdhokpaaGreat
open Go Go.RowKit

structure T2 where
  a : ByteArray
  b : ByteArray

def T2.cells (t : T2) : List Value := [.string t.a, .string t.b]
def t2B (t : T2) : List UInt8 := txts [t.a, t.b]

structure Evt where
  rev : Nat
  x : Wri

def Evt.cells (y : Evt) : List Value := [.int .u64 (y.rev : Int), .bool y.x.is, .string y.x.t.a, .string y.x.t.b, .string y.x.t.c, .string y.x.t.d, .string y.x.t.e, .string y.x.t.f]
def evB (y : Evt) : List UInt8 := enc y.rev ++ wriB y.x

theorem wobj_t2 (w : World) (B g : Nat) (l : List UInt8) (d : Int) (deep : Bool) (t : T2) (h : WAt B w g l d deep) (hB : B ≤ w.heap.size) (hl : l.length + (t2B t).length ≤ 1000000000) :
    Calls Tryz.prog 25 #[.pointer (some ⟨g, 0, none⟩), .agg #[.string t.a, .string t.b]] w (WPost B w g (l ++ t2B t) d deep) := wobj_any w B g l d deep t.a t.b h hB hl

set_option maxRecDepth 100000 in
set_option maxHeartbeats 1000000 in
theorem wevent_any (w : World) (B g : Nat) (l : List UInt8) (d : Int) (deep : Bool) (y : Evt) (h : WAt B w g l d deep) (hB : B ≤ w.heap.size) (hi : y.rev < 18446744073709551616) (hl : l.length + (evB y).length ≤ 1000000000) :
    Calls Tryz.prog 27 #[.pointer (some ⟨g, 0, none⟩), .agg #[.int .u64 (y.rev : Int), .bool y.x.is, .string y.x.t.a, .string y.x.t.b, .string y.x.t.c, .string y.x.t.d, .string y.x.t.e, .string y.x.t.f]] w (WPost B w g (l ++ (evB y)) d deep) := by
  have hg := h.lt
  have heq : l ++ (evB y) = l ++ enc y.rev ++ wriB y.x := by simp [evB]
  have hlen := congrArg List.length heq
  simp only [List.length_append] at hlen hl
  have hba : Below w.heap.size w (w.alloc (.cells #[.int .u64 (y.rev : Int), .bool y.x.is, .string y.x.t.a, .string y.x.t.b, .string y.x.t.c, .string y.x.t.d, .string y.x.t.e, .string y.x.t.f] 67)) := (Below.refl _ _).alloc (Nat.le_refl _) _
  have hbx : (w.alloc (.cells #[.int .u64 (y.rev : Int), .bool y.x.is, .string y.x.t.a, .string y.x.t.b, .string y.x.t.c, .string y.x.t.d, .string y.x.t.e, .string y.x.t.f] 67)).heap[w.heap.size]? = some (.cells #[.int .u64 (y.rev : Int), .bool y.x.is, .string y.x.t.a, .string y.x.t.b, .string y.x.t.c, .string y.x.t.d, .string y.x.t.e, .string y.x.t.f] 67 (0, 0)) := heap_alloc_new _ _
  have HW := Lib.hid (h.below hba)
  have HB := Lib.hid (hba.mono hB)
  have HX := Lib.hid hbx
  have HK := Lib.hid (KeepW.of_below (g := g) hba)
  have hne : w.heap.size ≠ g := by omega
  rw [heq]
  clear h hba hbx heq
  go_enter Tryz.func27, Tryz.ntmps27
  go_upto_region 1 with fail
  generalize w.alloc (.cells #[.int .u64 (y.rev : Int), .bool y.x.is, .string y.x.t.a, .string y.x.t.b, .string y.x.t.c, .string y.x.t.d, .string y.x.t.e, .string y.x.t.f] 67) = w0 at *
  have hx0 : w.heap.size < w0.heap.size := (Array.getElem?_eq_some_iff.1 HX.out).1
  have c0 := Lib.cell_of_heap HX.out 0
  have c1 := Lib.cell_of_heap HX.out 1
  have c2 := Lib.cell_of_heap HX.out 2
  have c3 := Lib.cell_of_heap HX.out 3
  have c4 := Lib.cell_of_heap HX.out 4
  have c5 := Lib.cell_of_heap HX.out 5
  have c6 := Lib.cell_of_heap HX.out 6
  have c7 := Lib.cell_of_heap HX.out 7
  simp at c0 c1 c2 c3 c4 c5 c6 c7
  have HC := Lib.hid (wnumber_any w0 B g (l) d deep y.rev HW.out (Nat.le_trans hB HB.out.size) (by (try simp only [List.length_append]); omega) hi)
  clear HW
  go_wp2_with (go_at_call 17; go_must (refine HC.out.mono ?_))
  rintro e w1 ⟨rfl, hw, hb, hk⟩
  have HW := Lib.hid hw
  have HX := Lib.hid (hk _ _ _ _ HX.out (by decide) hne)
  have HB := Lib.hid (HB.out.trans hb)
  have HK := Lib.hid (HK.out.trans hk)
  have hx1 : w.heap.size < w1.heap.size := (Array.getElem?_eq_some_iff.1 HX.out).1
  clear HC hw hb hk c0 c1 c2 c3 c4 c5 c6 c7
  have c0 := Lib.cell_of_heap HX.out 0
  have c1 := Lib.cell_of_heap HX.out 1
  have c2 := Lib.cell_of_heap HX.out 2
  have c3 := Lib.cell_of_heap HX.out 3
  have c4 := Lib.cell_of_heap HX.out 4
  have c5 := Lib.cell_of_heap HX.out 5
  have c6 := Lib.cell_of_heap HX.out 6
  have c7 := Lib.cell_of_heap HX.out 7
  simp at c0 c1 c2 c3 c4 c5 c6 c7
  have HC := Lib.hid (wwrite_any w1 B g (l ++ enc y.rev) d deep y.x HW.out (Nat.le_trans hB HB.out.size) (by (try simp only [List.length_append]); omega))
  clear HW
  go_wp2_with (go_at_call 67; go_must (refine HC.out.mono ?_))
  rintro e w2 ⟨rfl, hw, hb, hk⟩
  have HW := Lib.hid hw
  have HX := Lib.hid (hk _ _ _ _ HX.out (by decide) hne)
  have HB := Lib.hid (HB.out.trans hb)
  have HK := Lib.hid (HK.out.trans hk)
  have hx2 : w.heap.size < w2.heap.size := (Array.getElem?_eq_some_iff.1 HX.out).1
  clear HC hw hb hk c0 c1 c2 c3 c4 c5 c6 c7
  go_wp2
  go_end0
  exact ⟨rfl, HW.out, HB.out, HK.out⟩

set_option maxRecDepth 100000 in
set_option maxHeartbeats 2000000 in
theorem wputTuples_any (w : World) (B g : Nat) (l : List UInt8) (d : Int) (a : Option Addr) (n cap : Nat) (xs : List T6) (h : WAt B w g l d false) (hB : B ≤ w.heap.size) (hkl : xs.length = n) (hr : ∀ W, Below B w W → Reads W 6 (.slice a n cap) n (xs.flatMap T6.cells)) (hl : l.length + (listB t6B xs).length ≤ 1000000000) (hn : n ≤ 20000000) :
    Calls Tryz.prog 22 #[.pointer (some ⟨g, 0, none⟩), .slice a n cap, .func (.func 23) #[.pointer (some ⟨g, 0, none⟩)] #[]] w (WPost B w g (l ++ listB t6B xs) d false) := by
  obtain ⟨_, _, hv, hc1, hc2⟩ := (hr w (Below.refl _ _)).le
  cases hv
  unfold maxLen at hc2
  have hen : ∀ (args : Array Value) (w : World), (callFunc 23 args).run Tryz.prog w = .ok (.enter 23 args) w := fun _ _ => by kernel_rfl
  have hw0 : IntKind.u64.wrap (n : Int) = (n : Int) := by rw [IntKind.wrap_u64]; omega
  have heq : l ++ listB t6B xs = l ++ enc n ++ xs.flatMap t6B := by unfold listB; rw [hkl, List.append_assoc]
  have hlen := congrArg List.length heq
  simp only [List.length_append] at hlen
  obtain ⟨FIN, hF⟩ : ∃ FIN, l ++ listB t6B xs = FIN := ⟨_, rfl⟩
  rw [hF] at heq ⊢
  have HNum := Lib.hid (wnumber_any w B g l d false n h hB (by omega) (by omega))
  have HR := Lib.hid hr
  have HL := Lib.hid hkl
  clear h hr hkl hF
  go_enter Tryz.func22, Tryz.ntmps22
  go_wp2_with (go_at_call 17; go_must (refine HNum.out.mono ?_))
  rintro e w1 ⟨rfl, hw1, hb1, hk1⟩
  obtain ⟨L, hL⟩ : ∃ L, l ++ enc n = L := ⟨_, rfl⟩
  have hLl : L.length + (xs.flatMap t6B).length ≤ 1000000000 := by rw [← hL, List.length_append]; omega
  rw [hL] at hw1 heq
  have HF := Lib.hid heq
  have HW1 := Lib.hid hw1
  have HB1 := Lib.hid hb1
  have HK1 := Lib.hid hk1
  clear hw1 hb1 hk1 HNum hlen hL hl heq
  go_wp2
  go_loopw [15] (fun v wr => PLRel t6B B w g L d xs v wr) (fun v _ => n - (intOf v).toNat)
  case atStart => exact ⟨0, rfl, Nat.zero_le _, by simpa using HW1.out, HB1.out, HK1.out⟩
  case round =>
    obtain ⟨i, rfl, hin, hw, hb, hk⟩ := hrel
    rw [HL.out] at hin
    clear HW1 HB1 HK1
    by_cases hlt : i < n
    · have hltI : (i : Int) < n := by omega
      obtain ⟨x, hx⟩ : ∃ x, xs[i]? = some x := ⟨xs[i]'(by rw [HL.out]; exact hlt), List.getElem?_eq_getElem _⟩
      obtain ⟨b, off, rfl, hb2, hcs⟩ := rows_at T6.cells 6 (fun _ => rfl) (HR.out wr hb) hx (by decide)
      have k0 := hcs 0 _ rfl
      have k1 := hcs 1 _ rfl
      have k2 := hcs 2 _ rfl
      have k3 := hcs 3 _ rfl
      have k4 := hcs 4 _ rfl
      have k5 := hcs 5 _ rfl
      simp only [Nat.add_zero] at k0
      have hne := flat_next t6B hx
      have htk := flat_take t6B xs (i + 1)
      rw [hne, List.length_append] at htk
      have hxm := List.mem_of_getElem? hx
      obtain ⟨c, hc⟩ : ∃ c, L ++ (xs.take i).flatMap t6B = c := ⟨_, rfl⟩
      have hcl : c.length + (t6B x).length ≤ 1000000000 := by rw [← hc, List.length_append]; omega
      have hfin : L ++ (xs.take (i + 1)).flatMap t6B = c ++ t6B x := by rw [hne, ← hc, List.append_assoc]
      rw [hc] at hw
      have hwB : B ≤ wr.heap.size := Nat.le_trans hB hb.size
      have hba : Below wr.heap.size wr (wr.alloc (.cells #[.string x.a, .string x.b, .string x.c, .string x.d, .string x.e, .string x.f] 62)) := (Below.refl _ _).alloc (Nat.le_refl _) _
      have hbx : (wr.alloc (.cells #[.string x.a, .string x.b, .string x.c, .string x.d, .string x.e, .string x.f] 62)).heap[wr.heap.size]? = some (.cells #[.string x.a, .string x.b, .string x.c, .string x.d, .string x.e, .string x.f] 62 (0, 0)) := heap_alloc_new _ _
      have hdeep : (wr.alloc (.cells #[.string x.a, .string x.b, .string x.c, .string x.d, .string x.e, .string x.f] 62)).cell? ⟨g, 2, none⟩ = some (.bool false) := by
        obtain ⟨_, _, q1, _, _⟩ := hw.below hba
        have := Lib.cell_of_heap q1 2
        simpa using this
      have hg := (hw.below hba).lt
      have HW2 := Lib.hid (hw.below hba)
      have HB2 := Lib.hid (hb.trans (hba.mono hwB))
      have HK2 := Lib.hid (hk.trans (KeepW.of_below (g := g) hba))
      have HBx := Lib.hid hbx
      have HFn := Lib.hid hfin
      have hc2' := hcl
      clear hw hb hk hba hbx hfin hne htk hx hc hcs
      go_upto_region 4 with fail
      generalize wr.alloc (.cells #[.string x.a, .string x.b, .string x.c, .string x.d, .string x.e, .string x.f] 62) = w2 at *
      have x0 := Lib.cell_of_heap HBx.out 0
      have x1 := Lib.cell_of_heap HBx.out 1
      have x2 := Lib.cell_of_heap HBx.out 2
      have x3 := Lib.cell_of_heap HBx.out 3
      have x4 := Lib.cell_of_heap HBx.out 4
      have x5 := Lib.cell_of_heap HBx.out 5
      simp at x0 x1 x2 x3 x4 x5
      have hbl : wr.heap.size < w2.heap.size := (Array.getElem?_eq_some_iff.1 HBx.out).1
      have HIt := Lib.hid (wtuple_any w2 B g c d false x HW2.out (Nat.le_trans hwB (Nat.le_of_lt hbl)) (by omega))
      go_wp2_with (go_at_call 23; go_must (refine HIt.out.mono ?_))
      rintro e w3 ⟨rfl, hw3, hb3, hk3⟩
      have HW3 := Lib.hid hw3
      have HB3 := Lib.hid (HB2.out.trans hb3)
      have HK3 := Lib.hid (HK2.out.trans hk3)
      clear hw3 hb3 hk3 HIt
      go_wp2
      exact ⟨⟨i + 1, by go_num, by rw [HL.out]; omega, by rw [HFn.out]; exact HW3.out, HB3.out, HK3.out⟩, by simp [intOf]; omega⟩
    · obtain rfl : i = n := by omega
      have hltI : ¬ (i : Int) < i := by omega
      rw [List.take_of_length_le (by rw [HL.out]; exact Nat.le_refl _), ← HF.out] at hw
      have HWf := Lib.hid hw
      have HBf := Lib.hid hb
      have HKf := Lib.hid hk
      clear hw hb hk
      go_wp2
      go_end0
      exact ⟨rfl, HWf.out, HBf.out, HKf.out⟩

set_option maxRecDepth 100000 in
set_option maxHeartbeats 2000000 in
theorem wputObjs_any (w : World) (B g : Nat) (l : List UInt8) (d : Int) (a : Option Addr) (n cap : Nat) (xs : List T2) (h : WAt B w g l d false) (hB : B ≤ w.heap.size) (hkl : xs.length = n) (hr : ∀ W, Below B w W → Reads W 2 (.slice a n cap) n (xs.flatMap T2.cells)) (hl : l.length + (listB t2B xs).length ≤ 1000000000) (hn : n ≤ 20000000) :
    Calls Tryz.prog 24 #[.pointer (some ⟨g, 0, none⟩), .slice a n cap, .func (.func 25) #[.pointer (some ⟨g, 0, none⟩)] #[]] w (WPost B w g (l ++ listB t2B xs) d false) := by
  obtain ⟨_, _, hv, hc1, hc2⟩ := (hr w (Below.refl _ _)).le
  cases hv
  unfold maxLen at hc2
  have hen : ∀ (args : Array Value) (w : World), (callFunc 25 args).run Tryz.prog w = .ok (.enter 25 args) w := fun _ _ => by kernel_rfl
  have hw0 : IntKind.u64.wrap (n : Int) = (n : Int) := by rw [IntKind.wrap_u64]; omega
  have heq : l ++ listB t2B xs = l ++ enc n ++ xs.flatMap t2B := by unfold listB; rw [hkl, List.append_assoc]
  have hlen := congrArg List.length heq
  simp only [List.length_append] at hlen
  obtain ⟨FIN, hF⟩ : ∃ FIN, l ++ listB t2B xs = FIN := ⟨_, rfl⟩
  rw [hF] at heq ⊢
  have HNum := Lib.hid (wnumber_any w B g l d false n h hB (by omega) (by omega))
  have HR := Lib.hid hr
  have HL := Lib.hid hkl
  clear h hr hkl hF
  go_enter Tryz.func24, Tryz.ntmps24
  go_wp2_with (go_at_call 17; go_must (refine HNum.out.mono ?_))
  rintro e w1 ⟨rfl, hw1, hb1, hk1⟩
  obtain ⟨L, hL⟩ : ∃ L, l ++ enc n = L := ⟨_, rfl⟩
  have hLl : L.length + (xs.flatMap t2B).length ≤ 1000000000 := by rw [← hL, List.length_append]; omega
  rw [hL] at hw1 heq
  have HF := Lib.hid heq
  have HW1 := Lib.hid hw1
  have HB1 := Lib.hid hb1
  have HK1 := Lib.hid hk1
  clear hw1 hb1 hk1 HNum hlen hL hl heq
  go_wp2
  go_loopw [15] (fun v wr => PLRel t2B B w g L d xs v wr) (fun v _ => n - (intOf v).toNat)
  case atStart => exact ⟨0, rfl, Nat.zero_le _, by simpa using HW1.out, HB1.out, HK1.out⟩
  case round =>
    obtain ⟨i, rfl, hin, hw, hb, hk⟩ := hrel
    rw [HL.out] at hin
    clear HW1 HB1 HK1
    by_cases hlt : i < n
    · have hltI : (i : Int) < n := by omega
      obtain ⟨x, hx⟩ : ∃ x, xs[i]? = some x := ⟨xs[i]'(by rw [HL.out]; exact hlt), List.getElem?_eq_getElem _⟩
      obtain ⟨b, off, rfl, hb2, hcs⟩ := rows_at T2.cells 2 (fun _ => rfl) (HR.out wr hb) hx (by decide)
      have k0 := hcs 0 _ rfl
      have k1 := hcs 1 _ rfl
      simp only [Nat.add_zero] at k0
      have hne := flat_next t2B hx
      have htk := flat_take t2B xs (i + 1)
      rw [hne, List.length_append] at htk
      have hxm := List.mem_of_getElem? hx
      obtain ⟨c, hc⟩ : ∃ c, L ++ (xs.take i).flatMap t2B = c := ⟨_, rfl⟩
      have hcl : c.length + (t2B x).length ≤ 1000000000 := by rw [← hc, List.length_append]; omega
      have hfin : L ++ (xs.take (i + 1)).flatMap t2B = c ++ t2B x := by rw [hne, ← hc, List.append_assoc]
      rw [hc] at hw
      have hwB : B ≤ wr.heap.size := Nat.le_trans hB hb.size
      have hba : Below wr.heap.size wr (wr.alloc (.cells #[.string x.a, .string x.b] 30)) := (Below.refl _ _).alloc (Nat.le_refl _) _
      have hbx : (wr.alloc (.cells #[.string x.a, .string x.b] 30)).heap[wr.heap.size]? = some (.cells #[.string x.a, .string x.b] 30 (0, 0)) := heap_alloc_new _ _
      have hdeep : (wr.alloc (.cells #[.string x.a, .string x.b] 30)).cell? ⟨g, 2, none⟩ = some (.bool false) := by
        obtain ⟨_, _, q1, _, _⟩ := hw.below hba
        have := Lib.cell_of_heap q1 2
        simpa using this
      have hg := (hw.below hba).lt
      have HW2 := Lib.hid (hw.below hba)
      have HB2 := Lib.hid (hb.trans (hba.mono hwB))
      have HK2 := Lib.hid (hk.trans (KeepW.of_below (g := g) hba))
      have HBx := Lib.hid hbx
      have HFn := Lib.hid hfin
      have hc2' := hcl
      clear hw hb hk hba hbx hfin hne htk hx hc hcs
      go_upto_region 4 with fail
      generalize wr.alloc (.cells #[.string x.a, .string x.b] 30) = w2 at *
      have x0 := Lib.cell_of_heap HBx.out 0
      have x1 := Lib.cell_of_heap HBx.out 1
      simp at x0 x1
      have hbl : wr.heap.size < w2.heap.size := (Array.getElem?_eq_some_iff.1 HBx.out).1
      have HIt := Lib.hid (wobj_t2 w2 B g c d false x HW2.out (Nat.le_trans hwB (Nat.le_of_lt hbl)) (by omega))
      go_wp2_with (go_at_call 25; go_must (refine HIt.out.mono ?_))
      rintro e w3 ⟨rfl, hw3, hb3, hk3⟩
      have HW3 := Lib.hid hw3
      have HB3 := Lib.hid (HB2.out.trans hb3)
      have HK3 := Lib.hid (HK2.out.trans hk3)
      clear hw3 hb3 hk3 HIt
      go_wp2
      exact ⟨⟨i + 1, by go_num, by rw [HL.out]; omega, by rw [HFn.out]; exact HW3.out, HB3.out, HK3.out⟩, by simp [intOf]; omega⟩
    · obtain rfl : i = n := by omega
      have hltI : ¬ (i : Int) < i := by omega
      rw [List.take_of_length_le (by rw [HL.out]; exact Nat.le_refl _), ← HF.out] at hw
      have HWf := Lib.hid hw
      have HBf := Lib.hid hb
      have HKf := Lib.hid hk
      clear hw hb hk
      go_wp2
      go_end0
      exact ⟨rfl, HWf.out, HBf.out, HKf.out⟩

set_option maxRecDepth 100000 in
set_option maxHeartbeats 2000000 in
theorem wputEvents_any (w : World) (B g : Nat) (l : List UInt8) (d : Int) (a : Option Addr) (n cap : Nat) (xs : List Evt) (h : WAt B w g l d false) (hB : B ≤ w.heap.size) (hkl : xs.length = n) (hr : ∀ W, Below B w W → Reads W 8 (.slice a n cap) n (xs.flatMap Evt.cells)) (hi : ∀ x ∈ xs, x.rev < 18446744073709551616) (hl : l.length + (listB evB xs).length ≤ 1000000000) (hn : n ≤ 20000000) :
    Calls Tryz.prog 26 #[.pointer (some ⟨g, 0, none⟩), .slice a n cap, .func (.func 27) #[.pointer (some ⟨g, 0, none⟩)] #[]] w (WPost B w g (l ++ listB evB xs) d false) := by
  obtain ⟨_, _, hv, hc1, hc2⟩ := (hr w (Below.refl _ _)).le
  cases hv
  unfold maxLen at hc2
  have hen : ∀ (args : Array Value) (w : World), (callFunc 27 args).run Tryz.prog w = .ok (.enter 27 args) w := fun _ _ => by kernel_rfl
  have hw0 : IntKind.u64.wrap (n : Int) = (n : Int) := by rw [IntKind.wrap_u64]; omega
  have heq : l ++ listB evB xs = l ++ enc n ++ xs.flatMap evB := by unfold listB; rw [hkl, List.append_assoc]
  have hlen := congrArg List.length heq
  simp only [List.length_append] at hlen
  obtain ⟨FIN, hF⟩ : ∃ FIN, l ++ listB evB xs = FIN := ⟨_, rfl⟩
  rw [hF] at heq ⊢
  have HNum := Lib.hid (wnumber_any w B g l d false n h hB (by omega) (by omega))
  have HR := Lib.hid hr
  have HL := Lib.hid hkl
  have HIn := Lib.hid hi
  clear hi
  clear h hr hkl hF
  go_enter Tryz.func26, Tryz.ntmps26
  go_wp2_with (go_at_call 17; go_must (refine HNum.out.mono ?_))
  rintro e w1 ⟨rfl, hw1, hb1, hk1⟩
  obtain ⟨L, hL⟩ : ∃ L, l ++ enc n = L := ⟨_, rfl⟩
  have hLl : L.length + (xs.flatMap evB).length ≤ 1000000000 := by rw [← hL, List.length_append]; omega
  rw [hL] at hw1 heq
  have HF := Lib.hid heq
  have HW1 := Lib.hid hw1
  have HB1 := Lib.hid hb1
  have HK1 := Lib.hid hk1
  clear hw1 hb1 hk1 HNum hlen hL hl heq
  go_wp2
  go_loopw [15] (fun v wr => PLRel evB B w g L d xs v wr) (fun v _ => n - (intOf v).toNat)
  case atStart => exact ⟨0, rfl, Nat.zero_le _, by simpa using HW1.out, HB1.out, HK1.out⟩
  case round =>
    obtain ⟨i, rfl, hin, hw, hb, hk⟩ := hrel
    rw [HL.out] at hin
    clear HW1 HB1 HK1
    by_cases hlt : i < n
    · have hltI : (i : Int) < n := by omega
      obtain ⟨x, hx⟩ : ∃ x, xs[i]? = some x := ⟨xs[i]'(by rw [HL.out]; exact hlt), List.getElem?_eq_getElem _⟩
      obtain ⟨b, off, rfl, hb2, hcs⟩ := rows_at Evt.cells 8 (fun _ => rfl) (HR.out wr hb) hx (by decide)
      have k0 := hcs 0 _ rfl
      have k1 := hcs 1 _ rfl
      have k2 := hcs 2 _ rfl
      have k3 := hcs 3 _ rfl
      have k4 := hcs 4 _ rfl
      have k5 := hcs 5 _ rfl
      have k6 := hcs 6 _ rfl
      have k7 := hcs 7 _ rfl
      simp only [Nat.add_zero] at k0
      have hne := flat_next evB hx
      have htk := flat_take evB xs (i + 1)
      rw [hne, List.length_append] at htk
      have hxm := List.mem_of_getElem? hx
      obtain ⟨c, hc⟩ : ∃ c, L ++ (xs.take i).flatMap evB = c := ⟨_, rfl⟩
      have hcl : c.length + (evB x).length ≤ 1000000000 := by rw [← hc, List.length_append]; omega
      have hfin : L ++ (xs.take (i + 1)).flatMap evB = c ++ evB x := by rw [hne, ← hc, List.append_assoc]
      rw [hc] at hw
      have hwB : B ≤ wr.heap.size := Nat.le_trans hB hb.size
      have hba : Below wr.heap.size wr (wr.alloc (.cells #[.int .u64 (x.rev : Int), .bool x.x.is, .string x.x.t.a, .string x.x.t.b, .string x.x.t.c, .string x.x.t.d, .string x.x.t.e, .string x.x.t.f] 67)) := (Below.refl _ _).alloc (Nat.le_refl _) _
      have hbx : (wr.alloc (.cells #[.int .u64 (x.rev : Int), .bool x.x.is, .string x.x.t.a, .string x.x.t.b, .string x.x.t.c, .string x.x.t.d, .string x.x.t.e, .string x.x.t.f] 67)).heap[wr.heap.size]? = some (.cells #[.int .u64 (x.rev : Int), .bool x.x.is, .string x.x.t.a, .string x.x.t.b, .string x.x.t.c, .string x.x.t.d, .string x.x.t.e, .string x.x.t.f] 67 (0, 0)) := heap_alloc_new _ _
      have hdeep : (wr.alloc (.cells #[.int .u64 (x.rev : Int), .bool x.x.is, .string x.x.t.a, .string x.x.t.b, .string x.x.t.c, .string x.x.t.d, .string x.x.t.e, .string x.x.t.f] 67)).cell? ⟨g, 2, none⟩ = some (.bool false) := by
        obtain ⟨_, _, q1, _, _⟩ := hw.below hba
        have := Lib.cell_of_heap q1 2
        simpa using this
      have hg := (hw.below hba).lt
      have HW2 := Lib.hid (hw.below hba)
      have HB2 := Lib.hid (hb.trans (hba.mono hwB))
      have HK2 := Lib.hid (hk.trans (KeepW.of_below (g := g) hba))
      have HBx := Lib.hid hbx
      have HFn := Lib.hid hfin
      have hc2' := hcl
      have hix := HIn.out x hxm
      clear hw hb hk hba hbx hfin hne htk hx hc hcs
      go_upto_region 4 with fail
      generalize wr.alloc (.cells #[.int .u64 (x.rev : Int), .bool x.x.is, .string x.x.t.a, .string x.x.t.b, .string x.x.t.c, .string x.x.t.d, .string x.x.t.e, .string x.x.t.f] 67) = w2 at *
      have x0 := Lib.cell_of_heap HBx.out 0
      have x1 := Lib.cell_of_heap HBx.out 1
      have x2 := Lib.cell_of_heap HBx.out 2
      have x3 := Lib.cell_of_heap HBx.out 3
      have x4 := Lib.cell_of_heap HBx.out 4
      have x5 := Lib.cell_of_heap HBx.out 5
      have x6 := Lib.cell_of_heap HBx.out 6
      have x7 := Lib.cell_of_heap HBx.out 7
      simp at x0 x1 x2 x3 x4 x5 x6 x7
      have hbl : wr.heap.size < w2.heap.size := (Array.getElem?_eq_some_iff.1 HBx.out).1
      have HIt := Lib.hid (wevent_any w2 B g c d false x HW2.out (Nat.le_trans hwB (Nat.le_of_lt hbl)) hix (by omega))
      go_wp2_with (go_at_call 27; go_must (refine HIt.out.mono ?_))
      rintro e w3 ⟨rfl, hw3, hb3, hk3⟩
      have HW3 := Lib.hid hw3
      have HB3 := Lib.hid (HB2.out.trans hb3)
      have HK3 := Lib.hid (HK2.out.trans hk3)
      clear hw3 hb3 hk3 HIt
      go_wp2
      exact ⟨⟨i + 1, by go_num, by rw [HL.out]; omega, by rw [HFn.out]; exact HW3.out, HB3.out, HK3.out⟩, by simp [intOf]; omega⟩
    · obtain rfl : i = n := by omega
      have hltI : ¬ (i : Int) < i := by omega
      rw [List.take_of_length_le (by rw [HL.out]; exact Nat.le_refl _), ← HF.out] at hw
      have HWf := Lib.hid hw
      have HBf := Lib.hid hb
      have HKf := Lib.hid hk
      clear hw hb hk
      go_wp2
      go_end0
      exact ⟨rfl, HWf.out, HBf.out, HKf.out⟩

def flagB (b : Bool) : List UInt8 := enc (bitN b)
def intB (n : Int) : List UInt8 := enc (zig n)
def flagC (b : Bool) : Value := .bool b
def intC (n : Int) : Value := .int .i64 n

set_option maxRecDepth 100000 in
set_option maxHeartbeats 2000000 in
theorem wputFlags_any (w : World) (B g : Nat) (l : List UInt8) (d : Int) (a : Option Addr) (n cap : Nat) (xs : List Bool) (h : WAt B w g l d false) (hB : B ≤ w.heap.size) (hkl : xs.length = n) (hr : ∀ W, Below B w W → Reads W 1 (.slice a n cap) n (xs.map flagC)) (hl : l.length + (listB flagB xs).length ≤ 1000000000) (hn : n ≤ 20000000) :
    Calls Tryz.prog 20 #[.pointer (some ⟨g, 0, none⟩), .slice a n cap, .func (.func 21) #[.pointer (some ⟨g, 0, none⟩)] #[]] w (WPost B w g (l ++ listB flagB xs) d false) := by
  obtain ⟨_, _, hv, hc1, hc2⟩ := (hr w (Below.refl _ _)).le
  cases hv
  unfold maxLen at hc2
  have hen : ∀ (args : Array Value) (w : World), (callFunc 21 args).run Tryz.prog w = .ok (.enter 21 args) w := fun _ _ => by kernel_rfl
  have hw0 : IntKind.u64.wrap (n : Int) = (n : Int) := by rw [IntKind.wrap_u64]; omega
  have heq : l ++ listB flagB xs = l ++ enc n ++ xs.flatMap flagB := by unfold listB; rw [hkl, List.append_assoc]
  have hlen := congrArg List.length heq
  simp only [List.length_append] at hlen
  obtain ⟨FIN, hF⟩ : ∃ FIN, l ++ listB flagB xs = FIN := ⟨_, rfl⟩
  rw [hF] at heq ⊢
  have HNum := Lib.hid (wnumber_any w B g l d false n h hB (by omega) (by omega))
  have HR := Lib.hid hr
  have HL := Lib.hid hkl
  clear h hr hkl hF
  go_enter Tryz.func20, Tryz.ntmps20
  go_wp2_with (go_at_call 17; go_must (refine HNum.out.mono ?_))
  rintro e w1 ⟨rfl, hw1, hb1, hk1⟩
  obtain ⟨L, hL⟩ : ∃ L, l ++ enc n = L := ⟨_, rfl⟩
  have hLl : L.length + (xs.flatMap flagB).length ≤ 1000000000 := by rw [← hL, List.length_append]; omega
  rw [hL] at hw1 heq
  have HF := Lib.hid heq
  have HW1 := Lib.hid hw1
  have HB1 := Lib.hid hb1
  have HK1 := Lib.hid hk1
  clear hw1 hb1 hk1 HNum hlen hL hl heq
  go_wp2
  go_loopw [15] (fun v wr => PLRel flagB B w g L d xs v wr) (fun v _ => n - (intOf v).toNat)
  case atStart => exact ⟨0, rfl, Nat.zero_le _, by simpa using HW1.out, HB1.out, HK1.out⟩
  case round =>
    obtain ⟨i, rfl, hin, hw, hb, hk⟩ := hrel
    rw [HL.out] at hin
    clear HW1 HB1 HK1
    by_cases hlt : i < n
    · have hltI : (i : Int) < n := by omega
      obtain ⟨x, hx⟩ : ∃ x, xs[i]? = some x := ⟨xs[i]'(by rw [HL.out]; exact hlt), List.getElem?_eq_getElem _⟩
      obtain ⟨b, off, hva, hb2, hcs⟩ := (HR.out wr hb).at (j := i) (u := flagC x) (by rw [List.getElem?_map, hx]; rfl)
      cases hva
      have hdeep : wr.cell? ⟨g, 2, none⟩ = some (.bool false) := by
        obtain ⟨_, _, q1, _, _⟩ := hw
        have := Lib.cell_of_heap q1 2
        simpa using this
      have hg := hw.lt
      have hne := flat_next flagB hx
      have htk := flat_take flagB xs (i + 1)
      rw [hne, List.length_append] at htk
      have hxm := List.mem_of_getElem? hx
      obtain ⟨c, hc⟩ : ∃ c, L ++ (xs.take i).flatMap flagB = c := ⟨_, rfl⟩
      have hcl : c.length + (flagB x).length ≤ 1000000000 := by rw [← hc, List.length_append]; omega
      have hfin : L ++ (xs.take (i + 1)).flatMap flagB = c ++ flagB x := by rw [hne, ← hc, List.append_assoc]
      rw [hc] at hw
      have hwB : B ≤ wr.heap.size := Nat.le_trans hB hb.size
      have HFn := Lib.hid hfin
      have HB2 := Lib.hid hb
      have HK2 := Lib.hid hk
      have hcl2 := hcl
      have HIt := Lib.hid (wtruth_any wr B g c d false x hw hwB (by omega))
      unfold flagC at hcs
      clear hw hb hk hfin hne htk hx hc
      go_wp2_with (go_at_call 21; go_must (refine HIt.out.mono ?_))
      rintro e w3 ⟨rfl, hw3, hb3, hk3⟩
      have HW3 := Lib.hid hw3
      have HB3 := Lib.hid (HB2.out.trans hb3)
      have HK3 := Lib.hid (HK2.out.trans hk3)
      clear hw3 hb3 hk3 HIt hcs hdeep
      go_wp2
      exact ⟨⟨i + 1, by go_num, by rw [HL.out]; omega, by rw [HFn.out]; exact HW3.out, HB3.out, HK3.out⟩, by simp [intOf]; omega⟩
    · obtain rfl : i = n := by omega
      have hltI : ¬ (i : Int) < i := by omega
      rw [List.take_of_length_le (by rw [HL.out]; exact Nat.le_refl _), ← HF.out] at hw
      have HWf := Lib.hid hw
      have HBf := Lib.hid hb
      have HKf := Lib.hid hk
      clear hw hb hk
      go_wp2
      go_end0
      exact ⟨rfl, HWf.out, HBf.out, HKf.out⟩

set_option maxRecDepth 100000 in
set_option maxHeartbeats 2000000 in
theorem wputInts_any (w : World) (B g : Nat) (l : List UInt8) (d : Int) (a : Option Addr) (n cap : Nat) (xs : List Int) (h : WAt B w g l d false) (hB : B ≤ w.heap.size) (hkl : xs.length = n) (hr : ∀ W, Below B w W → Reads W 1 (.slice a n cap) n (xs.map intC)) (hi : ∀ x ∈ xs, in64 x) (hl : l.length + (listB intB xs).length ≤ 1000000000) (hn : n ≤ 20000000) :
    Calls Tryz.prog 90 #[.pointer (some ⟨g, 0, none⟩), .slice a n cap, .func (.func 18) #[.pointer (some ⟨g, 0, none⟩)] #[]] w (WPost B w g (l ++ listB intB xs) d false) := by
  obtain ⟨_, _, hv, hc1, hc2⟩ := (hr w (Below.refl _ _)).le
  cases hv
  unfold maxLen at hc2
  have hen : ∀ (args : Array Value) (w : World), (callFunc 18 args).run Tryz.prog w = .ok (.enter 18 args) w := fun _ _ => by kernel_rfl
  have hw0 : IntKind.u64.wrap (n : Int) = (n : Int) := by rw [IntKind.wrap_u64]; omega
  have heq : l ++ listB intB xs = l ++ enc n ++ xs.flatMap intB := by unfold listB; rw [hkl, List.append_assoc]
  have hlen := congrArg List.length heq
  simp only [List.length_append] at hlen
  obtain ⟨FIN, hF⟩ : ∃ FIN, l ++ listB intB xs = FIN := ⟨_, rfl⟩
  rw [hF] at heq ⊢
  have HNum := Lib.hid (wnumber_any w B g l d false n h hB (by omega) (by omega))
  have HR := Lib.hid hr
  have HL := Lib.hid hkl
  have HIn := Lib.hid hi
  clear hi
  clear h hr hkl hF
  go_enter Tryz.func90, Tryz.ntmps90
  go_wp2_with (go_at_call 17; go_must (refine HNum.out.mono ?_))
  rintro e w1 ⟨rfl, hw1, hb1, hk1⟩
  obtain ⟨L, hL⟩ : ∃ L, l ++ enc n = L := ⟨_, rfl⟩
  have hLl : L.length + (xs.flatMap intB).length ≤ 1000000000 := by rw [← hL, List.length_append]; omega
  rw [hL] at hw1 heq
  have HF := Lib.hid heq
  have HW1 := Lib.hid hw1
  have HB1 := Lib.hid hb1
  have HK1 := Lib.hid hk1
  clear hw1 hb1 hk1 HNum hlen hL hl heq
  go_wp2
  go_loopw [15] (fun v wr => PLRel intB B w g L d xs v wr) (fun v _ => n - (intOf v).toNat)
  case atStart => exact ⟨0, rfl, Nat.zero_le _, by simpa using HW1.out, HB1.out, HK1.out⟩
  case round =>
    obtain ⟨i, rfl, hin, hw, hb, hk⟩ := hrel
    rw [HL.out] at hin
    clear HW1 HB1 HK1
    by_cases hlt : i < n
    · have hltI : (i : Int) < n := by omega
      obtain ⟨x, hx⟩ : ∃ x, xs[i]? = some x := ⟨xs[i]'(by rw [HL.out]; exact hlt), List.getElem?_eq_getElem _⟩
      obtain ⟨b, off, hva, hb2, hcs⟩ := (HR.out wr hb).at (j := i) (u := intC x) (by rw [List.getElem?_map, hx]; rfl)
      cases hva
      have hdeep : wr.cell? ⟨g, 2, none⟩ = some (.bool false) := by
        obtain ⟨_, _, q1, _, _⟩ := hw
        have := Lib.cell_of_heap q1 2
        simpa using this
      have hg := hw.lt
      have hne := flat_next intB hx
      have htk := flat_take intB xs (i + 1)
      rw [hne, List.length_append] at htk
      have hxm := List.mem_of_getElem? hx
      obtain ⟨c, hc⟩ : ∃ c, L ++ (xs.take i).flatMap intB = c := ⟨_, rfl⟩
      have hcl : c.length + (intB x).length ≤ 1000000000 := by rw [← hc, List.length_append]; omega
      have hfin : L ++ (xs.take (i + 1)).flatMap intB = c ++ intB x := by rw [hne, ← hc, List.append_assoc]
      rw [hc] at hw
      have hwB : B ≤ wr.heap.size := Nat.le_trans hB hb.size
      have HFn := Lib.hid hfin
      have HB2 := Lib.hid hb
      have HK2 := Lib.hid hk
      have hcl2 := hcl
      have hix := HIn.out x hxm
      have HIt := Lib.hid (wwhole_any wr B g c d false x hw hwB (by omega) hix)
      unfold intC at hcs
      clear hw hb hk hfin hne htk hx hc
      go_wp2_with (go_at_call 18; go_must (refine HIt.out.mono ?_))
      rintro e w3 ⟨rfl, hw3, hb3, hk3⟩
      have HW3 := Lib.hid hw3
      have HB3 := Lib.hid (HB2.out.trans hb3)
      have HK3 := Lib.hid (HK2.out.trans hk3)
      clear hw3 hb3 hk3 HIt hcs hdeep
      go_wp2
      exact ⟨⟨i + 1, by go_num, by rw [HL.out]; omega, by rw [HFn.out]; exact HW3.out, HB3.out, HK3.out⟩, by simp [intOf]; omega⟩
    · obtain rfl : i = n := by omega
      have hltI : ¬ (i : Int) < i := by omega
      rw [List.take_of_length_le (by rw [HL.out]; exact Nat.le_refl _), ← HF.out] at hw
      have HWf := Lib.hid hw
      have HBf := Lib.hid hb
      have HKf := Lib.hid hk
      clear hw hb hk
      go_wp2
      go_end0
      exact ⟨rfl, HWf.out, HBf.out, HKf.out⟩

set_option maxRecDepth 100000 in
set_option maxHeartbeats 2000000 in
theorem wputInts_deep (w : World) (B g : Nat) (l : List UInt8) (d : Int) (a : Option Addr) (n cap : Nat) (xs : List Int) (h : WAt B w g l d true) (hB : B ≤ w.heap.size) (hkl : xs.length = n) (hr : ∀ W, Below B w W → Reads W 1 (.slice a n cap) n (xs.map intC)) (hl : l.length + (listB intB xs).length ≤ 1000000000) (hn : n ≤ 20000000) :
    Calls Tryz.prog 90 #[.pointer (some ⟨g, 0, none⟩), .slice a n cap, .func (.func 18) #[.pointer (some ⟨g, 0, none⟩)] #[]] w (WPost B w g (l ++ enc n) d true) := by
  obtain ⟨_, _, hv, hc1, hc2⟩ := (hr w (Below.refl _ _)).le
  cases hv
  unfold maxLen at hc2
  have hw0 : IntKind.u64.wrap (n : Int) = (n : Int) := by rw [IntKind.wrap_u64]; omega
  have HNum := Lib.hid (wnumber_any w B g l d true n h hB (by omega) (by omega))
  have HR := Lib.hid hr
  have HL := Lib.hid hkl
  clear h hr hkl
  go_enter Tryz.func90, Tryz.ntmps90
  go_wp2_with (go_at_call 17; go_must (refine HNum.out.mono ?_))
  rintro e w1 ⟨rfl, hw1, hb1, hk1⟩
  have hdeep : w1.cell? ⟨g, 2, none⟩ = some (.bool true) := by
    obtain ⟨_, _, q1, _, _⟩ := hw1
    have := Lib.cell_of_heap q1 2
    simpa using this
  have hg := hw1.lt
  have HW1 := Lib.hid hw1
  have HB1 := Lib.hid hb1
  have HK1 := Lib.hid hk1
  clear hw1 hb1 hk1 HNum hl
  go_wp2
  go_loopw [15] (fun v wr => v = .int .i64 0 ∧ wr = w1) (fun _ _ => 0)
  case atStart => exact ⟨rfl, rfl⟩
  case round =>
    obtain ⟨rfl, rfl⟩ := hrel
    by_cases hlt : 0 < n
    · have hltI : (0 : Int) < n := by omega
      obtain ⟨x, hx⟩ : ∃ x, xs[0]? = some x := ⟨xs[0]'(by rw [HL.out]; exact hlt), List.getElem?_eq_getElem _⟩
      obtain ⟨b, off, hva, hb2, hcs⟩ := (HR.out wr HB1.out).at (j := 0) (u := intC x) (by rw [List.getElem?_map, hx]; rfl)
      cases hva
      unfold intC at hcs
      rw [Nat.add_zero] at hcs
      clear hx
      go_wp2
      go_end0
      exact ⟨rfl, HW1.out, HB1.out, HK1.out⟩
    · obtain rfl : n = 0 := by omega
      go_wp2
      go_end0
      exact ⟨rfl, HW1.out, HB1.out, HK1.out⟩
end Go.Proofs.YtdonibkkdhokpaaGreat
