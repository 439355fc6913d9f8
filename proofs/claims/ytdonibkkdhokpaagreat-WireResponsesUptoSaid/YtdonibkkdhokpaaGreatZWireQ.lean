/- The writer: lists (written by gen_wirelist.py). -/
import Derived.Test.YtdonibkkdhokpaaGreatZWireP
namespace Go.Proofs.YtdonibkkdhokpaaGreat
open Go Go.RowKit

theorem rows_at {α : Type} (f : α → List Value) (k : Nat) (hk : ∀ x, (f x).length = k) {w : World} {a : Option Addr} {n cap : Nat} {xs : List α} (h : Reads w k (.slice a n cap) n (xs.flatMap f)) {i : Nat} {x : α} (hx : xs[i]? = some x) (h0 : 0 < k) :
    ∃ b off, a = some ⟨b, off, none⟩ ∧ b < w.heap.size ∧ ∀ (j : Nat) (u : Value), (f x)[j]? = some u → w.cell? ⟨b, off + i * k + j, none⟩ = some u := by
  have hj0 : ∃ u, (f x)[0]? = some u := ⟨_, List.getElem?_eq_getElem (by rw [hk]; exact h0)⟩
  obtain ⟨u0, hu0⟩ := hj0
  obtain ⟨b, off, rfl, hb, _⟩ := h.at (j := i * k + 0) (u := u0) (by rw [flat_cell f k hk xs i x hx 0 h0]; exact hu0)
  refine ⟨b, off, rfl, hb, fun j u hj => ?_⟩
  have hjk : j < k := by
    have := (List.getElem?_eq_some_iff.1 hj).1
    rwa [hk] at this
  obtain ⟨b2, off2, hv, _, hc⟩ := h.at (j := i * k + j) (u := u) (by rw [flat_cell f k hk xs i x hx j hjk]; exact hj)
  cases hv
  rw [Nat.add_assoc]
  exact hc

def Wri.cells (x : Wri) : List Value := [.bool x.is, .string x.t.a, .string x.t.b, .string x.t.c, .string x.t.d, .string x.t.e, .string x.t.f]
def T6.cells (t : T6) : List Value := [.string t.a, .string t.b, .string t.c, .string t.d, .string t.e, .string t.f]
def Arg4.cells (x : Arg4) : List Value := [.string x.name, .int .i64 x.kind, .int .i64 x.n, .string x.s]

theorem flat_take {α : Type} (f : α → List UInt8) (xs : List α) (i : Nat) : ((xs.take i).flatMap f).length ≤ (xs.flatMap f).length := by
  have e : xs.flatMap f = (xs.take i).flatMap f ++ (xs.drop i).flatMap f := by
    rw [← List.flatMap_append, List.take_append_drop]
  rw [e, List.length_append]
  omega

theorem flat_next {α : Type} (f : α → List UInt8) {xs : List α} {i : Nat} {x : α} (h : xs[i]? = some x) : (xs.take (i + 1)).flatMap f = (xs.take i).flatMap f ++ f x := by
  rw [List.take_add_one, h]
  simp

def PLRel {α : Type} (f : α → List UInt8) (B : Nat) (w : World) (g : Nat) (l : List UInt8) (d : Int) (xs : List α) (v : Value) (wr : World) : Prop :=
  ∃ i : Nat, v = .int .i64 (i : Int) ∧ i ≤ xs.length ∧ WAt B wr g (l ++ (xs.take i).flatMap f) d false ∧ Below B w wr ∧ KeepW g w wr

set_option maxRecDepth 100000 in
set_option maxHeartbeats 2000000 in
theorem wputWrites_any (w : World) (B g : Nat) (l : List UInt8) (d : Int) (a : Option Addr) (n cap : Nat) (xs : List Wri) (h : WAt B w g l d false) (hB : B ≤ w.heap.size) (hkl : xs.length = n) (hr : ∀ W, Below B w W → Reads W 7 (.slice a n cap) n (xs.flatMap Wri.cells)) (hl : l.length + (listB wriB xs).length ≤ 1000000000) (hn : n ≤ 20000000) :
    Calls Tryz.prog 66 #[.pointer (some ⟨g, 0, none⟩), .slice a n cap, .func (.func 67) #[.pointer (some ⟨g, 0, none⟩)] #[]] w (WPost B w g (l ++ listB wriB xs) d false) := by
  obtain ⟨_, _, hv, hc1, hc2⟩ := (hr w (Below.refl _ _)).le
  cases hv
  unfold maxLen at hc2
  have hen : ∀ (args : Array Value) (w : World), (callFunc 67 args).run Tryz.prog w = .ok (.enter 67 args) w := fun _ _ => by kernel_rfl
  have hw0 : IntKind.u64.wrap (n : Int) = (n : Int) := by rw [IntKind.wrap_u64]; omega
  have heq : l ++ listB wriB xs = l ++ enc n ++ xs.flatMap wriB := by unfold listB; rw [hkl, List.append_assoc]
  have hlen := congrArg List.length heq
  simp only [List.length_append] at hlen
  obtain ⟨FIN, hF⟩ : ∃ FIN, l ++ listB wriB xs = FIN := ⟨_, rfl⟩
  rw [hF] at heq ⊢
  have HNum := Lib.hid (wnumber_any w B g l d false n h hB (by omega) (by omega))
  have HR := Lib.hid hr
  have HL := Lib.hid hkl
  clear h hr hkl hF
  go_enter Tryz.func66, Tryz.ntmps66
  go_wp2_with (go_at_call 17; go_must (refine HNum.out.mono ?_))
  rintro e w1 ⟨rfl, hw1, hb1, hk1⟩
  obtain ⟨L, hL⟩ : ∃ L, l ++ enc n = L := ⟨_, rfl⟩
  have hLl : L.length + (xs.flatMap wriB).length ≤ 1000000000 := by rw [← hL, List.length_append]; omega
  rw [hL] at hw1 heq
  have HF := Lib.hid heq
  have HW1 := Lib.hid hw1
  have HB1 := Lib.hid hb1
  have HK1 := Lib.hid hk1
  clear hw1 hb1 hk1 HNum hlen hL hl heq
  go_wp2
  go_loopw [15] (fun v wr => PLRel wriB B w g L d xs v wr) (fun v _ => n - (intOf v).toNat)
  case atStart => exact ⟨0, rfl, Nat.zero_le _, by simpa using HW1.out, HB1.out, HK1.out⟩
  case round =>
    obtain ⟨i, rfl, hin, hw, hb, hk⟩ := hrel
    rw [HL.out] at hin
    clear HW1 HB1 HK1
    by_cases hlt : i < n
    · have hltI : (i : Int) < n := by omega
      obtain ⟨x, hx⟩ : ∃ x, xs[i]? = some x := ⟨xs[i]'(by rw [HL.out]; exact hlt), List.getElem?_eq_getElem _⟩
      obtain ⟨b, off, rfl, hb2, hcs⟩ := rows_at Wri.cells 7 (fun _ => rfl) (HR.out wr hb) hx (by decide)
      have k0 := hcs 0 _ rfl
      have k1 := hcs 1 _ rfl
      have k2 := hcs 2 _ rfl
      have k3 := hcs 3 _ rfl
      have k4 := hcs 4 _ rfl
      have k5 := hcs 5 _ rfl
      have k6 := hcs 6 _ rfl
      simp only [Nat.add_zero] at k0
      have hne := flat_next wriB hx
      have htk := flat_take wriB xs (i + 1)
      rw [hne, List.length_append] at htk
      have hxm := List.mem_of_getElem? hx
      obtain ⟨c, hc⟩ : ∃ c, L ++ (xs.take i).flatMap wriB = c := ⟨_, rfl⟩
      have hcl : c.length + (wriB x).length ≤ 1000000000 := by rw [← hc, List.length_append]; omega
      have hfin : L ++ (xs.take (i + 1)).flatMap wriB = c ++ wriB x := by rw [hne, ← hc, List.append_assoc]
      rw [hc] at hw
      have hwB : B ≤ wr.heap.size := Nat.le_trans hB hb.size
      have hba : Below wr.heap.size wr (wr.alloc (.cells #[.bool x.is, .string x.t.a, .string x.t.b, .string x.t.c, .string x.t.d, .string x.t.e, .string x.t.f] 65)) := (Below.refl _ _).alloc (Nat.le_refl _) _
      have hbx : (wr.alloc (.cells #[.bool x.is, .string x.t.a, .string x.t.b, .string x.t.c, .string x.t.d, .string x.t.e, .string x.t.f] 65)).heap[wr.heap.size]? = some (.cells #[.bool x.is, .string x.t.a, .string x.t.b, .string x.t.c, .string x.t.d, .string x.t.e, .string x.t.f] 65 (0, 0)) := heap_alloc_new _ _
      have hdeep : (wr.alloc (.cells #[.bool x.is, .string x.t.a, .string x.t.b, .string x.t.c, .string x.t.d, .string x.t.e, .string x.t.f] 65)).cell? ⟨g, 2, none⟩ = some (.bool false) := by
        obtain ⟨_, _, q1, _, _⟩ := hw.below hba
        have := Lib.cell_of_heap q1 2
        simpa using this
      have hg := (hw.below hba).lt
      have HW2 := Lib.hid (hw.below hba)
      have HB2 := Lib.hid (hb.trans (hba.mono hwB))
      have HK2 := Lib.hid (hk.trans (KeepW.of_below (g := g) hba))
      have HBx := Lib.hid hbx
      have HFn := Lib.hid hfin
      have hc2' := hcl
      clear hw hb hk hba hbx hfin hne htk hx hc hcs
      go_upto_region 4 with fail
      generalize wr.alloc (.cells #[.bool x.is, .string x.t.a, .string x.t.b, .string x.t.c, .string x.t.d, .string x.t.e, .string x.t.f] 65) = w2 at *
      have x0 := Lib.cell_of_heap HBx.out 0
      have x1 := Lib.cell_of_heap HBx.out 1
      have x2 := Lib.cell_of_heap HBx.out 2
      have x3 := Lib.cell_of_heap HBx.out 3
      have x4 := Lib.cell_of_heap HBx.out 4
      have x5 := Lib.cell_of_heap HBx.out 5
      have x6 := Lib.cell_of_heap HBx.out 6
      simp at x0 x1 x2 x3 x4 x5 x6
      have hbl : wr.heap.size < w2.heap.size := (Array.getElem?_eq_some_iff.1 HBx.out).1
      have HIt := Lib.hid (wwrite_any w2 B g c d false x HW2.out (Nat.le_trans hwB (Nat.le_of_lt hbl)) (by omega))
      go_wp2_with (go_at_call 67; go_must (refine HIt.out.mono ?_))
      rintro e w3 ⟨rfl, hw3, hb3, hk3⟩
      have HW3 := Lib.hid hw3
      have HB3 := Lib.hid (HB2.out.trans hb3)
      have HK3 := Lib.hid (HK2.out.trans hk3)
      clear hw3 hb3 hk3 HIt
      go_wp2
      exact ⟨⟨i + 1, by go_num, by rw [HL.out]; omega, by rw [HFn.out]; exact HW3.out, HB3.out, HK3.out⟩, by simp [intOf]; omega⟩
    · obtain rfl : i = n := by omega
      have hltI : ¬ (i : Int) < i := by omega
      rw [List.take_of_length_le (by rw [HL.out]; exact Nat.le_refl _), ← HF.out] at hw
      have HWf := Lib.hid hw
      have HBf := Lib.hid hb
      have HKf := Lib.hid hk
      clear hw hb hk
      go_wp2
      go_end0
      exact ⟨rfl, HWf.out, HBf.out, HKf.out⟩

set_option maxRecDepth 100000 in
set_option maxHeartbeats 2000000 in
theorem wputPres_any (w : World) (B g : Nat) (l : List UInt8) (d : Int) (a : Option Addr) (n cap : Nat) (xs : List Wri) (h : WAt B w g l d false) (hB : B ≤ w.heap.size) (hkl : xs.length = n) (hr : ∀ W, Below B w W → Reads W 7 (.slice a n cap) n (xs.flatMap Wri.cells)) (hl : l.length + (listB wriB xs).length ≤ 1000000000) (hn : n ≤ 20000000) :
    Calls Tryz.prog 68 #[.pointer (some ⟨g, 0, none⟩), .slice a n cap, .func (.func 69) #[.pointer (some ⟨g, 0, none⟩)] #[]] w (WPost B w g (l ++ listB wriB xs) d false) := by
  obtain ⟨_, _, hv, hc1, hc2⟩ := (hr w (Below.refl _ _)).le
  cases hv
  unfold maxLen at hc2
  have hen : ∀ (args : Array Value) (w : World), (callFunc 69 args).run Tryz.prog w = .ok (.enter 69 args) w := fun _ _ => by kernel_rfl
  have hw0 : IntKind.u64.wrap (n : Int) = (n : Int) := by rw [IntKind.wrap_u64]; omega
  have heq : l ++ listB wriB xs = l ++ enc n ++ xs.flatMap wriB := by unfold listB; rw [hkl, List.append_assoc]
  have hlen := congrArg List.length heq
  simp only [List.length_append] at hlen
  obtain ⟨FIN, hF⟩ : ∃ FIN, l ++ listB wriB xs = FIN := ⟨_, rfl⟩
  rw [hF] at heq ⊢
  have HNum := Lib.hid (wnumber_any w B g l d false n h hB (by omega) (by omega))
  have HR := Lib.hid hr
  have HL := Lib.hid hkl
  clear h hr hkl hF
  go_enter Tryz.func68, Tryz.ntmps68
  go_wp2_with (go_at_call 17; go_must (refine HNum.out.mono ?_))
  rintro e w1 ⟨rfl, hw1, hb1, hk1⟩
  obtain ⟨L, hL⟩ : ∃ L, l ++ enc n = L := ⟨_, rfl⟩
  have hLl : L.length + (xs.flatMap wriB).length ≤ 1000000000 := by rw [← hL, List.length_append]; omega
  rw [hL] at hw1 heq
  have HF := Lib.hid heq
  have HW1 := Lib.hid hw1
  have HB1 := Lib.hid hb1
  have HK1 := Lib.hid hk1
  clear hw1 hb1 hk1 HNum hlen hL hl heq
  go_wp2
  go_loopw [15] (fun v wr => PLRel wriB B w g L d xs v wr) (fun v _ => n - (intOf v).toNat)
  case atStart => exact ⟨0, rfl, Nat.zero_le _, by simpa using HW1.out, HB1.out, HK1.out⟩
  case round =>
    obtain ⟨i, rfl, hin, hw, hb, hk⟩ := hrel
    rw [HL.out] at hin
    clear HW1 HB1 HK1
    by_cases hlt : i < n
    · have hltI : (i : Int) < n := by omega
      obtain ⟨x, hx⟩ : ∃ x, xs[i]? = some x := ⟨xs[i]'(by rw [HL.out]; exact hlt), List.getElem?_eq_getElem _⟩
      obtain ⟨b, off, rfl, hb2, hcs⟩ := rows_at Wri.cells 7 (fun _ => rfl) (HR.out wr hb) hx (by decide)
      have k0 := hcs 0 _ rfl
      have k1 := hcs 1 _ rfl
      have k2 := hcs 2 _ rfl
      have k3 := hcs 3 _ rfl
      have k4 := hcs 4 _ rfl
      have k5 := hcs 5 _ rfl
      have k6 := hcs 6 _ rfl
      simp only [Nat.add_zero] at k0
      have hne := flat_next wriB hx
      have htk := flat_take wriB xs (i + 1)
      rw [hne, List.length_append] at htk
      have hxm := List.mem_of_getElem? hx
      obtain ⟨c, hc⟩ : ∃ c, L ++ (xs.take i).flatMap wriB = c := ⟨_, rfl⟩
      have hcl : c.length + (wriB x).length ≤ 1000000000 := by rw [← hc, List.length_append]; omega
      have hfin : L ++ (xs.take (i + 1)).flatMap wriB = c ++ wriB x := by rw [hne, ← hc, List.append_assoc]
      rw [hc] at hw
      have hwB : B ≤ wr.heap.size := Nat.le_trans hB hb.size
      have hba : Below wr.heap.size wr (wr.alloc (.cells #[.bool x.is, .string x.t.a, .string x.t.b, .string x.t.c, .string x.t.d, .string x.t.e, .string x.t.f] 131)) := (Below.refl _ _).alloc (Nat.le_refl _) _
      have hbx : (wr.alloc (.cells #[.bool x.is, .string x.t.a, .string x.t.b, .string x.t.c, .string x.t.d, .string x.t.e, .string x.t.f] 131)).heap[wr.heap.size]? = some (.cells #[.bool x.is, .string x.t.a, .string x.t.b, .string x.t.c, .string x.t.d, .string x.t.e, .string x.t.f] 131 (0, 0)) := heap_alloc_new _ _
      have hdeep : (wr.alloc (.cells #[.bool x.is, .string x.t.a, .string x.t.b, .string x.t.c, .string x.t.d, .string x.t.e, .string x.t.f] 131)).cell? ⟨g, 2, none⟩ = some (.bool false) := by
        obtain ⟨_, _, q1, _, _⟩ := hw.below hba
        have := Lib.cell_of_heap q1 2
        simpa using this
      have hg := (hw.below hba).lt
      have HW2 := Lib.hid (hw.below hba)
      have HB2 := Lib.hid (hb.trans (hba.mono hwB))
      have HK2 := Lib.hid (hk.trans (KeepW.of_below (g := g) hba))
      have HBx := Lib.hid hbx
      have HFn := Lib.hid hfin
      have hc2' := hcl
      clear hw hb hk hba hbx hfin hne htk hx hc hcs
      go_upto_region 4 with fail
      generalize wr.alloc (.cells #[.bool x.is, .string x.t.a, .string x.t.b, .string x.t.c, .string x.t.d, .string x.t.e, .string x.t.f] 131) = w2 at *
      have x0 := Lib.cell_of_heap HBx.out 0
      have x1 := Lib.cell_of_heap HBx.out 1
      have x2 := Lib.cell_of_heap HBx.out 2
      have x3 := Lib.cell_of_heap HBx.out 3
      have x4 := Lib.cell_of_heap HBx.out 4
      have x5 := Lib.cell_of_heap HBx.out 5
      have x6 := Lib.cell_of_heap HBx.out 6
      simp at x0 x1 x2 x3 x4 x5 x6
      have hbl : wr.heap.size < w2.heap.size := (Array.getElem?_eq_some_iff.1 HBx.out).1
      have HIt := Lib.hid (wpre_any w2 B g c d false x HW2.out (Nat.le_trans hwB (Nat.le_of_lt hbl)) (by omega))
      go_wp2_with (go_at_call 69; go_must (refine HIt.out.mono ?_))
      rintro e w3 ⟨rfl, hw3, hb3, hk3⟩
      have HW3 := Lib.hid hw3
      have HB3 := Lib.hid (HB2.out.trans hb3)
      have HK3 := Lib.hid (HK2.out.trans hk3)
      clear hw3 hb3 hk3 HIt
      go_wp2
      exact ⟨⟨i + 1, by go_num, by rw [HL.out]; omega, by rw [HFn.out]; exact HW3.out, HB3.out, HK3.out⟩, by simp [intOf]; omega⟩
    · obtain rfl : i = n := by omega
      have hltI : ¬ (i : Int) < i := by omega
      rw [List.take_of_length_le (by rw [HL.out]; exact Nat.le_refl _), ← HF.out] at hw
      have HWf := Lib.hid hw
      have HBf := Lib.hid hb
      have HKf := Lib.hid hk
      clear hw hb hk
      go_wp2
      go_end0
      exact ⟨rfl, HWf.out, HBf.out, HKf.out⟩

set_option maxRecDepth 100000 in
set_option maxHeartbeats 2000000 in
theorem wputAsks_any (w : World) (B g : Nat) (l : List UInt8) (d : Int) (a : Option Addr) (n cap : Nat) (xs : List T6) (h : WAt B w g l d false) (hB : B ≤ w.heap.size) (hkl : xs.length = n) (hr : ∀ W, Below B w W → Reads W 6 (.slice a n cap) n (xs.flatMap T6.cells)) (hl : l.length + (listB t6B xs).length ≤ 1000000000) (hn : n ≤ 20000000) :
    Calls Tryz.prog 70 #[.pointer (some ⟨g, 0, none⟩), .slice a n cap, .func (.func 71) #[.pointer (some ⟨g, 0, none⟩)] #[]] w (WPost B w g (l ++ listB t6B xs) d false) := by
  obtain ⟨_, _, hv, hc1, hc2⟩ := (hr w (Below.refl _ _)).le
  cases hv
  unfold maxLen at hc2
  have hen : ∀ (args : Array Value) (w : World), (callFunc 71 args).run Tryz.prog w = .ok (.enter 71 args) w := fun _ _ => by kernel_rfl
  have hw0 : IntKind.u64.wrap (n : Int) = (n : Int) := by rw [IntKind.wrap_u64]; omega
  have heq : l ++ listB t6B xs = l ++ enc n ++ xs.flatMap t6B := by unfold listB; rw [hkl, List.append_assoc]
  have hlen := congrArg List.length heq
  simp only [List.length_append] at hlen
  obtain ⟨FIN, hF⟩ : ∃ FIN, l ++ listB t6B xs = FIN := ⟨_, rfl⟩
  rw [hF] at heq ⊢
  have HNum := Lib.hid (wnumber_any w B g l d false n h hB (by omega) (by omega))
  have HR := Lib.hid hr
  have HL := Lib.hid hkl
  clear h hr hkl hF
  go_enter Tryz.func70, Tryz.ntmps70
  go_wp2_with (go_at_call 17; go_must (refine HNum.out.mono ?_))
  rintro e w1 ⟨rfl, hw1, hb1, hk1⟩
  obtain ⟨L, hL⟩ : ∃ L, l ++ enc n = L := ⟨_, rfl⟩
  have hLl : L.length + (xs.flatMap t6B).length ≤ 1000000000 := by rw [← hL, List.length_append]; omega
  rw [hL] at hw1 heq
  have HF := Lib.hid heq
  have HW1 := Lib.hid hw1
  have HB1 := Lib.hid hb1
  have HK1 := Lib.hid hk1
  clear hw1 hb1 hk1 HNum hlen hL hl heq
  go_wp2
  go_loopw [15] (fun v wr => PLRel t6B B w g L d xs v wr) (fun v _ => n - (intOf v).toNat)
  case atStart => exact ⟨0, rfl, Nat.zero_le _, by simpa using HW1.out, HB1.out, HK1.out⟩
  case round =>
    obtain ⟨i, rfl, hin, hw, hb, hk⟩ := hrel
    rw [HL.out] at hin
    clear HW1 HB1 HK1
    by_cases hlt : i < n
    · have hltI : (i : Int) < n := by omega
      obtain ⟨x, hx⟩ : ∃ x, xs[i]? = some x := ⟨xs[i]'(by rw [HL.out]; exact hlt), List.getElem?_eq_getElem _⟩
      obtain ⟨b, off, rfl, hb2, hcs⟩ := rows_at T6.cells 6 (fun _ => rfl) (HR.out wr hb) hx (by decide)
      have k0 := hcs 0 _ rfl
      have k1 := hcs 1 _ rfl
      have k2 := hcs 2 _ rfl
      have k3 := hcs 3 _ rfl
      have k4 := hcs 4 _ rfl
      have k5 := hcs 5 _ rfl
      simp only [Nat.add_zero] at k0
      have hne := flat_next t6B hx
      have htk := flat_take t6B xs (i + 1)
      rw [hne, List.length_append] at htk
      have hxm := List.mem_of_getElem? hx
      obtain ⟨c, hc⟩ : ∃ c, L ++ (xs.take i).flatMap t6B = c := ⟨_, rfl⟩
      have hcl : c.length + (t6B x).length ≤ 1000000000 := by rw [← hc, List.length_append]; omega
      have hfin : L ++ (xs.take (i + 1)).flatMap t6B = c ++ t6B x := by rw [hne, ← hc, List.append_assoc]
      rw [hc] at hw
      have hwB : B ≤ wr.heap.size := Nat.le_trans hB hb.size
      have hba : Below wr.heap.size wr (wr.alloc (.cells #[.string x.a, .string x.b, .string x.c, .string x.d, .string x.e, .string x.f] 135)) := (Below.refl _ _).alloc (Nat.le_refl _) _
      have hbx : (wr.alloc (.cells #[.string x.a, .string x.b, .string x.c, .string x.d, .string x.e, .string x.f] 135)).heap[wr.heap.size]? = some (.cells #[.string x.a, .string x.b, .string x.c, .string x.d, .string x.e, .string x.f] 135 (0, 0)) := heap_alloc_new _ _
      have hdeep : (wr.alloc (.cells #[.string x.a, .string x.b, .string x.c, .string x.d, .string x.e, .string x.f] 135)).cell? ⟨g, 2, none⟩ = some (.bool false) := by
        obtain ⟨_, _, q1, _, _⟩ := hw.below hba
        have := Lib.cell_of_heap q1 2
        simpa using this
      have hg := (hw.below hba).lt
      have HW2 := Lib.hid (hw.below hba)
      have HB2 := Lib.hid (hb.trans (hba.mono hwB))
      have HK2 := Lib.hid (hk.trans (KeepW.of_below (g := g) hba))
      have HBx := Lib.hid hbx
      have HFn := Lib.hid hfin
      have hc2' := hcl
      clear hw hb hk hba hbx hfin hne htk hx hc hcs
      go_upto_region 4 with fail
      generalize wr.alloc (.cells #[.string x.a, .string x.b, .string x.c, .string x.d, .string x.e, .string x.f] 135) = w2 at *
      have x0 := Lib.cell_of_heap HBx.out 0
      have x1 := Lib.cell_of_heap HBx.out 1
      have x2 := Lib.cell_of_heap HBx.out 2
      have x3 := Lib.cell_of_heap HBx.out 3
      have x4 := Lib.cell_of_heap HBx.out 4
      have x5 := Lib.cell_of_heap HBx.out 5
      simp at x0 x1 x2 x3 x4 x5
      have hbl : wr.heap.size < w2.heap.size := (Array.getElem?_eq_some_iff.1 HBx.out).1
      have HIt := Lib.hid (wask_any w2 B g c d false x HW2.out (Nat.le_trans hwB (Nat.le_of_lt hbl)) (by omega))
      go_wp2_with (go_at_call 71; go_must (refine HIt.out.mono ?_))
      rintro e w3 ⟨rfl, hw3, hb3, hk3⟩
      have HW3 := Lib.hid hw3
      have HB3 := Lib.hid (HB2.out.trans hb3)
      have HK3 := Lib.hid (HK2.out.trans hk3)
      clear hw3 hb3 hk3 HIt
      go_wp2
      exact ⟨⟨i + 1, by go_num, by rw [HL.out]; omega, by rw [HFn.out]; exact HW3.out, HB3.out, HK3.out⟩, by simp [intOf]; omega⟩
    · obtain rfl : i = n := by omega
      have hltI : ¬ (i : Int) < i := by omega
      rw [List.take_of_length_le (by rw [HL.out]; exact Nat.le_refl _), ← HF.out] at hw
      have HWf := Lib.hid hw
      have HBf := Lib.hid hb
      have HKf := Lib.hid hk
      clear hw hb hk
      go_wp2
      go_end0
      exact ⟨rfl, HWf.out, HBf.out, HKf.out⟩

set_option maxRecDepth 100000 in
set_option maxHeartbeats 2000000 in
theorem wputArgs_any (w : World) (B g : Nat) (l : List UInt8) (d : Int) (a : Option Addr) (n cap : Nat) (xs : List Arg4) (h : WAt B w g l d false) (hB : B ≤ w.heap.size) (hkl : xs.length = n) (hr : ∀ W, Below B w W → Reads W 4 (.slice a n cap) n (xs.flatMap Arg4.cells)) (hi : ∀ x ∈ xs, in64 x.kind ∧ in64 x.n) (hl : l.length + (listB argB xs).length ≤ 1000000000) (hn : n ≤ 20000000) :
    Calls Tryz.prog 72 #[.pointer (some ⟨g, 0, none⟩), .slice a n cap, .func (.func 73) #[.pointer (some ⟨g, 0, none⟩)] #[]] w (WPost B w g (l ++ listB argB xs) d false) := by
  obtain ⟨_, _, hv, hc1, hc2⟩ := (hr w (Below.refl _ _)).le
  cases hv
  unfold maxLen at hc2
  have hen : ∀ (args : Array Value) (w : World), (callFunc 73 args).run Tryz.prog w = .ok (.enter 73 args) w := fun _ _ => by kernel_rfl
  have hw0 : IntKind.u64.wrap (n : Int) = (n : Int) := by rw [IntKind.wrap_u64]; omega
  have heq : l ++ listB argB xs = l ++ enc n ++ xs.flatMap argB := by unfold listB; rw [hkl, List.append_assoc]
  have hlen := congrArg List.length heq
  simp only [List.length_append] at hlen
  obtain ⟨FIN, hF⟩ : ∃ FIN, l ++ listB argB xs = FIN := ⟨_, rfl⟩
  rw [hF] at heq ⊢
  have HNum := Lib.hid (wnumber_any w B g l d false n h hB (by omega) (by omega))
  have HR := Lib.hid hr
  have HL := Lib.hid hkl
  have HIn := Lib.hid hi
  clear hi
  clear h hr hkl hF
  go_enter Tryz.func72, Tryz.ntmps72
  go_wp2_with (go_at_call 17; go_must (refine HNum.out.mono ?_))
  rintro e w1 ⟨rfl, hw1, hb1, hk1⟩
  obtain ⟨L, hL⟩ : ∃ L, l ++ enc n = L := ⟨_, rfl⟩
  have hLl : L.length + (xs.flatMap argB).length ≤ 1000000000 := by rw [← hL, List.length_append]; omega
  rw [hL] at hw1 heq
  have HF := Lib.hid heq
  have HW1 := Lib.hid hw1
  have HB1 := Lib.hid hb1
  have HK1 := Lib.hid hk1
  clear hw1 hb1 hk1 HNum hlen hL hl heq
  go_wp2
  go_loopw [15] (fun v wr => PLRel argB B w g L d xs v wr) (fun v _ => n - (intOf v).toNat)
  case atStart => exact ⟨0, rfl, Nat.zero_le _, by simpa using HW1.out, HB1.out, HK1.out⟩
  case round =>
    obtain ⟨i, rfl, hin, hw, hb, hk⟩ := hrel
    rw [HL.out] at hin
    clear HW1 HB1 HK1
    by_cases hlt : i < n
    · have hltI : (i : Int) < n := by omega
      obtain ⟨x, hx⟩ : ∃ x, xs[i]? = some x := ⟨xs[i]'(by rw [HL.out]; exact hlt), List.getElem?_eq_getElem _⟩
      obtain ⟨b, off, rfl, hb2, hcs⟩ := rows_at Arg4.cells 4 (fun _ => rfl) (HR.out wr hb) hx (by decide)
      have k0 := hcs 0 _ rfl
      have k1 := hcs 1 _ rfl
      have k2 := hcs 2 _ rfl
      have k3 := hcs 3 _ rfl
      simp only [Nat.add_zero] at k0
      have hne := flat_next argB hx
      have htk := flat_take argB xs (i + 1)
      rw [hne, List.length_append] at htk
      have hxm := List.mem_of_getElem? hx
      obtain ⟨c, hc⟩ : ∃ c, L ++ (xs.take i).flatMap argB = c := ⟨_, rfl⟩
      have hcl : c.length + (argB x).length ≤ 1000000000 := by rw [← hc, List.length_append]; omega
      have hfin : L ++ (xs.take (i + 1)).flatMap argB = c ++ argB x := by rw [hne, ← hc, List.append_assoc]
      rw [hc] at hw
      have hwB : B ≤ wr.heap.size := Nat.le_trans hB hb.size
      have hba : Below wr.heap.size wr (wr.alloc (.cells #[.string x.name, .int .i64 x.kind, .int .i64 x.n, .string x.s] 141)) := (Below.refl _ _).alloc (Nat.le_refl _) _
      have hbx : (wr.alloc (.cells #[.string x.name, .int .i64 x.kind, .int .i64 x.n, .string x.s] 141)).heap[wr.heap.size]? = some (.cells #[.string x.name, .int .i64 x.kind, .int .i64 x.n, .string x.s] 141 (0, 0)) := heap_alloc_new _ _
      have hdeep : (wr.alloc (.cells #[.string x.name, .int .i64 x.kind, .int .i64 x.n, .string x.s] 141)).cell? ⟨g, 2, none⟩ = some (.bool false) := by
        obtain ⟨_, _, q1, _, _⟩ := hw.below hba
        have := Lib.cell_of_heap q1 2
        simpa using this
      have hg := (hw.below hba).lt
      have HW2 := Lib.hid (hw.below hba)
      have HB2 := Lib.hid (hb.trans (hba.mono hwB))
      have HK2 := Lib.hid (hk.trans (KeepW.of_below (g := g) hba))
      have HBx := Lib.hid hbx
      have HFn := Lib.hid hfin
      have hc2' := hcl
      have hix := HIn.out x hxm
      clear hw hb hk hba hbx hfin hne htk hx hc hcs
      go_upto_region 4 with fail
      generalize wr.alloc (.cells #[.string x.name, .int .i64 x.kind, .int .i64 x.n, .string x.s] 141) = w2 at *
      have x0 := Lib.cell_of_heap HBx.out 0
      have x1 := Lib.cell_of_heap HBx.out 1
      have x2 := Lib.cell_of_heap HBx.out 2
      have x3 := Lib.cell_of_heap HBx.out 3
      simp at x0 x1 x2 x3
      have hbl : wr.heap.size < w2.heap.size := (Array.getElem?_eq_some_iff.1 HBx.out).1
      have HIt := Lib.hid (warg_any w2 B g c d false x HW2.out (Nat.le_trans hwB (Nat.le_of_lt hbl)) hix (by omega))
      go_wp2_with (go_at_call 73; go_must (refine HIt.out.mono ?_))
      rintro e w3 ⟨rfl, hw3, hb3, hk3⟩
      have HW3 := Lib.hid hw3
      have HB3 := Lib.hid (HB2.out.trans hb3)
      have HK3 := Lib.hid (HK2.out.trans hk3)
      clear hw3 hb3 hk3 HIt
      go_wp2
      exact ⟨⟨i + 1, by go_num, by rw [HL.out]; omega, by rw [HFn.out]; exact HW3.out, HB3.out, HK3.out⟩, by simp [intOf]; omega⟩
    · obtain rfl : i = n := by omega
      have hltI : ¬ (i : Int) < i := by omega
      rw [List.take_of_length_le (by rw [HL.out]; exact Nat.le_refl _), ← HF.out] at hw
      have HWf := Lib.hid hw
      have HBf := Lib.hid hb
      have HKf := Lib.hid hk
      clear hw hb hk
      go_wp2
      go_end0
      exact ⟨rfl, HWf.out, HBf.out, HKf.out⟩

end Go.Proofs.YtdonibkkdhokpaaGreat
