/- The writer's rule and node: their closures, and themselves (written by gen_wirewu.py). -/
import Derived.Test.YtdonibkkdhokpaaGreatZWireWt
namespace Go.Proofs.YtdonibkkdhokpaaGreat
open Go Go.RowKit

/-- A closure's boxes: the writer, and cells. -/
structure CBox (w : World) (g b1 b2 : Nat) (cs : Array Value) (ty : TypeId) : Prop where
  wr : w.heap[b1]? = some (.cells #[.pointer (some ⟨g, 0, none⟩)] 76 (0, 0))
  nd : w.heap[b2]? = some (.cells cs ty (0, 0))
  n1 : b1 ≠ g
  n2 : b2 ≠ g

theorem CBox.keep {w w' : World} {g b1 b2 : Nat} {cs : Array Value} {ty : TypeId} (h : CBox w g b1 b2 cs ty) (ht : ty ≠ 5) (k : KeepW g w w') : CBox w' g b1 b2 cs ty :=
  ⟨k _ _ _ _ h.wr (by decide) h.n1, k _ _ _ _ h.nd ht h.n2, h.n1, h.n2⟩

theorem wstexts {B : Nat} {w w' : World} {g : Nat} {l m : List UInt8} {d : Int} {e : Ending} (h : WPost B w g l d false e w') (hm : l = m) : WPost B w g m d false e w' := hm ▸ h

theorem flat_many {α : Type} (f : α → List UInt8) (h : ∀ x, 0 < (f x).length) : ∀ xs : List α, xs.length ≤ (xs.flatMap f).length
  | [] => by simp
  | x :: xs => by
    have h1 := flat_many f h xs
    have h2 := h x
    rw [List.flatMap_cons, List.length_append, List.length_cons]
    omega

theorem Tr.bytes_pos {α : Type} (f : α → List UInt8) (t : Tr α) : 0 < (t.bytes f).length := by
  cases t with
  | mk h ps =>
    rw [Tr.bytes_mk]
    unfold listB
    have := enc_pos ps.length
    simp only [List.length_append]
    omega

theorem flat_len3 (l : List T3) : (l.flatMap T3.cells).length = l.length * 3 := by
  induction l with
  | nil => rfl
  | cons x l ih =>
    rw [List.flatMap_cons, List.length_append, ih, List.length_cons, show (T3.cells x).length = 3 from rfl]
    omega

set_option maxRecDepth 100000 in
set_option maxHeartbeats 4000000 in
theorem wRuclo (n : Nat) (ih : WRuOk n) (h : RuH) (ps : List (Tr RuH)) (hps : ∀ p ∈ ps, p.depth ≤ n ∧ p.all ruIn) (hin : ruIn h) (w : World) (B g : Nat) (l : List UInt8) (d : Int) (a : Option Addr) (cap b1 b2 : Nat) (hw : WAt B w g l d false) (hB : B ≤ w.heap.size) (hcap : ps.length ≤ cap) (hr : TrsAt ruHd (· < B) 4 w a 0 ps)
    (hl : l.length + ((Tr.mk h ps).bytes ruB).length ≤ 1000000000) (hn : ps.length ≤ 1000000000) (hd0 : 0 ≤ d) (hd1 : d ≤ 64) (hx : CBox w g b1 b2 #[.int .i64 h.kind, .string h.a, .string h.b, .slice a ps.length cap] 71) :
    Calls Tryz.prog 110 #[.pointer (some ⟨b1, 0, none⟩), .pointer (some ⟨b2, 0, none⟩)] w (WSPost B w g (l ++ (Tr.mk h ps).bytes ruB) d (ps.all (fit d))) := by
  have hmf : ∀ (fn : Fn) (first cap : Array Value) (w : World), (Instr.makeFunc fn first cap).run Tryz.prog w = .ok (.func fn first cap) w := fun _ _ _ _ => rfl
  have heq : l ++ (Tr.mk h ps).bytes ruB = l ++ enc (zig h.kind) ++ txts [h.a, h.b] ++ listB (Tr.bytes ruB) ps := by
    rw [Tr.bytes_mk]
    simp [ruB]
  rw [heq]
  have hlen := congrArg List.length heq
  simp only [List.length_append] at hlen hl
  obtain ⟨RES, hR⟩ : ∃ R, ps.all (fit d) = R := ⟨_, rfl⟩
  have HRes := Lib.hid hR
  rw [hR]
  obtain ⟨l1, hl1⟩ : ∃ z, l ++ enc (zig h.kind) = z := ⟨_, rfl⟩
  rw [hl1]
  obtain ⟨l2, hl2⟩ : ∃ z, l1 ++ txts [h.a, h.b] = z := ⟨_, rfl⟩
  rw [hl2]
  have hz1 : l1.length = l.length + (enc (zig h.kind)).length := by rw [← hl1, List.length_append]
  have hz2 : l2.length = l1.length + (txts [h.a, h.b]).length := by rw [← hl2, List.length_append]
  obtain ⟨FIN, hF⟩ : ∃ F, l2 ++ listB (Tr.bytes ruB) ps = F := ⟨_, rfl⟩
  rw [hF]
  have HF := Lib.hid hF
  have HW := Lib.hid hw
  have HX := Lib.hid hx
  have HB := Lib.hid (Below.refl B w)
  have HK := Lib.hid (KeepW.refl g w)
  have HR := Lib.hid hr
  have HIh := Lib.hid ih
  have HPs := Lib.hid hps
  have Hl1 := Lib.hid hl1
  have Hl2 := Lib.hid hl2
  clear hw hx hr ih hps heq hR hF hl1 hl2
  go_enter Tryz.func110, Tryz.ntmps110
  have q0 := Lib.cell_of_heap HX.out.wr 0
  have z0 := Lib.cell_of_heap HX.out.nd 0
  simp at q0 z0
  have hb1 := (Array.getElem?_eq_some_iff.1 HX.out.wr).1
  have hb2 := (Array.getElem?_eq_some_iff.1 HX.out.nd).1
  have hC := wwhole_any w B g l d false h.kind HW.out hB (by omega) hin
  rw [Hl1.out] at hC
  have HC := Lib.hid hC
  clear HW hC
  go_wp2_with (go_at_call 18; go_must (refine HC.out.mono ?_))
  rintro e w1 ⟨rfl, hw, hb, hk⟩
  have HW := Lib.hid hw
  have HX := Lib.hid (HX.out.keep (by decide) hk)
  have HB := Lib.hid (HB.out.trans hb)
  have HK := Lib.hid (HK.out.trans hk)
  clear HC hw hb hk q0 z0 hb1 hb2
  have q0 := Lib.cell_of_heap HX.out.wr 0
  have z1 := Lib.cell_of_heap HX.out.nd 1
  have z2 := Lib.cell_of_heap HX.out.nd 2
  simp at q0 z1 z2
  have hb1 := (Array.getElem?_eq_some_iff.1 HX.out.wr).1
  have hb2 := (Array.getElem?_eq_some_iff.1 HX.out.nd).1
  have hla : Below w1.heap.size w1 (w1.alloc (.cells #[.string h.a, .string h.b] 9)) := (Below.refl _ _).alloc (Nat.le_refl _) _
  have hC := wtexts_any (w1.alloc (.cells #[.string h.a, .string h.b] 9)) B g l1 d false w1.heap.size 2 [h.a, h.b] (HW.out.below hla) (Nat.le_trans hB (Nat.le_trans HB.out.size hla.size)) rfl (by decide) (heap_alloc_new _ _) (by have := HW.out.lt; omega) (by omega)
  rw [Hl2.out] at hC
  have HC := Lib.hid hC
  have HL := Lib.hid hla
  clear hla HW hC
  go_wp2_with (go_at_call 19; go_must (refine HC.out.mono ?_))
  rintro e w2 ⟨rfl, hw, hb, hk⟩
  have hk := (KeepW.of_below (g := g) HL.out).trans hk
  have hb := (HL.out.mono (Nat.le_trans hB HB.out.size)).trans hb
  have HW := Lib.hid hw
  have HX := Lib.hid (HX.out.keep (by decide) hk)
  have HB := Lib.hid (HB.out.trans hb)
  have HK := Lib.hid (HK.out.trans hk)
  clear HC hw hb hk q0 z1 z2 hb1 hb2 HL
  have q0 := Lib.cell_of_heap HX.out.wr 0
  have z3 := Lib.cell_of_heap HX.out.nd 3
  simp at q0 z3
  have hb1 := (Array.getElem?_eq_some_iff.1 HX.out.wr).1
  have hb2 := (Array.getElem?_eq_some_iff.1 HX.out.nd).1
  have HC := Lib.hid (wputRus_any n HIh.out w2 B g l2 d a ps.length cap ps HW.out (Nat.le_trans hB HB.out.size) HPs.out (TrsAt.keep (Keeps.of_below HB.out) (ruHd_keep (Keeps.of_below HB.out)) ps HR.out) rfl hcap (by omega) hn hd0 hd1)
  rw [HF.out, HRes.out] at HC
  clear HW
  go_wp2_with (go_at_call 111; go_must (refine HC.out.mono ?_))
  rintro e wz ⟨rfl, hw, hb, hk⟩
  have HWz := Lib.hid hw
  have HBz := Lib.hid (HB.out.trans hb)
  have HKz := Lib.hid (HK.out.trans hk)
  clear hw hb hk HC
  go_wp2
  go_end0
  exact ⟨rfl, HWz.out, HBz.out, HKz.out⟩

set_option maxRecDepth 100000 in
set_option maxHeartbeats 4000000 in
theorem wRuwithin (n : Nat) (ih : WRuOk n) (h : RuH) (ps : List (Tr RuH)) (hps : ∀ p ∈ ps, p.depth ≤ n ∧ p.all ruIn) (hin : ruIn h) (w : World) (B g : Nat) (l : List UInt8) (d : Int) (a : Option Addr) (cap b1 b2 : Nat) (hw : WAt B w g l d false) (hB : B ≤ w.heap.size) (hcap : ps.length ≤ cap) (hr : TrsAt ruHd (· < B) 4 w a 0 ps)
    (hl : l.length + ((Tr.mk h ps).bytes ruB).length ≤ 1000000000) (hn : ps.length ≤ 1000000000) (hd0 : 0 ≤ d) (hd1 : d ≤ 64) (hx : CBox w g b1 b2 #[.int .i64 h.kind, .string h.a, .string h.b, .slice a ps.length cap] 71) :
    Calls Tryz.prog 91 #[.pointer (some ⟨g, 0, none⟩), .func (.func 110) #[] #[.pointer (some ⟨b1, 0, none⟩), .pointer (some ⟨b2, 0, none⟩)]] w (WSPost B w g (l ++ (Tr.mk h ps).bytes ruB) d (fit d (Tr.mk h ps))) := by
  have hen : ∀ (args : Array Value) (w : World), (callFunc 110 args).run Tryz.prog w = .ok (.enter 110 args) w := fun _ _ => by kernel_rfl
  have hg := hw.lt
  have hBg : B ≤ g := by obtain ⟨_, _, _, _, h3⟩ := hw; exact h3
  obtain ⟨wa, wc, h1, _, _⟩ := id hw
  have c1 := Lib.cell_of_heap h1 1
  have c2 := Lib.cell_of_heap h1 2
  have cf1 := Lib.frozen_of_heap h1 1
  have cf2 := Lib.frozen_of_heap h1 2
  simp at c1 c2
  have hwr : IntKind.i64.wrap (d + 1) = d + 1 := by rw [IntKind.wrap_i64]; omega
  have hwm : IntKind.i64.wrap (d + 1 - 1) = d := by rw [IntKind.wrap_i64]; omega
  by_cases h64 : d + 1 ≤ 64
  · have h64I : ¬ (64 : Int) < d + 1 := by omega
    have hw1 := (hw.depth (d + 1)).deepSet false
    have hk1 : KeepW g w ((w.setCell ⟨g, 1, none⟩ (.int .i64 (d + 1))).setCell ⟨g, 2, none⟩ (.bool false)) := (KeepW.store g w 1 _).trans (KeepW.store g _ 2 _)
    have hb1 : Below B w ((w.setCell ⟨g, 1, none⟩ (.int .i64 (d + 1))).setCell ⟨g, 2, none⟩ (.bool false)) := ((Below.refl B w).setCell (p := ⟨g, 1, none⟩) hBg _).setCell (p := ⟨g, 2, none⟩) hBg _
    have hC := wRuclo n ih h ps hps hin _ B g l (d + 1) a cap b1 b2 hw1 (Nat.le_trans hB hb1.size) hcap (TrsAt.keep (Keeps.of_below hb1) (ruHd_keep (Keeps.of_below hb1)) ps hr) hl hn (by omega) h64 (hx.keep (by decide) hk1)
    rw [fit_all h ps h64] at hC
    obtain ⟨RES, hR⟩ : ∃ R, fit d (Tr.mk h ps) = R := ⟨_, rfl⟩
    obtain ⟨FIN, hF⟩ : ∃ R, l ++ (Tr.mk h ps).bytes ruB = R := ⟨_, rfl⟩
    rw [hR, hF] at hC ⊢
    have HC := Lib.hid hC
    have HB1 := Lib.hid hb1
    have HK1 := Lib.hid hk1
    clear hw hw1 hk1 hb1 h1 hx hC hR hF hr hps ih hl
    go_enter Tryz.func91, Tryz.ntmps91
    go_wp2_with (go_at_call 110; go_must (refine HC.out.mono ?_))
    rintro e w2 ⟨rfl, hw, hb, hk⟩
    obtain ⟨l2, dp, hat⟩ := hw.at
    have hgl := hat.lt
    obtain ⟨a2, cap2, h2, _, _⟩ := id hat
    have y1 := Lib.cell_of_heap h2 1
    have yf := Lib.frozen_of_heap h2 1
    simp at y1
    have HW := Lib.hid (hw.depth d)
    have HB := Lib.hid (((HB1.out.trans hb)).setCell (p := ⟨g, 1, none⟩) hBg (.int .i64 d))
    have HK := Lib.hid ((HK1.out.trans hk).trans (KeepW.store g w2 1 (.int .i64 d)))
    clear hw hb hk h2 HC HB1 HK1 hat
    go_wp2
    go_end0
    exact ⟨rfl, HW.out, HB.out, HK.out⟩
  · have h64I : (64 : Int) < d + 1 := by omega
    rw [fit_deep (Tr.mk h ps) h64]
    have hw1 := ((hw.depth (d + 1)).deepSet true).depth d
    have hk1 : KeepW g w (((w.setCell ⟨g, 1, none⟩ (.int .i64 (d + 1))).setCell ⟨g, 2, none⟩ (.bool true)).setCell ⟨g, 1, none⟩ (.int .i64 d)) := ((KeepW.store g w 1 _).trans (KeepW.store g _ 2 _)).trans (KeepW.store g _ 1 _)
    have hb1 : Below B w (((w.setCell ⟨g, 1, none⟩ (.int .i64 (d + 1))).setCell ⟨g, 2, none⟩ (.bool true)).setCell ⟨g, 1, none⟩ (.int .i64 d)) := (((Below.refl B w).setCell (p := ⟨g, 1, none⟩) hBg _).setCell (p := ⟨g, 2, none⟩) hBg _).setCell (p := ⟨g, 1, none⟩) hBg _
    have HW := Lib.hid (show WS B _ g (l ++ (Tr.mk h ps).bytes ruB) d false from .inr ⟨rfl, l, by rw [List.length_append]; omega, hw1⟩)
    have HB := Lib.hid hb1
    have HK := Lib.hid hk1
    obtain ⟨FIN, hF⟩ : ∃ R, l ++ (Tr.mk h ps).bytes ruB = R := ⟨_, rfl⟩
    rw [hF] at HW ⊢
    clear hw hw1 hk1 hb1 h1 hx hr hps ih hl hF
    go_enter Tryz.func91, Tryz.ntmps91
    go_wp2
    go_end0
    exact ⟨rfl, HW.out, HB.out, HK.out⟩

set_option maxRecDepth 100000 in
set_option maxHeartbeats 4000000 in
theorem wRu_ok : ∀ n : Nat, WRuOk n
  | 0 => fun h ps hd => by rw [Tr.depth_mk] at hd; omega
  | n + 1 => by
    have ih := wRu_ok n
    intro h ps hd hal w B g l d a cap hw hB hcap _ hr hl hd0 hd1
    rw [Tr.depth_mk] at hd
    obtain ⟨hin, hals⟩ := (Tr.all_mk _ _ _).1 hal
    have hps : ∀ p ∈ ps, p.depth ≤ n ∧ p.all ruIn := fun p hp => ⟨(Tr.depthL_le ps).1 (by omega) p hp, hals p hp⟩
    have hn : ps.length ≤ 1000000000 := by
      have h1 := flat_many (Tr.bytes ruB) (Tr.bytes_pos ruB) ps
      rw [Tr.bytes_mk, List.length_append] at hl
      unfold listB at hl
      rw [List.length_append] at hl
      omega
    have hmf : ∀ (fn : Fn) (first cap : Array Value) (w : World), (Instr.makeFunc fn first cap).run Tryz.prog w = .ok (.func fn first cap) w := fun _ _ _ _ => rfl
    have hg := hw.lt
    have hb0 : Below w.heap.size w ((w.alloc (.cells #[.pointer (some ⟨g, 0, none⟩)] 76)).alloc (.cells #[.int .i64 h.kind, .string h.a, .string h.b, .slice a ps.length cap] 71)) := ((Below.refl _ _).alloc (Nat.le_refl _) _).alloc (by simp) _
    have hx1 : ((w.alloc (.cells #[.pointer (some ⟨g, 0, none⟩)] 76)).alloc (.cells #[.int .i64 h.kind, .string h.a, .string h.b, .slice a ps.length cap] 71)).heap[w.heap.size]? = some (.cells #[.pointer (some ⟨g, 0, none⟩)] 76 (0, 0)) := (Below.heap_alloc _ _ _ (by simp)).trans (heap_alloc_new _ _)
    have hx2 : ((w.alloc (.cells #[.pointer (some ⟨g, 0, none⟩)] 76)).alloc (.cells #[.int .i64 h.kind, .string h.a, .string h.b, .slice a ps.length cap] 71)).heap[w.heap.size + 1]? = some (.cells #[.int .i64 h.kind, .string h.a, .string h.b, .slice a ps.length cap] 71 (0, 0)) := by
      have := heap_alloc_new (w.alloc (.cells #[.pointer (some ⟨g, 0, none⟩)] 76)) (.cells #[.int .i64 h.kind, .string h.a, .string h.b, .slice a ps.length cap] 71)
      simpa using this
    have hbB := hb0.mono hB
    have hC := wRuwithin n ih h ps hps hin ((w.alloc (.cells #[.pointer (some ⟨g, 0, none⟩)] 76)).alloc (.cells #[.int .i64 h.kind, .string h.a, .string h.b, .slice a ps.length cap] 71)) B g l d a cap w.heap.size (w.heap.size + 1) (hw.below hb0) (Nat.le_trans hB hb0.size) hcap (TrsAt.keep (Keeps.of_below hbB) (ruHd_keep (Keeps.of_below hbB)) ps hr) hl hn hd0 hd1 ⟨hx1, hx2, by omega, by omega⟩
    obtain ⟨RES, hR⟩ : ∃ R, fit d (Tr.mk h ps) = R := ⟨_, rfl⟩
    obtain ⟨FIN, hF⟩ : ∃ R, l ++ (Tr.mk h ps).bytes ruB = R := ⟨_, rfl⟩
    rw [hR, hF] at hC ⊢
    have HC := Lib.hid hC
    have HB := Lib.hid hbB
    have HK := Lib.hid (KeepW.of_below (g := g) hb0)
    have q0 := Lib.cell_of_heap hx1 0
    simp at q0
    clear hw hb0 hx1 hx2 hbB hC hR hF hr hps hal hals ih hl hd
    go_enter Tryz.func89, Tryz.ntmps89
    go_wp2_with (go_at_call 91; go_must (refine HC.out.mono ?_))
    rintro e w2 ⟨rfl, hw, hb, hk⟩
    have HW := Lib.hid hw
    have HB2 := Lib.hid (HB.out.trans hb)
    have HK2 := Lib.hid (HK.out.trans hk)
    clear hw hb hk HC HB HK q0
    go_wp2
    go_end0
    exact ⟨rfl, HW.out, HB2.out, HK2.out⟩

set_option maxRecDepth 100000 in
set_option maxHeartbeats 4000000 in
theorem wNoclo (n : Nat) (ih : WNoOk n) (h : NoH) (ps : List (Tr NoH)) (hps : ∀ p ∈ ps, p.depth ≤ n ∧ p.all noIn) (hin : noIn h) (w : World) (B g : Nat) (l : List UInt8) (d : Int) (a : Option Addr) (cap b1 b2 : Nat) (sa : Option Addr) (sc : Nat) (hw : WAt B w g l d false) (hB : B ≤ w.heap.size) (hcap : ps.length ≤ cap) (hr : TrsAt noHd (· < B) 6 w a 0 ps) (hrw : RowsAt (· < B) w (.slice sa h.subs.length sc) h.subs.length (h.subs.flatMap T3.cells))
    (hl : l.length + ((Tr.mk h ps).bytes noB).length ≤ 1000000000) (hn : ps.length ≤ 1000000000) (hd0 : 0 ≤ d) (hd1 : d ≤ 64) (hx : CBox w g b1 b2 #[.int .i64 h.kind, .string h.o, .string h.i, .string h.rel, .slice sa h.subs.length sc, .slice a ps.length cap] 34) :
    Calls Tryz.prog 92 #[.pointer (some ⟨b1, 0, none⟩), .pointer (some ⟨b2, 0, none⟩)] w (WSPost B w g (l ++ (Tr.mk h ps).bytes noB) d (ps.all (fit d))) := by
  have hmf : ∀ (fn : Fn) (first cap : Array Value) (w : World), (Instr.makeFunc fn first cap).run Tryz.prog w = .ok (.func fn first cap) w := fun _ _ _ _ => rfl
  have heq : l ++ (Tr.mk h ps).bytes noB = l ++ enc (zig h.kind) ++ txts [h.o, h.i] ++ txts [h.rel] ++ listB t3B h.subs ++ listB (Tr.bytes noB) ps := by
    rw [Tr.bytes_mk]
    simp [noB]
  rw [heq]
  have hlen := congrArg List.length heq
  simp only [List.length_append] at hlen hl
  obtain ⟨RES, hR⟩ : ∃ R, ps.all (fit d) = R := ⟨_, rfl⟩
  have HRes := Lib.hid hR
  rw [hR]
  obtain ⟨l1, hl1⟩ : ∃ z, l ++ enc (zig h.kind) = z := ⟨_, rfl⟩
  rw [hl1]
  obtain ⟨l2, hl2⟩ : ∃ z, l1 ++ txts [h.o, h.i] = z := ⟨_, rfl⟩
  rw [hl2]
  obtain ⟨l3, hl3⟩ : ∃ z, l2 ++ txts [h.rel] = z := ⟨_, rfl⟩
  rw [hl3]
  obtain ⟨l4, hl4⟩ : ∃ z, l3 ++ listB t3B h.subs = z := ⟨_, rfl⟩
  rw [hl4]
  have hz1 : l1.length = l.length + (enc (zig h.kind)).length := by rw [← hl1, List.length_append]
  have hz2 : l2.length = l1.length + (txts [h.o, h.i]).length := by rw [← hl2, List.length_append]
  have hz3 : l3.length = l2.length + (txts [h.rel]).length := by rw [← hl3, List.length_append]
  have hz4 : l4.length = l3.length + (listB t3B h.subs).length := by rw [← hl4, List.length_append]
  obtain ⟨FIN, hF⟩ : ∃ F, l4 ++ listB (Tr.bytes noB) ps = F := ⟨_, rfl⟩
  rw [hF]
  have HF := Lib.hid hF
  have HW := Lib.hid hw
  have HX := Lib.hid hx
  have HB := Lib.hid (Below.refl B w)
  have HK := Lib.hid (KeepW.refl g w)
  have HR := Lib.hid hr
  have HIh := Lib.hid ih
  have HPs := Lib.hid hps
  have HS := Lib.hid hrw
  have Hl1 := Lib.hid hl1
  have Hl2 := Lib.hid hl2
  have Hl3 := Lib.hid hl3
  have Hl4 := Lib.hid hl4
  clear hw hx hr ih hps heq hR hF hrw hl1 hl2 hl3 hl4
  go_enter Tryz.func92, Tryz.ntmps92
  have q0 := Lib.cell_of_heap HX.out.wr 0
  have z0 := Lib.cell_of_heap HX.out.nd 0
  simp at q0 z0
  have hb1 := (Array.getElem?_eq_some_iff.1 HX.out.wr).1
  have hb2 := (Array.getElem?_eq_some_iff.1 HX.out.nd).1
  have hC := wwhole_any w B g l d false h.kind HW.out hB (by omega) hin.1
  rw [Hl1.out] at hC
  have HC := Lib.hid hC
  clear HW hC
  go_wp2_with (go_at_call 18; go_must (refine HC.out.mono ?_))
  rintro e w1 ⟨rfl, hw, hb, hk⟩
  have HW := Lib.hid hw
  have HX := Lib.hid (HX.out.keep (by decide) hk)
  have HB := Lib.hid (HB.out.trans hb)
  have HK := Lib.hid (HK.out.trans hk)
  clear HC hw hb hk q0 z0 hb1 hb2
  have q0 := Lib.cell_of_heap HX.out.wr 0
  have z1 := Lib.cell_of_heap HX.out.nd 1
  have z2 := Lib.cell_of_heap HX.out.nd 2
  simp at q0 z1 z2
  have hb1 := (Array.getElem?_eq_some_iff.1 HX.out.wr).1
  have hb2 := (Array.getElem?_eq_some_iff.1 HX.out.nd).1
  have hC := wobj_any w1 B g l1 d false h.o h.i HW.out (Nat.le_trans hB HB.out.size) (by omega)
  rw [Hl2.out] at hC
  have HC := Lib.hid hC
  clear HW hC
  go_wp2_with (go_at_call 25; go_must (refine HC.out.mono ?_))
  rintro e w2 ⟨rfl, hw, hb, hk⟩
  have HW := Lib.hid hw
  have HX := Lib.hid (HX.out.keep (by decide) hk)
  have HB := Lib.hid (HB.out.trans hb)
  have HK := Lib.hid (HK.out.trans hk)
  clear HC hw hb hk q0 z1 z2 hb1 hb2
  have q0 := Lib.cell_of_heap HX.out.wr 0
  have z3 := Lib.cell_of_heap HX.out.nd 3
  simp at q0 z3
  have hb1 := (Array.getElem?_eq_some_iff.1 HX.out.wr).1
  have hb2 := (Array.getElem?_eq_some_iff.1 HX.out.nd).1
  have hla : Below w2.heap.size w2 (w2.alloc (.cells #[.string h.rel] 9)) := (Below.refl _ _).alloc (Nat.le_refl _) _
  have hC := wtexts_any (w2.alloc (.cells #[.string h.rel] 9)) B g l2 d false w2.heap.size 1 [h.rel] (HW.out.below hla) (Nat.le_trans hB (Nat.le_trans HB.out.size hla.size)) rfl (by decide) (heap_alloc_new _ _) (by have := HW.out.lt; omega) (by omega)
  rw [Hl3.out] at hC
  have HC := Lib.hid hC
  have HL := Lib.hid hla
  clear hla HW hC
  go_wp2_with (go_at_call 19; go_must (refine HC.out.mono ?_))
  rintro e w3 ⟨rfl, hw, hb, hk⟩
  have hk := (KeepW.of_below (g := g) HL.out).trans hk
  have hb := (HL.out.mono (Nat.le_trans hB HB.out.size)).trans hb
  have HW := Lib.hid hw
  have HX := Lib.hid (HX.out.keep (by decide) hk)
  have HB := Lib.hid (HB.out.trans hb)
  have HK := Lib.hid (HK.out.trans hk)
  clear HC hw hb hk q0 z3 hb1 hb2 HL
  have q0 := Lib.cell_of_heap HX.out.wr 0
  have z4 := Lib.cell_of_heap HX.out.nd 4
  simp at q0 z4
  have hb1 := (Array.getElem?_eq_some_iff.1 HX.out.wr).1
  have hb2 := (Array.getElem?_eq_some_iff.1 HX.out.nd).1
  have hC := wputSubs_any w3 B g l3 d sa h.subs.length sc h.subs HW.out (Nat.le_trans hB HB.out.size) rfl (fun W k => ((HS.out.keep (Keeps.of_below (HB.out.trans k)))).reads (flat_len3 h.subs)) (by omega) hin.2
  rw [Hl4.out] at hC
  have HC := Lib.hid hC
  clear HW hC
  go_wp2_with (go_at_call 93; go_must (refine HC.out.mono ?_))
  rintro e w4 ⟨rfl, hw, hb, hk⟩
  have HW := Lib.hid hw
  have HX := Lib.hid (HX.out.keep (by decide) hk)
  have HB := Lib.hid (HB.out.trans hb)
  have HK := Lib.hid (HK.out.trans hk)
  clear HC hw hb hk q0 z4 hb1 hb2
  have q0 := Lib.cell_of_heap HX.out.wr 0
  have z5 := Lib.cell_of_heap HX.out.nd 5
  simp at q0 z5
  have hb1 := (Array.getElem?_eq_some_iff.1 HX.out.wr).1
  have hb2 := (Array.getElem?_eq_some_iff.1 HX.out.nd).1
  have HC := Lib.hid (wputNos_any n HIh.out w4 B g l4 d a ps.length cap ps HW.out (Nat.le_trans hB HB.out.size) HPs.out (TrsAt.keep (Keeps.of_below HB.out) (noHd_keep (Keeps.of_below HB.out)) ps HR.out) rfl hcap (by omega) hn hd0 hd1)
  rw [HF.out, HRes.out] at HC
  clear HW
  go_wp2_with (go_at_call 94; go_must (refine HC.out.mono ?_))
  rintro e wz ⟨rfl, hw, hb, hk⟩
  have HWz := Lib.hid hw
  have HBz := Lib.hid (HB.out.trans hb)
  have HKz := Lib.hid (HK.out.trans hk)
  clear hw hb hk HC
  go_wp2
  go_end0
  exact ⟨rfl, HWz.out, HBz.out, HKz.out⟩

set_option maxRecDepth 100000 in
set_option maxHeartbeats 4000000 in
theorem wNowithin (n : Nat) (ih : WNoOk n) (h : NoH) (ps : List (Tr NoH)) (hps : ∀ p ∈ ps, p.depth ≤ n ∧ p.all noIn) (hin : noIn h) (w : World) (B g : Nat) (l : List UInt8) (d : Int) (a : Option Addr) (cap b1 b2 : Nat) (sa : Option Addr) (sc : Nat) (hw : WAt B w g l d false) (hB : B ≤ w.heap.size) (hcap : ps.length ≤ cap) (hr : TrsAt noHd (· < B) 6 w a 0 ps) (hrw : RowsAt (· < B) w (.slice sa h.subs.length sc) h.subs.length (h.subs.flatMap T3.cells))
    (hl : l.length + ((Tr.mk h ps).bytes noB).length ≤ 1000000000) (hn : ps.length ≤ 1000000000) (hd0 : 0 ≤ d) (hd1 : d ≤ 64) (hx : CBox w g b1 b2 #[.int .i64 h.kind, .string h.o, .string h.i, .string h.rel, .slice sa h.subs.length sc, .slice a ps.length cap] 34) :
    Calls Tryz.prog 91 #[.pointer (some ⟨g, 0, none⟩), .func (.func 92) #[] #[.pointer (some ⟨b1, 0, none⟩), .pointer (some ⟨b2, 0, none⟩)]] w (WSPost B w g (l ++ (Tr.mk h ps).bytes noB) d (fit d (Tr.mk h ps))) := by
  have hen : ∀ (args : Array Value) (w : World), (callFunc 92 args).run Tryz.prog w = .ok (.enter 92 args) w := fun _ _ => by kernel_rfl
  have hg := hw.lt
  have hBg : B ≤ g := by obtain ⟨_, _, _, _, h3⟩ := hw; exact h3
  obtain ⟨wa, wc, h1, _, _⟩ := id hw
  have c1 := Lib.cell_of_heap h1 1
  have c2 := Lib.cell_of_heap h1 2
  have cf1 := Lib.frozen_of_heap h1 1
  have cf2 := Lib.frozen_of_heap h1 2
  simp at c1 c2
  have hwr : IntKind.i64.wrap (d + 1) = d + 1 := by rw [IntKind.wrap_i64]; omega
  have hwm : IntKind.i64.wrap (d + 1 - 1) = d := by rw [IntKind.wrap_i64]; omega
  by_cases h64 : d + 1 ≤ 64
  · have h64I : ¬ (64 : Int) < d + 1 := by omega
    have hw1 := (hw.depth (d + 1)).deepSet false
    have hk1 : KeepW g w ((w.setCell ⟨g, 1, none⟩ (.int .i64 (d + 1))).setCell ⟨g, 2, none⟩ (.bool false)) := (KeepW.store g w 1 _).trans (KeepW.store g _ 2 _)
    have hb1 : Below B w ((w.setCell ⟨g, 1, none⟩ (.int .i64 (d + 1))).setCell ⟨g, 2, none⟩ (.bool false)) := ((Below.refl B w).setCell (p := ⟨g, 1, none⟩) hBg _).setCell (p := ⟨g, 2, none⟩) hBg _
    have hC := wNoclo n ih h ps hps hin _ B g l (d + 1) a cap b1 b2 sa sc hw1 (Nat.le_trans hB hb1.size) hcap (TrsAt.keep (Keeps.of_below hb1) (noHd_keep (Keeps.of_below hb1)) ps hr) (hrw.keep (Keeps.of_below hb1)) hl hn (by omega) h64 (hx.keep (by decide) hk1)
    rw [fit_all h ps h64] at hC
    obtain ⟨RES, hR⟩ : ∃ R, fit d (Tr.mk h ps) = R := ⟨_, rfl⟩
    obtain ⟨FIN, hF⟩ : ∃ R, l ++ (Tr.mk h ps).bytes noB = R := ⟨_, rfl⟩
    rw [hR, hF] at hC ⊢
    have HC := Lib.hid hC
    have HB1 := Lib.hid hb1
    have HK1 := Lib.hid hk1
    clear hw hw1 hk1 hb1 h1 hx hC hR hF hr hps ih hl hrw
    go_enter Tryz.func91, Tryz.ntmps91
    go_wp2_with (go_at_call 92; go_must (refine HC.out.mono ?_))
    rintro e w2 ⟨rfl, hw, hb, hk⟩
    obtain ⟨l2, dp, hat⟩ := hw.at
    have hgl := hat.lt
    obtain ⟨a2, cap2, h2, _, _⟩ := id hat
    have y1 := Lib.cell_of_heap h2 1
    have yf := Lib.frozen_of_heap h2 1
    simp at y1
    have HW := Lib.hid (hw.depth d)
    have HB := Lib.hid (((HB1.out.trans hb)).setCell (p := ⟨g, 1, none⟩) hBg (.int .i64 d))
    have HK := Lib.hid ((HK1.out.trans hk).trans (KeepW.store g w2 1 (.int .i64 d)))
    clear hw hb hk h2 HC HB1 HK1 hat
    go_wp2
    go_end0
    exact ⟨rfl, HW.out, HB.out, HK.out⟩
  · have h64I : (64 : Int) < d + 1 := by omega
    rw [fit_deep (Tr.mk h ps) h64]
    have hw1 := ((hw.depth (d + 1)).deepSet true).depth d
    have hk1 : KeepW g w (((w.setCell ⟨g, 1, none⟩ (.int .i64 (d + 1))).setCell ⟨g, 2, none⟩ (.bool true)).setCell ⟨g, 1, none⟩ (.int .i64 d)) := ((KeepW.store g w 1 _).trans (KeepW.store g _ 2 _)).trans (KeepW.store g _ 1 _)
    have hb1 : Below B w (((w.setCell ⟨g, 1, none⟩ (.int .i64 (d + 1))).setCell ⟨g, 2, none⟩ (.bool true)).setCell ⟨g, 1, none⟩ (.int .i64 d)) := (((Below.refl B w).setCell (p := ⟨g, 1, none⟩) hBg _).setCell (p := ⟨g, 2, none⟩) hBg _).setCell (p := ⟨g, 1, none⟩) hBg _
    have HW := Lib.hid (show WS B _ g (l ++ (Tr.mk h ps).bytes noB) d false from .inr ⟨rfl, l, by rw [List.length_append]; omega, hw1⟩)
    have HB := Lib.hid hb1
    have HK := Lib.hid hk1
    obtain ⟨FIN, hF⟩ : ∃ R, l ++ (Tr.mk h ps).bytes noB = R := ⟨_, rfl⟩
    rw [hF] at HW ⊢
    clear hw hw1 hk1 hb1 h1 hx hr hps ih hl hF hrw
    go_enter Tryz.func91, Tryz.ntmps91
    go_wp2
    go_end0
    exact ⟨rfl, HW.out, HB.out, HK.out⟩

set_option maxRecDepth 100000 in
set_option maxHeartbeats 4000000 in
theorem wNo_ok : ∀ n : Nat, WNoOk n
  | 0 => fun h ps hd => by rw [Tr.depth_mk] at hd; omega
  | n + 1 => by
    have ih := wNo_ok n
    intro h ps hd hal w B g l d a cap sa sc hw hB hcap _ hr hrw hl hd0 hd1
    rw [Tr.depth_mk] at hd
    obtain ⟨hin, hals⟩ := (Tr.all_mk _ _ _).1 hal
    have hps : ∀ p ∈ ps, p.depth ≤ n ∧ p.all noIn := fun p hp => ⟨(Tr.depthL_le ps).1 (by omega) p hp, hals p hp⟩
    have hn : ps.length ≤ 1000000000 := by
      have h1 := flat_many (Tr.bytes noB) (Tr.bytes_pos noB) ps
      rw [Tr.bytes_mk, List.length_append] at hl
      unfold listB at hl
      rw [List.length_append] at hl
      omega
    have hmf : ∀ (fn : Fn) (first cap : Array Value) (w : World), (Instr.makeFunc fn first cap).run Tryz.prog w = .ok (.func fn first cap) w := fun _ _ _ _ => rfl
    have hg := hw.lt
    have hb0 : Below w.heap.size w ((w.alloc (.cells #[.pointer (some ⟨g, 0, none⟩)] 76)).alloc (.cells #[.int .i64 h.kind, .string h.o, .string h.i, .string h.rel, .slice sa h.subs.length sc, .slice a ps.length cap] 34)) := ((Below.refl _ _).alloc (Nat.le_refl _) _).alloc (by simp) _
    have hx1 : ((w.alloc (.cells #[.pointer (some ⟨g, 0, none⟩)] 76)).alloc (.cells #[.int .i64 h.kind, .string h.o, .string h.i, .string h.rel, .slice sa h.subs.length sc, .slice a ps.length cap] 34)).heap[w.heap.size]? = some (.cells #[.pointer (some ⟨g, 0, none⟩)] 76 (0, 0)) := (Below.heap_alloc _ _ _ (by simp)).trans (heap_alloc_new _ _)
    have hx2 : ((w.alloc (.cells #[.pointer (some ⟨g, 0, none⟩)] 76)).alloc (.cells #[.int .i64 h.kind, .string h.o, .string h.i, .string h.rel, .slice sa h.subs.length sc, .slice a ps.length cap] 34)).heap[w.heap.size + 1]? = some (.cells #[.int .i64 h.kind, .string h.o, .string h.i, .string h.rel, .slice sa h.subs.length sc, .slice a ps.length cap] 34 (0, 0)) := by
      have := heap_alloc_new (w.alloc (.cells #[.pointer (some ⟨g, 0, none⟩)] 76)) (.cells #[.int .i64 h.kind, .string h.o, .string h.i, .string h.rel, .slice sa h.subs.length sc, .slice a ps.length cap] 34)
      simpa using this
    have hbB := hb0.mono hB
    have hC := wNowithin n ih h ps hps hin ((w.alloc (.cells #[.pointer (some ⟨g, 0, none⟩)] 76)).alloc (.cells #[.int .i64 h.kind, .string h.o, .string h.i, .string h.rel, .slice sa h.subs.length sc, .slice a ps.length cap] 34)) B g l d a cap w.heap.size (w.heap.size + 1) sa sc (hw.below hb0) (Nat.le_trans hB hb0.size) hcap (TrsAt.keep (Keeps.of_below hbB) (noHd_keep (Keeps.of_below hbB)) ps hr) (hrw.keep (Keeps.of_below hbB)) hl hn hd0 hd1 ⟨hx1, hx2, by omega, by omega⟩
    obtain ⟨RES, hR⟩ : ∃ R, fit d (Tr.mk h ps) = R := ⟨_, rfl⟩
    obtain ⟨FIN, hF⟩ : ∃ R, l ++ (Tr.mk h ps).bytes noB = R := ⟨_, rfl⟩
    rw [hR, hF] at hC ⊢
    have HC := Lib.hid hC
    have HB := Lib.hid hbB
    have HK := Lib.hid (KeepW.of_below (g := g) hb0)
    have q0 := Lib.cell_of_heap hx1 0
    simp at q0
    clear hw hb0 hx1 hx2 hbB hC hR hF hr hps hal hals ih hl hd hrw
    go_enter Tryz.func30, Tryz.ntmps30
    go_wp2_with (go_at_call 91; go_must (refine HC.out.mono ?_))
    rintro e w2 ⟨rfl, hw, hb, hk⟩
    have HW := Lib.hid hw
    have HB2 := Lib.hid (HB.out.trans hb)
    have HK2 := Lib.hid (HK.out.trans hk)
    clear hw hb hk HC HB HK q0
    go_wp2
    go_end0
    exact ⟨rfl, HW.out, HB2.out, HK2.out⟩
end Go.Proofs.YtdonibkkdhokpaaGreat
