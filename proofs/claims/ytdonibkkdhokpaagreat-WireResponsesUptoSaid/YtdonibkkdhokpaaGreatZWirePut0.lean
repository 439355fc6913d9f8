/- wire.PutResponse of a response that has an ID alone (written by gen_wirefix.py). -/
import Derived.Test.YtdonibkkdhokpaaGreatZWireNil
import Derived.Test.YtdonibkkdhokpaaGreatZWirePut
namespace Go.Proofs.YtdonibkkdhokpaaGreat
open Go Go.RowKit

theorem txt_zero : txt ⟨#[]⟩ = [0] := by unfold txt; rw [show (⟨#[]⟩ : ByteArray).size = 0 from rfl, enc_zero]; rfl

set_option maxRecDepth 100000 in
set_option maxHeartbeats 2000000 in
theorem wnumber0_any (w : World) (B g b : Nat) (l : List UInt8) (N : Nat) (h : WAt0 B w g b l) (hB : B ≤ w.heap.size) (hl : l.length ≤ 1000) (hN : N < 18446744073709551616) :
    Calls Tryz.prog 17 #[.pointer (some ⟨g, 0, none⟩), .int .u64 (N : Int)] w (WPost B w g (l ++ enc N) 0 false) := by
  obtain ⟨i0, hi, hz0, hz1, hz2⟩ := info_parts info5
  have h1 := h.1
  have h3 := h.2.2
  have hrd := h.reads hl
  have hel := enc_length_le 9 N (by omega)
  have htp := enc_pos N
  have HPt := Lib.hid (fun W => put_any W (.slice none 0 0) [] N (nil_reads W) (by decide) hN)
  have hg : g < w.heap.size := (Array.getElem?_eq_some_iff.1 h1).1
  have c0 := Lib.cell_of_heap h1 0
  simp at c0
  have H1 := Lib.hid h1
  have H2 := Lib.hid hrd
  clear h h1 hrd
  go_enter Tryz.func17, Tryz.ntmps17
  go_wp2_with fail
  go_region_law (first
    | (go_simp; go_at_call 84; refine (HPt.out _).mono ?_; rintro e w2 ⟨v2, rfl, f2, b2⟩
       have hd2 : Below w.heap.size w w2 := by
         first
         | exact ((Below.refl w.heap.size w).drew).trans (b2.mono (Nat.le_refl _))
         | exact ((Below.refl w.heap.size w).drew.drew).trans (b2.mono (Nat.le_refl _))
       have P1 := (hd2.block g hg).trans H1.out
       have x0 := Lib.cell_of_heap P1 0
       have xf := Lib.frozen_of_heap P1 0
       simp at x0
       have hg2 : g < w2.heap.size := (Array.getElem?_eq_some_iff.1 P1).1
       have P2 := H2.out.below' hd2
       have hs2 := f2.1.src (P := Tryz.prog) (tx := 39) Tryz.underlying39 (bcells_one _)
       rw [List.nil_append] at hs2)
    | (refine step_append_full rfl _ _ 39 39 rfl B 5 i0 (.int .u8 0) 1 1 Tryz.underlying39 hi hz0 hz1 hz2 rfl _ _ _ rfl P2 _ _ _ rfl hs2 htp (by unfold maxLen; omega) (by omega) (Nat.le_trans hB hd2.size) ?_
       intro v9 w9 o9 b9
       rw [← bcells_append] at o9
       obtain ⟨a9, cap9, rfl, hx1, hx2⟩ := (ownsRow.reads o9).le
       have hc9 := (b9.block g hg2).trans P1
       have y0 := Lib.cell_of_heap hc9 0
       have yf := Lib.frozen_of_heap hc9 0
       simp at y0
       have hg9 : g < w9.heap.size := (Array.getElem?_eq_some_iff.1 hc9).1))
  all_goals
    have hw := wat_store hc9 o9 (by rw [List.length_append]) h3
    have hd9 : Below w.heap.size w w9 := hd2.trans (b9.mono hd2.size)
    have hbf := (hd9.mono hB).setCell (p := ⟨g, 0, none⟩) h3 (.slice a9 (l.length + (enc N).length) cap9)
    have hkp := (KeepW.of_below (g := g) hd9).trans (KeepW.store g w9 0 (.slice a9 (l.length + (enc N).length) cap9))
    go_end0
    exact ⟨rfl, hw, hbf, hkp⟩

theorem WAt.depth {B g : Nat} {w : World} {l : List UInt8} {d : Int} {b : Bool} (h : WAt B w g l d b) (d' : Int) : WAt B (w.setCell ⟨g, 1, none⟩ (.int .i64 d')) g l d' b := by
  obtain ⟨a, cap, h1, h2, h3⟩ := h
  exact ⟨a, cap, by rw [heap_setCell_same _ _ 1 _ _ _ h1]; rfl, own_set_farW h2 h1 (by decide) 1 _, h3⟩

theorem WAt.deepSet {B g : Nat} {w : World} {l : List UInt8} {d : Int} {b : Bool} (h : WAt B w g l d b) (b' : Bool) : WAt B (w.setCell ⟨g, 2, none⟩ (.bool b')) g l d b' := by
  obtain ⟨a, cap, h1, h2, h3⟩ := h
  exact ⟨a, cap, by rw [heap_setCell_same _ _ 2 _ _ _ h1]; rfl, own_set_farW h2 h1 (by decide) 2 _, h3⟩

/-- A closure's boxes: the writer, and a node that is nothing. -/
structure NBox (w : World) (g b1 b2 : Nat) : Prop where
  wr : w.heap[b1]? = some (.cells #[.pointer (some ⟨g, 0, none⟩)] 76 (0, 0))
  nd : w.heap[b2]? = some (.cells #[.int .i64 0, .string ⟨#[]⟩, .string ⟨#[]⟩, .string ⟨#[]⟩, .slice none 0 0, .slice none 0 0] 34 (0, 0))
  n1 : b1 ≠ g
  n2 : b2 ≠ g

theorem NBox.keep {w w' : World} {g b1 b2 : Nat} (h : NBox w g b1 b2) (k : KeepW g w w') : NBox w' g b1 b2 :=
  ⟨k _ _ _ _ h.wr (by decide) h.n1, k _ _ _ _ h.nd (by decide) h.n2, h.n1, h.n2⟩

set_option maxRecDepth 100000 in
set_option maxHeartbeats 2000000 in
theorem wnodeclo0 (w : World) (B g : Nat) (l : List UInt8) (d : Int) (b1 b2 : Nat) (h : WAt B w g l d false) (hB : B ≤ w.heap.size) (hl : l.length ≤ 1000) (hx : NBox w g b1 b2) :
    Calls Tryz.prog 92 #[.pointer (some ⟨b1, 0, none⟩), .pointer (some ⟨b2, 0, none⟩)] w (WPost B w g (l ++ [0, 0, 0, 0, 0, 0]) d false) := by
  have HB := Lib.hid (Below.refl B w)
  have HK := Lib.hid (KeepW.refl g w)
  have HX := Lib.hid hx
  have HW := Lib.hid h
  clear h hx
  go_enter Tryz.func92, Tryz.ntmps92
  have hmf : ∀ (fn : Fn) (first cap : Array Value) (w : World), (Instr.makeFunc fn first cap).run Tryz.prog w = .ok (.func fn first cap) w := fun _ _ _ _ => rfl
  have q0 := Lib.cell_of_heap HX.out.wr 0
  have z0 := Lib.cell_of_heap HX.out.nd 0
  simp at q0 z0
  have hl1 := (Array.getElem?_eq_some_iff.1 HX.out.wr).1
  have hl2 := (Array.getElem?_eq_some_iff.1 HX.out.nd).1
  have HC := Lib.hid (show Calls _ _ _ _ (WPost B w g (l ++ [0]) d false) from enc_zero ▸ (wwhole_any w B g l d false 0 HW.out hB (by omega) (by unfold in64; omega)))
  clear HW
  go_wp2_with (go_at_call 18; go_must (refine HC.out.mono ?_))
  rintro e w1 ⟨rfl, hw, hb, hk⟩
  have HW := Lib.hid hw
  have HX := Lib.hid (HX.out.keep hk)
  have HB := Lib.hid (HB.out.trans hb)
  have HK := Lib.hid (HK.out.trans hk)
  clear HC hw hb hk q0 z0 hl1 hl2
  have q0 := Lib.cell_of_heap HX.out.wr 0
  have z1 := Lib.cell_of_heap HX.out.nd 1
  have z2 := Lib.cell_of_heap HX.out.nd 2
  simp at q0 z1 z2
  have hl1 := (Array.getElem?_eq_some_iff.1 HX.out.wr).1
  have hl2 := (Array.getElem?_eq_some_iff.1 HX.out.nd).1
  have HC := Lib.hid (show Calls _ _ _ _ (WPost B w1 g (l ++ [0, 0, 0]) d false) from (by have := wobj_any w1 B g (l ++ [0]) d false ⟨#[]⟩ ⟨#[]⟩ HW.out (Nat.le_trans hB HB.out.size) (by simp [txts, txt_zero]; omega); simpa [txts, txt_zero] using this))
  clear HW
  go_wp2_with (go_at_call 25; go_must (refine HC.out.mono ?_))
  rintro e w2 ⟨rfl, hw, hb, hk⟩
  have HW := Lib.hid hw
  have HX := Lib.hid (HX.out.keep hk)
  have HB := Lib.hid (HB.out.trans hb)
  have HK := Lib.hid (HK.out.trans hk)
  clear HC hw hb hk q0 z1 z2 hl1 hl2
  have q0 := Lib.cell_of_heap HX.out.wr 0
  have z3 := Lib.cell_of_heap HX.out.nd 3
  simp at q0 z3
  have hl1 := (Array.getElem?_eq_some_iff.1 HX.out.wr).1
  have hl2 := (Array.getElem?_eq_some_iff.1 HX.out.nd).1
  have hla : Below w2.heap.size w2 (w2.alloc (.cells #[.string ⟨#[]⟩] 9)) := (Below.refl _ _).alloc (Nat.le_refl _) _
  have HC := Lib.hid (show Calls _ _ _ _ (WPost B (w2.alloc (.cells #[.string ⟨#[]⟩] 9)) g (l ++ [0, 0, 0, 0]) d false) from (by have := wtexts_any (w2.alloc (.cells #[.string ⟨#[]⟩] 9)) B g (l ++ [0, 0, 0]) d false w2.heap.size 1 [⟨#[]⟩] (HW.out.below hla) (Nat.le_trans hB (Nat.le_trans HB.out.size hla.size)) rfl (by decide) (heap_alloc_new _ _) (by have := HW.out.lt; omega) (by simp [txts, txt_zero]; omega); simpa [txts, txt_zero] using this))
  have HL := Lib.hid hla
  clear hla HW
  go_wp2_with (go_at_call 19; go_must (refine HC.out.mono ?_))
  rintro e w3 ⟨rfl, hw, hb, hk⟩
  have hk := (KeepW.of_below (g := g) HL.out).trans hk
  have hb := (HL.out.mono (Nat.le_trans hB HB.out.size)).trans hb
  have HW := Lib.hid hw
  have HX := Lib.hid (HX.out.keep hk)
  have HB := Lib.hid (HB.out.trans hb)
  have HK := Lib.hid (HK.out.trans hk)
  clear HC hw hb hk q0 z3 hl1 hl2 HL
  have q0 := Lib.cell_of_heap HX.out.wr 0
  have z4 := Lib.cell_of_heap HX.out.nd 4
  simp at q0 z4
  have hl1 := (Array.getElem?_eq_some_iff.1 HX.out.wr).1
  have hl2 := (Array.getElem?_eq_some_iff.1 HX.out.nd).1
  have HC := Lib.hid (show Calls _ _ _ _ (WPost B w3 g (l ++ [0, 0, 0, 0, 0]) d false) from (by have := wputSubs_nil w3 B g (l ++ [0, 0, 0, 0]) d (.func (.func 87) #[.pointer (some ⟨g, 0, none⟩)] #[]) HW.out (Nat.le_trans hB HB.out.size) (by simp; omega); simpa using this))
  clear HW
  go_wp2_with (go_at_call 93; go_must (refine HC.out.mono ?_))
  rintro e w4 ⟨rfl, hw, hb, hk⟩
  have HW := Lib.hid hw
  have HX := Lib.hid (HX.out.keep hk)
  have HB := Lib.hid (HB.out.trans hb)
  have HK := Lib.hid (HK.out.trans hk)
  clear HC hw hb hk q0 z4 hl1 hl2
  have q0 := Lib.cell_of_heap HX.out.wr 0
  have z5 := Lib.cell_of_heap HX.out.nd 5
  simp at q0 z5
  have hl1 := (Array.getElem?_eq_some_iff.1 HX.out.wr).1
  have hl2 := (Array.getElem?_eq_some_iff.1 HX.out.nd).1
  have HC := Lib.hid (show Calls _ _ _ _ (WPost B w4 g (l ++ [0, 0, 0, 0, 0, 0]) d false) from (by have := wputNodes_nil w4 B g (l ++ [0, 0, 0, 0, 0]) d (.func (.func 30) #[.pointer (some ⟨g, 0, none⟩)] #[]) HW.out (Nat.le_trans hB HB.out.size) (by simp; omega); simpa using this))
  clear HW
  go_wp2_with (go_at_call 94; go_must (refine HC.out.mono ?_))
  rintro e w5 ⟨rfl, hw, hb, hk⟩
  have HW := Lib.hid hw
  have HX := Lib.hid (HX.out.keep hk)
  have HB := Lib.hid (HB.out.trans hb)
  have HK := Lib.hid (HK.out.trans hk)
  clear HC hw hb hk q0 z5 hl1 hl2
  go_wp2
  go_end0
  exact ⟨rfl, HW.out, HB.out, HK.out⟩

set_option maxRecDepth 100000 in
set_option maxHeartbeats 2000000 in
theorem wwithin0 (w : World) (B g : Nat) (l : List UInt8) (d : Int) (b1 b2 : Nat) (h : WAt B w g l d false) (hB : B ≤ w.heap.size) (hl : l.length ≤ 1000) (hd : 0 ≤ d ∧ d < 64) (hx : NBox w g b1 b2) :
    Calls Tryz.prog 91 #[.pointer (some ⟨g, 0, none⟩), .func (.func 92) #[] #[.pointer (some ⟨b1, 0, none⟩), .pointer (some ⟨b2, 0, none⟩)]] w (WPost B w g (l ++ [0, 0, 0, 0, 0, 0]) d false) := by
  have hen : ∀ (args : Array Value) (w : World), (callFunc 92 args).run Tryz.prog w = .ok (.enter 92 args) w := fun _ _ => by kernel_rfl
  have hg := h.lt
  have hBg : B ≤ g := by obtain ⟨_, _, _, _, h3⟩ := h; exact h3
  obtain ⟨a, cap, h1, _, _⟩ := id h
  have c1 := Lib.cell_of_heap h1 1
  have c2 := Lib.cell_of_heap h1 2
  have cf1 := Lib.frozen_of_heap h1 1
  have cf2 := Lib.frozen_of_heap h1 2
  simp at c1 c2
  have hw1 := (h.depth (d + 1)).deepSet false
  have hk1 : KeepW g w ((w.setCell ⟨g, 1, none⟩ (.int .i64 (d + 1))).setCell ⟨g, 2, none⟩ (.bool false)) := (KeepW.store g w 1 _).trans (KeepW.store g _ 2 _)
  have hb1 : Below B w ((w.setCell ⟨g, 1, none⟩ (.int .i64 (d + 1))).setCell ⟨g, 2, none⟩ (.bool false)) := ((Below.refl B w).setCell (p := ⟨g, 1, none⟩) hBg _).setCell (p := ⟨g, 2, none⟩) hBg _
  have HC := Lib.hid (wnodeclo0 _ B g l (d + 1) b1 b2 hw1 (Nat.le_trans hB hb1.size) hl (hx.keep hk1))
  have HB1 := Lib.hid hb1
  have HK1 := Lib.hid hk1
  have hwr : IntKind.i64.wrap (d + 1) = d + 1 := by rw [IntKind.wrap_i64]; omega
  have hwm : IntKind.i64.wrap (d + 1 - 1) = d := by rw [IntKind.wrap_i64]; omega
  have h64 : ¬ (64 : Int) < d + 1 := by omega
  clear h hw1 hk1 hb1 h1 hx
  go_enter Tryz.func91, Tryz.ntmps91
  go_wp2_with (go_at_call 92; go_must (refine HC.out.mono ?_))
  rintro e w2 ⟨rfl, hw, hb, hk⟩
  have hgl := hw.lt
  obtain ⟨a2, cap2, h2, _, _⟩ := id hw
  have y1 := Lib.cell_of_heap h2 1
  have yf := Lib.frozen_of_heap h2 1
  simp at y1
  have HW := Lib.hid (hw.depth d)
  have HB := Lib.hid (((HB1.out.trans hb)).setCell (p := ⟨g, 1, none⟩) hBg (.int .i64 d))
  have HK := Lib.hid ((HK1.out.trans hk).trans (KeepW.store g w2 1 (.int .i64 d)))
  clear hw hb hk h2 HC HB1 HK1
  go_wp2
  go_end0
  exact ⟨rfl, HW.out, HB.out, HK.out⟩

set_option maxRecDepth 100000 in
set_option maxHeartbeats 2000000 in
theorem wnode0 (w : World) (B g : Nat) (l : List UInt8) (d : Int) (h : WAt B w g l d false) (hB : B ≤ w.heap.size) (hl : l.length ≤ 1000) (hd : 0 ≤ d ∧ d < 64) :
    Calls Tryz.prog 30 #[.pointer (some ⟨g, 0, none⟩), .agg #[.int .i64 0, .string ⟨#[]⟩, .string ⟨#[]⟩, .string ⟨#[]⟩, .slice none 0 0, .slice none 0 0]] w (WPost B w g (l ++ [0, 0, 0, 0, 0, 0]) d false) := by
  have hmf : ∀ (fn : Fn) (first cap : Array Value) (w : World), (Instr.makeFunc fn first cap).run Tryz.prog w = .ok (.func fn first cap) w := fun _ _ _ _ => rfl
  have hg := h.lt
  have hb0 : Below w.heap.size w ((w.alloc (.cells #[.pointer (some ⟨g, 0, none⟩)] 76)).alloc (.cells #[.int .i64 0, .string ⟨#[]⟩, .string ⟨#[]⟩, .string ⟨#[]⟩, .slice none 0 0, .slice none 0 0] 34)) := ((Below.refl _ _).alloc (Nat.le_refl _) _).alloc (by simp) _
  have hx1 : ((w.alloc (.cells #[.pointer (some ⟨g, 0, none⟩)] 76)).alloc (.cells #[.int .i64 0, .string ⟨#[]⟩, .string ⟨#[]⟩, .string ⟨#[]⟩, .slice none 0 0, .slice none 0 0] 34)).heap[w.heap.size]? = some (.cells #[.pointer (some ⟨g, 0, none⟩)] 76 (0, 0)) := (Below.heap_alloc _ _ _ (by simp)).trans (heap_alloc_new _ _)
  have hx2 : ((w.alloc (.cells #[.pointer (some ⟨g, 0, none⟩)] 76)).alloc (.cells #[.int .i64 0, .string ⟨#[]⟩, .string ⟨#[]⟩, .string ⟨#[]⟩, .slice none 0 0, .slice none 0 0] 34)).heap[w.heap.size + 1]? = some (.cells #[.int .i64 0, .string ⟨#[]⟩, .string ⟨#[]⟩, .string ⟨#[]⟩, .slice none 0 0, .slice none 0 0] 34 (0, 0)) := by
    have := heap_alloc_new (w.alloc (.cells #[.pointer (some ⟨g, 0, none⟩)] 76)) (.cells #[.int .i64 0, .string ⟨#[]⟩, .string ⟨#[]⟩, .string ⟨#[]⟩, .slice none 0 0, .slice none 0 0] 34)
    simpa using this
  have HC := Lib.hid (wwithin0 ((w.alloc (.cells #[.pointer (some ⟨g, 0, none⟩)] 76)).alloc (.cells #[.int .i64 0, .string ⟨#[]⟩, .string ⟨#[]⟩, .string ⟨#[]⟩, .slice none 0 0, .slice none 0 0] 34)) B g l d w.heap.size (w.heap.size + 1) (h.below hb0) (Nat.le_trans hB hb0.size) hl hd ⟨hx1, hx2, by omega, by omega⟩)
  have HB := Lib.hid (hb0.mono hB)
  have HK := Lib.hid (KeepW.of_below (g := g) hb0)
  have q0 := Lib.cell_of_heap hx1 0
  simp at q0
  clear h hb0 hx1 hx2
  go_enter Tryz.func30, Tryz.ntmps30
  go_wp2_with (go_at_call 91; go_must (refine HC.out.mono ?_))
  rintro e w2 ⟨rfl, hw, hb, hk⟩
  have HW := Lib.hid hw
  have HB2 := Lib.hid (HB.out.trans hb)
  have HK2 := Lib.hid (HK.out.trans hk)
  clear hw hb hk HC HB HK q0
  go_wp2
  go_end0
  exact ⟨rfl, HW.out, HB2.out, HK2.out⟩

set_option maxRecDepth 100000 in
set_option maxHeartbeats 4000000 in
theorem putresponse0 (w : World) (i : Nat) (hi : i < 18446744073709551616) :
    Calls Tryz.prog 6 #[.agg #[.int .u64 (i : Int), .int .i64 0, .int .u64 0, .string ⟨#[]⟩, .slice none 0 0, .slice none 0 0, .slice none 0 0, .slice none 0 0, .slice none 0 0, .int .i64 0, .string ⟨#[]⟩, .string ⟨#[]⟩, .string ⟨#[]⟩, .slice none 0 0, .slice none 0 0]] w (BytesPost w ([112, 49] ++ enc i ++ [0, 0, 0, 0, 0, 0, 0, 0, 0, 0, 0, 0, 0, 0])) := by
  have hel := enc_length_le 9 i (by omega)
  have hmf : ∀ (fn : Fn) (first cap : Array Value) (w : World), (Instr.makeFunc fn first cap).run Tryz.prog w = .ok (.func fn first cap) w := fun _ _ _ _ => rfl
  have kc := Lib.run_convert_bytes_const (P := Tryz.prog) (w.alloc (.cells #[.int .u64 (i : Int), .int .i64 0, .int .u64 0, .string ⟨#[]⟩, .slice none 0 0, .slice none 0 0, .slice none 0 0, .slice none 0 0, .slice none 0 0, .int .i64 0, .string ⟨#[]⟩, .string ⟨#[]⟩, .string ⟨#[]⟩, .slice none 0 0, .slice none 0 0] 36)) 39 5 #[.int .u8 112, .int .u8 49] 2 2 Tryz.underlying39 Tryz.underlying5
  simp at kc
  have hb0 : Below w.heap.size w (((w.alloc (.cells #[.int .u64 (i : Int), .int .i64 0, .int .u64 0, .string ⟨#[]⟩, .slice none 0 0, .slice none 0 0, .slice none 0 0, .slice none 0 0, .slice none 0 0, .int .i64 0, .string ⟨#[]⟩, .string ⟨#[]⟩, .string ⟨#[]⟩, .slice none 0 0, .slice none 0 0] 36)).alloc (.cells #[.int .u8 112, .int .u8 49] 5 (2, 3))).alloc (.cells #[.slice (some ⟨w.heap.size + 1, 0, none⟩) 2 2, .int .i64 0, .bool false] 78)) := (((Below.refl _ _).alloc (Nat.le_refl _) _).alloc (by simp) _).alloc (by simp; omega) _
  have hx : (((w.alloc (.cells #[.int .u64 (i : Int), .int .i64 0, .int .u64 0, .string ⟨#[]⟩, .slice none 0 0, .slice none 0 0, .slice none 0 0, .slice none 0 0, .slice none 0 0, .int .i64 0, .string ⟨#[]⟩, .string ⟨#[]⟩, .string ⟨#[]⟩, .slice none 0 0, .slice none 0 0] 36)).alloc (.cells #[.int .u8 112, .int .u8 49] 5 (2, 3))).alloc (.cells #[.slice (some ⟨w.heap.size + 1, 0, none⟩) 2 2, .int .i64 0, .bool false] 78)).heap[w.heap.size]? = some (.cells #[.int .u64 (i : Int), .int .i64 0, .int .u64 0, .string ⟨#[]⟩, .slice none 0 0, .slice none 0 0, .slice none 0 0, .slice none 0 0, .slice none 0 0, .int .i64 0, .string ⟨#[]⟩, .string ⟨#[]⟩, .string ⟨#[]⟩, .slice none 0 0, .slice none 0 0] 36 (0, 0)) := (Below.heap_alloc _ _ _ (by simp; omega)).trans ((Below.heap_alloc _ _ _ (by simp)).trans (heap_alloc_new _ _))
  have hw0 : WAt0 w.heap.size (((w.alloc (.cells #[.int .u64 (i : Int), .int .i64 0, .int .u64 0, .string ⟨#[]⟩, .slice none 0 0, .slice none 0 0, .slice none 0 0, .slice none 0 0, .slice none 0 0, .int .i64 0, .string ⟨#[]⟩, .string ⟨#[]⟩, .string ⟨#[]⟩, .slice none 0 0, .slice none 0 0] 36)).alloc (.cells #[.int .u8 112, .int .u8 49] 5 (2, 3))).alloc (.cells #[.slice (some ⟨w.heap.size + 1, 0, none⟩) 2 2, .int .i64 0, .bool false] 78)) (w.heap.size + 2) (w.heap.size + 1) [112, 49] := by
    refine ⟨?_, ?_, by omega⟩
    · have := heap_alloc_new ((w.alloc (.cells #[.int .u64 (i : Int), .int .i64 0, .int .u64 0, .string ⟨#[]⟩, .slice none 0 0, .slice none 0 0, .slice none 0 0, .slice none 0 0, .slice none 0 0, .int .i64 0, .string ⟨#[]⟩, .string ⟨#[]⟩, .string ⟨#[]⟩, .slice none 0 0, .slice none 0 0] 36)).alloc (.cells #[.int .u8 112, .int .u8 49] 5 (2, 3))) (.cells #[.slice (some ⟨w.heap.size + 1, 0, none⟩) 2 2, .int .i64 0, .bool false] 78)
      simpa using this
    · refine (Below.heap_alloc _ _ _ (by simp)).trans ?_
      have := heap_alloc_new (w.alloc (.cells #[.int .u64 (i : Int), .int .i64 0, .int .u64 0, .string ⟨#[]⟩, .slice none 0 0, .slice none 0 0, .slice none 0 0, .slice none 0 0, .slice none 0 0, .int .i64 0, .string ⟨#[]⟩, .string ⟨#[]⟩, .string ⟨#[]⟩, .slice none 0 0, .slice none 0 0] 36)) (.cells #[.int .u8 112, .int .u8 49] 5 (2, 3))
      simpa [bcells] using this
  have HB := Lib.hid hb0
  have HX := Lib.hid hx
  have HW0 := Lib.hid hw0
  obtain ⟨P, hP⟩ : ∃ P, [112, 49] ++ enc i = P := ⟨_, rfl⟩
  have hPl : P.length ≤ 20 := by rw [← hP, List.length_append]; simp; omega
  rw [hP]
  have HP := Lib.hid hP
  obtain ⟨FIN, hF⟩ : ∃ F, P ++ [0, 0, 0, 0, 0, 0, 0, 0, 0, 0, 0, 0, 0, 0] = F := ⟨_, rfl⟩
  rw [hF]
  have HF := Lib.hid hF
  clear hb0 hx hw0 hP hel hF
  go_enter Tryz.func6, Tryz.ntmps6
  go_upto_region 2 with fail
  obtain ⟨g, hgd⟩ : ∃ g, w.heap.size + 2 = g := ⟨_, rfl⟩
  obtain ⟨b0, hbd⟩ : ∃ b0, w.heap.size + 1 = b0 := ⟨_, rfl⟩
  have hne : w.heap.size ≠ g := by omega
  rw [hgd, hbd] at HW0
  rw [hgd, hbd]
  rw [hbd] at HB HX
  clear kc hbd hgd
  generalize (((w.alloc (.cells #[.int .u64 (i : Int), .int .i64 0, .int .u64 0, .string ⟨#[]⟩, .slice none 0 0, .slice none 0 0, .slice none 0 0, .slice none 0 0, .slice none 0 0, .int .i64 0, .string ⟨#[]⟩, .string ⟨#[]⟩, .string ⟨#[]⟩, .slice none 0 0, .slice none 0 0] 36)).alloc (.cells #[.int .u8 112, .int .u8 49] 5 (2, 3))).alloc (.cells #[.slice (some ⟨b0, 0, none⟩) 2 2, .int .i64 0, .bool false] 78)) = w0 at *
  have hx0 : w.heap.size < w0.heap.size := (Array.getElem?_eq_some_iff.1 HX.out).1
  have z0 := Lib.cell_of_heap HX.out 0
  simp at z0
  have HC := Lib.hid (wnumber0_any w0 w.heap.size g b0 [112, 49] i HW0.out HB.out.size (by decide) hi)
  clear HW0
  go_wp2_with (go_at_call 17; go_must (refine HC.out.mono ?_))
  rintro e w1 ⟨rfl, hw, hb, hk⟩
  have HW := Lib.hid hw
  have HX := Lib.hid (hk _ _ _ _ HX.out (by decide) hne)
  have HB := Lib.hid (HB.out.trans hb)
  clear HC hw hb hk z0 hx0
  rw [HP.out] at HW
  have hx0 : w.heap.size < w1.heap.size := (Array.getElem?_eq_some_iff.1 HX.out).1
  have z1 := Lib.cell_of_heap HX.out 1
  simp at z1
  have HC := Lib.hid (show Calls _ _ _ _ (WPost w.heap.size w1 g (P ++ [0]) 0 false) from enc_zero ▸ (wwhole_any w1 w.heap.size g P 0 false 0 HW.out HB.out.size (by omega) (by unfold in64; omega)))
  clear HW
  go_wp2_with (go_at_call 18; go_must (refine HC.out.mono ?_))
  rintro e w2 ⟨rfl, hw, hb, hk⟩
  have HW := Lib.hid hw
  have HX := Lib.hid (hk _ _ _ _ HX.out (by decide) hne)
  have HB := Lib.hid (HB.out.trans hb)
  clear HC hw hb hk z1 hx0
  have hx0 : w.heap.size < w2.heap.size := (Array.getElem?_eq_some_iff.1 HX.out).1
  have z2 := Lib.cell_of_heap HX.out 2
  simp at z2
  have HC := Lib.hid (show Calls _ _ _ _ (WPost w.heap.size w2 g (P ++ [0, 0]) 0 false) from (by have := wnumber_any w2 w.heap.size g (P ++ [0]) 0 false 0 HW.out HB.out.size (by simp; omega) (by decide); rw [enc_zero] at this; simpa using this))
  clear HW
  go_wp2_with (go_at_call 17; go_must (refine HC.out.mono ?_))
  rintro e w3 ⟨rfl, hw, hb, hk⟩
  have HW := Lib.hid hw
  have HX := Lib.hid (hk _ _ _ _ HX.out (by decide) hne)
  have HB := Lib.hid (HB.out.trans hb)
  clear HC hw hb hk z2 hx0
  have hx0 : w.heap.size < w3.heap.size := (Array.getElem?_eq_some_iff.1 HX.out).1
  have z3 := Lib.cell_of_heap HX.out 3
  simp at z3
  have hla : Below w3.heap.size w3 (w3.alloc (.cells #[.string ⟨#[]⟩] 9)) := (Below.refl _ _).alloc (Nat.le_refl _) _
  have HC := Lib.hid (show Calls _ _ _ _ (WPost w.heap.size (w3.alloc (.cells #[.string ⟨#[]⟩] 9)) g (P ++ [0, 0, 0]) 0 false) from (by have := wtexts_any (w3.alloc (.cells #[.string ⟨#[]⟩] 9)) w.heap.size g (P ++ [0, 0]) 0 false w3.heap.size 1 [⟨#[]⟩] (HW.out.below hla) (Nat.le_trans HB.out.size hla.size) rfl (by decide) (heap_alloc_new _ _) (by have := HW.out.lt; omega) (by simp [txts, txt_zero]; omega); simpa [txts, txt_zero] using this))
  have HL := Lib.hid hla
  clear hla HW
  go_wp2_with (go_at_call 19; go_must (refine HC.out.mono ?_))
  rintro e w4 ⟨rfl, hw, hb, hk⟩
  have hk := (KeepW.of_below (g := g) HL.out).trans hk
  have hb := (HL.out.mono HB.out.size).trans hb
  have HW := Lib.hid hw
  have HX := Lib.hid (hk _ _ _ _ HX.out (by decide) hne)
  have HB := Lib.hid (HB.out.trans hb)
  clear HC hw hb hk z3 hx0 HL
  have hx0 : w.heap.size < w4.heap.size := (Array.getElem?_eq_some_iff.1 HX.out).1
  have z4 := Lib.cell_of_heap HX.out 4
  simp at z4
  have HC := Lib.hid (show Calls _ _ _ _ (WPost w.heap.size w4 g (P ++ [0, 0, 0, 0]) 0 false) from (by have := wputFlags_nil w4 w.heap.size g (P ++ [0, 0, 0]) 0 (.func (.func 21) #[.pointer (some ⟨g, 0, none⟩)] #[]) HW.out HB.out.size (by simp; omega); simpa using this))
  clear HW
  go_wp2_with (go_at_call 20; go_must (refine HC.out.mono ?_))
  rintro e w5 ⟨rfl, hw, hb, hk⟩
  have HW := Lib.hid hw
  have HX := Lib.hid (hk _ _ _ _ HX.out (by decide) hne)
  have HB := Lib.hid (HB.out.trans hb)
  clear HC hw hb hk z4 hx0
  have hx0 : w.heap.size < w5.heap.size := (Array.getElem?_eq_some_iff.1 HX.out).1
  have z5 := Lib.cell_of_heap HX.out 5
  simp at z5
  have HC := Lib.hid (show Calls _ _ _ _ (WPost w.heap.size w5 g (P ++ [0, 0, 0, 0, 0]) 0 false) from (by have := wputTuples_nil w5 w.heap.size g (P ++ [0, 0, 0, 0]) 0 (.func (.func 23) #[.pointer (some ⟨g, 0, none⟩)] #[]) HW.out HB.out.size (by simp; omega); simpa using this))
  clear HW
  go_wp2_with (go_at_call 22; go_must (refine HC.out.mono ?_))
  rintro e w6 ⟨rfl, hw, hb, hk⟩
  have HW := Lib.hid hw
  have HX := Lib.hid (hk _ _ _ _ HX.out (by decide) hne)
  have HB := Lib.hid (HB.out.trans hb)
  clear HC hw hb hk z5 hx0
  have hx0 : w.heap.size < w6.heap.size := (Array.getElem?_eq_some_iff.1 HX.out).1
  have z6 := Lib.cell_of_heap HX.out 6
  simp at z6
  have HC := Lib.hid (show Calls _ _ _ _ (WPost w.heap.size w6 g (P ++ [0, 0, 0, 0, 0, 0]) 0 false) from (by have := wputObjs_nil w6 w.heap.size g (P ++ [0, 0, 0, 0, 0]) 0 (.func (.func 25) #[.pointer (some ⟨g, 0, none⟩)] #[]) HW.out HB.out.size (by simp; omega); simpa using this))
  clear HW
  go_wp2_with (go_at_call 24; go_must (refine HC.out.mono ?_))
  rintro e w7 ⟨rfl, hw, hb, hk⟩
  have HW := Lib.hid hw
  have HX := Lib.hid (hk _ _ _ _ HX.out (by decide) hne)
  have HB := Lib.hid (HB.out.trans hb)
  clear HC hw hb hk z6 hx0
  have hx0 : w.heap.size < w7.heap.size := (Array.getElem?_eq_some_iff.1 HX.out).1
  have z7 := Lib.cell_of_heap HX.out 7
  simp at z7
  have HC := Lib.hid (show Calls _ _ _ _ (WPost w.heap.size w7 g (P ++ [0, 0, 0, 0, 0, 0, 0]) 0 false) from (by have := wputEvents_nil w7 w.heap.size g (P ++ [0, 0, 0, 0, 0, 0]) 0 (.func (.func 27) #[.pointer (some ⟨g, 0, none⟩)] #[]) HW.out HB.out.size (by simp; omega); simpa using this))
  clear HW
  go_wp2_with (go_at_call 26; go_must (refine HC.out.mono ?_))
  rintro e w8 ⟨rfl, hw, hb, hk⟩
  have HW := Lib.hid hw
  have HX := Lib.hid (hk _ _ _ _ HX.out (by decide) hne)
  have HB := Lib.hid (HB.out.trans hb)
  clear HC hw hb hk z7 hx0
  have hx0 : w.heap.size < w8.heap.size := (Array.getElem?_eq_some_iff.1 HX.out).1
  have z8 := Lib.cell_of_heap HX.out 8
  simp at z8
  have HC := Lib.hid (show Calls _ _ _ _ (WPost w.heap.size w8 g (P ++ [0, 0, 0, 0, 0, 0, 0, 0]) 0 false) from (by have := wputSteps_nil w8 w.heap.size g (P ++ [0, 0, 0, 0, 0, 0, 0]) 0 (.func (.func 29) #[.pointer (some ⟨g, 0, none⟩)] #[]) HW.out HB.out.size (by simp; omega); simpa using this))
  clear HW
  go_wp2_with (go_at_call 28; go_must (refine HC.out.mono ?_))
  rintro e w9 ⟨rfl, hw, hb, hk⟩
  have HW := Lib.hid hw
  have HX := Lib.hid (hk _ _ _ _ HX.out (by decide) hne)
  have HB := Lib.hid (HB.out.trans hb)
  clear HC hw hb hk z8 hx0
  have hx0 : w.heap.size < w9.heap.size := (Array.getElem?_eq_some_iff.1 HX.out).1
  have z9 := Lib.cell_of_heap HX.out 9
  have z10 := Lib.cell_of_heap HX.out 10
  have z11 := Lib.cell_of_heap HX.out 11
  have z12 := Lib.cell_of_heap HX.out 12
  have z13 := Lib.cell_of_heap HX.out 13
  have z14 := Lib.cell_of_heap HX.out 14
  simp at z9 z10 z11 z12 z13 z14
  have HC := Lib.hid (show Calls _ _ _ _ (WPost w.heap.size w9 g (P ++ [0, 0, 0, 0, 0, 0, 0, 0, 0, 0, 0, 0, 0, 0]) 0 false) from (by have := wnode0 w9 w.heap.size g (P ++ [0, 0, 0, 0, 0, 0, 0, 0]) 0 HW.out HB.out.size (by simp; omega) (by omega); simpa using this))
  clear HW
  go_wp2_with (go_at_call 30; go_must (refine HC.out.mono ?_))
  rintro e w10 ⟨rfl, hw, hb, hk⟩
  have HW := Lib.hid hw
  have HX := Lib.hid (hk _ _ _ _ HX.out (by decide) hne)
  have HB := Lib.hid (HB.out.trans hb)
  clear HC hw hb hk z9 z10 z11 z12 z13 z14 hx0
  have HC := Lib.hid (wbytes_any w10 w.heap.size g (P ++ [0, 0, 0, 0, 0, 0, 0, 0, 0, 0, 0, 0, 0, 0]) 0 HW.out)
  go_wp2_with (go_at_call 31; go_must (refine HC.out.mono ?_))
  rintro e w11 ⟨v, rfl, ho, rfl⟩
  rw [HF.out] at ho
  have HO := Lib.hid ho
  clear ho HC HW HX
  obtain ⟨a, cap, rfl, _, _⟩ := (ownsRow.reads HO.out).le
  go_wp2
  go_ret2
  exact ⟨_, rfl, HO.out, HB.out⟩
end Go.Proofs.YtdonibkkdhokpaaGreat
