/- The reader's within, rule and node (written by gen_wirerv.py). -/
import Derived.Test.YtdonibkkdhokpaaGreatZWireRu
namespace Go.Proofs.YtdonibkkdhokpaaGreat
open Go Go.RowKit

set_option maxRecDepth 100000 in
set_option maxHeartbeats 4000000 in
theorem rwithin_bad (w : World) (B g : Nat) (l : List UInt8) (d : Int) (b : Bool) (f : Value) (h : RAt B w g l d b) (hd0 : 0 ≤ d) (hd1 : d ≤ 64) (hbd : b = true ∨ d = 64) :
    Calls Tryz.prog 103 #[.pointer (some ⟨g, 0, none⟩), f] w (RPost B w g l d true (.tuple #[])) := by
  have hg := h.lt
  obtain ⟨a, h1, _, _⟩ := id h
  have c1 := Lib.cell_of_heap h1 1
  have c2 := Lib.cell_of_heap h1 2
  have cf1 := Lib.frozen_of_heap h1 1
  have cf2 := Lib.frozen_of_heap h1 2
  simp at c1 c2
  have hwr : IntKind.i64.wrap (d + 1) = d + 1 := by rw [IntKind.wrap_i64]; omega
  have hwm : IntKind.i64.wrap (d + 1 - 1) = d := by rw [IntKind.wrap_i64]; omega
  have HW := Lib.hid (((h.depth (d + 1)).badSet true).depth d)
  have HT := Lib.hid ((((Touch.refl w [g]).setCell (p := ⟨g, 1, none⟩) (.inl (by simp)) (.int .i64 (d + 1))).setCell (p := ⟨g, 2, none⟩) (.inl (by simp)) (.bool true)).setCell (p := ⟨g, 1, none⟩) (.inl (by simp)) (.int .i64 d))
  clear h h1
  cases b with
  | true =>
    go_enter Tryz.func103, Tryz.ntmps103
    go_wp2
    go_end0
    exact ⟨rfl, HW.out, HT.out⟩
  | false =>
    have hd64 : d = 64 := by rcases hbd with h | h; cases h; exact h
    subst hd64
    go_enter Tryz.func103, Tryz.ntmps103
    go_wp2
    go_end0
    exact ⟨rfl, HW.out, HT.out⟩

set_option maxRecDepth 100000 in
set_option maxHeartbeats 4000000 in
theorem ruwithin_any (f : List UInt8 → Bool → Tr RuH × List UInt8 × Bool) (w : World) (B g b1 b2 : Nat) (d : Int) (s0 s1 s2 s3 s4 : List UInt8 × Bool) (x1 : Int) (x2 x3 : ByteArray) (ps : List (Tr RuH))
    (q1 : rlong s0.1 s0.2 = (x1, s1)) (q2 : rtxt s1.1 s1.2 = (x2, s2)) (q3 : rtxt s2.1 s2.2 = (x3, s3)) (q4 : rlist f s3.1 s3.2 = (ps, s4))
    (heats : Eats (fun l b => (f l b).2)) (hit : ∀ (W : World) (l : List UInt8) (b : Bool), RAt B W g l (d + 1) b → B ≤ W.heap.size → l.length ≤ 20000000 → Calls Tryz.prog 101 #[.pointer (some ⟨g, 0, none⟩)] W (RuIPost B W g (f l b) (d + 1)))
    (hs0 : s0.2 = false) (hd0 : 0 ≤ d) (hd1 : d < 64) (hr : RAt B w g s0.1 d s0.2) (hB : B ≤ w.heap.size) (hl : s0.1.length ≤ 20000000) (hbB : B ≤ b2) (hn1 : b1 ≠ g) (hn2 : b2 ≠ g) (hn12 : b1 ≠ b2) (hbl : b2 < w.heap.size) (h1 : w.heap[b1]? = some (.cells #[.pointer (some ⟨g, 0, none⟩)] 96 (0, 0))) (h2 : w.heap[b2]? = some (.cells #[.int .i64 0, .string ⟨#[]⟩, .string ⟨#[]⟩, .slice none 0 0] 71 (0, 0))) :
    Calls Tryz.prog 103 #[.pointer (some ⟨g, 0, none⟩), .func (.func 113) #[] #[.pointer (some ⟨b1, 0, none⟩), .pointer (some ⟨b2, 0, none⟩)]] w (RuCPost B w g b2 d s4 x1 x2 x3 ps) := by
  have hen : ∀ (args : Array Value) (w : World), (callFunc 113 args).run Tryz.prog w = .ok (.enter 113 args) w := fun _ _ => by kernel_rfl
  rw [hs0] at hr
  have hg := hr.lt
  have hBg : B ≤ g := by obtain ⟨_, _, _, h3⟩ := hr; exact h3
  obtain ⟨ra, hh, _, _⟩ := id hr
  have c1 := Lib.cell_of_heap hh 1
  have c2 := Lib.cell_of_heap hh 2
  have cf1 := Lib.frozen_of_heap hh 1
  have cf2 := Lib.frozen_of_heap hh 2
  simp at c1 c2
  have hwr : IntKind.i64.wrap (d + 1) = d + 1 := by rw [IntKind.wrap_i64]; omega
  have hwm : IntKind.i64.wrap (d + 1 - 1) = d := by rw [IntKind.wrap_i64]; omega
  have h64I : ¬ (64 : Int) < d + 1 := by omega
  have hw1 := (hr.depth (d + 1)).badSet false
  have ht1 : Touch w ((w.setCell ⟨g, 1, none⟩ (.int .i64 (d + 1))).setCell ⟨g, 2, none⟩ (.bool false)) [g] := ((Touch.refl w [g]).setCell (p := ⟨g, 1, none⟩) (.inl (by simp)) _).setCell (p := ⟨g, 2, none⟩) (.inl (by simp)) _
  have hC := ruclo_any f _ B g b1 b2 (d + 1) s0 s1 s2 s3 s4 x1 x2 x3 ps q1 q2 q3 q4 heats hit (by rw [hs0]; exact hw1) (Nat.le_trans hB ht1.size) hl hbB hn1 hn2 hn12 (Nat.lt_of_lt_of_le hg ht1.size) (Nat.lt_of_lt_of_le hbl ht1.size) (ht1.keep h1 (by simpa using hn1)) (ht1.keep h2 (by simpa using hn2))
  have hsz : ((w.setCell ⟨g, 1, none⟩ (.int .i64 (d + 1))).setCell ⟨g, 2, none⟩ (.bool false)).heap.size = w.heap.size := by simp [World.setCell]
  have HC := Lib.hid hC
  have HT1 := Lib.hid ht1
  have HSz := Lib.hid hsz
  clear hr hw1 ht1 hh h1 h2 hC hit heats q1 q2 q3 q4 hsz hs0
  go_enter Tryz.func103, Tryz.ntmps103
  go_wp2_with (go_at_call 113; go_must (refine HC.out.mono ?_))
  rintro e w2 ⟨rfl, cs, hcs, hN, hw, ht⟩
  have hgl := hw.lt
  obtain ⟨a2, h2, _, _⟩ := id hw
  have y1 := Lib.cell_of_heap h2 1
  have yf := Lib.frozen_of_heap h2 1
  simp at y1
  have htz : Touch w2 (w2.setCell ⟨g, 1, none⟩ (.int .i64 d)) [g, b2] := (Touch.refl w2 _).setCell (p := ⟨g, 1, none⟩) (.inl (by simp)) _
  have hNw : NewRu w x1 x2 x3 ps (.agg cs) w2 := by
    unfold NewRu at hN ⊢
    rw [HSz.out] at hN
    exact hN
  have HW := Lib.hid (hw.depth d)
  have HT := Lib.hid (((HT1.out.two b2).same ht).same htz)
  have HP := Lib.hid ((heap_setCell_other _ ⟨g, 1, none⟩ b2 (.int .i64 d) (by simpa using hn2)).trans hcs)
  have HN := Lib.hid (newRu_touch hNw htz hg hbl)
  clear hw ht hcs hN hNw htz h2 HC HT1 HSz
  go_wp2
  go_end0
  exact ⟨rfl, cs, HP.out, HN.out, HW.out, HT.out⟩

def RRuOk (D : Nat) : Prop := ∀ (B : Nat) (w : World) (g : Nat) (l : List UInt8) (d : Int) (b : Bool), RAt B w g l d b → B ≤ w.heap.size → l.length ≤ 20000000 → d = 64 - (D : Int) → D ≤ 64 →
  Calls Tryz.prog 101 #[.pointer (some ⟨g, 0, none⟩)] w (RuIPost B w g (rtree rru ruZero D l b) d)

theorem ru_at_zero (ok : Nat → Prop) (w : World) : ruEAt ok w ⟨ruZero, [], none, 0⟩ := ⟨Nat.le_refl _, Nat.zero_le _, by rw [TrsAt]; trivial⟩

set_option maxRecDepth 100000 in
set_option maxHeartbeats 4000000 in
theorem rru_bad (B : Nat) (w : World) (g : Nat) (l : List UInt8) (d : Int) (b : Bool) (h : RAt B w g l d b) (hB : B ≤ w.heap.size) (hd0 : 0 ≤ d) (hd1 : d ≤ 64) (hbd : b = true ∨ d = 64) :
    Calls Tryz.prog 101 #[.pointer (some ⟨g, 0, none⟩)] w (RuIPost B w g (Tr.mk ruZero [], l, true) d) := by
  have hmf : ∀ (fn : Fn) (first cap : Array Value) (w : World), (Instr.makeFunc fn first cap).run Tryz.prog w = .ok (.func fn first cap) w := fun _ _ _ _ => rfl
  have hg := h.lt
  have hb0 : Below w.heap.size w (((w.alloc (.cells #[.pointer (some ⟨g, 0, none⟩)] 96)).alloc (.cells #[.int .i64 0, .string ⟨#[]⟩, .string ⟨#[]⟩, .slice none 0 0] 71)).alloc (.cells #[.int .i64 0, .string ⟨#[]⟩, .string ⟨#[]⟩, .slice none 0 0] 71)) := (((Below.refl _ _).alloc (Nat.le_refl _) _).alloc (by simp) _).alloc (by simp; omega) _
  have hx1 : (((w.alloc (.cells #[.pointer (some ⟨g, 0, none⟩)] 96)).alloc (.cells #[.int .i64 0, .string ⟨#[]⟩, .string ⟨#[]⟩, .slice none 0 0] 71)).alloc (.cells #[.int .i64 0, .string ⟨#[]⟩, .string ⟨#[]⟩, .slice none 0 0] 71)).heap[w.heap.size]? = some (.cells #[.pointer (some ⟨g, 0, none⟩)] 96 (0, 0)) := (Below.heap_alloc _ _ _ (by simp; omega)).trans ((Below.heap_alloc _ _ _ (by simp)).trans (heap_alloc_new _ _))
  have hx2 : (((w.alloc (.cells #[.pointer (some ⟨g, 0, none⟩)] 96)).alloc (.cells #[.int .i64 0, .string ⟨#[]⟩, .string ⟨#[]⟩, .slice none 0 0] 71)).alloc (.cells #[.int .i64 0, .string ⟨#[]⟩, .string ⟨#[]⟩, .slice none 0 0] 71)).heap[w.heap.size + 1]? = some (.cells #[.int .i64 0, .string ⟨#[]⟩, .string ⟨#[]⟩, .slice none 0 0] 71 (0, 0)) := by
    refine (Below.heap_alloc _ _ _ (by simp)).trans ?_
    have := heap_alloc_new (w.alloc (.cells #[.pointer (some ⟨g, 0, none⟩)] 96)) (.cells #[.int .i64 0, .string ⟨#[]⟩, .string ⟨#[]⟩, .slice none 0 0] 71)
    simpa using this
  have hx3 : (((w.alloc (.cells #[.pointer (some ⟨g, 0, none⟩)] 96)).alloc (.cells #[.int .i64 0, .string ⟨#[]⟩, .string ⟨#[]⟩, .slice none 0 0] 71)).alloc (.cells #[.int .i64 0, .string ⟨#[]⟩, .string ⟨#[]⟩, .slice none 0 0] 71)).heap[w.heap.size + 2]? = some (.cells #[.int .i64 0, .string ⟨#[]⟩, .string ⟨#[]⟩, .slice none 0 0] 71 (0, 0)) := by
    have := heap_alloc_new ((w.alloc (.cells #[.pointer (some ⟨g, 0, none⟩)] 96)).alloc (.cells #[.int .i64 0, .string ⟨#[]⟩, .string ⟨#[]⟩, .slice none 0 0] 71)) (.cells #[.int .i64 0, .string ⟨#[]⟩, .string ⟨#[]⟩, .slice none 0 0] 71)
    simpa using this
  have HC := Lib.hid (rwithin_bad (((w.alloc (.cells #[.pointer (some ⟨g, 0, none⟩)] 96)).alloc (.cells #[.int .i64 0, .string ⟨#[]⟩, .string ⟨#[]⟩, .slice none 0 0] 71)).alloc (.cells #[.int .i64 0, .string ⟨#[]⟩, .string ⟨#[]⟩, .slice none 0 0] 71)) B g l d b (.func (.func 113) #[] #[.pointer (some ⟨w.heap.size, 0, none⟩), .pointer (some ⟨w.heap.size + 2, 0, none⟩)]) (h.below hb0 hB) hd0 hd1 hbd)
  have HT := Lib.hid (Touch.of_below hb0 [g])
  have HX2 := Lib.hid hx2
  have HX3 := Lib.hid hx3
  have q0 := Lib.cell_of_heap hx1 0
  simp at q0
  clear h hb0 hx1 hx2 hx3
  go_enter Tryz.func101, Tryz.ntmps101
  go_wp2_with (go_at_call 103; go_must (refine HC.out.mono ?_))
  rintro e w2 ⟨rfl, hr, ht⟩
  have hp2 := ht.keep HX2.out (by simp; omega)
  have HP := Lib.hid (ht.keep HX3.out (by simp; omega))
  have HP2 := Lib.hid hp2
  have HT2 := Lib.hid (HT.out.same ht)
  have HS := Lib.hid (setRow_heap w2 (w.heap.size + 1) #[.int .i64 0, .string ⟨#[]⟩, .string ⟨#[]⟩, .slice none 0 0] #[.int .i64 0, .string ⟨#[]⟩, .string ⟨#[]⟩, .slice none 0 0] 71 (0, 0) hp2)
  have HRz := Lib.hid (RAt.setRow hr (show w.heap.size + 1 ≠ g by omega) (by omega) #[.int .i64 0, .string ⟨#[]⟩, .string ⟨#[]⟩, .slice none 0 0])
  have HTz := Lib.hid (show Touch w (w2.setRow (w.heap.size + 1) #[.int .i64 0, .string ⟨#[]⟩, .string ⟨#[]⟩, .slice none 0 0]) [g] from ⟨HT2.out.os, HT2.out.tape, HT2.out.output, Nat.le_trans HT2.out.size (Nat.le_of_eq (setRow_size _ _ _).symm), fun k hk hn => (setRow_other _ _ _ _ (by omega)).trans (HT2.out.block k hk hn)⟩)
  clear hr ht hp2 HC HT q0
  go_upto_region 3 with fail
  go_step
  go_step
  refine wp_load_row 71 _ rfl (w.heap.size + 2) rfl 71 #[.int .i64 0, .string ⟨#[]⟩, .string ⟨#[]⟩, .slice none 0 0] (0, 0) _ HP.out Tryz.underlying71 rfl (by kernel_rfl) ?_
  go_step
  go_step
  refine wp_store_row 71 _ _ rfl (w.heap.size + 1) #[.int .i64 0, .string ⟨#[]⟩, .string ⟨#[]⟩, .slice none 0 0] rfl rfl 71 #[.int .i64 0, .string ⟨#[]⟩, .string ⟨#[]⟩, .slice none 0 0] HP2.out (by kernel_rfl) rfl (by kernel_rfl) ?_
  go_wp2
  have hl := run_loadVar_row (P := Tryz.prog) _ (w.heap.size + 1) _ 71 _ _ _ HS.out Tryz.underlying71 rfl (by kernel_rfl)
  refine bodyPost_ret (v := .agg #[.int .i64 0, .string ⟨#[]⟩, .string ⟨#[]⟩, .slice none 0 0]) ?_ rfl ⟨⟨ruZero, [], none, 0⟩, rfl, rfl, ru_at_zero _ _, HRz.out, HTz.out⟩
  simp [Act.put, results, Tryz.results101, asAddr, hl]

set_option maxRecDepth 100000 in
set_option maxHeartbeats 4000000 in
theorem rru_ok : ∀ D : Nat, RRuOk D
  | 0 => fun B w g l d b h hB _ hd _ => by
    have := rru_bad B w g l d b h hB (by omega) (by omega) (.inr (by omega))
    exact this
  | D + 1 => by
    have ih := rru_ok D
    intro B w g l d b h hB hl hd hD
    cases b with
    | true =>
      rw [rtree_bad]
      exact rru_bad B w g l d true h hB (by omega) (by omega) (.inl rfl)
    | false =>
      rw [rtree_next]
      have hmf : ∀ (fn : Fn) (first cap : Array Value) (w : World), (Instr.makeFunc fn first cap).run Tryz.prog w = .ok (.func fn first cap) w := fun _ _ _ _ => rfl
      have heats := eats_tree ruZero eats_ru D
      have hit : ∀ (W : World) (l : List UInt8) (b : Bool), RAt B W g l (d + 1) b → B ≤ W.heap.size → l.length ≤ 20000000 → Calls Tryz.prog 101 #[.pointer (some ⟨g, 0, none⟩)] W (RuIPost B W g (rtree rru ruZero D l b) (d + 1)) := fun W l b h hB hl => ih B W g l (d + 1) b h hB hl (by omega) (by omega)
      generalize rtree rru ruZero D = f at heats hit ⊢
      obtain ⟨x1, s1, q1⟩ : ∃ x s, rlong (l, false).1 (l, false).2 = (x, s) := ⟨_, _, rfl⟩
      obtain ⟨x2, s2, q2⟩ : ∃ x s, rtxt s1.1 s1.2 = (x, s) := ⟨_, _, rfl⟩
      obtain ⟨x3, s3, q3⟩ : ∃ x s, rtxt s2.1 s2.2 = (x, s) := ⟨_, _, rfl⟩
      obtain ⟨ps, s4, q4⟩ : ∃ x s, rlist f s3.1 s3.2 = (x, s) := ⟨_, _, rfl⟩
      have hfin : (Tr.mk (rru l false).1 (rlist f (rru l false).2.1 (rru l false).2.2).1, (rlist f (rru l false).2.1 (rru l false).2.2).2) = (Tr.mk ⟨x1, x2, x3⟩ ps, s4) := by
        have hh : rru l false = (⟨x1, x2, x3⟩, s3) := by
          unfold rru
          dsimp only at q1 ⊢
          rw [q1]
          dsimp only
          rw [q2]
          dsimp only
          rw [q3]
        rw [hh]
        dsimp only
        rw [q4]
      rw [hfin]
      have hg := h.lt
      have hb0 : Below w.heap.size w (((w.alloc (.cells #[.pointer (some ⟨g, 0, none⟩)] 96)).alloc (.cells #[.int .i64 0, .string ⟨#[]⟩, .string ⟨#[]⟩, .slice none 0 0] 71)).alloc (.cells #[.int .i64 0, .string ⟨#[]⟩, .string ⟨#[]⟩, .slice none 0 0] 71)) := (((Below.refl _ _).alloc (Nat.le_refl _) _).alloc (by simp) _).alloc (by simp; omega) _
      have hx1 : (((w.alloc (.cells #[.pointer (some ⟨g, 0, none⟩)] 96)).alloc (.cells #[.int .i64 0, .string ⟨#[]⟩, .string ⟨#[]⟩, .slice none 0 0] 71)).alloc (.cells #[.int .i64 0, .string ⟨#[]⟩, .string ⟨#[]⟩, .slice none 0 0] 71)).heap[w.heap.size]? = some (.cells #[.pointer (some ⟨g, 0, none⟩)] 96 (0, 0)) := (Below.heap_alloc _ _ _ (by simp; omega)).trans ((Below.heap_alloc _ _ _ (by simp)).trans (heap_alloc_new _ _))
      have hx2 : (((w.alloc (.cells #[.pointer (some ⟨g, 0, none⟩)] 96)).alloc (.cells #[.int .i64 0, .string ⟨#[]⟩, .string ⟨#[]⟩, .slice none 0 0] 71)).alloc (.cells #[.int .i64 0, .string ⟨#[]⟩, .string ⟨#[]⟩, .slice none 0 0] 71)).heap[w.heap.size + 1]? = some (.cells #[.int .i64 0, .string ⟨#[]⟩, .string ⟨#[]⟩, .slice none 0 0] 71 (0, 0)) := by
        refine (Below.heap_alloc _ _ _ (by simp)).trans ?_
        have := heap_alloc_new (w.alloc (.cells #[.pointer (some ⟨g, 0, none⟩)] 96)) (.cells #[.int .i64 0, .string ⟨#[]⟩, .string ⟨#[]⟩, .slice none 0 0] 71)
        simpa using this
      have hx3 : (((w.alloc (.cells #[.pointer (some ⟨g, 0, none⟩)] 96)).alloc (.cells #[.int .i64 0, .string ⟨#[]⟩, .string ⟨#[]⟩, .slice none 0 0] 71)).alloc (.cells #[.int .i64 0, .string ⟨#[]⟩, .string ⟨#[]⟩, .slice none 0 0] 71)).heap[w.heap.size + 2]? = some (.cells #[.int .i64 0, .string ⟨#[]⟩, .string ⟨#[]⟩, .slice none 0 0] 71 (0, 0)) := by
        have := heap_alloc_new ((w.alloc (.cells #[.pointer (some ⟨g, 0, none⟩)] 96)).alloc (.cells #[.int .i64 0, .string ⟨#[]⟩, .string ⟨#[]⟩, .slice none 0 0] 71)) (.cells #[.int .i64 0, .string ⟨#[]⟩, .string ⟨#[]⟩, .slice none 0 0] 71)
        simpa using this
      have hC := ruwithin_any f (((w.alloc (.cells #[.pointer (some ⟨g, 0, none⟩)] 96)).alloc (.cells #[.int .i64 0, .string ⟨#[]⟩, .string ⟨#[]⟩, .slice none 0 0] 71)).alloc (.cells #[.int .i64 0, .string ⟨#[]⟩, .string ⟨#[]⟩, .slice none 0 0] 71)) B g w.heap.size (w.heap.size + 2) d (l, false) s1 s2 s3 s4 x1 x2 x3 ps q1 q2 q3 q4 heats hit rfl (by omega) (by omega) (h.below hb0 hB) (Nat.le_trans hB hb0.size) hl (by omega) (by omega) (by omega) (by omega) (by simp) hx1 hx3
      have hsz : (((w.alloc (.cells #[.pointer (some ⟨g, 0, none⟩)] 96)).alloc (.cells #[.int .i64 0, .string ⟨#[]⟩, .string ⟨#[]⟩, .slice none 0 0] 71)).alloc (.cells #[.int .i64 0, .string ⟨#[]⟩, .string ⟨#[]⟩, .slice none 0 0] 71)).heap.size = w.heap.size + 3 := by simp
      have HC := Lib.hid hC
      have HT := Lib.hid (Touch.of_below hb0 [g])
      have HX2 := Lib.hid hx2
      have HSz := Lib.hid hsz
      have q0 := Lib.cell_of_heap hx1 0
      simp at q0
      clear h hb0 hx1 hx2 hx3 hC hit heats ih hfin q1 q2 q3 q4 hsz
      go_enter Tryz.func101, Tryz.ntmps101
      go_wp2_with (go_at_call 103; go_must (refine HC.out.mono ?_))
      rintro e w2 ⟨rfl, cs, hcs, hN, hr, ht⟩
      obtain ⟨a, es, cap, hv, hE, hes⟩ := hN
      cases hv
      rw [HSz.out] at hE
      have hp2 := ht.keep HX2.out (by simp; omega)
      have HP := Lib.hid hcs
      have HP2 := Lib.hid hp2
      have HT2 := Lib.hid (HT.out.trans (n := [g]) ht (fun _ h => h) (fun x hx => by simp at hx; rcases hx with rfl | rfl; exact .inl (by simp); exact .inr (by omega)))
      have HS := Lib.hid (setRow_heap w2 (w.heap.size + 1) #[.int .i64 0, .string ⟨#[]⟩, .string ⟨#[]⟩, .slice none 0 0] #[.int .i64 x1, .string x2, .string x3, .slice a es.length cap] 71 (0, 0) hp2)
      have HRz := Lib.hid (RAt.setRow hr (show w.heap.size + 1 ≠ g by omega) (by omega) #[.int .i64 x1, .string x2, .string x3, .slice a es.length cap])
      have HTz := Lib.hid (show Touch w (w2.setRow (w.heap.size + 1) #[.int .i64 x1, .string x2, .string x3, .slice a es.length cap]) [g] from ⟨HT2.out.os, HT2.out.tape, HT2.out.output, Nat.le_trans HT2.out.size (Nat.le_of_eq (setRow_size _ _ _).symm), fun k hk hn => (setRow_other _ _ _ _ (by omega)).trans (HT2.out.block k hk hn)⟩)
      have hkz : Keeps (fun b => w.heap.size + 3 ≤ b) w2 (w2.setRow (w.heap.size + 1) #[.int .i64 x1, .string x2, .string x3, .slice a es.length cap]) := ⟨Nat.le_of_eq (setRow_size _ _ _).symm, fun k hk _ => setRow_other _ _ _ _ (by omega)⟩
      obtain ⟨a', cap', hv', hc1, hc2, htrs⟩ := hE.trs RuE.tree (show 0 < 4 by decide) (fun _ => rfl) (fun _ _ h => RuE.at h) ruE_keep
      cases hv'
      have hat : ruEAt (fun b => w.heap.size ≤ b) (w2.setRow (w.heap.size + 1) #[.int .i64 x1, .string x2, .string x3, .slice a es.length cap]) ⟨⟨x1, x2, x3⟩, ps, a, cap⟩ := by
        rw [hes] at htrs
        have hlen : ps.length = es.length := by rw [← hes, List.length_map]
        refine ⟨by rw [hlen]; exact hc1, hc2, TrsAt.mono (ok := fun b => w.heap.size + 3 ≤ b) (fun x _ hx => by omega) (ruHd_mono (fun x _ hx => by omega)) _ (TrsAt.keep hkz (ruHd_keep hkz) _ htrs)⟩
      have HAt := Lib.hid hat
      have hpl : es.length = ps.length := by rw [← hes, List.length_map]
      have HPl := Lib.hid hpl
      clear hr ht hp2 HC HT q0 hE hes htrs hcs hat hkz hpl
      go_upto_region 3 with fail
      go_step
      go_step
      refine wp_load_row 71 _ rfl (w.heap.size + 2) rfl 71 #[.int .i64 x1, .string x2, .string x3, .slice a es.length cap] (0, 0) _ HP.out Tryz.underlying71 rfl (by kernel_rfl) ?_
      go_step
      go_step
      refine wp_store_row 71 _ _ rfl (w.heap.size + 1) #[.int .i64 x1, .string x2, .string x3, .slice a es.length cap] rfl rfl 71 #[.int .i64 0, .string ⟨#[]⟩, .string ⟨#[]⟩, .slice none 0 0] HP2.out (by kernel_rfl) rfl (by kernel_rfl) ?_
      go_wp2
      have hl := run_loadVar_row (P := Tryz.prog) _ (w.heap.size + 1) _ 71 _ _ _ HS.out Tryz.underlying71 rfl (by kernel_rfl)
      refine bodyPost_ret (v := .agg #[.int .i64 x1, .string x2, .string x3, .slice a es.length cap]) ?_ rfl ⟨⟨⟨x1, x2, x3⟩, ps, a, cap⟩, by rw [HPl.out], rfl, HAt.out, HRz.out, HTz.out⟩
      simp [Act.put, results, Tryz.results101, asAddr, hl]

set_option maxRecDepth 100000 in
set_option maxHeartbeats 4000000 in
theorem nowithin_any (f : List UInt8 → Bool → Tr NoH × List UInt8 × Bool) (w : World) (B g b1 b2 : Nat) (d : Int) (s0 s1 s2 s3 s4 s5 : List UInt8 × Bool) (x1 : Int) (x2a x2b x3 : ByteArray) (xs : List T3) (ps : List (Tr NoH))
    (q1 : rlong s0.1 s0.2 = (x1, s1)) (q2 : robj2 s1.1 s1.2 = (⟨x2a, x2b⟩, s2)) (q3 : rtxt s2.1 s2.2 = (x3, s3)) (q4 : rlist rsub3 s3.1 s3.2 = (xs, s4)) (q5 : rlist f s4.1 s4.2 = (ps, s5))
    (heats : Eats (fun l b => (f l b).2)) (hit : ∀ (W : World) (l : List UInt8) (b : Bool), RAt B W g l (d + 1) b → B ≤ W.heap.size → l.length ≤ 20000000 → Calls Tryz.prog 48 #[.pointer (some ⟨g, 0, none⟩)] W (NoIPost B W g (f l b) (d + 1)))
    (hs0 : s0.2 = false) (hd0 : 0 ≤ d) (hd1 : d < 64) (hr : RAt B w g s0.1 d s0.2) (hB : B ≤ w.heap.size) (hl : s0.1.length ≤ 20000000) (hbB : B ≤ b2) (hn1 : b1 ≠ g) (hn2 : b2 ≠ g) (hn12 : b1 ≠ b2) (hbl : b2 < w.heap.size) (h1 : w.heap[b1]? = some (.cells #[.pointer (some ⟨g, 0, none⟩)] 96 (0, 0))) (h2 : w.heap[b2]? = some (.cells #[.int .i64 0, .string ⟨#[]⟩, .string ⟨#[]⟩, .string ⟨#[]⟩, .slice none 0 0, .slice none 0 0] 34 (0, 0))) :
    Calls Tryz.prog 103 #[.pointer (some ⟨g, 0, none⟩), .func (.func 104) #[] #[.pointer (some ⟨b1, 0, none⟩), .pointer (some ⟨b2, 0, none⟩)]] w (NoCPost B w g b2 d s5 x1 x2a x2b x3 xs ps) := by
  have hen : ∀ (args : Array Value) (w : World), (callFunc 104 args).run Tryz.prog w = .ok (.enter 104 args) w := fun _ _ => by kernel_rfl
  rw [hs0] at hr
  have hg := hr.lt
  have hBg : B ≤ g := by obtain ⟨_, _, _, h3⟩ := hr; exact h3
  obtain ⟨ra, hh, _, _⟩ := id hr
  have c1 := Lib.cell_of_heap hh 1
  have c2 := Lib.cell_of_heap hh 2
  have cf1 := Lib.frozen_of_heap hh 1
  have cf2 := Lib.frozen_of_heap hh 2
  simp at c1 c2
  have hwr : IntKind.i64.wrap (d + 1) = d + 1 := by rw [IntKind.wrap_i64]; omega
  have hwm : IntKind.i64.wrap (d + 1 - 1) = d := by rw [IntKind.wrap_i64]; omega
  have h64I : ¬ (64 : Int) < d + 1 := by omega
  have hw1 := (hr.depth (d + 1)).badSet false
  have ht1 : Touch w ((w.setCell ⟨g, 1, none⟩ (.int .i64 (d + 1))).setCell ⟨g, 2, none⟩ (.bool false)) [g] := ((Touch.refl w [g]).setCell (p := ⟨g, 1, none⟩) (.inl (by simp)) _).setCell (p := ⟨g, 2, none⟩) (.inl (by simp)) _
  have hC := noclo_any f _ B g b1 b2 (d + 1) s0 s1 s2 s3 s4 s5 x1 x2a x2b x3 xs ps q1 q2 q3 q4 q5 heats hit (by rw [hs0]; exact hw1) (Nat.le_trans hB ht1.size) hl hbB hn1 hn2 hn12 (Nat.lt_of_lt_of_le hg ht1.size) (Nat.lt_of_lt_of_le hbl ht1.size) (ht1.keep h1 (by simpa using hn1)) (ht1.keep h2 (by simpa using hn2))
  have hsz : ((w.setCell ⟨g, 1, none⟩ (.int .i64 (d + 1))).setCell ⟨g, 2, none⟩ (.bool false)).heap.size = w.heap.size := by simp [World.setCell]
  have HC := Lib.hid hC
  have HT1 := Lib.hid ht1
  have HSz := Lib.hid hsz
  clear hr hw1 ht1 hh h1 h2 hC hit heats q1 q2 q3 q4 q5 hsz hs0
  go_enter Tryz.func103, Tryz.ntmps103
  go_wp2_with (go_at_call 104; go_must (refine HC.out.mono ?_))
  rintro e w2 ⟨rfl, cs, hcs, hN, hw, ht⟩
  have hgl := hw.lt
  obtain ⟨a2, h2, _, _⟩ := id hw
  have y1 := Lib.cell_of_heap h2 1
  have yf := Lib.frozen_of_heap h2 1
  simp at y1
  have htz : Touch w2 (w2.setCell ⟨g, 1, none⟩ (.int .i64 d)) [g, b2] := (Touch.refl w2 _).setCell (p := ⟨g, 1, none⟩) (.inl (by simp)) _
  have hNw : NewNo w x1 x2a x2b x3 xs ps (.agg cs) w2 := by
    unfold NewNo at hN ⊢
    rw [HSz.out] at hN
    exact hN
  have HW := Lib.hid (hw.depth d)
  have HT := Lib.hid (((HT1.out.two b2).same ht).same htz)
  have HP := Lib.hid ((heap_setCell_other _ ⟨g, 1, none⟩ b2 (.int .i64 d) (by simpa using hn2)).trans hcs)
  have HN := Lib.hid (newNo_touch hNw htz hg hbl)
  clear hw ht hcs hN hNw htz h2 HC HT1 HSz
  go_wp2
  go_end0
  exact ⟨rfl, cs, HP.out, HN.out, HW.out, HT.out⟩

def RNoOk (D : Nat) : Prop := ∀ (B : Nat) (w : World) (g : Nat) (l : List UInt8) (d : Int) (b : Bool), RAt B w g l d b → B ≤ w.heap.size → l.length ≤ 20000000 → d = 64 - (D : Int) → D ≤ 64 →
  Calls Tryz.prog 48 #[.pointer (some ⟨g, 0, none⟩)] w (NoIPost B w g (rtree rno noZero D l b) d)

theorem no_at_zero (ok : Nat → Prop) (w : World) : noEAt ok w ⟨noZero, [], none, 0, none, 0⟩ := ⟨Nat.le_refl _, Nat.zero_le _, by rw [TrsAt]; trivial, none, 0, rfl, Nat.le_refl _, Nat.zero_le _, fun j u hj => by simp [noZero] at hj⟩

set_option maxRecDepth 100000 in
set_option maxHeartbeats 4000000 in
theorem rno_bad (B : Nat) (w : World) (g : Nat) (l : List UInt8) (d : Int) (b : Bool) (h : RAt B w g l d b) (hB : B ≤ w.heap.size) (hd0 : 0 ≤ d) (hd1 : d ≤ 64) (hbd : b = true ∨ d = 64) :
    Calls Tryz.prog 48 #[.pointer (some ⟨g, 0, none⟩)] w (NoIPost B w g (Tr.mk noZero [], l, true) d) := by
  have hmf : ∀ (fn : Fn) (first cap : Array Value) (w : World), (Instr.makeFunc fn first cap).run Tryz.prog w = .ok (.func fn first cap) w := fun _ _ _ _ => rfl
  have hg := h.lt
  have hb0 : Below w.heap.size w (((w.alloc (.cells #[.pointer (some ⟨g, 0, none⟩)] 96)).alloc (.cells #[.int .i64 0, .string ⟨#[]⟩, .string ⟨#[]⟩, .string ⟨#[]⟩, .slice none 0 0, .slice none 0 0] 34)).alloc (.cells #[.int .i64 0, .string ⟨#[]⟩, .string ⟨#[]⟩, .string ⟨#[]⟩, .slice none 0 0, .slice none 0 0] 34)) := (((Below.refl _ _).alloc (Nat.le_refl _) _).alloc (by simp) _).alloc (by simp; omega) _
  have hx1 : (((w.alloc (.cells #[.pointer (some ⟨g, 0, none⟩)] 96)).alloc (.cells #[.int .i64 0, .string ⟨#[]⟩, .string ⟨#[]⟩, .string ⟨#[]⟩, .slice none 0 0, .slice none 0 0] 34)).alloc (.cells #[.int .i64 0, .string ⟨#[]⟩, .string ⟨#[]⟩, .string ⟨#[]⟩, .slice none 0 0, .slice none 0 0] 34)).heap[w.heap.size]? = some (.cells #[.pointer (some ⟨g, 0, none⟩)] 96 (0, 0)) := (Below.heap_alloc _ _ _ (by simp; omega)).trans ((Below.heap_alloc _ _ _ (by simp)).trans (heap_alloc_new _ _))
  have hx2 : (((w.alloc (.cells #[.pointer (some ⟨g, 0, none⟩)] 96)).alloc (.cells #[.int .i64 0, .string ⟨#[]⟩, .string ⟨#[]⟩, .string ⟨#[]⟩, .slice none 0 0, .slice none 0 0] 34)).alloc (.cells #[.int .i64 0, .string ⟨#[]⟩, .string ⟨#[]⟩, .string ⟨#[]⟩, .slice none 0 0, .slice none 0 0] 34)).heap[w.heap.size + 1]? = some (.cells #[.int .i64 0, .string ⟨#[]⟩, .string ⟨#[]⟩, .string ⟨#[]⟩, .slice none 0 0, .slice none 0 0] 34 (0, 0)) := by
    refine (Below.heap_alloc _ _ _ (by simp)).trans ?_
    have := heap_alloc_new (w.alloc (.cells #[.pointer (some ⟨g, 0, none⟩)] 96)) (.cells #[.int .i64 0, .string ⟨#[]⟩, .string ⟨#[]⟩, .string ⟨#[]⟩, .slice none 0 0, .slice none 0 0] 34)
    simpa using this
  have hx3 : (((w.alloc (.cells #[.pointer (some ⟨g, 0, none⟩)] 96)).alloc (.cells #[.int .i64 0, .string ⟨#[]⟩, .string ⟨#[]⟩, .string ⟨#[]⟩, .slice none 0 0, .slice none 0 0] 34)).alloc (.cells #[.int .i64 0, .string ⟨#[]⟩, .string ⟨#[]⟩, .string ⟨#[]⟩, .slice none 0 0, .slice none 0 0] 34)).heap[w.heap.size + 2]? = some (.cells #[.int .i64 0, .string ⟨#[]⟩, .string ⟨#[]⟩, .string ⟨#[]⟩, .slice none 0 0, .slice none 0 0] 34 (0, 0)) := by
    have := heap_alloc_new ((w.alloc (.cells #[.pointer (some ⟨g, 0, none⟩)] 96)).alloc (.cells #[.int .i64 0, .string ⟨#[]⟩, .string ⟨#[]⟩, .string ⟨#[]⟩, .slice none 0 0, .slice none 0 0] 34)) (.cells #[.int .i64 0, .string ⟨#[]⟩, .string ⟨#[]⟩, .string ⟨#[]⟩, .slice none 0 0, .slice none 0 0] 34)
    simpa using this
  have HC := Lib.hid (rwithin_bad (((w.alloc (.cells #[.pointer (some ⟨g, 0, none⟩)] 96)).alloc (.cells #[.int .i64 0, .string ⟨#[]⟩, .string ⟨#[]⟩, .string ⟨#[]⟩, .slice none 0 0, .slice none 0 0] 34)).alloc (.cells #[.int .i64 0, .string ⟨#[]⟩, .string ⟨#[]⟩, .string ⟨#[]⟩, .slice none 0 0, .slice none 0 0] 34)) B g l d b (.func (.func 104) #[] #[.pointer (some ⟨w.heap.size, 0, none⟩), .pointer (some ⟨w.heap.size + 2, 0, none⟩)]) (h.below hb0 hB) hd0 hd1 hbd)
  have HT := Lib.hid (Touch.of_below hb0 [g])
  have HX2 := Lib.hid hx2
  have HX3 := Lib.hid hx3
  have q0 := Lib.cell_of_heap hx1 0
  simp at q0
  clear h hb0 hx1 hx2 hx3
  go_enter Tryz.func48, Tryz.ntmps48
  go_wp2_with (go_at_call 103; go_must (refine HC.out.mono ?_))
  rintro e w2 ⟨rfl, hr, ht⟩
  have hp2 := ht.keep HX2.out (by simp; omega)
  have HP := Lib.hid (ht.keep HX3.out (by simp; omega))
  have HP2 := Lib.hid hp2
  have HT2 := Lib.hid (HT.out.same ht)
  have HS := Lib.hid (setRow_heap w2 (w.heap.size + 1) #[.int .i64 0, .string ⟨#[]⟩, .string ⟨#[]⟩, .string ⟨#[]⟩, .slice none 0 0, .slice none 0 0] #[.int .i64 0, .string ⟨#[]⟩, .string ⟨#[]⟩, .string ⟨#[]⟩, .slice none 0 0, .slice none 0 0] 34 (0, 0) hp2)
  have HRz := Lib.hid (RAt.setRow hr (show w.heap.size + 1 ≠ g by omega) (by omega) #[.int .i64 0, .string ⟨#[]⟩, .string ⟨#[]⟩, .string ⟨#[]⟩, .slice none 0 0, .slice none 0 0])
  have HTz := Lib.hid (show Touch w (w2.setRow (w.heap.size + 1) #[.int .i64 0, .string ⟨#[]⟩, .string ⟨#[]⟩, .string ⟨#[]⟩, .slice none 0 0, .slice none 0 0]) [g] from ⟨HT2.out.os, HT2.out.tape, HT2.out.output, Nat.le_trans HT2.out.size (Nat.le_of_eq (setRow_size _ _ _).symm), fun k hk hn => (setRow_other _ _ _ _ (by omega)).trans (HT2.out.block k hk hn)⟩)
  clear hr ht hp2 HC HT q0
  go_upto_region 3 with fail
  go_step
  go_step
  refine wp_load_row 34 _ rfl (w.heap.size + 2) rfl 34 #[.int .i64 0, .string ⟨#[]⟩, .string ⟨#[]⟩, .string ⟨#[]⟩, .slice none 0 0, .slice none 0 0] (0, 0) _ HP.out Tryz.underlying34 rfl (by kernel_rfl) ?_
  go_step
  go_step
  refine wp_store_row 34 _ _ rfl (w.heap.size + 1) #[.int .i64 0, .string ⟨#[]⟩, .string ⟨#[]⟩, .string ⟨#[]⟩, .slice none 0 0, .slice none 0 0] rfl rfl 34 #[.int .i64 0, .string ⟨#[]⟩, .string ⟨#[]⟩, .string ⟨#[]⟩, .slice none 0 0, .slice none 0 0] HP2.out (by kernel_rfl) rfl (by kernel_rfl) ?_
  go_wp2
  have hl := run_loadVar_row (P := Tryz.prog) _ (w.heap.size + 1) _ 34 _ _ _ HS.out Tryz.underlying34 rfl (by kernel_rfl)
  refine bodyPost_ret (v := .agg #[.int .i64 0, .string ⟨#[]⟩, .string ⟨#[]⟩, .string ⟨#[]⟩, .slice none 0 0, .slice none 0 0]) ?_ rfl ⟨⟨noZero, [], none, 0, none, 0⟩, rfl, rfl, no_at_zero _ _, HRz.out, HTz.out⟩
  simp [Act.put, results, Tryz.results48, asAddr, hl]

set_option maxRecDepth 100000 in
set_option maxHeartbeats 4000000 in
theorem rno_ok : ∀ D : Nat, RNoOk D
  | 0 => fun B w g l d b h hB _ hd _ => by
    have := rno_bad B w g l d b h hB (by omega) (by omega) (.inr (by omega))
    exact this
  | D + 1 => by
    have ih := rno_ok D
    intro B w g l d b h hB hl hd hD
    cases b with
    | true =>
      rw [rtree_bad]
      exact rno_bad B w g l d true h hB (by omega) (by omega) (.inl rfl)
    | false =>
      rw [rtree_next]
      have hmf : ∀ (fn : Fn) (first cap : Array Value) (w : World), (Instr.makeFunc fn first cap).run Tryz.prog w = .ok (.func fn first cap) w := fun _ _ _ _ => rfl
      have heats := eats_tree noZero eats_no D
      have hit : ∀ (W : World) (l : List UInt8) (b : Bool), RAt B W g l (d + 1) b → B ≤ W.heap.size → l.length ≤ 20000000 → Calls Tryz.prog 48 #[.pointer (some ⟨g, 0, none⟩)] W (NoIPost B W g (rtree rno noZero D l b) (d + 1)) := fun W l b h hB hl => ih B W g l (d + 1) b h hB hl (by omega) (by omega)
      generalize rtree rno noZero D = f at heats hit ⊢
      obtain ⟨x1, s1, q1⟩ : ∃ x s, rlong (l, false).1 (l, false).2 = (x, s) := ⟨_, _, rfl⟩
      obtain ⟨x2a, x2b, s2, q2⟩ : ∃ x y s, robj2 s1.1 s1.2 = (⟨x, y⟩, s) := ⟨_, _, _, rfl⟩
      obtain ⟨x3, s3, q3⟩ : ∃ x s, rtxt s2.1 s2.2 = (x, s) := ⟨_, _, rfl⟩
      obtain ⟨xs, s4, q4⟩ : ∃ x s, rlist rsub3 s3.1 s3.2 = (x, s) := ⟨_, _, rfl⟩
      obtain ⟨ps, s5, q5⟩ : ∃ x s, rlist f s4.1 s4.2 = (x, s) := ⟨_, _, rfl⟩
      have hfin : (Tr.mk (rno l false).1 (rlist f (rno l false).2.1 (rno l false).2.2).1, (rlist f (rno l false).2.1 (rno l false).2.2).2) = (Tr.mk ⟨x1, x2a, x2b, x3, xs⟩ ps, s5) := by
        have hh : rno l false = (⟨x1, x2a, x2b, x3, xs⟩, s4) := by
          unfold rno
          dsimp only at q1 ⊢
          rw [q1]
          dsimp only
          rw [q2]
          dsimp only
          rw [q3]
          dsimp only
          rw [q4]
        rw [hh]
        dsimp only
        rw [q5]
      rw [hfin]
      have hg := h.lt
      have hb0 : Below w.heap.size w (((w.alloc (.cells #[.pointer (some ⟨g, 0, none⟩)] 96)).alloc (.cells #[.int .i64 0, .string ⟨#[]⟩, .string ⟨#[]⟩, .string ⟨#[]⟩, .slice none 0 0, .slice none 0 0] 34)).alloc (.cells #[.int .i64 0, .string ⟨#[]⟩, .string ⟨#[]⟩, .string ⟨#[]⟩, .slice none 0 0, .slice none 0 0] 34)) := (((Below.refl _ _).alloc (Nat.le_refl _) _).alloc (by simp) _).alloc (by simp; omega) _
      have hx1 : (((w.alloc (.cells #[.pointer (some ⟨g, 0, none⟩)] 96)).alloc (.cells #[.int .i64 0, .string ⟨#[]⟩, .string ⟨#[]⟩, .string ⟨#[]⟩, .slice none 0 0, .slice none 0 0] 34)).alloc (.cells #[.int .i64 0, .string ⟨#[]⟩, .string ⟨#[]⟩, .string ⟨#[]⟩, .slice none 0 0, .slice none 0 0] 34)).heap[w.heap.size]? = some (.cells #[.pointer (some ⟨g, 0, none⟩)] 96 (0, 0)) := (Below.heap_alloc _ _ _ (by simp; omega)).trans ((Below.heap_alloc _ _ _ (by simp)).trans (heap_alloc_new _ _))
      have hx2 : (((w.alloc (.cells #[.pointer (some ⟨g, 0, none⟩)] 96)).alloc (.cells #[.int .i64 0, .string ⟨#[]⟩, .string ⟨#[]⟩, .string ⟨#[]⟩, .slice none 0 0, .slice none 0 0] 34)).alloc (.cells #[.int .i64 0, .string ⟨#[]⟩, .string ⟨#[]⟩, .string ⟨#[]⟩, .slice none 0 0, .slice none 0 0] 34)).heap[w.heap.size + 1]? = some (.cells #[.int .i64 0, .string ⟨#[]⟩, .string ⟨#[]⟩, .string ⟨#[]⟩, .slice none 0 0, .slice none 0 0] 34 (0, 0)) := by
        refine (Below.heap_alloc _ _ _ (by simp)).trans ?_
        have := heap_alloc_new (w.alloc (.cells #[.pointer (some ⟨g, 0, none⟩)] 96)) (.cells #[.int .i64 0, .string ⟨#[]⟩, .string ⟨#[]⟩, .string ⟨#[]⟩, .slice none 0 0, .slice none 0 0] 34)
        simpa using this
      have hx3 : (((w.alloc (.cells #[.pointer (some ⟨g, 0, none⟩)] 96)).alloc (.cells #[.int .i64 0, .string ⟨#[]⟩, .string ⟨#[]⟩, .string ⟨#[]⟩, .slice none 0 0, .slice none 0 0] 34)).alloc (.cells #[.int .i64 0, .string ⟨#[]⟩, .string ⟨#[]⟩, .string ⟨#[]⟩, .slice none 0 0, .slice none 0 0] 34)).heap[w.heap.size + 2]? = some (.cells #[.int .i64 0, .string ⟨#[]⟩, .string ⟨#[]⟩, .string ⟨#[]⟩, .slice none 0 0, .slice none 0 0] 34 (0, 0)) := by
        have := heap_alloc_new ((w.alloc (.cells #[.pointer (some ⟨g, 0, none⟩)] 96)).alloc (.cells #[.int .i64 0, .string ⟨#[]⟩, .string ⟨#[]⟩, .string ⟨#[]⟩, .slice none 0 0, .slice none 0 0] 34)) (.cells #[.int .i64 0, .string ⟨#[]⟩, .string ⟨#[]⟩, .string ⟨#[]⟩, .slice none 0 0, .slice none 0 0] 34)
        simpa using this
      have hC := nowithin_any f (((w.alloc (.cells #[.pointer (some ⟨g, 0, none⟩)] 96)).alloc (.cells #[.int .i64 0, .string ⟨#[]⟩, .string ⟨#[]⟩, .string ⟨#[]⟩, .slice none 0 0, .slice none 0 0] 34)).alloc (.cells #[.int .i64 0, .string ⟨#[]⟩, .string ⟨#[]⟩, .string ⟨#[]⟩, .slice none 0 0, .slice none 0 0] 34)) B g w.heap.size (w.heap.size + 2) d (l, false) s1 s2 s3 s4 s5 x1 x2a x2b x3 xs ps q1 q2 q3 q4 q5 heats hit rfl (by omega) (by omega) (h.below hb0 hB) (Nat.le_trans hB hb0.size) hl (by omega) (by omega) (by omega) (by omega) (by simp) hx1 hx3
      have hsz : (((w.alloc (.cells #[.pointer (some ⟨g, 0, none⟩)] 96)).alloc (.cells #[.int .i64 0, .string ⟨#[]⟩, .string ⟨#[]⟩, .string ⟨#[]⟩, .slice none 0 0, .slice none 0 0] 34)).alloc (.cells #[.int .i64 0, .string ⟨#[]⟩, .string ⟨#[]⟩, .string ⟨#[]⟩, .slice none 0 0, .slice none 0 0] 34)).heap.size = w.heap.size + 3 := by simp
      have HC := Lib.hid hC
      have HT := Lib.hid (Touch.of_below hb0 [g])
      have HX2 := Lib.hid hx2
      have HSz := Lib.hid hsz
      have q0 := Lib.cell_of_heap hx1 0
      simp at q0
      clear h hb0 hx1 hx2 hx3 hC hit heats ih hfin q1 q2 q3 q4 q5 hsz
      go_enter Tryz.func48, Tryz.ntmps48
      go_wp2_with (go_at_call 103; go_must (refine HC.out.mono ?_))
      rintro e w2 ⟨rfl, cs, hcs, hN, hr, ht⟩
      obtain ⟨sa, sc, a, es, cap, hv, hE, hes, hsb⟩ := hN
      cases hv
      rw [HSz.out] at hE hsb
      have hp2 := ht.keep HX2.out (by simp; omega)
      have HP := Lib.hid hcs
      have HP2 := Lib.hid hp2
      have HT2 := Lib.hid (HT.out.trans (n := [g]) ht (fun _ h => h) (fun x hx => by simp at hx; rcases hx with rfl | rfl; exact .inl (by simp); exact .inr (by omega)))
      have HS := Lib.hid (setRow_heap w2 (w.heap.size + 1) #[.int .i64 0, .string ⟨#[]⟩, .string ⟨#[]⟩, .string ⟨#[]⟩, .slice none 0 0, .slice none 0 0] #[.int .i64 x1, .string x2a, .string x2b, .string x3, .slice sa xs.length sc, .slice a es.length cap] 34 (0, 0) hp2)
      have HRz := Lib.hid (RAt.setRow hr (show w.heap.size + 1 ≠ g by omega) (by omega) #[.int .i64 x1, .string x2a, .string x2b, .string x3, .slice sa xs.length sc, .slice a es.length cap])
      have HTz := Lib.hid (show Touch w (w2.setRow (w.heap.size + 1) #[.int .i64 x1, .string x2a, .string x2b, .string x3, .slice sa xs.length sc, .slice a es.length cap]) [g] from ⟨HT2.out.os, HT2.out.tape, HT2.out.output, Nat.le_trans HT2.out.size (Nat.le_of_eq (setRow_size _ _ _).symm), fun k hk hn => (setRow_other _ _ _ _ (by omega)).trans (HT2.out.block k hk hn)⟩)
      have hkz : Keeps (fun b => w.heap.size + 3 ≤ b) w2 (w2.setRow (w.heap.size + 1) #[.int .i64 x1, .string x2a, .string x2b, .string x3, .slice sa xs.length sc, .slice a es.length cap]) := ⟨Nat.le_of_eq (setRow_size _ _ _).symm, fun k hk _ => setRow_other _ _ _ _ (by omega)⟩
      obtain ⟨a', cap', hv', hc1, hc2, htrs⟩ := hE.trs NoE.tree (show 0 < 6 by decide) (fun _ => rfl) (fun _ _ h => NoE.at h) noE_keep
      cases hv'
      have hat : noEAt (fun b => w.heap.size ≤ b) (w2.setRow (w.heap.size + 1) #[.int .i64 x1, .string x2a, .string x2b, .string x3, .slice sa xs.length sc, .slice a es.length cap]) ⟨⟨x1, x2a, x2b, x3, xs⟩, ps, sa, sc, a, cap⟩ := by
        rw [hes] at htrs
        have hlen : ps.length = es.length := by rw [← hes, List.length_map]
        refine ⟨by rw [hlen]; exact hc1, hc2, TrsAt.mono (ok := fun b => w.heap.size + 3 ≤ b) (fun x _ hx => by omega) (noHd_mono (fun x _ hx => by omega)) _ (TrsAt.keep hkz (noHd_keep hkz) _ htrs), ((own_rowsAt hsb).keep hkz).mono (fun x _ hx => by omega)⟩
      have HAt := Lib.hid hat
      have hpl : es.length = ps.length := by rw [← hes, List.length_map]
      have HPl := Lib.hid hpl
      clear hr ht hp2 HC HT q0 hE hes htrs hcs hat hkz hpl hsb
      go_upto_region 3 with fail
      go_step
      go_step
      refine wp_load_row 34 _ rfl (w.heap.size + 2) rfl 34 #[.int .i64 x1, .string x2a, .string x2b, .string x3, .slice sa xs.length sc, .slice a es.length cap] (0, 0) _ HP.out Tryz.underlying34 rfl (by kernel_rfl) ?_
      go_step
      go_step
      refine wp_store_row 34 _ _ rfl (w.heap.size + 1) #[.int .i64 x1, .string x2a, .string x2b, .string x3, .slice sa xs.length sc, .slice a es.length cap] rfl rfl 34 #[.int .i64 0, .string ⟨#[]⟩, .string ⟨#[]⟩, .string ⟨#[]⟩, .slice none 0 0, .slice none 0 0] HP2.out (by kernel_rfl) rfl (by kernel_rfl) ?_
      go_wp2
      have hl := run_loadVar_row (P := Tryz.prog) _ (w.heap.size + 1) _ 34 _ _ _ HS.out Tryz.underlying34 rfl (by kernel_rfl)
      refine bodyPost_ret (v := .agg #[.int .i64 x1, .string x2a, .string x2b, .string x3, .slice sa xs.length sc, .slice a es.length cap]) ?_ rfl ⟨⟨⟨x1, x2a, x2b, x3, xs⟩, ps, sa, sc, a, cap⟩, by rw [HPl.out], rfl, HAt.out, HRz.out, HTz.out⟩
      simp [Act.put, results, Tryz.results48, asAddr, hl]
end Go.Proofs.YtdonibkkdhokpaaGreat
