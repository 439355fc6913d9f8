/- The reader's step (written by gen_wirers2.py). -/
import Derived.Test.YtdonibkkdhokpaaGreatZWireRv
namespace Go.Proofs.YtdonibkkdhokpaaGreat
open Go Go.RowKit

def rstp (l : List UInt8) (b : Bool) : Stp × List UInt8 × Bool :=
  let r1 := rpnt3 l b
  let r2 := rtree rru ruZero 64 r1.2.1 r1.2.2
  let r3 := rsub3 r2.2.1 r2.2.2
  let r4 := rlist rlong r3.2.1 r3.2.2
  (⟨r1.1, r2.1.head, r2.1.parts, r3.1, r4.1⟩, r4.2)

theorem eats_stp : Eats (fun l b => (rstp l b).2) := ((eats_pnt3.seq (eats_tree ruZero eats_ru 64)).seq eats_sub3).seq (eats_list eats_long)

set_option maxRecDepth 100000 in
set_option maxHeartbeats 4000000 in
theorem rstep_any (B : Nat) (w : World) (g : Nat) (l : List UInt8) (b : Bool) (h : RAt B w g l 0 b) (hB : B ≤ w.heap.size) (hl : l.length ≤ 20000000) :
    Calls Tryz.prog 47 #[.pointer (some ⟨g, 0, none⟩)] w (StIPost B w g (rstp l b) 0) := by
  have hmf : ∀ (fn : Fn) (first cap : Array Value) (w : World), (Instr.makeFunc fn first cap).run Tryz.prog w = .ok (.func fn first cap) w := fun _ _ _ _ => rfl
  have hg := h.lt
  have hba : Below w.heap.size w (w.alloc (.cells #[.string ⟨#[]⟩, .string ⟨#[]⟩, .string ⟨#[]⟩, .int .i64 0, .string ⟨#[]⟩, .string ⟨#[]⟩, .slice none 0 0, .string ⟨#[]⟩, .string ⟨#[]⟩, .string ⟨#[]⟩, .slice none 0 0] 74)) := (Below.refl _ _).alloc (Nat.le_refl _) _
  have HR := Lib.hid (h.below hba hB)
  have HT := Lib.hid ((Touch.refl w [g]).alloc (.cells #[.string ⟨#[]⟩, .string ⟨#[]⟩, .string ⟨#[]⟩, .int .i64 0, .string ⟨#[]⟩, .string ⟨#[]⟩, .slice none 0 0, .string ⟨#[]⟩, .string ⟨#[]⟩, .string ⟨#[]⟩, .slice none 0 0] 74))
  have HX := Lib.hid (show (w.alloc (.cells #[.string ⟨#[]⟩, .string ⟨#[]⟩, .string ⟨#[]⟩, .int .i64 0, .string ⟨#[]⟩, .string ⟨#[]⟩, .slice none 0 0, .string ⟨#[]⟩, .string ⟨#[]⟩, .string ⟨#[]⟩, .slice none 0 0] 74)).heap[w.heap.size]? = some (.cells #[.string ⟨#[]⟩, .string ⟨#[]⟩, .string ⟨#[]⟩, .int .i64 0, .string ⟨#[]⟩, .string ⟨#[]⟩, .slice none 0 0, .string ⟨#[]⟩, .string ⟨#[]⟩, .string ⟨#[]⟩, .slice none 0 0] 74 (0, 0)) from heap_alloc_new _ _)
  have hsz0 : (w.alloc (.cells #[.string ⟨#[]⟩, .string ⟨#[]⟩, .string ⟨#[]⟩, .int .i64 0, .string ⟨#[]⟩, .string ⟨#[]⟩, .slice none 0 0, .string ⟨#[]⟩, .string ⟨#[]⟩, .string ⟨#[]⟩, .slice none 0 0] 74)).heap.size = w.heap.size + 1 := by simp
  have hne : w.heap.size ≠ g := by omega
  have hnm : w.heap.size ∉ [g] := by simp; omega
  unfold rstp
  have e1 : (rpnt3 l b).2.1.length ≤ l.length := eats_pnt3.1 l b
  have C1 := fun W (h : RAt B W g l 0 b) (hW : B ≤ W.heap.size) => rpoint_t3 B W g l 0 b h hW
  generalize rpnt3 l b = r1 at *
  obtain ⟨⟨p1, p2, p3⟩, l1, b1⟩ := r1
  dsimp only at *
  have e2 : (rtree rru ruZero 64 l1 b1).2.1.length ≤ l1.length := (eats_tree ruZero eats_ru 64).1 l1 b1
  have C2 := fun W (h : RAt B W g l1 0 b1) (hW : B ≤ W.heap.size) => rru_ok 64 B W g l1 0 b1 h hW (Nat.le_trans e1 hl) (by omega) (Nat.le_refl _)
  generalize rtree rru ruZero 64 l1 b1 = r2 at *
  obtain ⟨⟨h, ps⟩, l2, b2⟩ := r2
  dsimp only [Tr.head, Tr.parts] at *
  have e3 : (rsub3 l2 b2).2.1.length ≤ l2.length := eats_sub3.1 l2 b2
  have C3 := fun W (h : RAt B W g l2 0 b2) (hW : B ≤ W.heap.size) => rsub_t3 B W g l2 0 b2 h hW
  generalize rsub3 l2 b2 = r3 at *
  obtain ⟨⟨t1, t2, t3⟩, l3, b3⟩ := r3
  dsimp only at *
  have C4 := fun W (h : RAt B W g l3 0 b3) (hW : B ≤ W.heap.size) => getInts_any B W g l3 0 b3 h hW (Nat.le_trans e3 (Nat.le_trans e2 (Nat.le_trans e1 hl)))
  generalize rlist rlong l3 b3 = r4 at *
  obtain ⟨ys, l4, b4⟩ := r4
  dsimp only at *
  have HC1 := Lib.hid C1
  have HC2 := Lib.hid C2
  have HC3 := Lib.hid C3
  have HC4 := Lib.hid C4
  have HSz := Lib.hid hsz0
  rename_i hr0
  clear hr0 hba C1 C2 C3 C4 e1 e2 e3 hl hsz0
  go_enter Tryz.func47, Tryz.ntmps47
  go_upto_region 1 with fail
  generalize w.alloc (.cells #[.string ⟨#[]⟩, .string ⟨#[]⟩, .string ⟨#[]⟩, .int .i64 0, .string ⟨#[]⟩, .string ⟨#[]⟩, .slice none 0 0, .string ⟨#[]⟩, .string ⟨#[]⟩, .string ⟨#[]⟩, .slice none 0 0] 74) = w0 at *
  have hs0 : w0.heap.size = w.heap.size + 1 := HSz.out
  clear HSz
  go_wp2_with (go_at_call 100; go_must (refine (HC1.out _ HR.out (Nat.le_trans hB HT.out.size)).mono ?_))
  rintro e w1 ⟨rfl, hr, ht⟩
  have hs1 : w.heap.size + 1 ≤ w1.heap.size := by have := ht.size; omega
  have HR := Lib.hid hr
  have HX := Lib.hid (ht.keep HX.out hnm)
  have HT := Lib.hid (HT.out.same ht)
  clear hr ht HC1 hs0
  go_wp2_with (go_at_call 101; go_must (refine (HC2.out _ HR.out (Nat.le_trans hB HT.out.size)).mono ?_))
  rintro e w2 ⟨x, rfl, hx, hat, hr, ht⟩
  obtain ⟨xh, xps, ra, rc⟩ := x
  obtain ⟨rfl, rfl⟩ : xh = h ∧ xps = ps := by unfold RuE.tree at hx; injection hx with h1 h2; exact ⟨h1, h2⟩
  have hat1 : ruEAt (fun b => w.heap.size + 1 ≤ b) w2 ⟨xh, xps, ra, rc⟩ := ruE_keep.mono _ _ _ _ (fun b _ hb => Nat.le_trans hs1 hb) hat
  have HAt := Lib.hid hat1
  have hs2 : w.heap.size + 1 ≤ w2.heap.size := Nat.le_trans hs1 ht.size
  have HR := Lib.hid hr
  have HX := Lib.hid (ht.keep HX.out hnm)
  have HT := Lib.hid (HT.out.same ht)
  clear hr ht HC2 hx hat hat1 hs1
  go_wp2_with (go_at_call 99; go_must (refine (HC3.out _ HR.out (Nat.le_trans hB HT.out.size)).mono ?_))
  rintro e w3 ⟨rfl, hr, ht⟩
  have hk3 : Keeps (fun b => w.heap.size + 1 ≤ b) w2 w3 := ⟨ht.size, fun b hb hl => ht.block b hl (by simp; omega)⟩
  have HAt := Lib.hid (ruE_keep.keep _ _ _ _ hk3 HAt.out)
  have hs3 : w.heap.size + 1 ≤ w3.heap.size := Nat.le_trans hs2 ht.size
  have HR := Lib.hid hr
  have HX := Lib.hid (ht.keep HX.out hnm)
  have HT := Lib.hid (HT.out.same ht)
  clear hr ht HC3 hk3 hs2
  go_wp2_with (go_at_call 102; go_must (refine (HC4.out _ HR.out (Nat.le_trans hB HT.out.size)).mono ?_))
  rintro e w4 ⟨v4, rfl, ho, hr, ht⟩
  obtain ⟨ba, bc, rfl, _, _⟩ := (ownsRow.reads ho).le
  have hk4 : Keeps (fun b => w.heap.size + 1 ≤ b) w3 w4 := ⟨ht.size, fun b hb hl => ht.block b hl (by simp; omega)⟩
  have HAt := Lib.hid (ruE_keep.keep _ _ _ _ hk4 HAt.out)
  have HY := Lib.hid (own_rowsAt (ownsRow_base ho hs3))
  have HR := Lib.hid hr
  have HX := Lib.hid (ht.keep HX.out hnm)
  have HT := Lib.hid (HT.out.same ht)
  clear hr ht HC4 hk4 hs3 ho
  have c0 := Lib.cell_of_heap HX.out 0
  have c1 := Lib.cell_of_heap HX.out 1
  have c2 := Lib.cell_of_heap HX.out 2
  have c3 := Lib.cell_of_heap HX.out 3
  have c4 := Lib.cell_of_heap HX.out 4
  have c5 := Lib.cell_of_heap HX.out 5
  have c6 := Lib.cell_of_heap HX.out 6
  have c7 := Lib.cell_of_heap HX.out 7
  have c8 := Lib.cell_of_heap HX.out 8
  have c9 := Lib.cell_of_heap HX.out 9
  have c10 := Lib.cell_of_heap HX.out 10
  have f0 := Lib.frozen_of_heap HX.out
  simp at c0 c1 c2 c3 c4 c5 c6 c7 c8 c9 c10
  have hlt : w.heap.size < w4.heap.size := (Array.getElem?_eq_some_iff.1 HX.out).1
  have s0 := HX.out
  have s1 := heap_setCell_same _ _ 0 _ _ (.string p1) s0
  have s2 := heap_setCell_same _ _ 1 _ _ (.string p2) s1
  have s3 := heap_setCell_same _ _ 2 _ _ (.string p3) s2
  have s4 := heap_setCell_same _ _ 3 _ _ (.int .i64 xh.kind) s3
  have s5 := heap_setCell_same _ _ 4 _ _ (.string xh.a) s4
  have s6 := heap_setCell_same _ _ 5 _ _ (.string xh.b) s5
  have s7 := heap_setCell_same _ _ 6 _ _ (.slice ra xps.length rc) s6
  have s8 := heap_setCell_same _ _ 7 _ _ (.string t1) s7
  have s9 := heap_setCell_same _ _ 8 _ _ (.string t2) s8
  have s10 := heap_setCell_same _ _ 9 _ _ (.string t3) s9
  have s11 := heap_setCell_same _ _ 10 _ _ (.slice ba ys.length bc) s10
  simp at s11
  have HS := Lib.hid s11
  have HRz := Lib.hid (RAt.set (RAt.set (RAt.set (RAt.set (RAt.set (RAt.set (RAt.set (RAt.set (RAt.set (RAt.set (RAt.set HR.out hne hB 0 (.string p1)) hne hB 1 (.string p2)) hne hB 2 (.string p3)) hne hB 3 (.int .i64 xh.kind)) hne hB 4 (.string xh.a)) hne hB 5 (.string xh.b)) hne hB 6 (.slice ra xps.length rc)) hne hB 7 (.string t1)) hne hB 8 (.string t2)) hne hB 9 (.string t3)) hne hB 10 (.slice ba ys.length bc))
  have HTz := Lib.hid (Touch.setCell (Touch.setCell (Touch.setCell (Touch.setCell (Touch.setCell (Touch.setCell (Touch.setCell (Touch.setCell (Touch.setCell (Touch.setCell (Touch.setCell HT.out (p := ⟨w.heap.size, 0, none⟩) (.inr (Nat.le_refl _)) (.string p1)) (p := ⟨w.heap.size, 1, none⟩) (.inr (Nat.le_refl _)) (.string p2)) (p := ⟨w.heap.size, 2, none⟩) (.inr (Nat.le_refl _)) (.string p3)) (p := ⟨w.heap.size, 3, none⟩) (.inr (Nat.le_refl _)) (.int .i64 xh.kind)) (p := ⟨w.heap.size, 4, none⟩) (.inr (Nat.le_refl _)) (.string xh.a)) (p := ⟨w.heap.size, 5, none⟩) (.inr (Nat.le_refl _)) (.string xh.b)) (p := ⟨w.heap.size, 6, none⟩) (.inr (Nat.le_refl _)) (.slice ra xps.length rc)) (p := ⟨w.heap.size, 7, none⟩) (.inr (Nat.le_refl _)) (.string t1)) (p := ⟨w.heap.size, 8, none⟩) (.inr (Nat.le_refl _)) (.string t2)) (p := ⟨w.heap.size, 9, none⟩) (.inr (Nat.le_refl _)) (.string t3)) (p := ⟨w.heap.size, 10, none⟩) (.inr (Nat.le_refl _)) (.slice ba ys.length bc))
  have htw := (Touch.setCell (Touch.setCell (Touch.setCell (Touch.setCell (Touch.setCell (Touch.setCell (Touch.setCell (Touch.setCell (Touch.setCell (Touch.setCell (Touch.setCell (Touch.refl w4 [w.heap.size]) (p := ⟨w.heap.size, 0, none⟩) (.inl (by simp)) (.string p1)) (p := ⟨w.heap.size, 1, none⟩) (.inl (by simp)) (.string p2)) (p := ⟨w.heap.size, 2, none⟩) (.inl (by simp)) (.string p3)) (p := ⟨w.heap.size, 3, none⟩) (.inl (by simp)) (.int .i64 xh.kind)) (p := ⟨w.heap.size, 4, none⟩) (.inl (by simp)) (.string xh.a)) (p := ⟨w.heap.size, 5, none⟩) (.inl (by simp)) (.string xh.b)) (p := ⟨w.heap.size, 6, none⟩) (.inl (by simp)) (.slice ra xps.length rc)) (p := ⟨w.heap.size, 7, none⟩) (.inl (by simp)) (.string t1)) (p := ⟨w.heap.size, 8, none⟩) (.inl (by simp)) (.string t2)) (p := ⟨w.heap.size, 9, none⟩) (.inl (by simp)) (.string t3)) (p := ⟨w.heap.size, 10, none⟩) (.inl (by simp)) (.slice ba ys.length bc))
  have hkz : Keeps (fun b => w.heap.size + 1 ≤ b) w4 (((((((((((w4.setCell ⟨w.heap.size, 0, none⟩ (.string p1)).setCell ⟨w.heap.size, 1, none⟩ (.string p2)).setCell ⟨w.heap.size, 2, none⟩ (.string p3)).setCell ⟨w.heap.size, 3, none⟩ (.int .i64 xh.kind)).setCell ⟨w.heap.size, 4, none⟩ (.string xh.a)).setCell ⟨w.heap.size, 5, none⟩ (.string xh.b)).setCell ⟨w.heap.size, 6, none⟩ (.slice ra xps.length rc)).setCell ⟨w.heap.size, 7, none⟩ (.string t1)).setCell ⟨w.heap.size, 8, none⟩ (.string t2)).setCell ⟨w.heap.size, 9, none⟩ (.string t3)).setCell ⟨w.heap.size, 10, none⟩ (.slice ba ys.length bc)) := ⟨htw.size, fun b hb hl => htw.block b hl (by simp; omega)⟩
  have hst : stEAt (fun b => w.heap.size ≤ b) (((((((((((w4.setCell ⟨w.heap.size, 0, none⟩ (.string p1)).setCell ⟨w.heap.size, 1, none⟩ (.string p2)).setCell ⟨w.heap.size, 2, none⟩ (.string p3)).setCell ⟨w.heap.size, 3, none⟩ (.int .i64 xh.kind)).setCell ⟨w.heap.size, 4, none⟩ (.string xh.a)).setCell ⟨w.heap.size, 5, none⟩ (.string xh.b)).setCell ⟨w.heap.size, 6, none⟩ (.slice ra xps.length rc)).setCell ⟨w.heap.size, 7, none⟩ (.string t1)).setCell ⟨w.heap.size, 8, none⟩ (.string t2)).setCell ⟨w.heap.size, 9, none⟩ (.string t3)).setCell ⟨w.heap.size, 10, none⟩ (.slice ba ys.length bc)) ⟨⟨⟨p1, p2, p3⟩, xh, xps, ⟨t1, t2, t3⟩, ys⟩, ra, rc, ba, bc⟩ := by
    obtain ⟨h1, h2, h3⟩ := ruE_keep.keep _ _ _ _ hkz HAt.out
    refine stE_keep.mono (fun b => w.heap.size + 1 ≤ b) _ _ _ (fun b _ hb => by omega) ⟨h1, h2, h3, ?_⟩
    have := HY.out.keep hkz
    rw [intL_map] at this
    exact this
  have HSt := Lib.hid hst
  clear s0 s1 s2 s3 s4 s5 s6 s7 s8 s9 s10 s11 htw hkz hst HAt HY
  go_wp2
  have hl := run_loadVar_row (P := Tryz.prog) _ w.heap.size _ 74 _ _ _ HS.out Tryz.underlying74 rfl (by kernel_rfl)
  refine bodyPost_ret (v := .agg #[.string p1, .string p2, .string p3, .int .i64 xh.kind, .string xh.a, .string xh.b, .slice ra xps.length rc, .string t1, .string t2, .string t3, .slice ba ys.length bc]) ?_ rfl ⟨⟨⟨⟨p1, p2, p3⟩, xh, xps, ⟨t1, t2, t3⟩, ys⟩, ra, rc, ba, bc⟩, rfl, rfl, HSt.out, HRz.out, HTz.out⟩
  simp [results, Tryz.results47, asAddr, hl]
end Go.Proofs.YtdonibkkdhokpaaGreat
