/- The reader's event, and lists of a response (written by gen_wirerp.py). -/
import Derived.Test.YtdonibkkdhokpaaGreatZWireLs
import Derived.Test.YtdonibkkdhokpaaGreatZWireRl
import Derived.Test.YtdonibkkdhokpaaGreatZWireGet0
namespace Go.Proofs.YtdonibkkdhokpaaGreat
open Go Go.RowKit

def robj2 (l : List UInt8) (b : Bool) : T2 × List UInt8 × Bool := (⟨(robj l b).1.1, (robj l b).1.2⟩, (robj l b).2)
def rsub3 (l : List UInt8) (b : Bool) : T3 × List UInt8 × Bool := (⟨(rsub l b).1.1.1, (rsub l b).1.1.2, (rsub l b).1.2⟩, (rsub l b).2)
def rpnt3 (l : List UInt8) (b : Bool) : T3 × List UInt8 × Bool := (⟨(rpnt l b).1.1.1, (rpnt l b).1.1.2, (rpnt l b).1.2⟩, (rpnt l b).2)

theorem robj_t2 (B : Nat) (w : World) (g : Nat) (l : List UInt8) (d : Int) (b : Bool) (h : RAt B w g l d b) (hB : B ≤ w.heap.size) :
    Calls Tryz.prog 43 #[.pointer (some ⟨g, 0, none⟩)] w (RPost B w g (robj2 l b).2.1 d (robj2 l b).2.2 (.agg #[.string (robj2 l b).1.a, .string (robj2 l b).1.b])) := robj_any B w g l d b h hB
theorem rsub_t3 (B : Nat) (w : World) (g : Nat) (l : List UInt8) (d : Int) (b : Bool) (h : RAt B w g l d b) (hB : B ≤ w.heap.size) :
    Calls Tryz.prog 99 #[.pointer (some ⟨g, 0, none⟩)] w (RPost B w g (rsub3 l b).2.1 d (rsub3 l b).2.2 (.agg #[.string (rsub3 l b).1.a, .string (rsub3 l b).1.b, .string (rsub3 l b).1.c])) := rsub_any2 B w g l d b h hB
theorem rpoint_t3 (B : Nat) (w : World) (g : Nat) (l : List UInt8) (d : Int) (b : Bool) (h : RAt B w g l d b) (hB : B ≤ w.heap.size) :
    Calls Tryz.prog 100 #[.pointer (some ⟨g, 0, none⟩)] w (RPost B w g (rpnt3 l b).2.1 d (rpnt3 l b).2.2 (.agg #[.string (rpnt3 l b).1.a, .string (rpnt3 l b).1.b, .string (rpnt3 l b).1.c])) := rpoint_any2 B w g l d b h hB
theorem rtruth_b (B : Nat) (w : World) (g : Nat) (l : List UInt8) (d : Int) (b : Bool) (h : RAt B w g l d b) (_ : B ≤ w.heap.size) :
    Calls Tryz.prog 39 #[.pointer (some ⟨g, 0, none⟩)] w (RPost B w g (rtru l b).2.1 d (rtru l b).2.2 (.bool (rtru l b).1)) := rtruth_any2 B w g l d b h
theorem rwhole_b (B : Nat) (w : World) (g : Nat) (l : List UInt8) (d : Int) (b : Bool) (h : RAt B w g l d b) (_ : B ≤ w.heap.size) :
    Calls Tryz.prog 36 #[.pointer (some ⟨g, 0, none⟩)] w (RPost B w g (rlong l b).2.1 d (rlong l b).2.2 (.int .i64 (rlong l b).1)) := rwhole_any2 B w g l d b h

theorem eats_obj2 : Eats (fun l b => (robj2 l b).2) := eats_obj
theorem eats_sub3 : Eats (fun l b => (rsub3 l b).2) := eats_sub
theorem eats_pnt3 : Eats (fun l b => (rpnt3 l b).2) := eats_pnt

def flagL (b : Bool) : List Value := [.bool b]
def intL (n : Int) : List Value := [.int .i64 n]
theorem flagL_map (xs : List Bool) : xs.flatMap flagL = xs.map flagC := by
  induction xs with
  | nil => rfl
  | cons x xs ih => rw [List.flatMap_cons, ih, List.map_cons]; rfl
theorem intL_map (xs : List Int) : xs.flatMap intL = xs.map intC := by
  induction xs with
  | nil => rfl
  | cons x xs ih => rw [List.flatMap_cons, ih, List.map_cons]; rfl

def revt (l0 : List UInt8) (b0 : Bool) : Evt × List UInt8 × Bool :=
  let r1 := rnum l0 b0
  let r2 := rwri r1.2.1 r1.2.2
  (⟨r1.1, r2.1⟩, r2.2)

set_option maxRecDepth 100000 in
set_option maxHeartbeats 1000000 in
theorem revent_any2 (B : Nat) (w : World) (g : Nat) (l0 : List UInt8) (d : Int) (b0 : Bool) (h : RAt B w g l0 d b0) (hB : B ≤ w.heap.size) :
    Calls Tryz.prog 45 #[.pointer (some ⟨g, 0, none⟩)] w (RPost B w g (revt l0 b0).2.1 d (revt l0 b0).2.2 (.agg #[.int .u64 ((revt l0 b0).1.rev : Int), .bool (revt l0 b0).1.x.is, .string (revt l0 b0).1.x.t.a, .string (revt l0 b0).1.x.t.b, .string (revt l0 b0).1.x.t.c, .string (revt l0 b0).1.x.t.d, .string (revt l0 b0).1.x.t.e, .string (revt l0 b0).1.x.t.f])) := by
  have hg := h.lt
  have hba : Below w.heap.size w (w.alloc (.cells #[.int .u64 0, .bool false, .string ⟨#[]⟩, .string ⟨#[]⟩, .string ⟨#[]⟩, .string ⟨#[]⟩, .string ⟨#[]⟩, .string ⟨#[]⟩] 67)) := (Below.refl _ _).alloc (Nat.le_refl _) _
  have HR := Lib.hid (h.below hba hB)
  have HT := Lib.hid ((Touch.refl w [g]).alloc (.cells #[.int .u64 0, .bool false, .string ⟨#[]⟩, .string ⟨#[]⟩, .string ⟨#[]⟩, .string ⟨#[]⟩, .string ⟨#[]⟩, .string ⟨#[]⟩] 67))
  have HX := Lib.hid (show (w.alloc (.cells #[.int .u64 0, .bool false, .string ⟨#[]⟩, .string ⟨#[]⟩, .string ⟨#[]⟩, .string ⟨#[]⟩, .string ⟨#[]⟩, .string ⟨#[]⟩] 67)).heap[w.heap.size]? = some (.cells #[.int .u64 0, .bool false, .string ⟨#[]⟩, .string ⟨#[]⟩, .string ⟨#[]⟩, .string ⟨#[]⟩, .string ⟨#[]⟩, .string ⟨#[]⟩] 67 (0, 0)) from heap_alloc_new _ _)
  have hne : w.heap.size ≠ g := by omega
  have hnm : w.heap.size ∉ [g] := by simp; omega
  unfold revt
  have C1 := fun W (h : RAt B W g l0 d b0) => rnumber_any B W g l0 d b0 h
  generalize rnum l0 b0 = r1 at *
  obtain ⟨x1, l1, b1⟩ := r1
  dsimp only at *
  have C2 := fun W (h : RAt B W g l1 d b1) (hW : B ≤ W.heap.size) => rwrite_any2 B W g l1 d b1 h hW
  generalize rwri l1 b1 = r2 at *
  obtain ⟨⟨y0, ⟨y1, y2, y3, y4, y5, y6⟩⟩, l2, b2⟩ := r2
  dsimp only at *
  have HC1 := Lib.hid C1
  have HC2 := Lib.hid C2
  clear h hba C1 C2
  go_enter Tryz.func45, Tryz.ntmps45
  go_upto_region 1 with fail
  generalize w.alloc (.cells #[.int .u64 0, .bool false, .string ⟨#[]⟩, .string ⟨#[]⟩, .string ⟨#[]⟩, .string ⟨#[]⟩, .string ⟨#[]⟩, .string ⟨#[]⟩] 67) = w0 at *
  go_wp2_with (go_at_call 35; go_must (refine (HC1.out _ HR.out).mono ?_))
  rintro e w1 ⟨rfl, hr, ht⟩
  have HR := Lib.hid hr
  have HX := Lib.hid (ht.keep HX.out hnm)
  have HT := Lib.hid (HT.out.same ht)
  clear hr ht
  go_wp2_with (go_at_call 75; go_must (refine (HC2.out _ HR.out (Nat.le_trans hB HT.out.size)).mono ?_))
  rintro e w2 ⟨rfl, hr, ht⟩
  have HR := Lib.hid hr
  have HX := Lib.hid (ht.keep HX.out hnm)
  have HT := Lib.hid (HT.out.same ht)
  clear hr ht
  have c0 := Lib.cell_of_heap HX.out 0
  have c1 := Lib.cell_of_heap HX.out 1
  have c2 := Lib.cell_of_heap HX.out 2
  have c3 := Lib.cell_of_heap HX.out 3
  have c4 := Lib.cell_of_heap HX.out 4
  have c5 := Lib.cell_of_heap HX.out 5
  have c6 := Lib.cell_of_heap HX.out 6
  have c7 := Lib.cell_of_heap HX.out 7
  have f0 := Lib.frozen_of_heap HX.out
  simp at c0 c1 c2 c3 c4 c5 c6 c7
  have hlt : w.heap.size < w2.heap.size := (Array.getElem?_eq_some_iff.1 HX.out).1
  have s0 := HX.out
  have s1 := heap_setCell_same _ _ 0 _ _ (.int .u64 (x1 : Int)) s0
  have s2 := heap_setCell_same _ _ 1 _ _ (.bool y0) s1
  have s3 := heap_setCell_same _ _ 2 _ _ (.string y1) s2
  have s4 := heap_setCell_same _ _ 3 _ _ (.string y2) s3
  have s5 := heap_setCell_same _ _ 4 _ _ (.string y3) s4
  have s6 := heap_setCell_same _ _ 5 _ _ (.string y4) s5
  have s7 := heap_setCell_same _ _ 6 _ _ (.string y5) s6
  have s8 := heap_setCell_same _ _ 7 _ _ (.string y6) s7
  simp at s8
  have HS := Lib.hid s8
  have HRz := Lib.hid (RAt.set (RAt.set (RAt.set (RAt.set (RAt.set (RAt.set (RAt.set (RAt.set HR.out hne hB 0 (.int .u64 (x1 : Int))) hne hB 1 (.bool y0)) hne hB 2 (.string y1)) hne hB 3 (.string y2)) hne hB 4 (.string y3)) hne hB 5 (.string y4)) hne hB 6 (.string y5)) hne hB 7 (.string y6))
  have HTz := Lib.hid (Touch.setCell (Touch.setCell (Touch.setCell (Touch.setCell (Touch.setCell (Touch.setCell (Touch.setCell (Touch.setCell HT.out (p := ⟨w.heap.size, 0, none⟩) (.inr (Nat.le_refl _)) (.int .u64 (x1 : Int))) (p := ⟨w.heap.size, 1, none⟩) (.inr (Nat.le_refl _)) (.bool y0)) (p := ⟨w.heap.size, 2, none⟩) (.inr (Nat.le_refl _)) (.string y1)) (p := ⟨w.heap.size, 3, none⟩) (.inr (Nat.le_refl _)) (.string y2)) (p := ⟨w.heap.size, 4, none⟩) (.inr (Nat.le_refl _)) (.string y3)) (p := ⟨w.heap.size, 5, none⟩) (.inr (Nat.le_refl _)) (.string y4)) (p := ⟨w.heap.size, 6, none⟩) (.inr (Nat.le_refl _)) (.string y5)) (p := ⟨w.heap.size, 7, none⟩) (.inr (Nat.le_refl _)) (.string y6))
  clear s0 s1 s2 s3 s4 s5 s6 s7 s8
  go_wp2
  have hl := run_loadVar_row (P := Tryz.prog) _ w.heap.size _ 67 _ _ _ HS.out Tryz.underlying67 rfl (by kernel_rfl)
  refine bodyPost_ret (v := .agg #[.int .u64 (x1 : Int), .bool y0, .string y1, .string y2, .string y3, .string y4, .string y5, .string y6]) ?_ rfl ⟨rfl, HRz.out, HTz.out⟩
  simp [results, Tryz.results45, asAddr, hl]

theorem eats_evt : Eats (fun l b => (revt l b).2) := eats_num.seq eats_wri

theorem infoG_getTuples_any : (Tryz.prog.info? 62).map (fun i => (i.zero, i.size, i.bytes)) = some (some (.agg #[.string ⟨#[]⟩, .string ⟨#[]⟩, .string ⟨#[]⟩, .string ⟨#[]⟩, .string ⟨#[]⟩, .string ⟨#[]⟩]), 6, 96) := by kernel_rfl

set_option maxRecDepth 100000 in
set_option maxHeartbeats 2000000 in
theorem getTuples_any (B : Nat) (w : World) (g : Nat) (l : List UInt8) (d : Int) (b : Bool) (h : RAt B w g l d b) (hB : B ≤ w.heap.size) (hl : l.length ≤ 20000000) :
    Calls Tryz.prog 40 #[.pointer (some ⟨g, 0, none⟩), .func (.func 41) #[.pointer (some ⟨g, 0, none⟩)] #[]] w (GPost T6.cells 62 6 B w g d (rlist rtup l b)) := by
  obtain ⟨j0, hj, hy0, hy1, hy2⟩ := info_parts infoG_getTuples_any
  have hen : ∀ (args : Array Value) (w : World), (callFunc 41 args).run Tryz.prog w = .ok (.enter 41 args) w := fun _ _ => by kernel_rfl
  have hg := h.lt
  have hm := rnum_lt l b
  have hln := Nat.le_trans (eats_num.1 l b) hl
  dsimp only at hln
  have HNum := Lib.hid (rnumber_any B w g l d b h)
  unfold rlist
  generalize rnum l b = r at *
  obtain ⟨n1, l1, b1⟩ := r
  dsimp only at *
  obtain ⟨res, hres⟩ : ∃ res, rmany rtup n1 l1 b1 = res := ⟨_, rfl⟩
  rw [hres]
  have HRes := Lib.hid hres
  clear h hres
  go_enter Tryz.func40, Tryz.ntmps40
  go_wp2_with (go_at_call 35; go_must (refine HNum.out.mono ?_))
  rintro e w1 ⟨rfl, hr1, ht1⟩
  have HR1 := Lib.hid hr1
  have HT1 := Lib.hid ht1
  clear hr1 ht1 HNum
  go_wp2
  go_loopw [5, 6] (fun v c wr => GLRel rtup T6.cells 62 6 B w g d l1.length res v c wr) (fun _ c _ => (intOf c).toNat)
  case atStart => exact ⟨[], n1, l1, b1, rfl, hm, owns_nil _ _ _ _, HR1.out, HT1.out, by rw [HRes.out]; rfl, fun _ => by simp, Nat.zero_le _⟩
  case round =>
    obtain ⟨xs, m, li, bi, rfl, hmm, hown, hr, ht, hrs, hlt, hxl⟩ := hrel
    clear HR1 HT1 HRes
    obtain ⟨la, lcap, rfl, hl1, hl2⟩ := (ownsRow.reads hown).le
    unfold maxLen at hl2
    have hgr := hr.lt
    have hbad : wr.cell? ⟨g, 2, none⟩ = some (.bool bi) := by
      obtain ⟨_, q1, _, _⟩ := hr
      have := Lib.cell_of_heap q1 2
      simpa using this
    by_cases hm0 : 0 < m
    · have hm0I : (0 : Int) < (m : Int) := by omega
      cases bi with
      | true =>
        rw [rmany_bad, List.append_nil] at hrs
        subst hrs
        have HO := Lib.hid hown
        have HR := Lib.hid hr
        have HT := Lib.hid ht
        clear hown hr ht
        go_wp2
        go_ret
        exact ⟨_, rfl, HO.out, HR.out, HT.out⟩
      | false =>
        obtain ⟨m', rfl⟩ : ∃ m', m = m' + 1 := ⟨m - 1, by omega⟩
        rw [rmany_next] at hrs
        have hlt' := hlt rfl
        have hea : (rtup li false).2.2 = false → (rtup li false).2.1.length < li.length := eats_tup.2.2 li
        have hwm : IntKind.u64.wrap (((m' + 1 : Nat) : Int) - 1) = (m' : Int) := by rw [IntKind.wrap_u64]; omega
        have hwB : B ≤ wr.heap.size := Nat.le_trans hB ht.size
        have HIt := Lib.hid (rtuple_any2 B wr g li d false hr hwB)
        generalize rtup li false = r at *
        obtain ⟨x, l2, b2⟩ := r
        dsimp only at *
        have HO := Lib.hid hown
        have HT := Lib.hid ht
        have HRs := Lib.hid hrs
        clear hown hr ht hrs
        go_wp2_with (go_at_call 41; go_must (refine HIt.out.mono ?_))
        rintro e w2 ⟨rfl, hr2, ht2⟩
        have ht3 := HT.out.same ht2
        have hs3 : w.heap.size ≤ w2.heap.size := ht3.size
        have HO3 := Lib.hid (Touch.owns HO.out ht2 hg)
        have HR3 := Lib.hid hr2
        have HT4 := Lib.hid ht3
        clear ht3 hr2 ht2 HO HT HIt
        go_wp2_with (at_builtin; go_must (refine wpList_append_rows_own (w0 := w2) rfl _ _ 25 rfl w.heap.size 62 j0 _ 6 96 Tryz.underlying25 hj hy0 hy1 hy2 rfl (T6.cells x) 1 rfl HO3.out rfl rfl ?_ ?_ ?_ hs3 ?_))
        · intro u hu
          simp [T6.cells] at hu
          rcases hu with rfl | rfl | rfl | rfl | rfl | rfl <;> rfl
        · unfold maxLen; omega
        · omega
        intro v6 w6 o6 g6 b6 _
        have hr6 : RAt B w6 g l2 d b2 := by
          obtain ⟨u, q1, q2, q3⟩ := HR3.out
          exact ⟨u, (b6.block g hg).trans q1, q2.below (b6.mono hB), q3⟩
        have ht6 : Touch w w6 [g] := ⟨b6.os.trans HT4.out.os, b6.tape.trans HT4.out.tape, b6.output.trans HT4.out.output, Nat.le_trans HT4.out.size b6.size, fun i hi hn => (b6.block i hi).trans (HT4.out.block i hi hn)⟩
        have ho6 : w6.ownsRow w.heap.size 62 6 v6 (xs ++ [x]).length ((xs ++ [x]).flatMap T6.cells) := by
          rw [List.length_append, List.flatMap_append, List.flatMap_cons, List.flatMap_nil, List.append_nil]
          exact o6
        have HO6 := Lib.hid ho6
        have HR6 := Lib.hid hr6
        have HT6 := Lib.hid ht6
        clear o6 g6 b6 HR3 HT4 HO3 hr6 ht6 ho6 hs3
        go_wp2
        refine ⟨⟨xs ++ [x], m', l2, b2, rfl, by omega, HO6.out, HR6.out, HT6.out, by rw [HRs.out]; simp, fun hb => ?_, ?_⟩, by simp [intOf]⟩
        · have := hea hb
          rw [List.length_append, List.length_singleton]
          omega
        · rw [List.length_append, List.length_singleton]
          omega
    · obtain rfl : m = 0 := by omega
      have hrs' : res = (xs, li, bi) := by rw [hrs]; simp [rmany]
      subst hrs'
      have HO := Lib.hid hown
      have HR := Lib.hid hr
      have HT := Lib.hid ht
      clear hown hr ht hrs
      go_wp2
      go_ret
      exact ⟨_, rfl, HO.out, HR.out, HT.out⟩

theorem infoG_getObjs_any : (Tryz.prog.info? 30).map (fun i => (i.zero, i.size, i.bytes)) = some (some (.agg #[.string ⟨#[]⟩, .string ⟨#[]⟩]), 2, 32) := by kernel_rfl

set_option maxRecDepth 100000 in
set_option maxHeartbeats 2000000 in
theorem getObjs_any (B : Nat) (w : World) (g : Nat) (l : List UInt8) (d : Int) (b : Bool) (h : RAt B w g l d b) (hB : B ≤ w.heap.size) (hl : l.length ≤ 20000000) :
    Calls Tryz.prog 42 #[.pointer (some ⟨g, 0, none⟩), .func (.func 43) #[.pointer (some ⟨g, 0, none⟩)] #[]] w (GPost T2.cells 30 2 B w g d (rlist robj2 l b)) := by
  obtain ⟨j0, hj, hy0, hy1, hy2⟩ := info_parts infoG_getObjs_any
  have hen : ∀ (args : Array Value) (w : World), (callFunc 43 args).run Tryz.prog w = .ok (.enter 43 args) w := fun _ _ => by kernel_rfl
  have hg := h.lt
  have hm := rnum_lt l b
  have hln := Nat.le_trans (eats_num.1 l b) hl
  dsimp only at hln
  have HNum := Lib.hid (rnumber_any B w g l d b h)
  unfold rlist
  generalize rnum l b = r at *
  obtain ⟨n1, l1, b1⟩ := r
  dsimp only at *
  obtain ⟨res, hres⟩ : ∃ res, rmany robj2 n1 l1 b1 = res := ⟨_, rfl⟩
  rw [hres]
  have HRes := Lib.hid hres
  clear h hres
  go_enter Tryz.func42, Tryz.ntmps42
  go_wp2_with (go_at_call 35; go_must (refine HNum.out.mono ?_))
  rintro e w1 ⟨rfl, hr1, ht1⟩
  have HR1 := Lib.hid hr1
  have HT1 := Lib.hid ht1
  clear hr1 ht1 HNum
  go_wp2
  go_loopw [5, 6] (fun v c wr => GLRel robj2 T2.cells 30 2 B w g d l1.length res v c wr) (fun _ c _ => (intOf c).toNat)
  case atStart => exact ⟨[], n1, l1, b1, rfl, hm, owns_nil _ _ _ _, HR1.out, HT1.out, by rw [HRes.out]; rfl, fun _ => by simp, Nat.zero_le _⟩
  case round =>
    obtain ⟨xs, m, li, bi, rfl, hmm, hown, hr, ht, hrs, hlt, hxl⟩ := hrel
    clear HR1 HT1 HRes
    obtain ⟨la, lcap, rfl, hl1, hl2⟩ := (ownsRow.reads hown).le
    unfold maxLen at hl2
    have hgr := hr.lt
    have hbad : wr.cell? ⟨g, 2, none⟩ = some (.bool bi) := by
      obtain ⟨_, q1, _, _⟩ := hr
      have := Lib.cell_of_heap q1 2
      simpa using this
    by_cases hm0 : 0 < m
    · have hm0I : (0 : Int) < (m : Int) := by omega
      cases bi with
      | true =>
        rw [rmany_bad, List.append_nil] at hrs
        subst hrs
        have HO := Lib.hid hown
        have HR := Lib.hid hr
        have HT := Lib.hid ht
        clear hown hr ht
        go_wp2
        go_ret
        exact ⟨_, rfl, HO.out, HR.out, HT.out⟩
      | false =>
        obtain ⟨m', rfl⟩ : ∃ m', m = m' + 1 := ⟨m - 1, by omega⟩
        rw [rmany_next] at hrs
        have hlt' := hlt rfl
        have hea : (robj2 li false).2.2 = false → (robj2 li false).2.1.length < li.length := eats_obj2.2.2 li
        have hwm : IntKind.u64.wrap (((m' + 1 : Nat) : Int) - 1) = (m' : Int) := by rw [IntKind.wrap_u64]; omega
        have hwB : B ≤ wr.heap.size := Nat.le_trans hB ht.size
        have HIt := Lib.hid (robj_t2 B wr g li d false hr hwB)
        generalize robj2 li false = r at *
        obtain ⟨x, l2, b2⟩ := r
        dsimp only at *
        have HO := Lib.hid hown
        have HT := Lib.hid ht
        have HRs := Lib.hid hrs
        clear hown hr ht hrs
        go_wp2_with (go_at_call 43; go_must (refine HIt.out.mono ?_))
        rintro e w2 ⟨rfl, hr2, ht2⟩
        have ht3 := HT.out.same ht2
        have hs3 : w.heap.size ≤ w2.heap.size := ht3.size
        have HO3 := Lib.hid (Touch.owns HO.out ht2 hg)
        have HR3 := Lib.hid hr2
        have HT4 := Lib.hid ht3
        clear ht3 hr2 ht2 HO HT HIt
        go_wp2_with (at_builtin; go_must (refine wpList_append_rows_own (w0 := w2) rfl _ _ 26 rfl w.heap.size 30 j0 _ 2 32 Tryz.underlying26 hj hy0 hy1 hy2 rfl (T2.cells x) 1 rfl HO3.out rfl rfl ?_ ?_ ?_ hs3 ?_))
        · intro u hu
          simp [T2.cells] at hu
          rcases hu with rfl | rfl <;> rfl
        · unfold maxLen; omega
        · omega
        intro v6 w6 o6 g6 b6 _
        have hr6 : RAt B w6 g l2 d b2 := by
          obtain ⟨u, q1, q2, q3⟩ := HR3.out
          exact ⟨u, (b6.block g hg).trans q1, q2.below (b6.mono hB), q3⟩
        have ht6 : Touch w w6 [g] := ⟨b6.os.trans HT4.out.os, b6.tape.trans HT4.out.tape, b6.output.trans HT4.out.output, Nat.le_trans HT4.out.size b6.size, fun i hi hn => (b6.block i hi).trans (HT4.out.block i hi hn)⟩
        have ho6 : w6.ownsRow w.heap.size 30 2 v6 (xs ++ [x]).length ((xs ++ [x]).flatMap T2.cells) := by
          rw [List.length_append, List.flatMap_append, List.flatMap_cons, List.flatMap_nil, List.append_nil]
          exact o6
        have HO6 := Lib.hid ho6
        have HR6 := Lib.hid hr6
        have HT6 := Lib.hid ht6
        clear o6 g6 b6 HR3 HT4 HO3 hr6 ht6 ho6 hs3
        go_wp2
        refine ⟨⟨xs ++ [x], m', l2, b2, rfl, by omega, HO6.out, HR6.out, HT6.out, by rw [HRs.out]; simp, fun hb => ?_, ?_⟩, by simp [intOf]⟩
        · have := hea hb
          rw [List.length_append, List.length_singleton]
          omega
        · rw [List.length_append, List.length_singleton]
          omega
    · obtain rfl : m = 0 := by omega
      have hrs' : res = (xs, li, bi) := by rw [hrs]; simp [rmany]
      subst hrs'
      have HO := Lib.hid hown
      have HR := Lib.hid hr
      have HT := Lib.hid ht
      clear hown hr ht hrs
      go_wp2
      go_ret
      exact ⟨_, rfl, HO.out, HR.out, HT.out⟩

theorem infoG_getEvents_any : (Tryz.prog.info? 67).map (fun i => (i.zero, i.size, i.bytes)) = some (some (.agg #[.int .u64 0, .bool false, .string ⟨#[]⟩, .string ⟨#[]⟩, .string ⟨#[]⟩, .string ⟨#[]⟩, .string ⟨#[]⟩, .string ⟨#[]⟩]), 8, 112) := by kernel_rfl

set_option maxRecDepth 100000 in
set_option maxHeartbeats 2000000 in
theorem getEvents_any (B : Nat) (w : World) (g : Nat) (l : List UInt8) (d : Int) (b : Bool) (h : RAt B w g l d b) (hB : B ≤ w.heap.size) (hl : l.length ≤ 20000000) :
    Calls Tryz.prog 44 #[.pointer (some ⟨g, 0, none⟩), .func (.func 45) #[.pointer (some ⟨g, 0, none⟩)] #[]] w (GPost Evt.cells 67 8 B w g d (rlist revt l b)) := by
  obtain ⟨j0, hj, hy0, hy1, hy2⟩ := info_parts infoG_getEvents_any
  have hen : ∀ (args : Array Value) (w : World), (callFunc 45 args).run Tryz.prog w = .ok (.enter 45 args) w := fun _ _ => by kernel_rfl
  have hg := h.lt
  have hm := rnum_lt l b
  have hln := Nat.le_trans (eats_num.1 l b) hl
  dsimp only at hln
  have HNum := Lib.hid (rnumber_any B w g l d b h)
  unfold rlist
  generalize rnum l b = r at *
  obtain ⟨n1, l1, b1⟩ := r
  dsimp only at *
  obtain ⟨res, hres⟩ : ∃ res, rmany revt n1 l1 b1 = res := ⟨_, rfl⟩
  rw [hres]
  have HRes := Lib.hid hres
  clear h hres
  go_enter Tryz.func44, Tryz.ntmps44
  go_wp2_with (go_at_call 35; go_must (refine HNum.out.mono ?_))
  rintro e w1 ⟨rfl, hr1, ht1⟩
  have HR1 := Lib.hid hr1
  have HT1 := Lib.hid ht1
  clear hr1 ht1 HNum
  go_wp2
  go_loopw [5, 6] (fun v c wr => GLRel revt Evt.cells 67 8 B w g d l1.length res v c wr) (fun _ c _ => (intOf c).toNat)
  case atStart => exact ⟨[], n1, l1, b1, rfl, hm, owns_nil _ _ _ _, HR1.out, HT1.out, by rw [HRes.out]; rfl, fun _ => by simp, Nat.zero_le _⟩
  case round =>
    obtain ⟨xs, m, li, bi, rfl, hmm, hown, hr, ht, hrs, hlt, hxl⟩ := hrel
    clear HR1 HT1 HRes
    obtain ⟨la, lcap, rfl, hl1, hl2⟩ := (ownsRow.reads hown).le
    unfold maxLen at hl2
    have hgr := hr.lt
    have hbad : wr.cell? ⟨g, 2, none⟩ = some (.bool bi) := by
      obtain ⟨_, q1, _, _⟩ := hr
      have := Lib.cell_of_heap q1 2
      simpa using this
    by_cases hm0 : 0 < m
    · have hm0I : (0 : Int) < (m : Int) := by omega
      cases bi with
      | true =>
        rw [rmany_bad, List.append_nil] at hrs
        subst hrs
        have HO := Lib.hid hown
        have HR := Lib.hid hr
        have HT := Lib.hid ht
        clear hown hr ht
        go_wp2
        go_ret
        exact ⟨_, rfl, HO.out, HR.out, HT.out⟩
      | false =>
        obtain ⟨m', rfl⟩ : ∃ m', m = m' + 1 := ⟨m - 1, by omega⟩
        rw [rmany_next] at hrs
        have hlt' := hlt rfl
        have hea : (revt li false).2.2 = false → (revt li false).2.1.length < li.length := eats_evt.2.2 li
        have hwm : IntKind.u64.wrap (((m' + 1 : Nat) : Int) - 1) = (m' : Int) := by rw [IntKind.wrap_u64]; omega
        have hwB : B ≤ wr.heap.size := Nat.le_trans hB ht.size
        have HIt := Lib.hid (revent_any2 B wr g li d false hr hwB)
        generalize revt li false = r at *
        obtain ⟨x, l2, b2⟩ := r
        dsimp only at *
        have HO := Lib.hid hown
        have HT := Lib.hid ht
        have HRs := Lib.hid hrs
        clear hown hr ht hrs
        go_wp2_with (go_at_call 45; go_must (refine HIt.out.mono ?_))
        rintro e w2 ⟨rfl, hr2, ht2⟩
        have ht3 := HT.out.same ht2
        have hs3 : w.heap.size ≤ w2.heap.size := ht3.size
        have HO3 := Lib.hid (Touch.owns HO.out ht2 hg)
        have HR3 := Lib.hid hr2
        have HT4 := Lib.hid ht3
        clear ht3 hr2 ht2 HO HT HIt
        go_wp2_with (at_builtin; go_must (refine wpList_append_rows_own (w0 := w2) rfl _ _ 27 rfl w.heap.size 67 j0 _ 8 112 Tryz.underlying27 hj hy0 hy1 hy2 rfl (Evt.cells x) 1 rfl HO3.out rfl rfl ?_ ?_ ?_ hs3 ?_))
        · intro u hu
          simp [Evt.cells] at hu
          rcases hu with rfl | rfl | rfl | rfl | rfl | rfl | rfl | rfl <;> rfl
        · unfold maxLen; omega
        · omega
        intro v6 w6 o6 g6 b6 _
        have hr6 : RAt B w6 g l2 d b2 := by
          obtain ⟨u, q1, q2, q3⟩ := HR3.out
          exact ⟨u, (b6.block g hg).trans q1, q2.below (b6.mono hB), q3⟩
        have ht6 : Touch w w6 [g] := ⟨b6.os.trans HT4.out.os, b6.tape.trans HT4.out.tape, b6.output.trans HT4.out.output, Nat.le_trans HT4.out.size b6.size, fun i hi hn => (b6.block i hi).trans (HT4.out.block i hi hn)⟩
        have ho6 : w6.ownsRow w.heap.size 67 8 v6 (xs ++ [x]).length ((xs ++ [x]).flatMap Evt.cells) := by
          rw [List.length_append, List.flatMap_append, List.flatMap_cons, List.flatMap_nil, List.append_nil]
          exact o6
        have HO6 := Lib.hid ho6
        have HR6 := Lib.hid hr6
        have HT6 := Lib.hid ht6
        clear o6 g6 b6 HR3 HT4 HO3 hr6 ht6 ho6 hs3
        go_wp2
        refine ⟨⟨xs ++ [x], m', l2, b2, rfl, by omega, HO6.out, HR6.out, HT6.out, by rw [HRs.out]; simp, fun hb => ?_, ?_⟩, by simp [intOf]⟩
        · have := hea hb
          rw [List.length_append, List.length_singleton]
          omega
        · rw [List.length_append, List.length_singleton]
          omega
    · obtain rfl : m = 0 := by omega
      have hrs' : res = (xs, li, bi) := by rw [hrs]; simp [rmany]
      subst hrs'
      have HO := Lib.hid hown
      have HR := Lib.hid hr
      have HT := Lib.hid ht
      clear hown hr ht hrs
      go_wp2
      go_ret
      exact ⟨_, rfl, HO.out, HR.out, HT.out⟩

theorem infoG_getSubs_any : (Tryz.prog.info? 60).map (fun i => (i.zero, i.size, i.bytes)) = some (some (.agg #[.string ⟨#[]⟩, .string ⟨#[]⟩, .string ⟨#[]⟩]), 3, 48) := by kernel_rfl

set_option maxRecDepth 100000 in
set_option maxHeartbeats 2000000 in
theorem getSubs_any (B : Nat) (w : World) (g : Nat) (l : List UInt8) (d : Int) (b : Bool) (h : RAt B w g l d b) (hB : B ≤ w.heap.size) (hl : l.length ≤ 20000000) :
    Calls Tryz.prog 105 #[.pointer (some ⟨g, 0, none⟩), .func (.func 99) #[.pointer (some ⟨g, 0, none⟩)] #[]] w (GPost T3.cells 60 3 B w g d (rlist rsub3 l b)) := by
  obtain ⟨j0, hj, hy0, hy1, hy2⟩ := info_parts infoG_getSubs_any
  have hen : ∀ (args : Array Value) (w : World), (callFunc 99 args).run Tryz.prog w = .ok (.enter 99 args) w := fun _ _ => by kernel_rfl
  have hg := h.lt
  have hm := rnum_lt l b
  have hln := Nat.le_trans (eats_num.1 l b) hl
  dsimp only at hln
  have HNum := Lib.hid (rnumber_any B w g l d b h)
  unfold rlist
  generalize rnum l b = r at *
  obtain ⟨n1, l1, b1⟩ := r
  dsimp only at *
  obtain ⟨res, hres⟩ : ∃ res, rmany rsub3 n1 l1 b1 = res := ⟨_, rfl⟩
  rw [hres]
  have HRes := Lib.hid hres
  clear h hres
  go_enter Tryz.func105, Tryz.ntmps105
  go_wp2_with (go_at_call 35; go_must (refine HNum.out.mono ?_))
  rintro e w1 ⟨rfl, hr1, ht1⟩
  have HR1 := Lib.hid hr1
  have HT1 := Lib.hid ht1
  clear hr1 ht1 HNum
  go_wp2
  go_loopw [5, 6] (fun v c wr => GLRel rsub3 T3.cells 60 3 B w g d l1.length res v c wr) (fun _ c _ => (intOf c).toNat)
  case atStart => exact ⟨[], n1, l1, b1, rfl, hm, owns_nil _ _ _ _, HR1.out, HT1.out, by rw [HRes.out]; rfl, fun _ => by simp, Nat.zero_le _⟩
  case round =>
    obtain ⟨xs, m, li, bi, rfl, hmm, hown, hr, ht, hrs, hlt, hxl⟩ := hrel
    clear HR1 HT1 HRes
    obtain ⟨la, lcap, rfl, hl1, hl2⟩ := (ownsRow.reads hown).le
    unfold maxLen at hl2
    have hgr := hr.lt
    have hbad : wr.cell? ⟨g, 2, none⟩ = some (.bool bi) := by
      obtain ⟨_, q1, _, _⟩ := hr
      have := Lib.cell_of_heap q1 2
      simpa using this
    by_cases hm0 : 0 < m
    · have hm0I : (0 : Int) < (m : Int) := by omega
      cases bi with
      | true =>
        rw [rmany_bad, List.append_nil] at hrs
        subst hrs
        have HO := Lib.hid hown
        have HR := Lib.hid hr
        have HT := Lib.hid ht
        clear hown hr ht
        go_wp2
        go_ret
        exact ⟨_, rfl, HO.out, HR.out, HT.out⟩
      | false =>
        obtain ⟨m', rfl⟩ : ∃ m', m = m' + 1 := ⟨m - 1, by omega⟩
        rw [rmany_next] at hrs
        have hlt' := hlt rfl
        have hea : (rsub3 li false).2.2 = false → (rsub3 li false).2.1.length < li.length := eats_sub3.2.2 li
        have hwm : IntKind.u64.wrap (((m' + 1 : Nat) : Int) - 1) = (m' : Int) := by rw [IntKind.wrap_u64]; omega
        have hwB : B ≤ wr.heap.size := Nat.le_trans hB ht.size
        have HIt := Lib.hid (rsub_t3 B wr g li d false hr hwB)
        generalize rsub3 li false = r at *
        obtain ⟨x, l2, b2⟩ := r
        dsimp only at *
        have HO := Lib.hid hown
        have HT := Lib.hid ht
        have HRs := Lib.hid hrs
        clear hown hr ht hrs
        go_wp2_with (go_at_call 99; go_must (refine HIt.out.mono ?_))
        rintro e w2 ⟨rfl, hr2, ht2⟩
        have ht3 := HT.out.same ht2
        have hs3 : w.heap.size ≤ w2.heap.size := ht3.size
        have HO3 := Lib.hid (Touch.owns HO.out ht2 hg)
        have HR3 := Lib.hid hr2
        have HT4 := Lib.hid ht3
        clear ht3 hr2 ht2 HO HT HIt
        go_wp2_with (at_builtin; go_must (refine wpList_append_rows_own (w0 := w2) rfl _ _ 31 rfl w.heap.size 60 j0 _ 3 48 Tryz.underlying31 hj hy0 hy1 hy2 rfl (T3.cells x) 1 rfl HO3.out rfl rfl ?_ ?_ ?_ hs3 ?_))
        · intro u hu
          simp [T3.cells] at hu
          rcases hu with rfl | rfl | rfl <;> rfl
        · unfold maxLen; omega
        · omega
        intro v6 w6 o6 g6 b6 _
        have hr6 : RAt B w6 g l2 d b2 := by
          obtain ⟨u, q1, q2, q3⟩ := HR3.out
          exact ⟨u, (b6.block g hg).trans q1, q2.below (b6.mono hB), q3⟩
        have ht6 : Touch w w6 [g] := ⟨b6.os.trans HT4.out.os, b6.tape.trans HT4.out.tape, b6.output.trans HT4.out.output, Nat.le_trans HT4.out.size b6.size, fun i hi hn => (b6.block i hi).trans (HT4.out.block i hi hn)⟩
        have ho6 : w6.ownsRow w.heap.size 60 3 v6 (xs ++ [x]).length ((xs ++ [x]).flatMap T3.cells) := by
          rw [List.length_append, List.flatMap_append, List.flatMap_cons, List.flatMap_nil, List.append_nil]
          exact o6
        have HO6 := Lib.hid ho6
        have HR6 := Lib.hid hr6
        have HT6 := Lib.hid ht6
        clear o6 g6 b6 HR3 HT4 HO3 hr6 ht6 ho6 hs3
        go_wp2
        refine ⟨⟨xs ++ [x], m', l2, b2, rfl, by omega, HO6.out, HR6.out, HT6.out, by rw [HRs.out]; simp, fun hb => ?_, ?_⟩, by simp [intOf]⟩
        · have := hea hb
          rw [List.length_append, List.length_singleton]
          omega
        · rw [List.length_append, List.length_singleton]
          omega
    · obtain rfl : m = 0 := by omega
      have hrs' : res = (xs, li, bi) := by rw [hrs]; simp [rmany]
      subst hrs'
      have HO := Lib.hid hown
      have HR := Lib.hid hr
      have HT := Lib.hid ht
      clear hown hr ht hrs
      go_wp2
      go_ret
      exact ⟨_, rfl, HO.out, HR.out, HT.out⟩

theorem infoG_getFlags_any : (Tryz.prog.info? 4).map (fun i => (i.zero, i.size, i.bytes)) = some (some (.bool false), 1, 1) := by kernel_rfl

set_option maxRecDepth 100000 in
set_option maxHeartbeats 2000000 in
theorem getFlags_any (B : Nat) (w : World) (g : Nat) (l : List UInt8) (d : Int) (b : Bool) (h : RAt B w g l d b) (hB : B ≤ w.heap.size) (hl : l.length ≤ 20000000) :
    Calls Tryz.prog 38 #[.pointer (some ⟨g, 0, none⟩), .func (.func 39) #[.pointer (some ⟨g, 0, none⟩)] #[]] w (GPost flagL 4 1 B w g d (rlist rtru l b)) := by
  obtain ⟨j0, hj, hy0, hy1, hy2⟩ := info_parts infoG_getFlags_any
  have hen : ∀ (args : Array Value) (w : World), (callFunc 39 args).run Tryz.prog w = .ok (.enter 39 args) w := fun _ _ => by kernel_rfl
  have hg := h.lt
  have hm := rnum_lt l b
  have hln := Nat.le_trans (eats_num.1 l b) hl
  dsimp only at hln
  have HNum := Lib.hid (rnumber_any B w g l d b h)
  unfold rlist
  generalize rnum l b = r at *
  obtain ⟨n1, l1, b1⟩ := r
  dsimp only at *
  obtain ⟨res, hres⟩ : ∃ res, rmany rtru n1 l1 b1 = res := ⟨_, rfl⟩
  rw [hres]
  have HRes := Lib.hid hres
  clear h hres
  go_enter Tryz.func38, Tryz.ntmps38
  go_wp2_with (go_at_call 35; go_must (refine HNum.out.mono ?_))
  rintro e w1 ⟨rfl, hr1, ht1⟩
  have HR1 := Lib.hid hr1
  have HT1 := Lib.hid ht1
  clear hr1 ht1 HNum
  go_wp2
  go_loopw [5, 6] (fun v c wr => GLRel rtru flagL 4 1 B w g d l1.length res v c wr) (fun _ c _ => (intOf c).toNat)
  case atStart => exact ⟨[], n1, l1, b1, rfl, hm, owns_nil _ _ _ _, HR1.out, HT1.out, by rw [HRes.out]; rfl, fun _ => by simp, Nat.zero_le _⟩
  case round =>
    obtain ⟨xs, m, li, bi, rfl, hmm, hown, hr, ht, hrs, hlt, hxl⟩ := hrel
    clear HR1 HT1 HRes
    obtain ⟨la, lcap, rfl, hl1, hl2⟩ := (ownsRow.reads hown).le
    unfold maxLen at hl2
    have hgr := hr.lt
    have hbad : wr.cell? ⟨g, 2, none⟩ = some (.bool bi) := by
      obtain ⟨_, q1, _, _⟩ := hr
      have := Lib.cell_of_heap q1 2
      simpa using this
    by_cases hm0 : 0 < m
    · have hm0I : (0 : Int) < (m : Int) := by omega
      cases bi with
      | true =>
        rw [rmany_bad, List.append_nil] at hrs
        subst hrs
        have HO := Lib.hid hown
        have HR := Lib.hid hr
        have HT := Lib.hid ht
        clear hown hr ht
        go_wp2
        go_ret
        exact ⟨_, rfl, HO.out, HR.out, HT.out⟩
      | false =>
        obtain ⟨m', rfl⟩ : ∃ m', m = m' + 1 := ⟨m - 1, by omega⟩
        rw [rmany_next] at hrs
        have hlt' := hlt rfl
        have hea : (rtru li false).2.2 = false → (rtru li false).2.1.length < li.length := eats_tru.2.2 li
        have hwm : IntKind.u64.wrap (((m' + 1 : Nat) : Int) - 1) = (m' : Int) := by rw [IntKind.wrap_u64]; omega
        have hwB : B ≤ wr.heap.size := Nat.le_trans hB ht.size
        have HIt := Lib.hid (rtruth_b B wr g li d false hr hwB)
        generalize rtru li false = r at *
        obtain ⟨x, l2, b2⟩ := r
        dsimp only at *
        have HO := Lib.hid hown
        have HT := Lib.hid ht
        have HRs := Lib.hid hrs
        clear hown hr ht hrs
        go_wp2_with (go_at_call 39; go_must (refine HIt.out.mono ?_))
        rintro e w2 ⟨rfl, hr2, ht2⟩
        have ht3 := HT.out.same ht2
        have hs3 : w.heap.size ≤ w2.heap.size := ht3.size
        have HO3 := Lib.hid (Touch.owns HO.out ht2 hg)
        have HR3 := Lib.hid hr2
        have HT4 := Lib.hid ht3
        clear ht3 hr2 ht2 HO HT HIt
        go_wp2_with (at_builtin; go_must (refine wpList_append_rows_own (w0 := w2) rfl _ _ 24 rfl w.heap.size 4 j0 _ 1 1 Tryz.underlying24 hj hy0 hy1 hy2 rfl (flagL x) 1 rfl HO3.out rfl rfl ?_ ?_ ?_ hs3 ?_))
        · intro u hu
          simp [flagL] at hu
          rcases hu with rfl <;> rfl
        · unfold maxLen; omega
        · omega
        intro v6 w6 o6 g6 b6 _
        have hr6 : RAt B w6 g l2 d b2 := by
          obtain ⟨u, q1, q2, q3⟩ := HR3.out
          exact ⟨u, (b6.block g hg).trans q1, q2.below (b6.mono hB), q3⟩
        have ht6 : Touch w w6 [g] := ⟨b6.os.trans HT4.out.os, b6.tape.trans HT4.out.tape, b6.output.trans HT4.out.output, Nat.le_trans HT4.out.size b6.size, fun i hi hn => (b6.block i hi).trans (HT4.out.block i hi hn)⟩
        have ho6 : w6.ownsRow w.heap.size 4 1 v6 (xs ++ [x]).length ((xs ++ [x]).flatMap flagL) := by
          rw [List.length_append, List.flatMap_append, List.flatMap_cons, List.flatMap_nil, List.append_nil]
          exact o6
        have HO6 := Lib.hid ho6
        have HR6 := Lib.hid hr6
        have HT6 := Lib.hid ht6
        clear o6 g6 b6 HR3 HT4 HO3 hr6 ht6 ho6 hs3
        go_wp2
        refine ⟨⟨xs ++ [x], m', l2, b2, rfl, by omega, HO6.out, HR6.out, HT6.out, by rw [HRs.out]; simp, fun hb => ?_, ?_⟩, by simp [intOf]⟩
        · have := hea hb
          rw [List.length_append, List.length_singleton]
          omega
        · rw [List.length_append, List.length_singleton]
          omega
    · obtain rfl : m = 0 := by omega
      have hrs' : res = (xs, li, bi) := by rw [hrs]; simp [rmany]
      subst hrs'
      have HO := Lib.hid hown
      have HR := Lib.hid hr
      have HT := Lib.hid ht
      clear hown hr ht hrs
      go_wp2
      go_ret
      exact ⟨_, rfl, HO.out, HR.out, HT.out⟩

theorem infoG_getInts_any : (Tryz.prog.info? 3).map (fun i => (i.zero, i.size, i.bytes)) = some (some (.int .i64 0), 1, 8) := by kernel_rfl

set_option maxRecDepth 100000 in
set_option maxHeartbeats 2000000 in
theorem getInts_any (B : Nat) (w : World) (g : Nat) (l : List UInt8) (d : Int) (b : Bool) (h : RAt B w g l d b) (hB : B ≤ w.heap.size) (hl : l.length ≤ 20000000) :
    Calls Tryz.prog 102 #[.pointer (some ⟨g, 0, none⟩), .func (.func 36) #[.pointer (some ⟨g, 0, none⟩)] #[]] w (GPost intL 3 1 B w g d (rlist rlong l b)) := by
  obtain ⟨j0, hj, hy0, hy1, hy2⟩ := info_parts infoG_getInts_any
  have hen : ∀ (args : Array Value) (w : World), (callFunc 36 args).run Tryz.prog w = .ok (.enter 36 args) w := fun _ _ => by kernel_rfl
  have hg := h.lt
  have hm := rnum_lt l b
  have hln := Nat.le_trans (eats_num.1 l b) hl
  dsimp only at hln
  have HNum := Lib.hid (rnumber_any B w g l d b h)
  unfold rlist
  generalize rnum l b = r at *
  obtain ⟨n1, l1, b1⟩ := r
  dsimp only at *
  obtain ⟨res, hres⟩ : ∃ res, rmany rlong n1 l1 b1 = res := ⟨_, rfl⟩
  rw [hres]
  have HRes := Lib.hid hres
  clear h hres
  go_enter Tryz.func102, Tryz.ntmps102
  go_wp2_with (go_at_call 35; go_must (refine HNum.out.mono ?_))
  rintro e w1 ⟨rfl, hr1, ht1⟩
  have HR1 := Lib.hid hr1
  have HT1 := Lib.hid ht1
  clear hr1 ht1 HNum
  go_wp2
  go_loopw [5, 6] (fun v c wr => GLRel rlong intL 3 1 B w g d l1.length res v c wr) (fun _ c _ => (intOf c).toNat)
  case atStart => exact ⟨[], n1, l1, b1, rfl, hm, owns_nil _ _ _ _, HR1.out, HT1.out, by rw [HRes.out]; rfl, fun _ => by simp, Nat.zero_le _⟩
  case round =>
    obtain ⟨xs, m, li, bi, rfl, hmm, hown, hr, ht, hrs, hlt, hxl⟩ := hrel
    clear HR1 HT1 HRes
    obtain ⟨la, lcap, rfl, hl1, hl2⟩ := (ownsRow.reads hown).le
    unfold maxLen at hl2
    have hgr := hr.lt
    have hbad : wr.cell? ⟨g, 2, none⟩ = some (.bool bi) := by
      obtain ⟨_, q1, _, _⟩ := hr
      have := Lib.cell_of_heap q1 2
      simpa using this
    by_cases hm0 : 0 < m
    · have hm0I : (0 : Int) < (m : Int) := by omega
      cases bi with
      | true =>
        rw [rmany_bad, List.append_nil] at hrs
        subst hrs
        have HO := Lib.hid hown
        have HR := Lib.hid hr
        have HT := Lib.hid ht
        clear hown hr ht
        go_wp2
        go_ret
        exact ⟨_, rfl, HO.out, HR.out, HT.out⟩
      | false =>
        obtain ⟨m', rfl⟩ : ∃ m', m = m' + 1 := ⟨m - 1, by omega⟩
        rw [rmany_next] at hrs
        have hlt' := hlt rfl
        have hea : (rlong li false).2.2 = false → (rlong li false).2.1.length < li.length := eats_long.2.2 li
        have hwm : IntKind.u64.wrap (((m' + 1 : Nat) : Int) - 1) = (m' : Int) := by rw [IntKind.wrap_u64]; omega
        have hwB : B ≤ wr.heap.size := Nat.le_trans hB ht.size
        have HIt := Lib.hid (rwhole_b B wr g li d false hr hwB)
        generalize rlong li false = r at *
        obtain ⟨x, l2, b2⟩ := r
        dsimp only at *
        have HO := Lib.hid hown
        have HT := Lib.hid ht
        have HRs := Lib.hid hrs
        clear hown hr ht hrs
        go_wp2_with (go_at_call 36; go_must (refine HIt.out.mono ?_))
        rintro e w2 ⟨rfl, hr2, ht2⟩
        have ht3 := HT.out.same ht2
        have hs3 : w.heap.size ≤ w2.heap.size := ht3.size
        have HO3 := Lib.hid (Touch.owns HO.out ht2 hg)
        have HR3 := Lib.hid hr2
        have HT4 := Lib.hid ht3
        clear ht3 hr2 ht2 HO HT HIt
        go_wp2_with (at_builtin; go_must (refine wpList_append_rows_own (w0 := w2) rfl _ _ 72 rfl w.heap.size 3 j0 _ 1 8 Tryz.underlying72 hj hy0 hy1 hy2 rfl (intL x) 1 rfl HO3.out rfl rfl ?_ ?_ ?_ hs3 ?_))
        · intro u hu
          simp [intL] at hu
          rcases hu with rfl <;> rfl
        · unfold maxLen; omega
        · omega
        intro v6 w6 o6 g6 b6 _
        have hr6 : RAt B w6 g l2 d b2 := by
          obtain ⟨u, q1, q2, q3⟩ := HR3.out
          exact ⟨u, (b6.block g hg).trans q1, q2.below (b6.mono hB), q3⟩
        have ht6 : Touch w w6 [g] := ⟨b6.os.trans HT4.out.os, b6.tape.trans HT4.out.tape, b6.output.trans HT4.out.output, Nat.le_trans HT4.out.size b6.size, fun i hi hn => (b6.block i hi).trans (HT4.out.block i hi hn)⟩
        have ho6 : w6.ownsRow w.heap.size 3 1 v6 (xs ++ [x]).length ((xs ++ [x]).flatMap intL) := by
          rw [List.length_append, List.flatMap_append, List.flatMap_cons, List.flatMap_nil, List.append_nil]
          exact o6
        have HO6 := Lib.hid ho6
        have HR6 := Lib.hid hr6
        have HT6 := Lib.hid ht6
        clear o6 g6 b6 HR3 HT4 HO3 hr6 ht6 ho6 hs3
        go_wp2
        refine ⟨⟨xs ++ [x], m', l2, b2, rfl, by omega, HO6.out, HR6.out, HT6.out, by rw [HRs.out]; simp, fun hb => ?_, ?_⟩, by simp [intOf]⟩
        · have := hea hb
          rw [List.length_append, List.length_singleton]
          omega
        · rw [List.length_append, List.length_singleton]
          omega
    · obtain rfl : m = 0 := by omega
      have hrs' : res = (xs, li, bi) := by rw [hrs]; simp [rmany]
      subst hrs'
      have HO := Lib.hid hown
      have HR := Lib.hid hr
      have HT := Lib.hid ht
      clear hown hr ht hrs
      go_wp2
      go_ret
      exact ⟨_, rfl, HO.out, HR.out, HT.out⟩

end Go.Proofs.YtdonibkkdhokpaaGreat
