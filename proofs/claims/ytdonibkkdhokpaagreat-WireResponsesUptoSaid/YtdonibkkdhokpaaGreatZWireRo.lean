/- sentryref37.Response (written by gen_wirero.py). -/
import Derived.Test.YtdonibkkdhokpaaGreatZWireRn
import Derived.Test.YtdonibkkdhokpaaGreatZWirePr
import Derived.Test.YtdonibkkdhokpaaGreatMga
import Derived.Test.YtdonibkkdhokpaaGreatZWireRu
namespace Go.Proofs.YtdonibkkdhokpaaGreat
open Go Go.RowKit

theorem two_readsP {w : World} {b : Nat} {fr : Nat × Nat} (h : w.heap[b]? = some (.cells #[.int .u8 112, .int .u8 49] 5 fr)) : Reads w 1 (.slice (some ⟨b, 0, none⟩) 2 2) ([112, 49] : List UInt8).length (bcells [112, 49]) := by
  refine ⟨rfl, _, 2, rfl, Nat.le_refl _, by unfold maxLen; decide, fun j u hj => ⟨b, 0, rfl, (Array.getElem?_eq_some_iff.1 h).1, ?_⟩⟩
  rw [Nat.zero_add, Lib.cell_of_heap h j]
  simpa [bcells] using hj

theorem rtexts2 (w : World) (v : Value) (L : List UInt8) (t : T2) (h : Reads w 1 v L.length (bcells L)) (g : Nat) (hg : w.heap[g]? = some (.cells #[.string t.a, .string t.b] 9 (0, 0))) (hl : L.length + (t2B t).length ≤ 1000000000) :
    Calls Tryz.prog 52 #[v, .slice (some ⟨g, 0, none⟩) 2 2] w (GivesOwn w (L ++ t2B t)) := rtexts_any w v L g 2 [t.a, t.b] h hg rfl (by decide) (by decide) hl

set_option maxRecDepth 100000 in
set_option maxHeartbeats 8000000 in
theorem refresponse_any (w : World) (p : Resp) (a1 a2 a3 a4 a5 sa a : Option Addr) (c1 c2 c3 c4 c5 sc cap : Nat) (hr : RespR (· < w.heap.size) w p a1 a2 a3 a4 a5 sa a c1 c2 c3 c4 c5 sc cap) (hin : RespIn p) (hl : (respB p).length ≤ 20000000) :
    Calls Tryz.prog 9 #[.agg #[.int .u64 (p.id : Int), .int .i64 p.err, .int .u64 (p.rev : Int), .string p.token, .slice a1 p.flags.length c1, .slice a2 p.tuples.length c2, .slice a3 p.objs.length c3, .slice a4 p.events.length c4, .slice a5 p.steps.length c5, .int .i64 p.th.kind, .string p.th.o, .string p.th.i, .string p.th.rel, .slice sa p.th.subs.length sc, .slice a p.tps.length cap]] w (GivesOwn w (respB p)) := by
  obtain ⟨q1, hp1⟩ : ∃ z, [112, 49] ++ enc p.id = z := ⟨_, rfl⟩
  obtain ⟨q2, hp2⟩ : ∃ z, q1 ++ enc (zig p.err) = z := ⟨_, rfl⟩
  obtain ⟨q3, hp3⟩ : ∃ z, q2 ++ enc p.rev = z := ⟨_, rfl⟩
  obtain ⟨q4, hp4⟩ : ∃ z, q3 ++ txts [p.token] = z := ⟨_, rfl⟩
  obtain ⟨q5, hp5⟩ : ∃ z, q4 ++ enc p.flags.length = z := ⟨_, rfl⟩
  obtain ⟨q6, hp6⟩ : ∃ z, q5 ++ p.flags.flatMap flagB = z := ⟨_, rfl⟩
  obtain ⟨q7, hp7⟩ : ∃ z, q6 ++ enc p.tuples.length = z := ⟨_, rfl⟩
  obtain ⟨q8, hp8⟩ : ∃ z, q7 ++ p.tuples.flatMap t6B = z := ⟨_, rfl⟩
  obtain ⟨q9, hp9⟩ : ∃ z, q8 ++ enc p.objs.length = z := ⟨_, rfl⟩
  obtain ⟨q10, hp10⟩ : ∃ z, q9 ++ p.objs.flatMap t2B = z := ⟨_, rfl⟩
  obtain ⟨q11, hp11⟩ : ∃ z, q10 ++ enc p.events.length = z := ⟨_, rfl⟩
  obtain ⟨q12, hp12⟩ : ∃ z, q11 ++ p.events.flatMap evB = z := ⟨_, rfl⟩
  obtain ⟨q13, hp13⟩ : ∃ z, q12 ++ enc p.steps.length = z := ⟨_, rfl⟩
  obtain ⟨q14, hp14⟩ : ∃ z, q13 ++ p.steps.flatMap stB = z := ⟨_, rfl⟩
  obtain ⟨q15, hp15⟩ : ∃ z, q14 ++ (Tr.mk p.th p.tps).bytes noB = z := ⟨_, rfl⟩
  have heq : respB p = q15 := by
    rw [← hp15, ← hp14, ← hp13, ← hp12, ← hp11, ← hp10, ← hp9, ← hp8, ← hp7, ← hp6, ← hp5, ← hp4, ← hp3, ← hp2, ← hp1]
    simp [respB, listB]
  rw [heq] at hl ⊢
  clear heq
  have hz1 : q1.length = ([112, 49] : List UInt8).length + (enc p.id).length := by rw [← hp1, List.length_append]
  have hz2 : q2.length = q1.length + (enc (zig p.err)).length := by rw [← hp2, List.length_append]
  have hz3 : q3.length = q2.length + (enc p.rev).length := by rw [← hp3, List.length_append]
  have hz4 : q4.length = q3.length + (txts [p.token]).length := by rw [← hp4, List.length_append]
  have hz5 : q5.length = q4.length + (enc p.flags.length).length := by rw [← hp5, List.length_append]
  have hz6 : q6.length = q5.length + (p.flags.flatMap flagB).length := by rw [← hp6, List.length_append]
  have hz7 : q7.length = q6.length + (enc p.tuples.length).length := by rw [← hp7, List.length_append]
  have hz8 : q8.length = q7.length + (p.tuples.flatMap t6B).length := by rw [← hp8, List.length_append]
  have hz9 : q9.length = q8.length + (enc p.objs.length).length := by rw [← hp9, List.length_append]
  have hz10 : q10.length = q9.length + (p.objs.flatMap t2B).length := by rw [← hp10, List.length_append]
  have hz11 : q11.length = q10.length + (enc p.events.length).length := by rw [← hp11, List.length_append]
  have hz12 : q12.length = q11.length + (p.events.flatMap evB).length := by rw [← hp12, List.length_append]
  have hz13 : q13.length = q12.length + (enc p.steps.length).length := by rw [← hp13, List.length_append]
  have hz14 : q14.length = q13.length + (p.steps.flatMap stB).length := by rw [← hp14, List.length_append]
  have hz15 : q15.length = q14.length + ((Tr.mk p.th p.tps).bytes noB).length := by rw [← hp15, List.length_append]
  have hq15 := hl
  have hq14 : q14.length ≤ 20000000 := Nat.le_trans (Nat.le_trans (Nat.le_add_right _ _) (Nat.le_of_eq hz15.symm)) hq15
  have hq13 : q13.length ≤ 20000000 := Nat.le_trans (Nat.le_trans (Nat.le_add_right _ _) (Nat.le_of_eq hz14.symm)) hq14
  have hq12 : q12.length ≤ 20000000 := Nat.le_trans (Nat.le_trans (Nat.le_add_right _ _) (Nat.le_of_eq hz13.symm)) hq13
  have hq11 : q11.length ≤ 20000000 := Nat.le_trans (Nat.le_trans (Nat.le_add_right _ _) (Nat.le_of_eq hz12.symm)) hq12
  have hq10 : q10.length ≤ 20000000 := Nat.le_trans (Nat.le_trans (Nat.le_add_right _ _) (Nat.le_of_eq hz11.symm)) hq11
  have hq9 : q9.length ≤ 20000000 := Nat.le_trans (Nat.le_trans (Nat.le_add_right _ _) (Nat.le_of_eq hz10.symm)) hq10
  have hq8 : q8.length ≤ 20000000 := Nat.le_trans (Nat.le_trans (Nat.le_add_right _ _) (Nat.le_of_eq hz9.symm)) hq9
  have hq7 : q7.length ≤ 20000000 := Nat.le_trans (Nat.le_trans (Nat.le_add_right _ _) (Nat.le_of_eq hz8.symm)) hq8
  have hq6 : q6.length ≤ 20000000 := Nat.le_trans (Nat.le_trans (Nat.le_add_right _ _) (Nat.le_of_eq hz7.symm)) hq7
  have hq5 : q5.length ≤ 20000000 := Nat.le_trans (Nat.le_trans (Nat.le_add_right _ _) (Nat.le_of_eq hz6.symm)) hq6
  have hq4 : q4.length ≤ 20000000 := Nat.le_trans (Nat.le_trans (Nat.le_add_right _ _) (Nat.le_of_eq hz5.symm)) hq5
  have hq3 : q3.length ≤ 20000000 := Nat.le_trans (Nat.le_trans (Nat.le_add_right _ _) (Nat.le_of_eq hz4.symm)) hq4
  have hq2 : q2.length ≤ 20000000 := Nat.le_trans (Nat.le_trans (Nat.le_add_right _ _) (Nat.le_of_eq hz3.symm)) hq3
  have hq1 : q1.length ≤ 20000000 := Nat.le_trans (Nat.le_trans (Nat.le_add_right _ _) (Nat.le_of_eq hz2.symm)) hq2
  have HQ1 := Lib.hid hq1
  have HZ1 := Lib.hid hz1
  have HQ2 := Lib.hid hq2
  have HZ2 := Lib.hid hz2
  have HQ3 := Lib.hid hq3
  have HZ3 := Lib.hid hz3
  have HQ4 := Lib.hid hq4
  have HZ4 := Lib.hid hz4
  have HQ5 := Lib.hid hq5
  have HZ5 := Lib.hid hz5
  have HQ6 := Lib.hid hq6
  have HZ6 := Lib.hid hz6
  have HQ7 := Lib.hid hq7
  have HZ7 := Lib.hid hz7
  have HQ8 := Lib.hid hq8
  have HZ8 := Lib.hid hz8
  have HQ9 := Lib.hid hq9
  have HZ9 := Lib.hid hz9
  have HQ10 := Lib.hid hq10
  have HZ10 := Lib.hid hz10
  have HQ11 := Lib.hid hq11
  have HZ11 := Lib.hid hz11
  have HQ12 := Lib.hid hq12
  have HZ12 := Lib.hid hz12
  have HQ13 := Lib.hid hq13
  have HZ13 := Lib.hid hz13
  have HQ14 := Lib.hid hq14
  have HZ14 := Lib.hid hz14
  have HQ15 := Lib.hid hq15
  have HZ15 := Lib.hid hz15
  clear hl hq1 hq2 hq3 hq4 hq5 hq6 hq7 hq8 hq9 hq10 hq11 hq12 hq13 hq14 hq15 hz1 hz2 hz3 hz4 hz5 hz6 hz7 hz8 hz9 hz10 hz11 hz12 hz13 hz14 hz15
  have Hp1 := Lib.hid hp1
  have Hp2 := Lib.hid hp2
  have Hp3 := Lib.hid hp3
  have Hp4 := Lib.hid hp4
  have Hp5 := Lib.hid hp5
  have Hp6 := Lib.hid hp6
  have Hp7 := Lib.hid hp7
  have Hp8 := Lib.hid hp8
  have Hp9 := Lib.hid hp9
  have Hp10 := Lib.hid hp10
  have Hp11 := Lib.hid hp11
  have Hp12 := Lib.hid hp12
  have Hp13 := Lib.hid hp13
  have Hp14 := Lib.hid hp14
  have Hp15 := Lib.hid hp15
  have HIn := Lib.hid hin
  have HRf := Lib.hid (fun (W : World) (k : Below w.heap.size w W) => hr.keep (Keeps.of_below k))
  have hb0 : Below w.heap.size w (w.alloc (.cells #[.int .u64 (p.id : Int), .int .i64 p.err, .int .u64 (p.rev : Int), .string p.token, .slice a1 p.flags.length c1, .slice a2 p.tuples.length c2, .slice a3 p.objs.length c3, .slice a4 p.events.length c4, .slice a5 p.steps.length c5, .int .i64 p.th.kind, .string p.th.o, .string p.th.i, .string p.th.rel, .slice sa p.th.subs.length sc, .slice a p.tps.length cap] 36)) := (Below.refl _ _).alloc (Nat.le_refl _) _
  have HX := Lib.hid (heap_alloc_new w (.cells #[.int .u64 (p.id : Int), .int .i64 p.err, .int .u64 (p.rev : Int), .string p.token, .slice a1 p.flags.length c1, .slice a2 p.tuples.length c2, .slice a3 p.objs.length c3, .slice a4 p.events.length c4, .slice a5 p.steps.length c5, .int .i64 p.th.kind, .string p.th.o, .string p.th.i, .string p.th.rel, .slice sa p.th.subs.length sc, .slice a p.tps.length cap] 36))
  have HB := Lib.hid hb0
  clear hr hin hb0 hp1 hp2 hp3 hp4 hp5 hp6 hp7 hp8 hp9 hp10 hp11 hp12 hp13 hp14 hp15
  go_enter Tryz.func9, Tryz.ntmps9
  go_upto_region 1 with fail
  obtain ⟨gx, hgxe⟩ : ∃ gx, w.heap.size = gx := ⟨_, rfl⟩
  have HGe := Lib.hid hgxe
  rw [hgxe] at HX
  rw [hgxe]
  generalize w.alloc (.cells #[.int .u64 (p.id : Int), .int .i64 p.err, .int .u64 (p.rev : Int), .string p.token, .slice a1 p.flags.length c1, .slice a2 p.tuples.length c2, .slice a3 p.objs.length c3, .slice a4 p.events.length c4, .slice a5 p.steps.length c5, .int .i64 p.th.kind, .string p.th.o, .string p.th.i, .string p.th.rel, .slice sa p.th.subs.length sc, .slice a p.tps.length cap] 36) = W0 at *
  have hB0 : w.heap.size ≤ W0.heap.size := HB.out.size
  clear hgxe
  have k0 := Lib.cell_of_heap HX.out 0
  have k1 := Lib.cell_of_heap HX.out 1
  simp at k0 k1
  have hgx := (Array.getElem?_eq_some_iff.1 HX.out).1
  have hI0 : True := trivial
  have hIs : ∀ (w w' : World), True → Below w.heap.size w w' → True := fun _ _ _ _ => trivial
  have hR0 : Below W0.heap.size W0 W0.drew := (Below.refl _ _).drew
  have hRB : ∀ w w', Below W0.heap.size W0 w → Below w.heap.size w w' → Below W0.heap.size W0 w' := fun _ _ h k => h.trans (k.mono h.size)
  have hRT : ∀ w w', Below W0.heap.size W0 w → MarkR W0.heap.size w w' → Below W0.heap.size W0 w' := fun _ _ h k => h.trans k.below
  have bq1 := HQ1.out
  refine wp_region_take (RT := MarkR W0.heap.size) (RI := fun a b => Below a.heap.size a b) (by kernel_rfl) [(freeT (twoF W0.heap.size (.int .u8 112) (.int .u8 49)) twoF_mark), onT (twoF W0.heap.size (.int .u8 112) (.int .u8 49)), eqT (.pointer (some ⟨gx, 0, none⟩)), eqT (.int .u64 (p.id : Int)), onT (ownsF w.heap.size 5 1 q1.length (bcells q1)), eqT (.pointer (some ⟨gx, 1, none⟩)), eqT (.int .i64 p.err), onT (ownsF w.heap.size 5 1 q2.length (bcells q2)), onT (ownsF w.heap.size 5 1 q2.length (bcells q2))] 1 (fun _ => True) (by kernel_rfl) (by kernel_rfl) (by kernel_rfl) hI0 hIs hR0 hRB hRT ⟨?_, ?_, ?_, ?_, ?_, ?_, ?_, ?_, ?_, trivial⟩ ?_
  · intro ρ wx hρ hri hI hl
    refine t_of ?_ (by decide)
    refine y_two (Nat.le_trans (Nat.le_refl _) hri.size) ?_
    simp [execOp, go_sem, hρ.const]
  · intro ρ wx hρ hri hI hl
    have e16 := hl 0 (by decide +kernel) 16 rfl
    obtain ⟨b, fr, h12, hbB, hb, hfr⟩ := e16
    have hcv := run_convert_mark (P := Tryz.prog) wx 39 5 _ _ b 2 2 fr hb Tryz.underlying39 Tryz.underlying5
    refine t_take (by decide) (v := .slice (some ⟨b, 0, none⟩) 2 2) (w' := wx.freeze ⟨b, 2, none⟩ 1) ?_ ⟨b, (2, 3), rfl, hbB, (freeze_mark wx _ _ b fr hb hfr hbB).1, .inr rfl⟩ (freeze_mark wx _ _ b fr hb hfr hbB).2
    simp [execOp, go_sem, h12, hcv]
  · intro ρ wx hρ hri hI hl
    have e1 : ρ (.tmp 1) = .pointer (some ⟨gx, 0, none⟩) := hρ.tmp 1 (by decide +kernel)
    refine t_of ?_ (by decide)
    refine y_val (v := .pointer (some ⟨gx, 0, none⟩)) ?_ rfl
    simp [execOp, go_sem, e1]
  · intro ρ wx hρ hri hI hl
    have e18 : ρ (.tmp 18) = .pointer (some ⟨gx, 0, none⟩) := hl 2 (by decide +kernel) 18 rfl
    refine t_of ?_ (by decide)
    have kk := (hri.cell hgx).trans k0
    refine y_val (v := .int .u64 (p.id : Int)) ?_ rfl
    simp [execOp, go_sem, e18, kk]
  · intro ρ wx hρ hri hI hl
    have e17 := hl 1 (by decide +kernel) 17 rfl
    have e19 : ρ (.tmp 19) = .int .u64 (p.id : Int) := hl 3 (by decide +kernel) 19 rfl
    refine t_of ?_ (by decide)
    obtain ⟨b, fr, h12, hbB, hb, hfr⟩ := e17
    refine y_call (f := 51) (args := #[.slice (some ⟨b, 0, none⟩) 2 2, .int .u64 (p.id : Int)]) (by simp [execOp, resolve, invoke, hρ.func, go_sem, h12, e19]) ?_
    refine (refputo_any wx _ [112, 49] p.id (two_readsP hb) (by decide) HIn.out.id).mono ?_
    rintro e w6 ⟨v7, rfl, f7, b7⟩
    rw [Hp1.out] at f7
    exact ⟨v7, rfl, owns_less f7 (Nat.le_trans hB0 hri.size), b7⟩
  · intro ρ wx hρ hri hI hl
    have e1 : ρ (.tmp 1) = .pointer (some ⟨gx, 0, none⟩) := hρ.tmp 1 (by decide +kernel)
    refine t_of ?_ (by decide)
    refine y_val (v := .pointer (some ⟨gx, 1, none⟩)) ?_ rfl
    simp [execOp, go_sem, e1]
  · intro ρ wx hρ hri hI hl
    have e21 : ρ (.tmp 21) = .pointer (some ⟨gx, 1, none⟩) := hl 5 (by decide +kernel) 21 rfl
    refine t_of ?_ (by decide)
    have kk := (hri.cell (p := ⟨gx, 1, none⟩) hgx).trans k1
    refine y_val (v := .int .i64 p.err) ?_ rfl
    simp [execOp, go_sem, e21, kk]
  · intro ρ wx hρ hri hI hl
    have e20 := hl 4 (by decide +kernel) 20 rfl
    have e22 : ρ (.tmp 22) = .int .i64 p.err := hl 6 (by decide +kernel) 22 rfl
    refine t_of ?_ (by decide)
    refine y_call (f := 50) (args := #[ρ (.tmp 20), .int .i64 p.err]) (by simp [execOp, resolve, invoke, hρ.func, go_sem, e22]) ?_
    refine (rwhole_any wx _ q1 p.err (ownsRow.reads e20) HIn.out.err (by omega)).mono ?_
    rintro e w6 ⟨v7, rfl, f7, b7⟩
    rw [Hp2.out] at f7
    exact ⟨v7, rfl, owns_less f7 (Nat.le_trans hB0 hri.size), b7⟩
  · intro ρ wx hρ hri hI hl
    have e23 := hl 7 (by decide +kernel) 23 rfl
    refine t_of ?_ (by decide)
    refine y_val (v := ρ (.tmp 23)) ?_ e23
    simp [execOp, go_sem]
  intro aa w1 hdef hsz hlk hri hf
  have ha := act_of_like hdef hsz hlk [16, 17, 18, 19, 20, 21, 22, 23, 3] 151 rfl (by decide +kernel)
  have e18 : aa.tmps.getD 18 undef = .pointer (some ⟨gx, 0, none⟩) := hf 2 _ 18 rfl rfl
  have e19 : aa.tmps.getD 19 undef = .int .u64 (p.id : Int) := hf 3 _ 19 rfl rfl
  have e21 : aa.tmps.getD 21 undef = .pointer (some ⟨gx, 1, none⟩) := hf 5 _ 21 rfl rfl
  have e22 : aa.tmps.getD 22 undef = .int .i64 p.err := hf 6 _ 22 rfl rfl
  have e3 : (ownsF w.heap.size 5 1 q2.length (bcells q2)).1 (aa.tmps.getD 3 undef) w1 := hf 8 _ 3 rfl rfl
  generalize hv3 : aa.tmps.getD 3 undef = v3 at e3
  simp only [putAll, List.foldl_cons, List.foldl_nil, e18, e19, e21, e22, hv3] at ha
  generalize aa.tmps.getD 16 undef = v16 at ha
  generalize aa.tmps.getD 17 undef = v17 at ha
  generalize aa.tmps.getD 20 undef = v20 at ha
  generalize aa.tmps.getD 23 undef = v23 at ha
  simp [Act.put] at ha
  subst ha
  clear hdef hsz hlk hf e18 e19 e21 e22 hv3
  clear bq1
  have HO := Lib.hid e3
  have HX := Lib.hid ((hri.block gx hgx).trans HX.out)
  have HB := Lib.hid (HB.out.trans (hri.mono HB.out.size))
  clear e3 hri k0 k1 hI0 hIs hR0 hRB hRT hgx hB0
  go_upto_region 2 with fail
  have k2 := Lib.cell_of_heap HX.out 2
  have k3 := Lib.cell_of_heap HX.out 3
  simp at k2 k3
  have hgx := (Array.getElem?_eq_some_iff.1 HX.out).1
  have bq2 := HQ2.out
  have bq3 := HQ3.out
  have bq4 := HQ4.out
  have bz4 := HZ4.out
  refine wp_region_last (l := [_, _, _, _, _, _, _, _]) (by kernel_rfl) [eqF (v3), eqF (.pointer (some ⟨gx, 2, none⟩)), eqF (.int .u64 (p.rev : Int)), ownsF w.heap.size 5 1 q3.length (bcells q3), eqF (.pointer (some ⟨gx, 3, none⟩)), eqF (.string p.token), litF 9 #[.string p.token] 1, ownsF w.heap.size 5 1 q4.length (bcells q4)] (by kernel_rfl) (by kernel_rfl) (by kernel_rfl) ⟨?_, ?_, ?_, ?_, ?_, ?_, ?_, ?_, trivial⟩ ?_
  · intro ρ wx hρ hbx hl
    have e3 : ρ (.tmp 3) = v3 := hρ.tmp 3 (by decide +kernel)
    refine y_val (v := v3) ?_ rfl
    simp [execOp, go_sem, e3]
  · intro ρ wx hρ hbx hl
    have e1 : ρ (.tmp 1) = .pointer (some ⟨gx, 0, none⟩) := hρ.tmp 1 (by decide +kernel)
    refine y_val (v := .pointer (some ⟨gx, 2, none⟩)) ?_ rfl
    simp [execOp, go_sem, e1]
  · intro ρ wx hρ hbx hl
    have e25 : ρ (.tmp 25) = .pointer (some ⟨gx, 2, none⟩) := hl 1 (by decide +kernel) 25 rfl
    have kk := (hbx.cell (hgx)).trans k2
    refine y_val (v := .int .u64 (p.rev : Int)) ?_ rfl
    simp [execOp, go_sem, e25, kk]
  · intro ρ wx hρ hbx hl
    have e24 : ρ (.tmp 24) = v3 := hl 0 (by decide +kernel) 24 rfl
    have e26 : ρ (.tmp 26) = .int .u64 (p.rev : Int) := hl 2 (by decide +kernel) 26 rfl
    refine y_call (f := 51) (args := #[v3, .int .u64 (p.rev : Int)]) (by simp [execOp, resolve, invoke, hρ.func, go_sem, e24, e26]) ?_
    refine (refputo_any wx v3 q2 p.rev ((ownsRow.reads HO.out).below' hbx) (by omega) HIn.out.rev).mono ?_
    rintro e w6 ⟨v7, rfl, f7, b7⟩
    rw [Hp3.out] at f7
    exact ⟨v7, rfl, owns_less f7 (Nat.le_trans HB.out.size hbx.size), b7⟩
  · intro ρ wx hρ hbx hl
    have e1 : ρ (.tmp 1) = .pointer (some ⟨gx, 0, none⟩) := hρ.tmp 1 (by decide +kernel)
    refine y_val (v := .pointer (some ⟨gx, 3, none⟩)) ?_ rfl
    simp [execOp, go_sem, e1]
  · intro ρ wx hρ hbx hl
    have e28 : ρ (.tmp 28) = .pointer (some ⟨gx, 3, none⟩) := hl 4 (by decide +kernel) 28 rfl
    have kk := (hbx.cell (hgx)).trans k3
    refine y_val (v := .string p.token) ?_ rfl
    simp [execOp, go_sem, e28, kk]
  · intro ρ wx hρ hbx hl
    have e29 : ρ (.tmp 29) = .string p.token := hl 5 (by decide +kernel) 29 rfl
    refine y_litF ?_
    simp [execOp, go_sem, e29]
  · intro ρ wx hρ hbx hl
    have e27 := hl 3 (by decide +kernel) 27 rfl
    have e30 := hl 6 (by decide +kernel) 30 rfl
    obtain ⟨g1, h1, hg1⟩ := e30
    refine y_call (f := 52) (args := #[ρ (.tmp 27), .slice (some ⟨g1, 0, none⟩) 1 1]) (by simp [execOp, resolve, invoke, hρ.func, go_sem, h1]) ?_
    refine (rtexts_any wx _ q3 g1 1 [p.token] (ownsRow.reads e27) hg1 rfl (by decide) (by decide) (by omega)).mono ?_
    rintro e w6 ⟨v7, rfl, f7, b7⟩
    rw [Hp4.out] at f7
    exact ⟨v7, rfl, owns_less f7 (Nat.le_trans HB.out.size hbx.size), b7⟩
  intro aa w2 hdef hsz hlk hbz hf
  have ha := act_of_like hdef hsz hlk [24, 25, 26, 27, 28, 29, 30, 31] 151 rfl (by decide +kernel)
  have e24 : aa.tmps.getD 24 undef = v3 := hf 0 _ 24 rfl rfl
  have e25 : aa.tmps.getD 25 undef = .pointer (some ⟨gx, 2, none⟩) := hf 1 _ 25 rfl rfl
  have e26 : aa.tmps.getD 26 undef = .int .u64 (p.rev : Int) := hf 2 _ 26 rfl rfl
  have e28 : aa.tmps.getD 28 undef = .pointer (some ⟨gx, 3, none⟩) := hf 4 _ 28 rfl rfl
  have e29 : aa.tmps.getD 29 undef = .string p.token := hf 5 _ 29 rfl rfl
  have e31 : (ownsF w.heap.size 5 1 q4.length (bcells q4)).1 (aa.tmps.getD 31 undef) w2 := hf 7 _ 31 rfl rfl
  generalize hv31 : aa.tmps.getD 31 undef = v31 at e31
  simp only [putAll, List.foldl_cons, List.foldl_nil, e24, e25, e26, e28, e29, hv31] at ha
  generalize aa.tmps.getD 27 undef = v27 at ha
  generalize aa.tmps.getD 30 undef = v30 at ha
  simp [Act.put] at ha
  subst ha
  clear hdef hsz hlk hf e24 e25 e26 e28 e29 hv31
  clear bq2 bq3 bq4 bz4
  have HO := Lib.hid (show w2.ownsRow w.heap.size 5 1 v31 q4.length (bcells q4) from e31)
  have HX := Lib.hid ((hbz.block gx hgx).trans HX.out)
  have HB := Lib.hid (HB.out.trans (hbz.mono HB.out.size))
  clear e31 hbz k2 k3 hgx
  have k4 := Lib.cell_of_heap HX.out 4
  simp at k4
  have hgx := (Array.getElem?_eq_some_iff.1 HX.out).1
  have hC := rmany_any w2 v31 q4 p.flags.length (ownsRow.reads HO.out) (by have := HIn.out.flags; omega) (by have := HQ4.out; omega)
  rw [Hp5.out] at hC
  have HC := Lib.hid hC
  clear hC
  go_wp2_with (go_at_call 53; go_must (refine HC.out.mono ?_))
  rintro e w5 ⟨v5, rfl, o4, b4⟩
  have HX := Lib.hid ((b4.block gx hgx).trans HX.out)
  have HO := Lib.hid (owns_less o4 HB.out.size)
  have HB := Lib.hid (HB.out.trans (b4.mono HB.out.size))
  clear o4 b4 HC hgx k4
  have k4 := Lib.cell_of_heap HX.out 4
  simp at k4
  have hgx := (Array.getElem?_eq_some_iff.1 HX.out).1
  have hcn : p.flags.length ≤ c1 := by
    obtain ⟨_, _, hv, h1, _⟩ := (HRf.out w (Below.refl _ _)).flags
    cases hv
    exact h1
  go_wp2_with fail
  go_loopw [3, 40] (fun bv iv wr => RqRel flagB w.heap.size w5 q5 p.flags bv iv wr) (fun _ iv _ => p.flags.length - (intOf iv).toNat)
  case atStart => exact ⟨0, rfl, Nat.zero_le _, by simpa using HO.out, GrowR.refl _ _⟩
  case round =>
    obtain ⟨i, rfl, hin_, ho, hg⟩ := hrel
    by_cases hlt : i < p.flags.length
    · have hltI : (i : Int) < (p.flags.length : Nat) := by omega
      obtain ⟨x, hx⟩ : ∃ x, p.flags[i]? = some x := ⟨p.flags[i]'hlt, List.getElem?_eq_getElem _⟩
      have hxm := List.mem_of_getElem? hx
      have hbw : Below w.heap.size w wr := HB.out.trans hg.1
      have hwB : w.heap.size ≤ wr.heap.size := hbw.size
      have hne := flat_next flagB hx
      have htk := flat_take flagB p.flags (i + 1)
      rw [hne, List.length_append] at htk
      obtain ⟨bv, hbv⟩ : ∃ bv, bv = u3 := ⟨_, rfl⟩
      obtain ⟨c, hc⟩ : ∃ c, q5 ++ (p.flags.take i).flatMap flagB = c := ⟨_, rfl⟩
      have hcl : c.length + (flagB x).length ≤ 20000000 := by rw [← hc, List.length_append]; have h1 := HZ6.out; have h2 := HQ6.out; omega
      have hnb := HIn.out.flags
      have hfin : q5 ++ (p.flags.take (i + 1)).flatMap flagB = c ++ flagB x := by rw [hne, ← hc, List.append_assoc]
      rw [hc, ← hbv] at ho
      rw [← hbv]
      have HFn := Lib.hid hfin
      clear hbv
      obtain ⟨b, off, hva, hb2, hcs⟩ := (((HRf.out wr hbw).flags).reads (map_lenk flagC _)).at (j := i) (u := flagC x) (by rw [List.getElem?_map, hx]; rfl)
      cases hva
      unfold flagC at hcs
      have HC := Lib.hid (show Calls _ _ _ _ (OPost w.heap.size wr (c ++ flagB x)) from rtruth_any wr w.heap.size bv c x ho hwB (by omega))
      rw [hfin.symm] at HC
      have HG := Lib.hid hg
      clear ho hg hfin hne htk hx hc hbw
      go_wp2_with (go_at_call 54; go_must (refine HC.out.mono ?_))
      rintro e w6 ⟨v7, rfl, f7, b7, kt7⟩
      have HOz := Lib.hid f7
      have HGz := Lib.hid (HG.out.trans ⟨b7, KeepT.of_keepW kt7⟩)
      clear f7 b7 kt7 HC HG hcs
      go_wp2
      exact ⟨⟨i + 1, by go_num, by omega, HOz.out, HGz.out⟩, by simp [intOf]; omega⟩
    · obtain rfl : p.flags.length = i := by omega
      have hltI : ¬ ((p.flags.length : Nat) : Int) < (p.flags.length : Nat) := by omega
      rw [List.take_of_length_le (Nat.le_refl _), Hp6.out] at ho
      have HO := Lib.hid ho
      have HX := Lib.hid (hg.2 _ _ _ _ HX.out (by decide))
      have HB := Lib.hid (HB.out.trans hg.1)
      clear ho hg hcn
      have k5 := Lib.cell_of_heap HX.out 5
      simp at k5
      have hgx := (Array.getElem?_eq_some_iff.1 HX.out).1
      have hC := rmany_any wr u3 q6 p.tuples.length (ownsRow.reads HO.out) (by have := HIn.out.tuples; omega) (by have := HQ6.out; omega)
      rw [Hp7.out] at hC
      have HC := Lib.hid hC
      clear hC
      go_wp2_with (go_at_call 53; go_must (refine HC.out.mono ?_))
      rintro e w7 ⟨v7, rfl, o4, b4⟩
      have HX := Lib.hid ((b4.block gx hgx).trans HX.out)
      have HO := Lib.hid (owns_less o4 HB.out.size)
      have HB := Lib.hid (HB.out.trans (b4.mono HB.out.size))
      clear o4 b4 HC hgx k5
      have k5 := Lib.cell_of_heap HX.out 5
      simp at k5
      have hgx := (Array.getElem?_eq_some_iff.1 HX.out).1
      have hcn : p.tuples.length ≤ c2 := by
        obtain ⟨_, _, hv, h1, _⟩ := (HRf.out w (Below.refl _ _)).tuples
        cases hv
        exact h1
      go_wp2_with fail
      go_loopw [3, 56] (fun bv iv wr => RqRel t6B w.heap.size w7 q7 p.tuples bv iv wr) (fun _ iv _ => p.tuples.length - (intOf iv).toNat)
      case atStart => exact ⟨0, rfl, Nat.zero_le _, by simpa using HO.out, GrowR.refl _ _⟩
      case round =>
        obtain ⟨i, rfl, hin_, ho, hg⟩ := hrel
        by_cases hlt : i < p.tuples.length
        · have hltI : (i : Int) < (p.tuples.length : Nat) := by omega
          obtain ⟨x, hx⟩ : ∃ x, p.tuples[i]? = some x := ⟨p.tuples[i]'hlt, List.getElem?_eq_getElem _⟩
          have hxm := List.mem_of_getElem? hx
          have hbw : Below w.heap.size w wr := HB.out.trans hg.1
          have hwB : w.heap.size ≤ wr.heap.size := hbw.size
          have hne := flat_next t6B hx
          have htk := flat_take t6B p.tuples (i + 1)
          rw [hne, List.length_append] at htk
          obtain ⟨bv, hbv⟩ : ∃ bv, bv = u3 := ⟨_, rfl⟩
          obtain ⟨c, hc⟩ : ∃ c, q7 ++ (p.tuples.take i).flatMap t6B = c := ⟨_, rfl⟩
          have hcl : c.length + (t6B x).length ≤ 20000000 := by rw [← hc, List.length_append]; have h1 := HZ8.out; have h2 := HQ8.out; omega
          have hnb := HIn.out.tuples
          have hfin : q7 ++ (p.tuples.take (i + 1)).flatMap t6B = c ++ t6B x := by rw [hne, ← hc, List.append_assoc]
          rw [hc, ← hbv] at ho
          rw [← hbv]
          have HFn := Lib.hid hfin
          clear hbv
          obtain ⟨b, off, rfl, hb2, hcs⟩ := rows_at T6.cells 6 (fun _ => rfl) (((HRf.out wr hbw).tuples).reads (flat_lenk T6.cells 6 (fun _ => rfl) _)) hx (by decide)
          have d0 := hcs 0 _ rfl
          have d1 := hcs 1 _ rfl
          have d2 := hcs 2 _ rfl
          have d3 := hcs 3 _ rfl
          have d4 := hcs 4 _ rfl
          have d5 := hcs 5 _ rfl
          simp only [Nat.add_zero] at d0
          have hba : Below wr.heap.size wr (wr.alloc (.cells #[.string x.a, .string x.b, .string x.c, .string x.d, .string x.e, .string x.f] 62)) := (Below.refl _ _).alloc (Nat.le_refl _) _
          have HBx := Lib.hid (show (wr.alloc (.cells #[.string x.a, .string x.b, .string x.c, .string x.d, .string x.e, .string x.f] 62)).heap[wr.heap.size]? = some (.cells #[.string x.a, .string x.b, .string x.c, .string x.d, .string x.e, .string x.f] 62 (0, 0)) from heap_alloc_new _ _)
          have HG2 := Lib.hid (hg.trans (GrowR.of_below hba hwB))
          have HO2 := Lib.hid (owns_below ho hba)
          have hB2 : w.heap.size ≤ (wr.alloc (.cells #[.string x.a, .string x.b, .string x.c, .string x.d, .string x.e, .string x.f] 62)).heap.size := Nat.le_trans hwB hba.size
          clear ho hg hba hfin hne htk hx hc hcs hbw HO
          go_upto_region 13 with fail
          obtain ⟨gc, hgce⟩ : ∃ gc, wr.heap.size = gc := ⟨_, rfl⟩
          have HGc := Lib.hid hgce
          rw [hgce] at HBx
          rw [hgce]
          generalize (wr.alloc (.cells #[.string x.a, .string x.b, .string x.c, .string x.d, .string x.e, .string x.f] 62)) = w2 at *
          clear hgce d0 d1 d2 d3 d4 d5
          have d0 := Lib.cell_of_heap HBx.out 0
          have d1 := Lib.cell_of_heap HBx.out 1
          have d2 := Lib.cell_of_heap HBx.out 2
          have d3 := Lib.cell_of_heap HBx.out 3
          have d4 := Lib.cell_of_heap HBx.out 4
          have d5 := Lib.cell_of_heap HBx.out 5
          simp at d0 d1 d2 d3 d4 d5
          have hgc := (Array.getElem?_eq_some_iff.1 HBx.out).1
          have hC := rtuple_any w2 bv c x (ownsRow.reads HO2.out) (by omega)
          have HC := Lib.hid hC
          clear hC
          go_wp2_with (go_at_call 55; go_must (refine HC.out.mono ?_))
          rintro e w3 ⟨v3_, rfl, o3, b3⟩
          have HOz := Lib.hid (owns_less o3 hB2)
          have HGz := Lib.hid (HG2.out.trans (GrowR.of_below b3 hB2))
          clear o3 b3 HC HG2 HO2 d0 d1 d2 d3 d4 d5 hgc
          go_wp2
          exact ⟨⟨i + 1, by go_num, by omega, by rw [HFn.out]; exact HOz.out, HGz.out⟩, by simp [intOf]; omega⟩
        · obtain rfl : p.tuples.length = i := by omega
          have hltI : ¬ ((p.tuples.length : Nat) : Int) < (p.tuples.length : Nat) := by omega
          rw [List.take_of_length_le (Nat.le_refl _), Hp8.out] at ho
          have HO := Lib.hid ho
          have HX := Lib.hid (hg.2 _ _ _ _ HX.out (by decide))
          have HB := Lib.hid (HB.out.trans hg.1)
          clear ho hg hcn
          have k6 := Lib.cell_of_heap HX.out 6
          simp at k6
          have hgx := (Array.getElem?_eq_some_iff.1 HX.out).1
          have hC := rmany_any wr u3 q8 p.objs.length (ownsRow.reads HO.out) (by have := HIn.out.objs; omega) (by have := HQ8.out; omega)
          rw [Hp9.out] at hC
          have HC := Lib.hid hC
          clear hC
          go_wp2_with (go_at_call 53; go_must (refine HC.out.mono ?_))
          rintro e w9 ⟨v9, rfl, o4, b4⟩
          have HX := Lib.hid ((b4.block gx hgx).trans HX.out)
          have HO := Lib.hid (owns_less o4 HB.out.size)
          have HB := Lib.hid (HB.out.trans (b4.mono HB.out.size))
          clear o4 b4 HC hgx k6
          have k6 := Lib.cell_of_heap HX.out 6
          simp at k6
          have hgx := (Array.getElem?_eq_some_iff.1 HX.out).1
          have hcn : p.objs.length ≤ c3 := by
            obtain ⟨_, _, hv, h1, _⟩ := (HRf.out w (Below.refl _ _)).objs
            cases hv
            exact h1
          go_wp2_with fail
          go_loopw [3, 72] (fun bv iv wr => RqRel t2B w.heap.size w9 q9 p.objs bv iv wr) (fun _ iv _ => p.objs.length - (intOf iv).toNat)
          case atStart => exact ⟨0, rfl, Nat.zero_le _, by simpa using HO.out, GrowR.refl _ _⟩
          case round =>
            obtain ⟨i, rfl, hin_, ho, hg⟩ := hrel
            by_cases hlt : i < p.objs.length
            · have hltI : (i : Int) < (p.objs.length : Nat) := by omega
              obtain ⟨x, hx⟩ : ∃ x, p.objs[i]? = some x := ⟨p.objs[i]'hlt, List.getElem?_eq_getElem _⟩
              have hxm := List.mem_of_getElem? hx
              have hbw : Below w.heap.size w wr := HB.out.trans hg.1
              have hwB : w.heap.size ≤ wr.heap.size := hbw.size
              have hne := flat_next t2B hx
              have htk := flat_take t2B p.objs (i + 1)
              rw [hne, List.length_append] at htk
              obtain ⟨bv, hbv⟩ : ∃ bv, bv = u3 := ⟨_, rfl⟩
              obtain ⟨c, hc⟩ : ∃ c, q9 ++ (p.objs.take i).flatMap t2B = c := ⟨_, rfl⟩
              have hcl : c.length + (t2B x).length ≤ 20000000 := by rw [← hc, List.length_append]; have h1 := HZ10.out; have h2 := HQ10.out; omega
              have hnb := HIn.out.objs
              have hfin : q9 ++ (p.objs.take (i + 1)).flatMap t2B = c ++ t2B x := by rw [hne, ← hc, List.append_assoc]
              rw [hc, ← hbv] at ho
              rw [← hbv]
              have HFn := Lib.hid hfin
              clear hbv
              obtain ⟨b, off, rfl, hb2, hcs⟩ := rows_at T2.cells 2 (fun _ => rfl) (((HRf.out wr hbw).objs).reads (flat_lenk T2.cells 2 (fun _ => rfl) _)) hx (by decide)
              have d0 := hcs 0 _ rfl
              have d1 := hcs 1 _ rfl
              simp only [Nat.add_zero] at d0
              have hba : Below wr.heap.size wr (wr.alloc (.cells #[.string x.a, .string x.b] 30)) := (Below.refl _ _).alloc (Nat.le_refl _) _
              have HBx := Lib.hid (show (wr.alloc (.cells #[.string x.a, .string x.b] 30)).heap[wr.heap.size]? = some (.cells #[.string x.a, .string x.b] 30 (0, 0)) from heap_alloc_new _ _)
              have HG2 := Lib.hid (hg.trans (GrowR.of_below hba hwB))
              have HO2 := Lib.hid (owns_below ho hba)
              have hB2 : w.heap.size ≤ (wr.alloc (.cells #[.string x.a, .string x.b] 30)).heap.size := Nat.le_trans hwB hba.size
              clear ho hg hba hfin hne htk hx hc hcs hbw HO
              go_upto_region 19 with fail
              obtain ⟨gc, hgce⟩ : ∃ gc, wr.heap.size = gc := ⟨_, rfl⟩
              have HGc := Lib.hid hgce
              rw [hgce] at HBx
              rw [hgce]
              generalize (wr.alloc (.cells #[.string x.a, .string x.b] 30)) = w2 at *
              clear hgce d0 d1
              have d0 := Lib.cell_of_heap HBx.out 0
              have d1 := Lib.cell_of_heap HBx.out 1
              simp at d0 d1
              have hgc := (Array.getElem?_eq_some_iff.1 HBx.out).1
              have hla : Below w2.heap.size w2 (w2.alloc (.cells #[.string x.a, .string x.b] 9)) := (Below.refl _ _).alloc (Nat.le_refl _) _
              have HC := Lib.hid (rtexts2 (w2.alloc (.cells #[.string x.a, .string x.b] 9)) bv c x ((ownsRow.reads HO2.out).below' hla) w2.heap.size (heap_alloc_new _ _) (by omega))
              have HLa := Lib.hid hla
              clear hla
              go_wp2_with (go_at_call 52; go_must (refine HC.out.mono ?_))
              rintro e w3 ⟨v3_, rfl, o3, b3⟩
              have o3 := owns_less o3 HLa.out.size
              have b3 := HLa.out.trans (b3.mono HLa.out.size)
              clear HLa
              have HOz := Lib.hid (owns_less o3 hB2)
              have HGz := Lib.hid (HG2.out.trans (GrowR.of_below b3 hB2))
              clear o3 b3 HC HG2 HO2 d0 d1 hgc
              go_wp2
              exact ⟨⟨i + 1, by go_num, by omega, by rw [HFn.out]; exact HOz.out, HGz.out⟩, by simp [intOf]; omega⟩
            · obtain rfl : p.objs.length = i := by omega
              have hltI : ¬ ((p.objs.length : Nat) : Int) < (p.objs.length : Nat) := by omega
              rw [List.take_of_length_le (Nat.le_refl _), Hp10.out] at ho
              have HO := Lib.hid ho
              have HX := Lib.hid (hg.2 _ _ _ _ HX.out (by decide))
              have HB := Lib.hid (HB.out.trans hg.1)
              clear ho hg hcn
              have k7 := Lib.cell_of_heap HX.out 7
              simp at k7
              have hgx := (Array.getElem?_eq_some_iff.1 HX.out).1
              have hC := rmany_any wr u3 q10 p.events.length (ownsRow.reads HO.out) (by have := HIn.out.events; omega) (by have := HQ10.out; omega)
              rw [Hp11.out] at hC
              have HC := Lib.hid hC
              clear hC
              go_wp2_with (go_at_call 53; go_must (refine HC.out.mono ?_))
              rintro e w11 ⟨v11, rfl, o4, b4⟩
              have HX := Lib.hid ((b4.block gx hgx).trans HX.out)
              have HO := Lib.hid (owns_less o4 HB.out.size)
              have HB := Lib.hid (HB.out.trans (b4.mono HB.out.size))
              clear o4 b4 HC hgx k7
              have k7 := Lib.cell_of_heap HX.out 7
              simp at k7
              have hgx := (Array.getElem?_eq_some_iff.1 HX.out).1
              have hcn : p.events.length ≤ c4 := by
                obtain ⟨_, _, hv, h1, _⟩ := (HRf.out w (Below.refl _ _)).events
                cases hv
                exact h1
              go_wp2_with fail
              go_loopw [3, 92] (fun bv iv wr => RqRel evB w.heap.size w11 q11 p.events bv iv wr) (fun _ iv _ => p.events.length - (intOf iv).toNat)
              case atStart => exact ⟨0, rfl, Nat.zero_le _, by simpa using HO.out, GrowR.refl _ _⟩
              case round =>
                obtain ⟨i, rfl, hin_, ho, hg⟩ := hrel
                by_cases hlt : i < p.events.length
                · have hltI : (i : Int) < (p.events.length : Nat) := by omega
                  obtain ⟨x, hx⟩ : ∃ x, p.events[i]? = some x := ⟨p.events[i]'hlt, List.getElem?_eq_getElem _⟩
                  have hxm := List.mem_of_getElem? hx
                  have hbw : Below w.heap.size w wr := HB.out.trans hg.1
                  have hwB : w.heap.size ≤ wr.heap.size := hbw.size
                  have hne := flat_next evB hx
                  have htk := flat_take evB p.events (i + 1)
                  rw [hne, List.length_append] at htk
                  obtain ⟨bv, hbv⟩ : ∃ bv, bv = u3 := ⟨_, rfl⟩
                  obtain ⟨c, hc⟩ : ∃ c, q11 ++ (p.events.take i).flatMap evB = c := ⟨_, rfl⟩
                  have hcl : c.length + (evB x).length ≤ 20000000 := by rw [← hc, List.length_append]; have h1 := HZ12.out; have h2 := HQ12.out; omega
                  have hnb := HIn.out.events
                  have hfin : q11 ++ (p.events.take (i + 1)).flatMap evB = c ++ evB x := by rw [hne, ← hc, List.append_assoc]
                  rw [hc, ← hbv] at ho
                  rw [← hbv]
                  have HFn := Lib.hid hfin
                  clear hbv
                  obtain ⟨b, off, rfl, hb2, hcs⟩ := rows_at Evt.cells 8 (fun _ => rfl) (((HRf.out wr hbw).events).reads (flat_lenk Evt.cells 8 (fun _ => rfl) _)) hx (by decide)
                  have d0 := hcs 0 _ rfl
                  have d1 := hcs 1 _ rfl
                  have d2 := hcs 2 _ rfl
                  have d3 := hcs 3 _ rfl
                  have d4 := hcs 4 _ rfl
                  have d5 := hcs 5 _ rfl
                  have d6 := hcs 6 _ rfl
                  have d7 := hcs 7 _ rfl
                  simp only [Nat.add_zero] at d0
                  have hba : Below wr.heap.size wr (wr.alloc (.cells #[.int .u64 (x.rev : Int), .bool x.x.is, .string x.x.t.a, .string x.x.t.b, .string x.x.t.c, .string x.x.t.d, .string x.x.t.e, .string x.x.t.f] 67)) := (Below.refl _ _).alloc (Nat.le_refl _) _
                  have HBx := Lib.hid (show (wr.alloc (.cells #[.int .u64 (x.rev : Int), .bool x.x.is, .string x.x.t.a, .string x.x.t.b, .string x.x.t.c, .string x.x.t.d, .string x.x.t.e, .string x.x.t.f] 67)).heap[wr.heap.size]? = some (.cells #[.int .u64 (x.rev : Int), .bool x.x.is, .string x.x.t.a, .string x.x.t.b, .string x.x.t.c, .string x.x.t.d, .string x.x.t.e, .string x.x.t.f] 67 (0, 0)) from heap_alloc_new _ _)
                  have HG2 := Lib.hid (hg.trans (GrowR.of_below hba hwB))
                  have HO2 := Lib.hid (owns_below ho hba)
                  have hB2 : w.heap.size ≤ (wr.alloc (.cells #[.int .u64 (x.rev : Int), .bool x.x.is, .string x.x.t.a, .string x.x.t.b, .string x.x.t.c, .string x.x.t.d, .string x.x.t.e, .string x.x.t.f] 67)).heap.size := Nat.le_trans hwB hba.size
                  have hev := HIn.out.evs x hxm
                  clear ho hg hba hfin hne htk hx hc hcs hbw HO
                  go_upto_region 25 with fail
                  obtain ⟨gc, hgce⟩ : ∃ gc, wr.heap.size = gc := ⟨_, rfl⟩
                  have HGc := Lib.hid hgce
                  rw [hgce] at HBx
                  rw [hgce]
                  generalize (wr.alloc (.cells #[.int .u64 (x.rev : Int), .bool x.x.is, .string x.x.t.a, .string x.x.t.b, .string x.x.t.c, .string x.x.t.d, .string x.x.t.e, .string x.x.t.f] 67)) = w2 at *
                  clear hgce d0 d1 d2 d3 d4 d5 d6 d7
                  obtain ⟨z1, hz1_⟩ : ∃ z, c ++ enc x.rev = z := ⟨_, rfl⟩
                  obtain ⟨z2, hz2_⟩ : ∃ z, z1 ++ enc (bitN x.x.is) = z := ⟨_, rfl⟩
                  obtain ⟨z3, hz3_⟩ : ∃ z, z2 ++ t6B x.x.t = z := ⟨_, rfl⟩
                  have hev3 : c ++ evB x = z3 := by rw [← hz3_, ← hz2_, ← hz1_]; simp [evB, wriB]
                  have y1 : z1.length = c.length + (enc x.rev).length := by rw [← hz1_, List.length_append]
                  have y2 : z2.length = z1.length + (enc (bitN x.x.is)).length := by rw [← hz2_, List.length_append]
                  have y3 : z3.length = z2.length + (t6B x.x.t).length := by rw [← hz3_, List.length_append]
                  have y4 : (evB x).length = (enc x.rev).length + ((enc (bitN x.x.is)).length + (t6B x.x.t).length) := by simp [evB, wriB]
                  have Hz1 := Lib.hid hz1_
                  have Hz2 := Lib.hid hz2_
                  have Hz3 := Lib.hid hz3_
                  have Hev := Lib.hid hev3
                  clear hz1_ hz2_ hz3_ hev3
                  refine wp_region_sflast (l := [_, _, _, _, _, _, _, _, _, _, _, _]) (by kernel_rfl) [fun _ v _ => v = bv, fun _ v _ => v = .pointer (some ⟨gc, 0, none⟩), fun _ v _ => v = .int .u64 (x.rev : Int), fun L v W => L 7 = false → W.ownsRow w.heap.size 5 1 v z1.length (bcells z1), fun _ v _ => v = .pointer (some ⟨gc, 1, none⟩), fun _ v _ => v = .pointer (some ⟨gc, 1, none⟩), fun _ v _ => v = .bool x.x.is, fun _ v W => W.ownsRow w.heap.size 5 1 v z2.length (bcells z2), fun _ v _ => v = .pointer (some ⟨gc, 1, none⟩), fun _ v _ => v = .pointer (some ⟨gc, 2, none⟩), fun _ v _ => v = .agg #[.string x.x.t.a, .string x.x.t.b, .string x.x.t.c, .string x.x.t.d, .string x.x.t.e, .string x.x.t.f], fun L v W => L 7 = true ∧ W.ownsRow w.heap.size 5 1 v z3.length (bcells z3)] (by kernel_rfl) (by kernel_rfl) (by kernel_rfl) (fun L W => GrowR w.heap.size w2 W ∧ (L 3 = false → W.ownsRow w.heap.size 5 1 bv c.length (bcells c))) (fun k W W' => if k = 7 then GrowR w.heap.size W W' else Below W.heap.size W W') ?_ ⟨GrowR.drew _ _, fun _ => owns_below HO2.out (Below.refl _ _).drew⟩ ⟨?_, ?_, ?_, ?_, ?_, ?_, ?_, ?_, ?_, ?_, ?_, ?_, trivial⟩ ?_
                  · intro i k L v W W' hik hLk hf hR
                    match i, hf with
                    | 0, hf => exact hf
                    | 1, hf => exact hf
                    | 2, hf => exact hf
                    | 3, hf =>
                        intro h
                        by_cases hk : k = 7
                        · subst hk; rw [setL_eq] at h; cases h
                        · rw [if_neg hk] at hR
                          rw [setL_ne (fun e => hk e.symm)] at h
                          exact owns_below (hf h) hR
                    | 4, hf => exact hf
                    | 5, hf => exact hf
                    | 6, hf => exact hf
                    | 7, hf => exact (by rw [if_neg (fun e => hik e.symm)] at hR; exact owns_below hf hR)
                    | 8, hf => exact hf
                    | 9, hf => exact hf
                    | 10, hf => exact hf
                    | 11, hf =>
                        by_cases hk : k = 7
                        · subst hk; rw [hf.1] at hLk; cases hLk
                        · rw [if_neg hk] at hR
                          exact ⟨by rw [setL_ne (fun e => hk e.symm)]; exact hf.1, owns_below hf.2 hR⟩
                    | n + 12, _ => trivial
                  · intro ρ wx L hρ hL hd hl hI
                    have e3 : ρ (.tmp 3) = bv := hρ.tmp 3 (by decide +kernel)
                    refine f_val (v := bv) ?_ rfl ⟨hI.1, fun h => hI.2 (by rwa [setL_ne (by decide : (3 : Nat) ≠ 0)] at h)⟩ (Below.refl _ _)
                    simp [execOp, go_sem, e3]
                  · intro ρ wx L hρ hL hd hl hI
                    have e11 : ρ (.tmp 11) = .pointer (some ⟨gc, 0, none⟩) := hρ.tmp 11 (by decide +kernel)
                    refine f_val (v := .pointer (some ⟨gc, 0, none⟩)) ?_ rfl ⟨hI.1, fun h => hI.2 (by rwa [setL_ne (by decide : (3 : Nat) ≠ 1)] at h)⟩ (Below.refl _ _)
                    simp [execOp, go_sem, e11]
                  · intro ρ wx L hρ hL hd hl hI
                    have e97 := hl 1 (by decide +kernel) 97 rfl
                    replace e97 : ρ (.tmp 97) = .pointer (some ⟨gc, 0, none⟩) := e97
                    have m0 := hI.1.cell HBx.out (by decide) 0 _ rfl
                    refine f_val (v := .int .u64 (x.rev : Int)) ?_ rfl ⟨hI.1, fun h => hI.2 (by rwa [setL_ne (by decide : (3 : Nat) ≠ 2)] at h)⟩ (Below.refl _ _)
                    simp [execOp, go_sem, e97, m0]
                  · intro ρ wx L hρ hL hd hl hI
                    have e96 := hl 0 (by decide +kernel) 96 rfl
                    replace e96 : ρ (.tmp 96) = bv := e96
                    have e98 := hl 2 (by decide +kernel) 98 rfl
                    replace e98 : ρ (.tmp 98) = .int .u64 (x.rev : Int) := e98
                    refine f_call (f := 51) (args := #[bv, .int .u64 (x.rev : Int)]) (by simp [execOp, resolve, invoke, hρ.func, go_sem, e96, e98]) ?_
                    refine (refputo_any wx bv c x.rev (ownsRow.reads (hI.2 hL)) (by omega) hev).mono ?_
                    rintro e w6 ⟨v7, rfl, f7, b7⟩
                    rw [Hz1.out] at f7
                    exact ⟨v7, rfl, fun _ => owns_less f7 (Nat.le_trans hB2 hI.1.1.size), ⟨hI.1.bel b7 hB2, fun h => by rw [setL_eq] at h; cases h⟩, b7⟩
                  · intro ρ wx L hρ hL hd hl hI
                    have e11 : ρ (.tmp 11) = .pointer (some ⟨gc, 0, none⟩) := hρ.tmp 11 (by decide +kernel)
                    refine f_val (v := .pointer (some ⟨gc, 1, none⟩)) ?_ rfl ⟨hI.1, fun h => hI.2 (by rwa [setL_ne (by decide : (3 : Nat) ≠ 4)] at h)⟩ (Below.refl _ _)
                    simp [execOp, go_sem, e11]
                  · intro ρ wx L hρ hL hd hl hI
                    have e100 := hl 4 (by decide +kernel) 100 rfl
                    replace e100 : ρ (.tmp 100) = .pointer (some ⟨gc, 1, none⟩) := e100
                    refine f_val (v := .pointer (some ⟨gc, 1, none⟩)) ?_ rfl ⟨hI.1, fun h => hI.2 (by rwa [setL_ne (by decide : (3 : Nat) ≠ 5)] at h)⟩ (Below.refl _ _)
                    simp [execOp, go_sem, e100]
                  · intro ρ wx L hρ hL hd hl hI
                    have e101 := hl 5 (by decide +kernel) 101 rfl
                    replace e101 : ρ (.tmp 101) = .pointer (some ⟨gc, 1, none⟩) := e101
                    have m1 := hI.1.cell HBx.out (by decide) 1 _ rfl
                    refine f_val (v := .bool x.x.is) ?_ rfl ⟨hI.1, fun h => hI.2 (by rwa [setL_ne (by decide : (3 : Nat) ≠ 6)] at h)⟩ (Below.refl _ _)
                    simp [execOp, go_sem, e101, m1]
                  · intro ρ wx L hρ hL hd hl hI
                    have e99 := hl 3 (by decide +kernel) 99 rfl
                    have e102 := hl 6 (by decide +kernel) 102 rfl
                    replace e102 : ρ (.tmp 102) = .bool x.x.is := e102
                    refine f_call (f := 54) (args := #[ρ (.tmp 99), .bool x.x.is]) (by simp [execOp, resolve, invoke, hρ.func, go_sem, e102]) ?_
                    refine (rtruth_any wx w.heap.size _ z1 x.x.is (e99 hL) (Nat.le_trans hB2 hI.1.1.size) (by omega)).mono ?_
                    rintro e w6 ⟨v7, rfl, f7, b7, kt7⟩
                    rw [Hz2.out] at f7
                    have hgr : GrowR w.heap.size wx w6 := ⟨b7, KeepT.of_keepW kt7⟩
                    exact ⟨v7, rfl, f7, ⟨hI.1.trans hgr, fun h => by rw [setL_ne (by decide : (3 : Nat) ≠ 7), hd 3 (by decide) (by decide +kernel)] at h; cases h⟩, hgr⟩
                  · intro ρ wx L hρ hL hd hl hI
                    have e11 : ρ (.tmp 11) = .pointer (some ⟨gc, 0, none⟩) := hρ.tmp 11 (by decide +kernel)
                    refine f_val (v := .pointer (some ⟨gc, 1, none⟩)) ?_ rfl ⟨hI.1, fun h => hI.2 (by rwa [setL_ne (by decide : (3 : Nat) ≠ 8)] at h)⟩ (Below.refl _ _)
                    simp [execOp, go_sem, e11]
                  · intro ρ wx L hρ hL hd hl hI
                    have e104 := hl 8 (by decide +kernel) 104 rfl
                    replace e104 : ρ (.tmp 104) = .pointer (some ⟨gc, 1, none⟩) := e104
                    refine f_val (v := .pointer (some ⟨gc, 2, none⟩)) ?_ rfl ⟨hI.1, fun h => hI.2 (by rwa [setL_ne (by decide : (3 : Nat) ≠ 9)] at h)⟩ (Below.refl _ _)
                    simp [execOp, go_sem, e104]
                  · intro ρ wx L hρ hL hd hl hI
                    have e105 := hl 9 (by decide +kernel) 105 rfl
                    replace e105 : ρ (.tmp 105) = .pointer (some ⟨gc, 2, none⟩) := e105
                    have m2 := hI.1.cell HBx.out (by decide) 2 _ rfl
                    have m3 := hI.1.cell HBx.out (by decide) 3 _ rfl
                    have m4 := hI.1.cell HBx.out (by decide) 4 _ rfl
                    have m5 := hI.1.cell HBx.out (by decide) 5 _ rfl
                    have m6 := hI.1.cell HBx.out (by decide) 6 _ rfl
                    have m7 := hI.1.cell HBx.out (by decide) 7 _ rfl
                    refine f_val (v := .agg #[.string x.x.t.a, .string x.x.t.b, .string x.x.t.c, .string x.x.t.d, .string x.x.t.e, .string x.x.t.f]) ?_ rfl ⟨hI.1, fun h => hI.2 (by rwa [setL_ne (by decide : (3 : Nat) ≠ 10)] at h)⟩ (Below.refl _ _)
                    simp [execOp, go_sem, e105, m2, m3, m4, m5, m6, m7]
                  · intro ρ wx L hρ hL hd hl hI
                    have e103 := hl 7 (by decide +kernel) 103 rfl
                    have e106 := hl 10 (by decide +kernel) 106 rfl
                    replace e106 : ρ (.tmp 106) = .agg #[.string x.x.t.a, .string x.x.t.b, .string x.x.t.c, .string x.x.t.d, .string x.x.t.e, .string x.x.t.f] := e106
                    refine f_call (f := 55) (args := #[ρ (.tmp 103), .agg #[.string x.x.t.a, .string x.x.t.b, .string x.x.t.c, .string x.x.t.d, .string x.x.t.e, .string x.x.t.f]]) (by simp [execOp, resolve, invoke, hρ.func, go_sem, e106]) ?_
                    refine (rtuple_any wx _ z2 x.x.t (ownsRow.reads e103) (by omega)).mono ?_
                    rintro e w6 ⟨v7, rfl, f7, b7⟩
                    rw [Hz3.out] at f7
                    exact ⟨v7, rfl, ⟨by rw [setL_ne (by decide : (7 : Nat) ≠ 11)]; exact hd 7 (by decide) (by decide +kernel), owns_less f7 (Nat.le_trans hB2 hI.1.1.size)⟩, ⟨hI.1.bel b7 hB2, fun h => owns_below (hI.2 (by rwa [setL_ne (by decide : (3 : Nat) ≠ 11)] at h)) b7⟩, b7⟩
                  intro aa w3 L hdef hsz hlk hL hI hf
                  have ha := act_of_like hdef hsz hlk [96, 97, 98, 99, 100, 101, 102, 103, 104, 105, 106, 107] 151 rfl (by decide +kernel)
                  have e107 : L 7 = true ∧ w3.ownsRow w.heap.size 5 1 (aa.tmps.getD 107 undef) z3.length (bcells z3) := hf 11 _ 107 rfl rfl
                  have hgz := hI.1
                  simp only [putAll, List.foldl_cons, List.foldl_nil] at ha
                  generalize aa.tmps.getD 96 undef = v96 at ha
                  generalize aa.tmps.getD 97 undef = v97 at ha
                  generalize aa.tmps.getD 98 undef = v98 at ha
                  generalize aa.tmps.getD 99 undef = v99 at ha
                  generalize aa.tmps.getD 100 undef = v100 at ha
                  generalize aa.tmps.getD 101 undef = v101 at ha
                  generalize aa.tmps.getD 102 undef = v102 at ha
                  generalize aa.tmps.getD 103 undef = v103 at ha
                  generalize aa.tmps.getD 104 undef = v104 at ha
                  generalize aa.tmps.getD 105 undef = v105 at ha
                  generalize aa.tmps.getD 106 undef = v106 at ha
                  generalize aa.tmps.getD 107 undef = v107 at ha e107
                  simp [Act.put] at ha
                  subst ha
                  replace e107 := e107.2
                  clear hdef hsz hlk hf hL hI
                  have HOz := Lib.hid e107
                  have HGz := Lib.hid (HG2.out.trans hgz)
                  clear e107 hgz HG2 HO2 HBx y1 y2 y3 y4
                  go_wp2
                  exact ⟨⟨i + 1, by go_num, by omega, by rw [HFn.out, Hev.out]; exact HOz.out, HGz.out⟩, by simp [intOf]; omega⟩
                · obtain rfl : p.events.length = i := by omega
                  have hltI : ¬ ((p.events.length : Nat) : Int) < (p.events.length : Nat) := by omega
                  rw [List.take_of_length_le (Nat.le_refl _), Hp12.out] at ho
                  have HO := Lib.hid ho
                  have HX := Lib.hid (hg.2 _ _ _ _ HX.out (by decide))
                  have HB := Lib.hid (HB.out.trans hg.1)
                  clear ho hg hcn
                  have k8 := Lib.cell_of_heap HX.out 8
                  simp at k8
                  have hgx := (Array.getElem?_eq_some_iff.1 HX.out).1
                  have hC := rmany_any wr u3 q12 p.steps.length (ownsRow.reads HO.out) (by have := HIn.out.steps; omega) (by have := HQ12.out; omega)
                  rw [Hp13.out] at hC
                  have HC := Lib.hid hC
                  clear hC
                  go_wp2_with (go_at_call 53; go_must (refine HC.out.mono ?_))
                  rintro e w13 ⟨v13, rfl, o4, b4⟩
                  have HX := Lib.hid ((b4.block gx hgx).trans HX.out)
                  have HO := Lib.hid (owns_less o4 HB.out.size)
                  have HB := Lib.hid (HB.out.trans (b4.mono HB.out.size))
                  clear o4 b4 HC hgx k8
                  have k8 := Lib.cell_of_heap HX.out 8
                  simp at k8
                  have hgx := (Array.getElem?_eq_some_iff.1 HX.out).1
                  have hcn : p.steps.length ≤ c5 := by
                    obtain ⟨_, _, hv, h1, _⟩ := (HRf.out w (Below.refl _ _)).steps
                    cases hv
                    exact h1
                  go_wp2_with fail
                  go_loopw [3, 117] (fun bv iv wr => RqRel stB w.heap.size w13 q13 p.steps bv iv wr) (fun _ iv _ => p.steps.length - (intOf iv).toNat)
                  case atStart => exact ⟨0, rfl, Nat.zero_le _, by simpa using HO.out, GrowR.refl _ _⟩
                  case round =>
                    obtain ⟨i, rfl, hin_, ho, hg⟩ := hrel
                    by_cases hlt : i < p.steps.length
                    · have hltI : (i : Int) < (p.steps.length : Nat) := by omega
                      obtain ⟨x, hx⟩ : ∃ x, p.steps[i]? = some x := ⟨p.steps[i]'hlt, List.getElem?_eq_getElem _⟩
                      have hxm := List.mem_of_getElem? hx
                      have hbw : Below w.heap.size w wr := HB.out.trans hg.1
                      have hwB : w.heap.size ≤ wr.heap.size := hbw.size
                      have hne := flat_next stB hx
                      have htk := flat_take stB p.steps (i + 1)
                      rw [hne, List.length_append] at htk
                      obtain ⟨bv, hbv⟩ : ∃ bv, bv = u3 := ⟨_, rfl⟩
                      obtain ⟨c, hc⟩ : ∃ c, q13 ++ (p.steps.take i).flatMap stB = c := ⟨_, rfl⟩
                      have hcl : c.length + (stB x).length ≤ 20000000 := by rw [← hc, List.length_append]; have h1 := HZ14.out; have h2 := HQ14.out; omega
                      have hnb := HIn.out.steps
                      have hfin : q13 ++ (p.steps.take (i + 1)).flatMap stB = c ++ stB x := by rw [hne, ← hc, List.append_assoc]
                      rw [hc, ← hbv] at ho
                      rw [← hbv]
                      have HFn := Lib.hid hfin
                      clear hbv
                      obtain ⟨_, _, hv, _, _, hat⟩ := (HRf.out wr hbw).steps
                      cases hv
                      obtain ⟨b, off, cs, rfl, hbB, hb2, hcs, xa, xcap, ba, bc, rfl, hx1, hx2, hx3, hx4⟩ := hat i x hx
                      have d0 := hcs 0 _ rfl
                      have d1 := hcs 1 _ rfl
                      have d2 := hcs 2 _ rfl
                      have d3 := hcs 3 _ rfl
                      have d4 := hcs 4 _ rfl
                      have d5 := hcs 5 _ rfl
                      have d6 := hcs 6 _ rfl
                      have d7 := hcs 7 _ rfl
                      have d8 := hcs 8 _ rfl
                      have d9 := hcs 9 _ rfl
                      have d10 := hcs 10 _ rfl
                      simp only [Nat.add_zero] at d0
                      have hba : Below wr.heap.size wr (wr.alloc (.cells #[.string x.p.a, .string x.p.b, .string x.p.c, .int .i64 x.h.kind, .string x.h.a, .string x.h.b, .slice xa x.ps.length xcap, .string x.s.a, .string x.s.b, .string x.s.c, .slice ba x.ys.length bc] 74)) := (Below.refl _ _).alloc (Nat.le_refl _) _
                      have HBx := Lib.hid (show (wr.alloc (.cells #[.string x.p.a, .string x.p.b, .string x.p.c, .int .i64 x.h.kind, .string x.h.a, .string x.h.b, .slice xa x.ps.length xcap, .string x.s.a, .string x.s.b, .string x.s.c, .slice ba x.ys.length bc] 74)).heap[wr.heap.size]? = some (.cells #[.string x.p.a, .string x.p.b, .string x.p.c, .int .i64 x.h.kind, .string x.h.a, .string x.h.b, .slice xa x.ps.length xcap, .string x.s.a, .string x.s.b, .string x.s.c, .slice ba x.ys.length bc] 74 (0, 0)) from heap_alloc_new _ _)
                      have HG2 := Lib.hid (hg.trans (GrowR.of_below hba hwB))
                      have HO2 := Lib.hid (owns_below ho hba)
                      have hB2 : w.heap.size ≤ (wr.alloc (.cells #[.string x.p.a, .string x.p.b, .string x.p.c, .int .i64 x.h.kind, .string x.h.a, .string x.h.b, .slice xa x.ps.length xcap, .string x.s.a, .string x.s.b, .string x.s.c, .slice ba x.ys.length bc] 74)).heap.size := Nat.le_trans hwB hba.size
                      have hmo : ∀ y, y < (wr.alloc (.cells #[.string x.p.a, .string x.p.b, .string x.p.c, .int .i64 x.h.kind, .string x.h.a, .string x.h.b, .slice xa x.ps.length xcap, .string x.s.a, .string x.s.b, .string x.s.c, .slice ba x.ys.length bc] 74)).heap.size → y < w.heap.size → y < (wr.alloc (.cells #[.string x.p.a, .string x.p.b, .string x.p.c, .int .i64 x.h.kind, .string x.h.a, .string x.h.b, .slice xa x.ps.length xcap, .string x.s.a, .string x.s.b, .string x.s.c, .slice ba x.ys.length bc] 74)).heap.size := fun _ h _ => h
                      have HXt := Lib.hid (TrsAt.mono hmo (ruHd_mono hmo) _ (TrsAt.keep (Keeps.of_below_size hba) (ruHd_keep (Keeps.of_below_size hba)) _ hx3))
                      have HY4 := Lib.hid (hx4.keep (Keeps.of_below_size hba))
                      have HSi := Lib.hid (HIn.out.sts x hxm)
                      have hyb := HSi.out.2.2
                      clear ho hg hba hfin hne htk hx hc hcs hbw HO hx3 hx4 hat hmo
                      go_upto_region 31 with fail
                      obtain ⟨gc, hgce⟩ : ∃ gc, wr.heap.size = gc := ⟨_, rfl⟩
                      have HGc := Lib.hid hgce
                      rw [hgce] at HBx
                      rw [hgce]
                      generalize (wr.alloc (.cells #[.string x.p.a, .string x.p.b, .string x.p.c, .int .i64 x.h.kind, .string x.h.a, .string x.h.b, .slice xa x.ps.length xcap, .string x.s.a, .string x.s.b, .string x.s.c, .slice ba x.ys.length bc] 74)) = w2 at *
                      clear hgce d0 d1 d2 d3 d4 d5 d6 d7 d8 d9 d10
                      have d0 := Lib.cell_of_heap HBx.out 0
                      have d1 := Lib.cell_of_heap HBx.out 1
                      have d2 := Lib.cell_of_heap HBx.out 2
                      have d3 := Lib.cell_of_heap HBx.out 3
                      have d4 := Lib.cell_of_heap HBx.out 4
                      have d5 := Lib.cell_of_heap HBx.out 5
                      have d6 := Lib.cell_of_heap HBx.out 6
                      have d7 := Lib.cell_of_heap HBx.out 7
                      have d8 := Lib.cell_of_heap HBx.out 8
                      have d9 := Lib.cell_of_heap HBx.out 9
                      have d10 := Lib.cell_of_heap HBx.out 10
                      simp at d0 d1 d2 d3 d4 d5 d6 d7 d8 d9 d10
                      have hgc := (Array.getElem?_eq_some_iff.1 HBx.out).1
                      obtain ⟨rb, hrb_⟩ : ∃ z, (Tr.mk x.h x.ps).bytes ruB = z := ⟨_, rfl⟩
                      obtain ⟨z1, hz1_⟩ : ∃ z, c ++ t3B x.p = z := ⟨_, rfl⟩
                      obtain ⟨z2, hz2_⟩ : ∃ z, z1 ++ rb = z := ⟨_, rfl⟩
                      obtain ⟨z3, hz3_⟩ : ∃ z, z2 ++ t3B x.s = z := ⟨_, rfl⟩
                      obtain ⟨z4, hz4_⟩ : ∃ z, z3 ++ enc x.ys.length = z := ⟨_, rfl⟩
                      obtain ⟨z5, hz5_⟩ : ∃ z, z4 ++ x.ys.flatMap intB = z := ⟨_, rfl⟩
                      have hst5 : c ++ stB x = z5 := by rw [← hz5_, ← hz4_, ← hz3_, ← hz2_, ← hz1_, ← hrb_]; simp [stB, listB]
                      have y1 : z1.length = c.length + (t3B x.p).length := by rw [← hz1_, List.length_append]
                      have y2 : z2.length = z1.length + rb.length := by rw [← hz2_, List.length_append]
                      have y3 : z3.length = z2.length + (t3B x.s).length := by rw [← hz3_, List.length_append]
                      have y4 : z4.length = z3.length + (enc x.ys.length).length := by rw [← hz4_, List.length_append]
                      have y5 : z5.length = z4.length + (x.ys.flatMap intB).length := by rw [← hz5_, List.length_append]
                      have y6 : z5.length = c.length + (stB x).length := by rw [← hst5, List.length_append]
                      have Hz1 := Lib.hid hz1_
                      have Hz2 := Lib.hid hz2_
                      have Hz3 := Lib.hid hz3_
                      have Hz4 := Lib.hid hz4_
                      have Hz5 := Lib.hid hz5_
                      have HRb := Lib.hid hrb_
                      have Hst := Lib.hid hst5
                      clear hz1_ hz2_ hz3_ hz4_ hz5_ hst5 hrb_
                      refine wp_region_last (l := [_, _, _, _, _, _, _, _, _, _, _, _, _, _]) (by kernel_rfl) [eqF (bv), eqF (.pointer (some ⟨gc, 0, none⟩)), eqF (.agg #[.string x.p.a, .string x.p.b, .string x.p.c]), ownsF w.heap.size 5 1 z1.length (bcells z1), eqF (.pointer (some ⟨gc, 3, none⟩)), eqF (.agg #[.int .i64 x.h.kind, .string x.h.a, .string x.h.b, .slice xa x.ps.length xcap]), ownsF w.heap.size 5 1 z2.length (bcells z2), eqF (.pointer (some ⟨gc, 7, none⟩)), eqF (.agg #[.string x.s.a, .string x.s.b, .string x.s.c]), ownsF w.heap.size 5 1 z3.length (bcells z3), eqF (.pointer (some ⟨gc, 10, none⟩)), eqF (.slice ba x.ys.length bc), eqF (.int .i64 (x.ys.length : Int)), ownsF w.heap.size 5 1 z4.length (bcells z4)] (by kernel_rfl) (by kernel_rfl) (by kernel_rfl) ⟨?_, ?_, ?_, ?_, ?_, ?_, ?_, ?_, ?_, ?_, ?_, ?_, ?_, ?_, trivial⟩ ?_
                      · intro ρ wx hρ hbx hl
                        have e3 : ρ (.tmp 3) = bv := hρ.tmp 3 (by decide +kernel)
                        refine y_val (v := bv) ?_ rfl
                        simp [execOp, go_sem, e3]
                      · intro ρ wx hρ hbx hl
                        have e13 : ρ (.tmp 13) = .pointer (some ⟨gc, 0, none⟩) := hρ.tmp 13 (by decide +kernel)
                        refine y_val (v := .pointer (some ⟨gc, 0, none⟩)) ?_ rfl
                        simp [execOp, go_sem, e13]
                      · intro ρ wx hρ hbx hl
                        have e122 : ρ (.tmp 122) = .pointer (some ⟨gc, 0, none⟩) := hl 1 (by decide +kernel) 122 rfl
                        have m0 := (hbx.cell (p := ⟨gc, 0, none⟩) hgc).trans d0
                        have m1 := (hbx.cell (p := ⟨gc, 1, none⟩) hgc).trans d1
                        have m2 := (hbx.cell (p := ⟨gc, 2, none⟩) hgc).trans d2
                        refine y_val (v := .agg #[.string x.p.a, .string x.p.b, .string x.p.c]) ?_ rfl
                        simp [execOp, go_sem, e122, m0, m1, m2]
                      · intro ρ wx hρ hbx hl
                        have e121 : ρ (.tmp 121) = bv := hl 0 (by decide +kernel) 121 rfl
                        have e123 : ρ (.tmp 123) = .agg #[.string x.p.a, .string x.p.b, .string x.p.c] := hl 2 (by decide +kernel) 123 rfl
                        refine y_call (f := 58) (args := #[bv, .agg #[.string x.p.a, .string x.p.b, .string x.p.c]]) (by simp [execOp, resolve, invoke, hρ.func, go_sem, e121, e123]) ?_
                        refine (rpoint_any wx bv c x.p.a x.p.b x.p.c ((ownsRow.reads HO2.out).below' hbx) (by show _ + (t3B x.p).length ≤ _; omega)).mono ?_
                        rintro e w6 ⟨v7, rfl, f7, b7⟩
                        rw [show c ++ txts [x.p.a, x.p.b, x.p.c] = z1 from Hz1.out] at f7
                        exact ⟨v7, rfl, owns_less f7 (Nat.le_trans hB2 hbx.size), b7⟩
                      · intro ρ wx hρ hbx hl
                        have e13 : ρ (.tmp 13) = .pointer (some ⟨gc, 0, none⟩) := hρ.tmp 13 (by decide +kernel)
                        refine y_val (v := .pointer (some ⟨gc, 3, none⟩)) ?_ rfl
                        simp [execOp, go_sem, e13]
                      · intro ρ wx hρ hbx hl
                        have e125 : ρ (.tmp 125) = .pointer (some ⟨gc, 3, none⟩) := hl 4 (by decide +kernel) 125 rfl
                        have m3 := (hbx.cell (p := ⟨gc, 3, none⟩) hgc).trans d3
                        have m4 := (hbx.cell (p := ⟨gc, 4, none⟩) hgc).trans d4
                        have m5 := (hbx.cell (p := ⟨gc, 5, none⟩) hgc).trans d5
                        have m6 := (hbx.cell (p := ⟨gc, 6, none⟩) hgc).trans d6
                        refine y_val (v := .agg #[.int .i64 x.h.kind, .string x.h.a, .string x.h.b, .slice xa x.ps.length xcap]) ?_ rfl
                        simp [execOp, go_sem, e125, m3, m4, m5, m6]
                      · intro ρ wx hρ hbx hl
                        have e124 := hl 3 (by decide +kernel) 124 rfl
                        have e126 : ρ (.tmp 126) = .agg #[.int .i64 x.h.kind, .string x.h.a, .string x.h.b, .slice xa x.ps.length xcap] := hl 5 (by decide +kernel) 126 rfl
                        refine y_call (f := 57) (args := #[ρ (.tmp 124), .agg #[.int .i64 x.h.kind, .string x.h.a, .string x.h.b, .slice xa x.ps.length xcap]]) (by simp [execOp, resolve, invoke, hρ.func, go_sem, e126]) ?_
                        refine (refrule_ok (Tr.mk x.h x.ps).depth x.h x.ps (Nat.le_refl _) HSi.out.1 wx _ z1 xa xcap (ownsRow.reads e124) hx1 hx2 (TrsAt.mono (fun _ h _ => h) (ruHd_mono (fun _ h _ => h)) _ (TrsAt.keep (Keeps.of_below_size hbx) (ruHd_keep (Keeps.of_below_size hbx)) _ HXt.out)) (by rw [HRb.out]; omega)).mono ?_
                        rintro e w6 ⟨v7, rfl, f7, b7⟩
                        rw [HRb.out, Hz2.out] at f7
                        exact ⟨v7, rfl, owns_less f7 (Nat.le_trans hB2 hbx.size), b7⟩
                      · intro ρ wx hρ hbx hl
                        have e13 : ρ (.tmp 13) = .pointer (some ⟨gc, 0, none⟩) := hρ.tmp 13 (by decide +kernel)
                        refine y_val (v := .pointer (some ⟨gc, 7, none⟩)) ?_ rfl
                        simp [execOp, go_sem, e13]
                      · intro ρ wx hρ hbx hl
                        have e128 : ρ (.tmp 128) = .pointer (some ⟨gc, 7, none⟩) := hl 7 (by decide +kernel) 128 rfl
                        have m7 := (hbx.cell (p := ⟨gc, 7, none⟩) hgc).trans d7
                        have m8 := (hbx.cell (p := ⟨gc, 8, none⟩) hgc).trans d8
                        have m9 := (hbx.cell (p := ⟨gc, 9, none⟩) hgc).trans d9
                        refine y_val (v := .agg #[.string x.s.a, .string x.s.b, .string x.s.c]) ?_ rfl
                        simp [execOp, go_sem, e128, m7, m8, m9]
                      · intro ρ wx hρ hbx hl
                        have e127 := hl 6 (by decide +kernel) 127 rfl
                        have e129 : ρ (.tmp 129) = .agg #[.string x.s.a, .string x.s.b, .string x.s.c] := hl 8 (by decide +kernel) 129 rfl
                        refine y_call (f := 56) (args := #[ρ (.tmp 127), .agg #[.string x.s.a, .string x.s.b, .string x.s.c]]) (by simp [execOp, resolve, invoke, hρ.func, go_sem, e129]) ?_
                        refine (rsub_any wx _ z2 x.s.a x.s.b x.s.c (ownsRow.reads e127) (by show _ + (t3B x.s).length ≤ _; omega)).mono ?_
                        rintro e w6 ⟨v7, rfl, f7, b7⟩
                        rw [show z2 ++ txts [x.s.a, x.s.b, x.s.c] = z3 from Hz3.out] at f7
                        exact ⟨v7, rfl, owns_less f7 (Nat.le_trans hB2 hbx.size), b7⟩
                      · intro ρ wx hρ hbx hl
                        have e13 : ρ (.tmp 13) = .pointer (some ⟨gc, 0, none⟩) := hρ.tmp 13 (by decide +kernel)
                        refine y_val (v := .pointer (some ⟨gc, 10, none⟩)) ?_ rfl
                        simp [execOp, go_sem, e13]
                      · intro ρ wx hρ hbx hl
                        have e131 : ρ (.tmp 131) = .pointer (some ⟨gc, 10, none⟩) := hl 10 (by decide +kernel) 131 rfl
                        have m10 := (hbx.cell (p := ⟨gc, 10, none⟩) hgc).trans d10
                        refine y_val (v := .slice ba x.ys.length bc) ?_ rfl
                        simp [execOp, go_sem, e131, m10]
                      · intro ρ wx hρ hbx hl
                        have e132 : ρ (.tmp 132) = .slice ba x.ys.length bc := hl 11 (by decide +kernel) 132 rfl
                        refine y_val (v := .int .i64 (x.ys.length : Int)) ?_ rfl
                        simp [go_sem, e132]
                      · intro ρ wx hρ hbx hl
                        have e130 := hl 9 (by decide +kernel) 130 rfl
                        have e133 : ρ (.tmp 133) = .int .i64 (x.ys.length : Int) := hl 12 (by decide +kernel) 133 rfl
                        refine y_call (f := 53) (args := #[ρ (.tmp 130), .int .i64 (x.ys.length : Int)]) (by simp [execOp, resolve, invoke, hρ.func, go_sem, e133]) ?_
                        refine (rmany_any wx _ z3 x.ys.length (ownsRow.reads e130) (by have := HSi.out.2.2; omega) (by omega)).mono ?_
                        rintro e w6 ⟨v7, rfl, f7, b7⟩
                        rw [Hz4.out] at f7
                        exact ⟨v7, rfl, owns_less f7 (Nat.le_trans hB2 hbx.size), b7⟩
                      intro aa w3 hdef hsz hlk hbz hf
                      have ha := act_of_like hdef hsz hlk [121, 122, 123, 124, 125, 126, 127, 128, 129, 130, 131, 132, 133, 134] 151 rfl (by decide +kernel)
                      have e121 : aa.tmps.getD 121 undef = bv := hf 0 _ 121 rfl rfl
                      have e122 : aa.tmps.getD 122 undef = .pointer (some ⟨gc, 0, none⟩) := hf 1 _ 122 rfl rfl
                      have e123 : aa.tmps.getD 123 undef = .agg #[.string x.p.a, .string x.p.b, .string x.p.c] := hf 2 _ 123 rfl rfl
                      have e125 : aa.tmps.getD 125 undef = .pointer (some ⟨gc, 3, none⟩) := hf 4 _ 125 rfl rfl
                      have e126 : aa.tmps.getD 126 undef = .agg #[.int .i64 x.h.kind, .string x.h.a, .string x.h.b, .slice xa x.ps.length xcap] := hf 5 _ 126 rfl rfl
                      have e128 : aa.tmps.getD 128 undef = .pointer (some ⟨gc, 7, none⟩) := hf 7 _ 128 rfl rfl
                      have e129 : aa.tmps.getD 129 undef = .agg #[.string x.s.a, .string x.s.b, .string x.s.c] := hf 8 _ 129 rfl rfl
                      have e131 : aa.tmps.getD 131 undef = .pointer (some ⟨gc, 10, none⟩) := hf 10 _ 131 rfl rfl
                      have e132 : aa.tmps.getD 132 undef = .slice ba x.ys.length bc := hf 11 _ 132 rfl rfl
                      have e133 : aa.tmps.getD 133 undef = .int .i64 (x.ys.length : Int) := hf 12 _ 133 rfl rfl
                      have e134 : (ownsF w.heap.size 5 1 z4.length (bcells z4)).1 (aa.tmps.getD 134 undef) w3 := hf 13 _ 134 rfl rfl
                      generalize hv134 : aa.tmps.getD 134 undef = v134 at e134
                      simp only [putAll, List.foldl_cons, List.foldl_nil, e121, e122, e123, e125, e126, e128, e129, e131, e132, e133, hv134] at ha
                      generalize aa.tmps.getD 124 undef = v124 at ha
                      generalize aa.tmps.getD 127 undef = v127 at ha
                      generalize aa.tmps.getD 130 undef = v130 at ha
                      simp [Act.put] at ha
                      subst ha
                      clear hdef hsz hlk hf e121 e122 e123 e125 e126 e128 e129 e131 e132 e133 hv134
                      have HOz := Lib.hid (show w3.ownsRow w.heap.size 5 1 v134 z4.length (bcells z4) from e134)
                      have HGz := Lib.hid (HG2.out.trans (GrowR.of_below hbz hB2))
                      have HBz := Lib.hid ((hbz.block gc hgc).trans HBx.out)
                      have HY5 := Lib.hid (HY4.out.keep (Keeps.of_below_size hbz))
                      have hB3 : w.heap.size ≤ w3.heap.size := Nat.le_trans hB2 hbz.size
                      clear e134 hbz HG2 HO2 HBx hgc HXt d0 d1 d2 d3 d4 d5 d6 d7 d8 d9 d10
                      have d10 := Lib.cell_of_heap HBz.out 10
                      simp at d10
                      have hgc := (Array.getElem?_eq_some_iff.1 HBz.out).1
                      have hbcI : x.ys.length ≤ bc := by
                        obtain ⟨_, _, hv, h1, _⟩ := HY5.out
                        cases hv
                        exact h1
                      go_wp2_with fail
                      go_loopw [3, 138] (fun bv iv wr => RqRel intB w.heap.size w3 z4 x.ys bv iv wr) (fun _ iv _ => x.ys.length - (intOf iv).toNat)
                      case atStart => exact ⟨0, rfl, Nat.zero_le _, by simpa using HOz.out, GrowR.refl _ _⟩
                      case round =>
                        obtain ⟨j, rfl, hjn_, ho, hg⟩ := hrel
                        have hys := (HY5.out.keep (Keeps.of_below hg.1)).reads (map_lenk intC _)
                        by_cases hlj : j < x.ys.length
                        · have hljI : (j : Int) < (x.ys.length : Nat) := by omega
                          obtain ⟨y, hy⟩ : ∃ y, x.ys[j]? = some y := ⟨x.ys[j]'hlj, List.getElem?_eq_getElem _⟩
                          have hym := List.mem_of_getElem? hy
                          obtain ⟨b2, off2, hva, hb2b, hcs2⟩ := hys.at (j := j) (u := intC y) (by rw [List.getElem?_map, hy]; rfl)
                          cases hva
                          unfold intC at hcs2
                          have hne := flat_next intB hy
                          have htk := flat_take intB x.ys (j + 1)
                          rw [hne, List.length_append] at htk
                          obtain ⟨bw, hbw_⟩ : ∃ bw, bw = u3 := ⟨_, rfl⟩
                          obtain ⟨cc, hcc⟩ : ∃ c, z4 ++ (x.ys.take j).flatMap intB = c := ⟨_, rfl⟩
                          have hccl : cc.length + (intB y).length ≤ 20000000 := by rw [← hcc, List.length_append]; omega
                          have hfin2 : z4 ++ (x.ys.take (j + 1)).flatMap intB = cc ++ intB y := by rw [hne, ← hcc, List.append_assoc]
                          rw [hcc, ← hbw_] at ho
                          rw [← hbw_]
                          clear hbw_
                          have hB4 : w.heap.size ≤ wr.heap.size := Nat.le_trans hB3 hg.1.size
                          have hC := rwhole_any wr bw cc y (ownsRow.reads ho) (HSi.out.2.1 y hym) (by omega)
                          rw [show cc ++ enc (zig y) = z4 ++ (x.ys.take (j + 1)).flatMap intB from hfin2.symm] at hC
                          have HC := Lib.hid hC
                          have HG := Lib.hid hg
                          clear ho hg hfin2 hne htk hy hcc hC hys
                          go_wp2_with (go_at_call 50; go_must (refine HC.out.mono ?_))
                          rintro e w6 ⟨v7, rfl, f7, b7⟩
                          have HOy := Lib.hid (owns_less f7 hB4)
                          have HGy := Lib.hid (HG.out.trans (GrowR.of_below b7 hB4))
                          clear f7 b7 HC HG hcs2
                          go_wp2
                          exact ⟨⟨j + 1, by go_num, by omega, HOy.out, HGy.out⟩, by simp [intOf]; omega⟩
                        · obtain rfl : x.ys.length = j := by omega
                          have hljI : ¬ ((x.ys.length : Nat) : Int) < (x.ys.length : Nat) := by omega
                          rw [List.take_of_length_le (Nat.le_refl _), Hz5.out, ← Hst.out, ← HFn.out] at ho
                          have HOy := Lib.hid ho
                          have HGy := Lib.hid (HGz.out.trans hg)
                          clear ho hg hys
                          go_wp2
                          exact ⟨⟨i + 1, by go_num, by omega, HOy.out, HGy.out⟩, by simp [intOf]; omega⟩
                    · obtain rfl : p.steps.length = i := by omega
                      have hltI : ¬ ((p.steps.length : Nat) : Int) < (p.steps.length : Nat) := by omega
                      rw [List.take_of_length_le (Nat.le_refl _), Hp14.out] at ho
                      have HO := Lib.hid ho
                      have HX := Lib.hid (hg.2 _ _ _ _ HX.out (by decide))
                      have HB := Lib.hid (HB.out.trans hg.1)
                      clear ho hg hcn
                      have k9 := Lib.cell_of_heap HX.out 9
                      have k10 := Lib.cell_of_heap HX.out 10
                      have k11 := Lib.cell_of_heap HX.out 11
                      have k12 := Lib.cell_of_heap HX.out 12
                      have k13 := Lib.cell_of_heap HX.out 13
                      have k14 := Lib.cell_of_heap HX.out 14
                      simp at k9 k10 k11 k12 k13 k14
                      have hgx := (Array.getElem?_eq_some_iff.1 HX.out).1
                      have hRn := HRf.out wr HB.out
                      have hC := refnode_ok (Tr.mk p.th p.tps).depth p.th p.tps (Nat.le_refl _) HIn.out.tree wr u3 q14 a cap sa sc (ownsRow.reads HO.out) hRn.capLe hRn.capMax (TrsAt.mono (fun _ h _ => h) (noHd_mono (fun _ h _ => h)) _ hRn.tree) (hRn.subs.mono (fun _ h _ => h)) (by have h1 := HZ15.out; have h2 := HQ15.out; omega)
                      rw [Hp15.out] at hC
                      have HC := Lib.hid hC
                      clear hC hRn
                      go_wp2_with (go_at_call 59; go_must (refine HC.out.mono ?_))
                      rintro e w20 ⟨v20, rfl, o4, b4⟩
                      have HO := Lib.hid (owns_less o4 HB.out.size)
                      have HB := Lib.hid (HB.out.trans (b4.mono HB.out.size))
                      clear o4 b4 HC hgx k9 k10 k11 k12 k13 k14
                      go_wp2
                      go_ret
                      exact ⟨_, rfl, HO.out, HB.out⟩
end Go.Proofs.YtdonibkkdhokpaaGreat
