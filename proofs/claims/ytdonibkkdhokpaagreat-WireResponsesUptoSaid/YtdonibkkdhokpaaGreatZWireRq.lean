/- sentryref37.Request (written by gen_wirerq.py). -/
import Derived.Test.YtdonibkkdhokpaaGreatZWireK
import Derived.Test.YtdonibkkdhokpaaGreatZWirePut
namespace Go.Proofs.YtdonibkkdhokpaaGreat
open Go Go.RowKit

theorem twoF_mark {B : Nat} {x y : Value} : ∀ v w w', (twoF B x y).p v w → MarkR B w w' → (twoF B x y).p v w' := by
  intro v w w' ⟨b, fr, h1, h2, h3, h4⟩ hm
  rcases hm.block b with h | ⟨_, x', y', fr', h, _, h5⟩
  · exact ⟨b, fr, h1, h2, h.trans h3, h4⟩
  · rw [h3] at h
    injection h with h
    injection h with ha _ _
    injection ha with ha
    injection ha with hx ha
    injection ha with hy _
    subst hx
    subst hy
    exact ⟨b, (2, 3), h1, h2, h5, .inr rfl⟩

theorem y_two {P : Program} {ρ : Operand → Value} {o : Oper} {w : World} {B : Nat} {x y : Value} (hB : B ≤ w.heap.size) (h : (execOp ρ o).run P w = .ok (.value (.slice (some ⟨w.heap.size, 0, none⟩) 2 2)) (w.alloc (.cells #[x, y] 5))) : YieldsP P ρ o w (fun u w' => (twoF B x y).p u w' ∧ Below w.heap.size w w') := by
  unfold YieldsP
  rw [h]
  exact ⟨⟨w.heap.size, (0, 0), rfl, hB, heap_alloc_new w _, .inl rfl⟩, (Below.refl _ _).alloc (Nat.le_refl _) _⟩

theorem two_reads {w : World} {b : Nat} {fr : Nat × Nat} (h : w.heap[b]? = some (.cells #[.int .u8 113, .int .u8 49] 5 fr)) : Reads w 1 (.slice (some ⟨b, 0, none⟩) 2 2) ([113, 49] : List UInt8).length (bcells [113, 49]) := by
  refine ⟨rfl, _, 2, rfl, Nat.le_refl _, by unfold maxLen; decide, fun j u hj => ⟨b, 0, rfl, (Array.getElem?_eq_some_iff.1 h).1, ?_⟩⟩
  rw [Nat.zero_add, Lib.cell_of_heap h j]
  simpa [bcells] using hj

def RqRel {α : Type} (f : α → List UInt8) (B : Nat) (wA : World) (p : List UInt8) (xs : List α) (bv iv : Value) (wr : World) : Prop :=
  ∃ i : Nat, iv = .int .i64 (i : Int) ∧ i ≤ xs.length ∧ wr.ownsRow B 5 1 bv (p ++ (xs.take i).flatMap f).length (bcells (p ++ (xs.take i).flatMap f)) ∧ GrowR B wA wr

set_option maxRecDepth 100000 in
set_option maxHeartbeats 8000000 in
theorem refrequest_any (w : World) (q : Req) (a1 a2 a3 a4 : Option Addr) (n1 n2 n3 n4 q1 q2 q3 q4 : Nat) (hr1 : Reads w 7 (.slice a1 n1 q1) n1 (q.writes.flatMap Wri.cells)) (hr2 : Reads w 7 (.slice a2 n2 q2) n2 (q.pres.flatMap Wri.cells)) (hr3 : Reads w 6 (.slice a3 n3 q3) n3 (q.asks.flatMap T6.cells)) (hr4 : Reads w 4 (.slice a4 n4 q4) n4 (q.args.flatMap Arg4.cells))
    (hk1 : q.writes.length = n1) (hk2 : q.pres.length = n2) (hk3 : q.asks.length = n3) (hk4 : q.args.length = n4) (hin : ReqIn q) (hl : (reqB q).length ≤ 20000000) (hn : n1 ≤ 20000000 ∧ n2 ≤ 20000000 ∧ n3 ≤ 20000000 ∧ n4 ≤ 20000000) :
    Calls Tryz.prog 82 #[.agg #[.string q.client, .int .u64 (q.id : Int), .int .i64 q.kind, .int .i64 q.how, .string q.token, .int .u64 (q.n : Int), .string q.typ, .string q.f1, .string q.f2, .string q.f3, .slice a1 n1 q1, .slice a2 n2 q2, .slice a3 n3 q3, .slice a4 n4 q4]] w (GivesOwn w (reqB q)) := by
  obtain ⟨hq, hid, hnn, har⟩ := hin
  obtain ⟨hn1, hn2, hn3, hn4⟩ := hn
  obtain ⟨p0, hp0⟩ : ∃ p, p = [113, 49] ++ txts [q.client] := ⟨_, rfl⟩
  obtain ⟨p1, hp1⟩ : ∃ p, p = p0 ++ enc q.id := ⟨_, rfl⟩
  obtain ⟨p2, hp2⟩ : ∃ p, p = p1 ++ enc (zig q.kind) := ⟨_, rfl⟩
  obtain ⟨p3, hp3⟩ : ∃ p, p = p2 ++ enc (zig q.how) := ⟨_, rfl⟩
  obtain ⟨p4, hp4⟩ : ∃ p, p = p3 ++ txts [q.token] := ⟨_, rfl⟩
  obtain ⟨p5, hp5⟩ : ∃ p, p = p4 ++ enc q.n := ⟨_, rfl⟩
  obtain ⟨p6, hp6⟩ : ∃ p, p = p5 ++ txts [q.typ, q.f1, q.f2, q.f3] := ⟨_, rfl⟩
  obtain ⟨p7, hp7⟩ : ∃ p, p = p6 ++ enc n1 := ⟨_, rfl⟩
  obtain ⟨p8, hp8⟩ : ∃ p, p = p7 ++ q.writes.flatMap wriB := ⟨_, rfl⟩
  obtain ⟨p9, hp9⟩ : ∃ p, p = p8 ++ enc n2 := ⟨_, rfl⟩
  obtain ⟨p10, hp10⟩ : ∃ p, p = p9 ++ q.pres.flatMap wriB := ⟨_, rfl⟩
  obtain ⟨p11, hp11⟩ : ∃ p, p = p10 ++ enc n3 := ⟨_, rfl⟩
  obtain ⟨p12, hp12⟩ : ∃ p, p = p11 ++ q.asks.flatMap t6B := ⟨_, rfl⟩
  obtain ⟨p13, hp13⟩ : ∃ p, p = p12 ++ enc n4 := ⟨_, rfl⟩
  obtain ⟨p14, hp14⟩ : ∃ p, p = p13 ++ q.args.flatMap argB := ⟨_, rfl⟩
  have heq : reqB q = p14 := by
    rw [hp14, hp13, hp12, hp11, hp10, hp9, hp8, hp7, hp6, hp5, hp4, hp3, hp2, hp1, hp0]
    simp [reqB, txts, listB, hk1, hk2, hk3, hk4]
  rw [heq] at hl ⊢
  clear heq
  have hl14 := hl
  have hl13 : p13.length ≤ 20000000 := by rw [hp14, List.length_append] at hl14; omega
  have hl12 : p12.length ≤ 20000000 := by rw [hp13, List.length_append] at hl13; omega
  have hl11 : p11.length ≤ 20000000 := by rw [hp12, List.length_append] at hl12; omega
  have hl10 : p10.length ≤ 20000000 := by rw [hp11, List.length_append] at hl11; omega
  have hl9 : p9.length ≤ 20000000 := by rw [hp10, List.length_append] at hl10; omega
  have hl8 : p8.length ≤ 20000000 := by rw [hp9, List.length_append] at hl9; omega
  have hl7 : p7.length ≤ 20000000 := by rw [hp8, List.length_append] at hl8; omega
  have hl6 : p6.length ≤ 20000000 := by rw [hp7, List.length_append] at hl7; omega
  have hl5 : p5.length ≤ 20000000 := by rw [hp6, List.length_append] at hl6; omega
  have hl4 : p4.length ≤ 20000000 := by rw [hp5, List.length_append] at hl5; omega
  have hl3 : p3.length ≤ 20000000 := by rw [hp4, List.length_append] at hl4; omega
  have hl2 : p2.length ≤ 20000000 := by rw [hp3, List.length_append] at hl3; omega
  have hl1 : p1.length ≤ 20000000 := by rw [hp2, List.length_append] at hl2; omega
  have hl0 : p0.length ≤ 20000000 := by rw [hp1, List.length_append] at hl1; omega
  clear hl
  have Hp0 := Lib.hid hp0
  have Hp1 := Lib.hid hp1
  have Hp2 := Lib.hid hp2
  have Hp3 := Lib.hid hp3
  have Hp4 := Lib.hid hp4
  have Hp5 := Lib.hid hp5
  have Hp6 := Lib.hid hp6
  have Hp7 := Lib.hid hp7
  have Hp8 := Lib.hid hp8
  have Hp9 := Lib.hid hp9
  have Hp10 := Lib.hid hp10
  have Hp11 := Lib.hid hp11
  have Hp12 := Lib.hid hp12
  have Hp13 := Lib.hid hp13
  have Hp14 := Lib.hid hp14
  clear hp0 hp1 hp2 hp3 hp4 hp5 hp6 hp7 hp8 hp9 hp10 hp11 hp12 hp13 hp14
  have HR1 := Lib.hid hr1
  have HR2 := Lib.hid hr2
  have HR3 := Lib.hid hr3
  have HR4 := Lib.hid hr4
  have HK1 := Lib.hid hk1
  have HK2 := Lib.hid hk2
  have HK3 := Lib.hid hk3
  have HK4 := Lib.hid hk4
  have HAr := Lib.hid har
  have hb0 : Below w.heap.size w (w.alloc (.cells #[.string q.client, .int .u64 (q.id : Int), .int .i64 q.kind, .int .i64 q.how, .string q.token, .int .u64 (q.n : Int), .string q.typ, .string q.f1, .string q.f2, .string q.f3, .slice a1 n1 q1, .slice a2 n2 q2, .slice a3 n3 q3, .slice a4 n4 q4] 54)) := (Below.refl _ _).alloc (Nat.le_refl _) _
  have HX := Lib.hid (heap_alloc_new w (.cells #[.string q.client, .int .u64 (q.id : Int), .int .i64 q.kind, .int .i64 q.how, .string q.token, .int .u64 (q.n : Int), .string q.typ, .string q.f1, .string q.f2, .string q.f3, .slice a1 n1 q1, .slice a2 n2 q2, .slice a3 n3 q3, .slice a4 n4 q4] 54))
  have HB := Lib.hid hb0
  clear hr1 hr2 hr3 hr4 hk1 hk2 hk3 hk4 har hb0
  go_enter Tryz.func82, Tryz.ntmps82
  go_upto_region 1 with fail
  obtain ⟨gx, hgxe⟩ : ∃ gx, w.heap.size = gx := ⟨_, rfl⟩
  have HGe := Lib.hid hgxe
  rw [hgxe] at HX
  rw [hgxe]
  generalize w.alloc (.cells #[.string q.client, .int .u64 (q.id : Int), .int .i64 q.kind, .int .i64 q.how, .string q.token, .int .u64 (q.n : Int), .string q.typ, .string q.f1, .string q.f2, .string q.f3, .slice a1 n1 q1, .slice a2 n2 q2, .slice a3 n3 q3, .slice a4 n4 q4] 54) = W0 at *
  have hB0 : w.heap.size ≤ W0.heap.size := HB.out.size
  clear hgxe
  have k0 := Lib.cell_of_heap HX.out 0
  have k1 := Lib.cell_of_heap HX.out 1
  simp at k0 k1
  have hgx := (Array.getElem?_eq_some_iff.1 HX.out).1
  have hI0 : True := trivial
  have hIs : ∀ (w w' : World), True → Below w.heap.size w w' → True := fun _ _ _ _ => trivial
  have hR0 : Below W0.heap.size W0 W0.drew := (Below.refl _ _).drew
  have hRB : ∀ w w', Below W0.heap.size W0 w → Below w.heap.size w w' → Below W0.heap.size W0 w' := fun _ _ h k => h.trans (k.mono h.size)
  have hRT : ∀ w w', Below W0.heap.size W0 w → MarkR W0.heap.size w w' → Below W0.heap.size W0 w' := fun _ _ h k => h.trans k.below
  refine wp_region_take (RT := MarkR W0.heap.size) (RI := fun a b => Below a.heap.size a b) (by kernel_rfl) [(freeT (twoF W0.heap.size (.int .u8 113) (.int .u8 49)) twoF_mark), onT (twoF W0.heap.size (.int .u8 113) (.int .u8 49)), eqT (.pointer (some ⟨gx, 0, none⟩)), eqT (.string q.client), (freeT (litF 9 #[.string q.client] 1) litF_mark), onT (ownsF w.heap.size 5 1 p0.length (bcells p0)), eqT (.pointer (some ⟨gx, 1, none⟩)), eqT (.int .u64 (q.id : Int)), onT (ownsF w.heap.size 5 1 p1.length (bcells p1)), onT (ownsF w.heap.size 5 1 p1.length (bcells p1))] 1 (fun _ => True) (by kernel_rfl) (by kernel_rfl) (by kernel_rfl) hI0 hIs hR0 hRB hRT ⟨?_, ?_, ?_, ?_, ?_, ?_, ?_, ?_, ?_, ?_, trivial⟩ ?_
  · intro ρ wx hρ hri hI hl
    refine t_of ?_ (by decide)
    refine y_two (Nat.le_trans (Nat.le_refl _) hri.size) ?_
    simp [execOp, go_sem, hρ.const]
  · intro ρ wx hρ hri hI hl
    have e12 := hl 0 (by decide +kernel) 12 rfl
    obtain ⟨b, fr, h12, hbB, hb, hfr⟩ := e12
    have hcv := run_convert_mark (P := Tryz.prog) wx 39 5 _ _ b 2 2 fr hb Tryz.underlying39 Tryz.underlying5
    refine t_take (by decide) (v := .slice (some ⟨b, 0, none⟩) 2 2) (w' := wx.freeze ⟨b, 2, none⟩ 1) ?_ ⟨b, (2, 3), rfl, hbB, (freeze_mark wx _ _ b fr hb hfr hbB).1, .inr rfl⟩ (freeze_mark wx _ _ b fr hb hfr hbB).2
    simp [execOp, go_sem, h12, hcv]
  · intro ρ wx hρ hri hI hl
    have e1 : ρ (.tmp 1) = .pointer (some ⟨gx, 0, none⟩) := hρ.tmp 1 (by decide +kernel)
    refine t_of ?_ (by decide)
    refine y_val (v := .pointer (some ⟨gx, 0, none⟩)) ?_ rfl
    simp [execOp, go_sem, e1]
  · intro ρ wx hρ hri hI hl
    have e14 : ρ (.tmp 14) = .pointer (some ⟨gx, 0, none⟩) := hl 2 (by decide +kernel) 14 rfl
    refine t_of ?_ (by decide)
    have kk := (hri.cell hgx).trans k0
    refine y_val (v := .string q.client) ?_ rfl
    simp [execOp, go_sem, e14, kk]
  · intro ρ wx hρ hri hI hl
    have e15 : ρ (.tmp 15) = .string q.client := hl 3 (by decide +kernel) 15 rfl
    refine t_of ?_ (by decide)
    refine y_litF ?_
    simp [execOp, go_sem, e15]
  · intro ρ wx hρ hri hI hl
    have e13 := hl 1 (by decide +kernel) 13 rfl
    have e16 := hl 4 (by decide +kernel) 16 rfl
    refine t_of ?_ (by decide)
    obtain ⟨b, fr, h12, hbB, hb, hfr⟩ := e13
    obtain ⟨g16, h16, hg16⟩ := e16
    refine y_call (f := 52) (args := #[.slice (some ⟨b, 0, none⟩) 2 2, .slice (some ⟨g16, 0, none⟩) 1 1]) (by simp [execOp, resolve, invoke, hρ.func, go_sem, h12, h16]) ?_
    refine (rtexts_any wx _ [113, 49] g16 1 [q.client] (two_reads hb) hg16 rfl (by decide) (by decide) (by rw [Hp0.out, List.length_append] at hl0; exact Nat.le_trans hl0 (by decide))).mono ?_
    rintro e w6 ⟨v7, rfl, f7, b7⟩
    rw [← Hp0.out] at f7
    exact ⟨v7, rfl, owns_less f7 (Nat.le_trans hB0 hri.size), b7⟩
  · intro ρ wx hρ hri hI hl
    have e1 : ρ (.tmp 1) = .pointer (some ⟨gx, 0, none⟩) := hρ.tmp 1 (by decide +kernel)
    refine t_of ?_ (by decide)
    refine y_val (v := .pointer (some ⟨gx, 1, none⟩)) ?_ rfl
    simp [execOp, go_sem, e1]
  · intro ρ wx hρ hri hI hl
    have e18 : ρ (.tmp 18) = .pointer (some ⟨gx, 1, none⟩) := hl 6 (by decide +kernel) 18 rfl
    refine t_of ?_ (by decide)
    have kk := (hri.cell (p := ⟨gx, 1, none⟩) hgx).trans k1
    refine y_val (v := .int .u64 (q.id : Int)) ?_ rfl
    simp [execOp, go_sem, e18, kk]
  · intro ρ wx hρ hri hI hl
    have e17 := hl 5 (by decide +kernel) 17 rfl
    have e19 : ρ (.tmp 19) = .int .u64 (q.id : Int) := hl 7 (by decide +kernel) 19 rfl
    refine t_of ?_ (by decide)
    refine y_call (f := 51) (args := #[ρ (.tmp 17), .int .u64 (q.id : Int)]) (by simp [execOp, resolve, invoke, hρ.func, go_sem, e19]) ?_
    refine (refputo_any wx _ p0 q.id (ownsRow.reads e17) (by omega) hid).mono ?_
    rintro e w6 ⟨v7, rfl, f7, b7⟩
    rw [← Hp1.out] at f7
    exact ⟨v7, rfl, owns_less f7 (Nat.le_trans hB0 hri.size), b7⟩
  · intro ρ wx hρ hri hI hl
    have e20 := hl 8 (by decide +kernel) 20 rfl
    refine t_of ?_ (by decide)
    refine y_val (v := ρ (.tmp 20)) ?_ e20
    simp [execOp, go_sem]
  intro aa w1 hdef hsz hlk hri hf
  have ha := act_of_like hdef hsz hlk [12, 13, 14, 15, 16, 17, 18, 19, 20, 3] 142 rfl (by decide +kernel)
  have e14 : aa.tmps.getD 14 undef = .pointer (some ⟨gx, 0, none⟩) := hf 2 _ 14 rfl rfl
  have e15 : aa.tmps.getD 15 undef = .string q.client := hf 3 _ 15 rfl rfl
  have e18 : aa.tmps.getD 18 undef = .pointer (some ⟨gx, 1, none⟩) := hf 6 _ 18 rfl rfl
  have e19 : aa.tmps.getD 19 undef = .int .u64 (q.id : Int) := hf 7 _ 19 rfl rfl
  have e3 : (ownsF w.heap.size 5 1 p1.length (bcells p1)).1 (aa.tmps.getD 3 undef) w1 := hf 9 _ 3 rfl rfl
  generalize hv3 : aa.tmps.getD 3 undef = v3 at e3
  simp only [putAll, List.foldl_cons, List.foldl_nil, e14, e15, e18, e19, hv3] at ha
  generalize aa.tmps.getD 12 undef = v12 at ha
  generalize aa.tmps.getD 13 undef = v13 at ha
  generalize aa.tmps.getD 16 undef = v16 at ha
  generalize aa.tmps.getD 17 undef = v17 at ha
  generalize aa.tmps.getD 20 undef = v20 at ha
  simp [Act.put] at ha
  subst ha
  clear hdef hsz hlk hf e14 e15 e18 e19 hv3
  have HO := Lib.hid e3
  have HX := Lib.hid ((hri.block gx hgx).trans HX.out)
  have HB := Lib.hid (HB.out.trans (hri.mono HB.out.size))
  clear e3 hri k0 k1 hI0 hIs hR0 hRB hRT hgx hB0
  go_upto_region 2 with fail
  have k2 := Lib.cell_of_heap HX.out 2
  have k3 := Lib.cell_of_heap HX.out 3
  simp at k2 k3
  have hgx := (Array.getElem?_eq_some_iff.1 HX.out).1
  refine wp_region_last (l := [_, _, _, _, _, _, _]) (by kernel_rfl) [eqF (v3), eqF (.pointer (some ⟨gx, 2, none⟩)), eqF (.int .i64 q.kind), ownsF w.heap.size 5 1 p2.length (bcells p2), eqF (.pointer (some ⟨gx, 3, none⟩)), eqF (.int .i64 q.how), ownsF w.heap.size 5 1 p3.length (bcells p3)] (by kernel_rfl) (by kernel_rfl) (by kernel_rfl) ⟨?_, ?_, ?_, ?_, ?_, ?_, ?_, trivial⟩ ?_
  · intro ρ wx hρ hbx hl
    have e3 : ρ (.tmp 3) = v3 := hρ.tmp 3 (by decide +kernel)
    refine y_val (v := v3) ?_ rfl
    simp [execOp, go_sem, e3]
  · intro ρ wx hρ hbx hl
    have e1 : ρ (.tmp 1) = .pointer (some ⟨gx, 0, none⟩) := hρ.tmp 1 (by decide +kernel)
    refine y_val (v := .pointer (some ⟨gx, 2, none⟩)) ?_ rfl
    simp [execOp, go_sem, e1]
  · intro ρ wx hρ hbx hl
    have e22 : ρ (.tmp 22) = .pointer (some ⟨gx, 2, none⟩) := hl 1 (by decide +kernel) 22 rfl
    have kk := (hbx.cell (hgx)).trans k2
    refine y_val (v := .int .i64 q.kind) ?_ rfl
    simp [execOp, go_sem, e22, kk]
  · intro ρ wx hρ hbx hl
    have e21 : ρ (.tmp 21) = v3 := hl 0 (by decide +kernel) 21 rfl
    have e23 : ρ (.tmp 23) = .int .i64 q.kind := hl 2 (by decide +kernel) 23 rfl
    refine y_call (f := 50) (args := #[v3, .int .i64 q.kind]) (by simp [execOp, resolve, invoke, hρ.func, go_sem, e21, e23]) ?_
    refine (rwhole_any wx v3 p1 q.kind ((ownsRow.reads HO.out).below' hbx) hq.1 (by omega)).mono ?_
    rintro e w6 ⟨v7, rfl, f7, b7⟩
    rw [← Hp2.out] at f7
    exact ⟨v7, rfl, owns_less f7 (Nat.le_trans HB.out.size hbx.size), b7⟩
  · intro ρ wx hρ hbx hl
    have e1 : ρ (.tmp 1) = .pointer (some ⟨gx, 0, none⟩) := hρ.tmp 1 (by decide +kernel)
    refine y_val (v := .pointer (some ⟨gx, 3, none⟩)) ?_ rfl
    simp [execOp, go_sem, e1]
  · intro ρ wx hρ hbx hl
    have e25 : ρ (.tmp 25) = .pointer (some ⟨gx, 3, none⟩) := hl 4 (by decide +kernel) 25 rfl
    have kk := (hbx.cell (hgx)).trans k3
    refine y_val (v := .int .i64 q.how) ?_ rfl
    simp [execOp, go_sem, e25, kk]
  · intro ρ wx hρ hbx hl
    have e24 := hl 3 (by decide +kernel) 24 rfl
    have e26 : ρ (.tmp 26) = .int .i64 q.how := hl 5 (by decide +kernel) 26 rfl
    refine y_call (f := 50) (args := #[ρ (.tmp 24), .int .i64 q.how]) (by simp [execOp, resolve, invoke, hρ.func, go_sem, e26]) ?_
    refine (rwhole_any wx _ p2 q.how (ownsRow.reads e24) hq.2 (by omega)).mono ?_
    rintro e w6 ⟨v7, rfl, f7, b7⟩
    rw [← Hp3.out] at f7
    exact ⟨v7, rfl, owns_less f7 (Nat.le_trans HB.out.size hbx.size), b7⟩
  intro aa w2 hdef hsz hlk hbz hf
  have ha := act_of_like hdef hsz hlk [21, 22, 23, 24, 25, 26, 27] 142 rfl (by decide +kernel)
  have e21 : aa.tmps.getD 21 undef = v3 := hf 0 _ 21 rfl rfl
  have e22 : aa.tmps.getD 22 undef = .pointer (some ⟨gx, 2, none⟩) := hf 1 _ 22 rfl rfl
  have e23 : aa.tmps.getD 23 undef = .int .i64 q.kind := hf 2 _ 23 rfl rfl
  have e25 : aa.tmps.getD 25 undef = .pointer (some ⟨gx, 3, none⟩) := hf 4 _ 25 rfl rfl
  have e26 : aa.tmps.getD 26 undef = .int .i64 q.how := hf 5 _ 26 rfl rfl
  have e27 : (ownsF w.heap.size 5 1 p3.length (bcells p3)).1 (aa.tmps.getD 27 undef) w2 := hf 6 _ 27 rfl rfl
  generalize hv27 : aa.tmps.getD 27 undef = v27 at e27
  simp only [putAll, List.foldl_cons, List.foldl_nil, e21, e22, e23, e25, e26, hv27] at ha
  generalize aa.tmps.getD 24 undef = v24 at ha
  simp [Act.put] at ha
  subst ha
  clear hdef hsz hlk hf e21 e22 e23 e25 e26 hv27
  have HO := Lib.hid e27
  have HX := Lib.hid ((hbz.block gx hgx).trans HX.out)
  have HB := Lib.hid (HB.out.trans (hbz.mono HB.out.size))
  clear e27 hbz k2 k3 hgx
  go_upto_region 3 with fail
  have k4 := Lib.cell_of_heap HX.out 4
  have k5 := Lib.cell_of_heap HX.out 5
  simp at k4 k5
  have hgx := (Array.getElem?_eq_some_iff.1 HX.out).1
  refine wp_region_last (l := [_, _, _, _, _, _, _, _]) (by kernel_rfl) [eqF (v27), eqF (.pointer (some ⟨gx, 4, none⟩)), eqF (.string q.token), litF 9 #[.string q.token] 1, ownsF w.heap.size 5 1 p4.length (bcells p4), eqF (.pointer (some ⟨gx, 5, none⟩)), eqF (.int .u64 (q.n : Int)), ownsF w.heap.size 5 1 p5.length (bcells p5)] (by kernel_rfl) (by kernel_rfl) (by kernel_rfl) ⟨?_, ?_, ?_, ?_, ?_, ?_, ?_, ?_, trivial⟩ ?_
  · intro ρ wx hρ hbx hl
    have e3 : ρ (.tmp 3) = v27 := hρ.tmp 3 (by decide +kernel)
    refine y_val (v := v27) ?_ rfl
    simp [execOp, go_sem, e3]
  · intro ρ wx hρ hbx hl
    have e1 : ρ (.tmp 1) = .pointer (some ⟨gx, 0, none⟩) := hρ.tmp 1 (by decide +kernel)
    refine y_val (v := .pointer (some ⟨gx, 4, none⟩)) ?_ rfl
    simp [execOp, go_sem, e1]
  · intro ρ wx hρ hbx hl
    have e29 : ρ (.tmp 29) = .pointer (some ⟨gx, 4, none⟩) := hl 1 (by decide +kernel) 29 rfl
    have kk := (hbx.cell (hgx)).trans k4
    refine y_val (v := .string q.token) ?_ rfl
    simp [execOp, go_sem, e29, kk]
  · intro ρ wx hρ hbx hl
    have e30 : ρ (.tmp 30) = .string q.token := hl 2 (by decide +kernel) 30 rfl
    refine y_litF ?_
    simp [execOp, go_sem, e30]
  · intro ρ wx hρ hbx hl
    have e28 : ρ (.tmp 28) = v27 := hl 0 (by decide +kernel) 28 rfl
    have e31 := hl 3 (by decide +kernel) 31 rfl
    obtain ⟨g31, h31, hg31⟩ := e31
    refine y_call (f := 52) (args := #[v27, .slice (some ⟨g31, 0, none⟩) 1 1]) (by simp [execOp, resolve, invoke, hρ.func, go_sem, e28, h31]) ?_
    refine (rtexts_any wx v27 p3 g31 1 [q.token] ((ownsRow.reads HO.out).below' hbx) hg31 rfl (by decide) (by decide) (by rw [Hp4.out, List.length_append] at hl4; exact Nat.le_trans hl4 (by decide))).mono ?_
    rintro e w6 ⟨v7, rfl, f7, b7⟩
    rw [← Hp4.out] at f7
    exact ⟨v7, rfl, owns_less f7 (Nat.le_trans HB.out.size hbx.size), b7⟩
  · intro ρ wx hρ hbx hl
    have e1 : ρ (.tmp 1) = .pointer (some ⟨gx, 0, none⟩) := hρ.tmp 1 (by decide +kernel)
    refine y_val (v := .pointer (some ⟨gx, 5, none⟩)) ?_ rfl
    simp [execOp, go_sem, e1]
  · intro ρ wx hρ hbx hl
    have e33 : ρ (.tmp 33) = .pointer (some ⟨gx, 5, none⟩) := hl 5 (by decide +kernel) 33 rfl
    have kk := (hbx.cell (hgx)).trans k5
    refine y_val (v := .int .u64 (q.n : Int)) ?_ rfl
    simp [execOp, go_sem, e33, kk]
  · intro ρ wx hρ hbx hl
    have e32 := hl 4 (by decide +kernel) 32 rfl
    have e34 : ρ (.tmp 34) = .int .u64 (q.n : Int) := hl 6 (by decide +kernel) 34 rfl
    refine y_call (f := 51) (args := #[ρ (.tmp 32), .int .u64 (q.n : Int)]) (by simp [execOp, resolve, invoke, hρ.func, go_sem, e34]) ?_
    refine (refputo_any wx _ p4 q.n (ownsRow.reads e32) (by omega) hnn).mono ?_
    rintro e w6 ⟨v7, rfl, f7, b7⟩
    rw [← Hp5.out] at f7
    exact ⟨v7, rfl, owns_less f7 (Nat.le_trans HB.out.size hbx.size), b7⟩
  intro aa w3 hdef hsz hlk hbz hf
  have ha := act_of_like hdef hsz hlk [28, 29, 30, 31, 32, 33, 34, 35] 142 rfl (by decide +kernel)
  have e28 : aa.tmps.getD 28 undef = v27 := hf 0 _ 28 rfl rfl
  have e29 : aa.tmps.getD 29 undef = .pointer (some ⟨gx, 4, none⟩) := hf 1 _ 29 rfl rfl
  have e30 : aa.tmps.getD 30 undef = .string q.token := hf 2 _ 30 rfl rfl
  have e33 : aa.tmps.getD 33 undef = .pointer (some ⟨gx, 5, none⟩) := hf 5 _ 33 rfl rfl
  have e34 : aa.tmps.getD 34 undef = .int .u64 (q.n : Int) := hf 6 _ 34 rfl rfl
  have e35 : (ownsF w.heap.size 5 1 p5.length (bcells p5)).1 (aa.tmps.getD 35 undef) w3 := hf 7 _ 35 rfl rfl
  generalize hv35 : aa.tmps.getD 35 undef = v35 at e35
  simp only [putAll, List.foldl_cons, List.foldl_nil, e28, e29, e30, e33, e34, hv35] at ha
  generalize aa.tmps.getD 31 undef = v31 at ha
  generalize aa.tmps.getD 32 undef = v32 at ha
  simp [Act.put] at ha
  subst ha
  clear hdef hsz hlk hf e28 e29 e30 e33 e34 hv35
  have HO := Lib.hid e35
  have HX := Lib.hid ((hbz.block gx hgx).trans HX.out)
  have HB := Lib.hid (HB.out.trans (hbz.mono HB.out.size))
  clear e35 hbz k4 k5 hgx
  go_upto_region 4 with fail
  have k6 := Lib.cell_of_heap HX.out 6
  have k7 := Lib.cell_of_heap HX.out 7
  have k8 := Lib.cell_of_heap HX.out 8
  have k9 := Lib.cell_of_heap HX.out 9
  simp at k6 k7 k8 k9
  have hgx := (Array.getElem?_eq_some_iff.1 HX.out).1
  have hla : Below w3.heap.size w3 (w3.alloc (.cells #[.string q.typ, .string q.f1, .string q.f2, .string q.f3] 9)) := (Below.refl _ _).alloc (Nat.le_refl _) _
  have hC := rtexts_any (w3.alloc (.cells #[.string q.typ, .string q.f1, .string q.f2, .string q.f3] 9)) v35 p5 w3.heap.size 4 [q.typ, q.f1, q.f2, q.f3] ((ownsRow.reads HO.out).below' hla) (heap_alloc_new _ _) rfl (by decide) (by decide) (by rw [Hp6.out, List.length_append] at hl6; exact Nat.le_trans hl6 (by decide))
  rw [← Hp6.out] at hC
  have HC := Lib.hid hC
  have HLa := Lib.hid hla
  clear hC hla
  go_wp2_with (go_at_call 52; go_must (refine HC.out.mono ?_))
  rintro e w4 ⟨v4, rfl, o4, b4⟩
  have HX := Lib.hid ((b4.block gx (Nat.lt_of_lt_of_le hgx HLa.out.size)).trans ((HLa.out.block gx hgx).trans HX.out))
  have HO := Lib.hid (owns_less o4 (Nat.le_trans HB.out.size HLa.out.size))
  have HB := Lib.hid ((HB.out.trans (HLa.out.mono HB.out.size)).trans (b4.mono (Nat.le_trans HB.out.size HLa.out.size)))
  clear o4 b4 HC HLa k6 k7 k8 k9 hgx
  have k10 := Lib.cell_of_heap HX.out 10
  simp at k10
  have hgx := (Array.getElem?_eq_some_iff.1 HX.out).1
  have hC := rmany_any w4 v4 p6 n1 (ownsRow.reads HO.out) (by omega) (by omega)
  rw [← Hp7.out] at hC
  have HC := Lib.hid hC
  clear hC
  go_wp2_with (go_at_call 53; go_must (refine HC.out.mono ?_))
  rintro e w5 ⟨v5, rfl, o4, b4⟩
  have HX := Lib.hid ((b4.block gx hgx).trans HX.out)
  have HO := Lib.hid (owns_less o4 HB.out.size)
  have HB := Lib.hid (HB.out.trans (b4.mono HB.out.size))
  clear o4 b4 HC hgx
  have k10 := Lib.cell_of_heap HX.out 10
  simp at k10
  have hgx := (Array.getElem?_eq_some_iff.1 HX.out).1
  have hcn1 : n1 ≤ q1 := by
    obtain ⟨_, _, hv, h1, _⟩ := HR1.out.le
    cases hv
    exact h1
  go_wp2_with fail
  go_loopw [3, 58] (fun bv iv wr => RqRel wriB w.heap.size w5 p7 q.writes bv iv wr) (fun _ iv _ => n1 - (intOf iv).toNat)
  case atStart => exact ⟨0, rfl, Nat.zero_le _, by simpa using HO.out, GrowR.refl _ _⟩
  case round =>
    obtain ⟨i, rfl, hin, ho, hg⟩ := hrel
    rw [HK1.out] at hin
    by_cases hlt : i < n1
    · have hltI : (i : Int) < n1 := by omega
      obtain ⟨x, hx⟩ : ∃ x, q.writes[i]? = some x := ⟨q.writes[i]'(by rw [HK1.out]; exact hlt), List.getElem?_eq_getElem _⟩
      obtain ⟨b, off, rfl, hb2, hcs⟩ := rows_at Wri.cells 7 (fun _ => rfl) (HR1.out.below' (HB.out.trans hg.1)) hx (by decide)
      have k0 := hcs 0 _ rfl
      have k1 := hcs 1 _ rfl
      have k2 := hcs 2 _ rfl
      have k3 := hcs 3 _ rfl
      have k4 := hcs 4 _ rfl
      have k5 := hcs 5 _ rfl
      have k6 := hcs 6 _ rfl
      simp only [Nat.add_zero] at k0
      have hne := flat_next wriB hx
      have htk := flat_take wriB q.writes (i + 1)
      obtain ⟨bv, hbv⟩ : ∃ bv, bv = u3 := ⟨_, rfl⟩
      obtain ⟨c, hc⟩ : ∃ c, c = p7 ++ (q.writes.take i).flatMap wriB := ⟨_, rfl⟩
      rw [← hc, ← hbv] at ho
      rw [← hbv]
      clear hbv
      obtain ⟨c1, hc1⟩ : ∃ z, z = c ++ enc (bitN x.is) := ⟨_, rfl⟩
      obtain ⟨c2, hc2⟩ : ∃ z, z = c1 ++ t6B x.t := ⟨_, rfl⟩
      have hfin : p7 ++ (q.writes.take (i + 1)).flatMap wriB = c2 := by
        rw [hne, hc2, hc1, hc]
        simp [wriB]
      have hzl : c2.length ≤ 20000000 := by
        have h1 := hl8
        rw [Hp8.out, List.length_append] at h1
        rw [← hfin, List.length_append]
        omega
      have hc2l := hzl
      have hc1l : c1.length ≤ 20000000 := by rw [hc2, List.length_append] at hc2l; omega
      have hcl : c.length ≤ 20000000 := by rw [hc1, List.length_append] at hc1l; omega
      have Hc1 := Lib.hid hc1
      have Hc2 := Lib.hid hc2
      have hwB : w.heap.size ≤ wr.heap.size := Nat.le_trans HB.out.size hg.1.size
      have hba : Below wr.heap.size wr (wr.alloc (.cells #[.bool x.is, .string x.t.a, .string x.t.b, .string x.t.c, .string x.t.d, .string x.t.e, .string x.t.f] 65)) := (Below.refl _ _).alloc (Nat.le_refl _) _
      have HBx := Lib.hid (show (wr.alloc (.cells #[.bool x.is, .string x.t.a, .string x.t.b, .string x.t.c, .string x.t.d, .string x.t.e, .string x.t.f] 65)).heap[wr.heap.size]? = some (.cells #[.bool x.is, .string x.t.a, .string x.t.b, .string x.t.c, .string x.t.d, .string x.t.e, .string x.t.f] 65 (0, 0)) from heap_alloc_new _ _)
      have HG2 := Lib.hid (hg.trans (GrowR.of_below hba hwB))
      have HO2 := Lib.hid (owns_below ho hba)
      have hB2 : w.heap.size ≤ (wr.alloc (.cells #[.bool x.is, .string x.t.a, .string x.t.b, .string x.t.c, .string x.t.d, .string x.t.e, .string x.t.f] 65)).heap.size := Nat.le_trans hwB hba.size
      have HFn := Lib.hid hfin
      clear ho hg hba hfin hne htk hx hc hcs HO hc1 hc2
      go_upto_region 9 with fail
      obtain ⟨gc, hgce⟩ : ∃ gc, wr.heap.size = gc := ⟨_, rfl⟩
      have HGc := Lib.hid hgce
      rw [hgce] at HBx
      rw [hgce]
      generalize (wr.alloc (.cells #[.bool x.is, .string x.t.a, .string x.t.b, .string x.t.c, .string x.t.d, .string x.t.e, .string x.t.f] 65)) = w2_ at *
      clear hgce k0 k1 k2 k3 k4 k5 k6
      have hI0 : w2_.drew.ownsRow w.heap.size 5 1 bv c.length (bcells c) := HO2.out
      have hIs : ∀ (W W' : World), W.ownsRow w.heap.size 5 1 bv c.length (bcells c) → Below W.heap.size W W' → W'.ownsRow w.heap.size 5 1 bv c.length (bcells c) := fun _ _ h hb => owns_below h hb
      have hR0 : GrowR w.heap.size w2_ w2_.drew := GrowR.drew _ _
      have hRB : ∀ W W', GrowR w.heap.size w2_ W → Below W.heap.size W W' → GrowR w.heap.size w2_ W' := fun _ _ h k => h.bel k hB2
      have hRT : ∀ W W', GrowR w.heap.size w2_ W → GrowR w.heap.size W W' → GrowR w.heap.size w2_ W' := fun _ _ h k => h.trans k
      refine wp_region_takelast (l := [_, _, _, _, _, _, _]) (RT := GrowR w.heap.size) (RI := GrowR w.heap.size) (by kernel_rfl) [eqT (bv), eqT (.pointer (some ⟨gc, 0, none⟩)), eqT (.bool x.is), onT (ownsF w.heap.size 5 1 c1.length (bcells c1)), eqT (.pointer (some ⟨gc, 1, none⟩)), eqT (.agg #[.string x.t.a, .string x.t.b, .string x.t.c, .string x.t.d, .string x.t.e, .string x.t.f]), onT (ownsF w.heap.size 5 1 c2.length (bcells c2))] 3 (fun W => W.ownsRow w.heap.size 5 1 bv c.length (bcells c)) (by kernel_rfl) (by kernel_rfl) (by kernel_rfl) (by kernel_rfl) hI0 hIs hR0 hRB hRT ⟨?_, ?_, ?_, ?_, ?_, ?_, ?_, trivial⟩ ?_
      · intro ρ wx hρ hri hI hl
        have e3 : ρ (.tmp 3) = bv := hρ.tmp 3 (by decide +kernel)
        refine t_of ?_ (by decide)
        refine y_val (v := bv) ?_ rfl
        simp [execOp, go_sem, e3]
      · intro ρ wx hρ hri hI hl
        have e5 : ρ (.tmp 5) = .pointer (some ⟨gc, 0, none⟩) := hρ.tmp 5 (by decide +kernel)
        refine t_of ?_ (by decide)
        refine y_val (v := .pointer (some ⟨gc, 0, none⟩)) ?_ rfl
        simp [execOp, go_sem, e5]
      · intro ρ wx hρ hri hI hl
        have e63 : ρ (.tmp 63) = .pointer (some ⟨gc, 0, none⟩) := hl 1 (by decide +kernel) 63 rfl
        refine t_of ?_ (by decide)
        have kk := hri.cell HBx.out (by decide) 0 _ rfl
        refine y_val (v := .bool x.is) ?_ rfl
        simp [execOp, go_sem, e63, kk]
      · intro ρ wx hρ hri hI hl
        have e62 : ρ (.tmp 62) = bv := hl 0 (by decide +kernel) 62 rfl
        have e64 : ρ (.tmp 64) = .bool x.is := hl 2 (by decide +kernel) 64 rfl
        refine t_call (by decide) (f := 54) (args := #[bv, .bool x.is]) (by simp [execOp, resolve, invoke, hρ.func, go_sem, e62, e64]) ?_
        refine (rtruth_any wx w.heap.size bv c x.is (hI rfl) (Nat.le_trans hB2 hri.1.size) (by omega)).mono ?_
        rintro e w6 ⟨v7, rfl, f7, b7, kt7⟩
        rw [← Hc1.out] at f7
        exact ⟨v7, rfl, f7, b7, KeepT.of_keepW kt7⟩
      · intro ρ wx hρ hri hI hl
        have e5 : ρ (.tmp 5) = .pointer (some ⟨gc, 0, none⟩) := hρ.tmp 5 (by decide +kernel)
        refine t_of ?_ (by decide)
        refine y_val (v := .pointer (some ⟨gc, 1, none⟩)) ?_ rfl
        simp [execOp, go_sem, e5]
      · intro ρ wx hρ hri hI hl
        have e66 : ρ (.tmp 66) = .pointer (some ⟨gc, 1, none⟩) := hl 4 (by decide +kernel) 66 rfl
        refine t_of ?_ (by decide)
        have k1 := hri.cell HBx.out (by decide) 1 _ rfl
        have k2 := hri.cell HBx.out (by decide) 2 _ rfl
        have k3 := hri.cell HBx.out (by decide) 3 _ rfl
        have k4 := hri.cell HBx.out (by decide) 4 _ rfl
        have k5 := hri.cell HBx.out (by decide) 5 _ rfl
        have k6 := hri.cell HBx.out (by decide) 6 _ rfl
        refine y_val (v := .agg #[.string x.t.a, .string x.t.b, .string x.t.c, .string x.t.d, .string x.t.e, .string x.t.f]) ?_ rfl
        simp [execOp, go_sem, e66, k1, k2, k3, k4, k5, k6]
      · intro ρ wx hρ hri hI hl
        have e65 := hl 3 (by decide +kernel) 65 rfl
        have e67 : ρ (.tmp 67) = .agg #[.string x.t.a, .string x.t.b, .string x.t.c, .string x.t.d, .string x.t.e, .string x.t.f] := hl 5 (by decide +kernel) 67 rfl
        refine t_of ?_ (by decide)
        refine y_call (f := 55) (args := #[ρ (.tmp 65), .agg #[.string x.t.a, .string x.t.b, .string x.t.c, .string x.t.d, .string x.t.e, .string x.t.f]]) (by simp [execOp, resolve, invoke, hρ.func, go_sem, e67]) ?_
        refine (rtuple_any wx _ c1 x.t (ownsRow.reads e65) (by rw [Hc2.out, List.length_append] at hc2l; exact Nat.le_trans hc2l (by decide))).mono ?_
        rintro e w6 ⟨v7, rfl, f7, b7⟩
        rw [← Hc2.out] at f7
        exact ⟨v7, rfl, owns_less f7 (Nat.le_trans hB2 hri.1.size), b7⟩
      intro aa w3 hdef hsz hlk hri hf
      have ha := act_of_like hdef hsz hlk [62, 63, 64, 65, 66, 67, 68] 142 rfl (by decide +kernel)
      have e62 : aa.tmps.getD 62 undef = bv := hf 0 _ 62 rfl rfl
      have e63 : aa.tmps.getD 63 undef = .pointer (some ⟨gc, 0, none⟩) := hf 1 _ 63 rfl rfl
      have e64 : aa.tmps.getD 64 undef = .bool x.is := hf 2 _ 64 rfl rfl
      have e66 : aa.tmps.getD 66 undef = .pointer (some ⟨gc, 1, none⟩) := hf 4 _ 66 rfl rfl
      have e67 : aa.tmps.getD 67 undef = .agg #[.string x.t.a, .string x.t.b, .string x.t.c, .string x.t.d, .string x.t.e, .string x.t.f] := hf 5 _ 67 rfl rfl
      have e68 : (ownsF w.heap.size 5 1 c2.length (bcells c2)).1 (aa.tmps.getD 68 undef) w3 := hf 6 _ 68 rfl rfl
      generalize hv68 : aa.tmps.getD 68 undef = v68 at e68
      simp only [putAll, List.foldl_cons, List.foldl_nil, e62, e63, e64, e66, e67, hv68] at ha
      generalize aa.tmps.getD 65 undef = v65 at ha
      simp [Act.put] at ha
      subst ha
      clear hdef hsz hlk hf e62 e63 e64 e66 e67 hv68
      have HOz := Lib.hid e68
      have HGz := Lib.hid (HG2.out.trans hri)
      clear e68 hri hI0 hIs hR0 hRB hRT HBx HG2 HO2
      go_wp2
      exact ⟨⟨i + 1, by go_num, by rw [HK1.out]; omega, by rw [HFn.out]; exact HOz.out, HGz.out⟩, by simp [intOf]; omega⟩
    · obtain rfl : n1 = i := by omega
      have hltI : ¬ (n1 : Int) < n1 := by omega
      rw [List.take_of_length_le (by rw [HK1.out]; exact Nat.le_refl _), ← Hp8.out] at ho
      have HO := Lib.hid ho
      have HX := Lib.hid (hg.2 _ _ _ _ HX.out (by decide))
      have HB := Lib.hid (HB.out.trans hg.1)
      clear ho hg
      have k11 := Lib.cell_of_heap HX.out 11
      simp at k11
      have hgx := (Array.getElem?_eq_some_iff.1 HX.out).1
      have hC := rmany_any wr u3 p8 n2 (ownsRow.reads HO.out) (by omega) (by omega)
      rw [← Hp9.out] at hC
      have HC := Lib.hid hC
      clear hC
      go_wp2_with (go_at_call 53; go_must (refine HC.out.mono ?_))
      rintro e w7 ⟨v7, rfl, o4, b4⟩
      have HX := Lib.hid ((b4.block gx hgx).trans HX.out)
      have HO := Lib.hid (owns_less o4 HB.out.size)
      have HB := Lib.hid (HB.out.trans (b4.mono HB.out.size))
      clear o4 b4 HC hgx
      have k11 := Lib.cell_of_heap HX.out 11
      simp at k11
      have hgx := (Array.getElem?_eq_some_iff.1 HX.out).1
      have hcn2 : n2 ≤ q2 := by
        obtain ⟨_, _, hv, h1, _⟩ := HR2.out.le
        cases hv
        exact h1
      go_wp2_with fail
      go_loopw [3, 78] (fun bv iv wr => RqRel wriB w.heap.size w7 p9 q.pres bv iv wr) (fun _ iv _ => n2 - (intOf iv).toNat)
      case atStart => exact ⟨0, rfl, Nat.zero_le _, by simpa using HO.out, GrowR.refl _ _⟩
      case round =>
        obtain ⟨i, rfl, hin, ho, hg⟩ := hrel
        rw [HK2.out] at hin
        by_cases hlt : i < n2
        · have hltI : (i : Int) < n2 := by omega
          obtain ⟨x, hx⟩ : ∃ x, q.pres[i]? = some x := ⟨q.pres[i]'(by rw [HK2.out]; exact hlt), List.getElem?_eq_getElem _⟩
          obtain ⟨b, off, rfl, hb2, hcs⟩ := rows_at Wri.cells 7 (fun _ => rfl) (HR2.out.below' (HB.out.trans hg.1)) hx (by decide)
          have k0 := hcs 0 _ rfl
          have k1 := hcs 1 _ rfl
          have k2 := hcs 2 _ rfl
          have k3 := hcs 3 _ rfl
          have k4 := hcs 4 _ rfl
          have k5 := hcs 5 _ rfl
          have k6 := hcs 6 _ rfl
          simp only [Nat.add_zero] at k0
          have hne := flat_next wriB hx
          have htk := flat_take wriB q.pres (i + 1)
          obtain ⟨bv, hbv⟩ : ∃ bv, bv = u3 := ⟨_, rfl⟩
          obtain ⟨c, hc⟩ : ∃ c, c = p9 ++ (q.pres.take i).flatMap wriB := ⟨_, rfl⟩
          rw [← hc, ← hbv] at ho
          rw [← hbv]
          clear hbv
          obtain ⟨c1, hc1⟩ : ∃ z, z = c ++ enc (bitN x.is) := ⟨_, rfl⟩
          obtain ⟨c2, hc2⟩ : ∃ z, z = c1 ++ t6B x.t := ⟨_, rfl⟩
          have hfin : p9 ++ (q.pres.take (i + 1)).flatMap wriB = c2 := by
            rw [hne, hc2, hc1, hc]
            simp [wriB]
          have hzl : c2.length ≤ 20000000 := by
            have h1 := hl10
            rw [Hp10.out, List.length_append] at h1
            rw [← hfin, List.length_append]
            omega
          have hc2l := hzl
          have hc1l : c1.length ≤ 20000000 := by rw [hc2, List.length_append] at hc2l; omega
          have hcl : c.length ≤ 20000000 := by rw [hc1, List.length_append] at hc1l; omega
          have Hc1 := Lib.hid hc1
          have Hc2 := Lib.hid hc2
          have hwB : w.heap.size ≤ wr.heap.size := Nat.le_trans HB.out.size hg.1.size
          have hba : Below wr.heap.size wr (wr.alloc (.cells #[.bool x.is, .string x.t.a, .string x.t.b, .string x.t.c, .string x.t.d, .string x.t.e, .string x.t.f] 131)) := (Below.refl _ _).alloc (Nat.le_refl _) _
          have HBx := Lib.hid (show (wr.alloc (.cells #[.bool x.is, .string x.t.a, .string x.t.b, .string x.t.c, .string x.t.d, .string x.t.e, .string x.t.f] 131)).heap[wr.heap.size]? = some (.cells #[.bool x.is, .string x.t.a, .string x.t.b, .string x.t.c, .string x.t.d, .string x.t.e, .string x.t.f] 131 (0, 0)) from heap_alloc_new _ _)
          have HG2 := Lib.hid (hg.trans (GrowR.of_below hba hwB))
          have HO2 := Lib.hid (owns_below ho hba)
          have hB2 : w.heap.size ≤ (wr.alloc (.cells #[.bool x.is, .string x.t.a, .string x.t.b, .string x.t.c, .string x.t.d, .string x.t.e, .string x.t.f] 131)).heap.size := Nat.le_trans hwB hba.size
          have HFn := Lib.hid hfin
          clear ho hg hba hfin hne htk hx hc hcs HO hc1 hc2
          go_upto_region 15 with fail
          obtain ⟨gc, hgce⟩ : ∃ gc, wr.heap.size = gc := ⟨_, rfl⟩
          have HGc := Lib.hid hgce
          rw [hgce] at HBx
          rw [hgce]
          generalize (wr.alloc (.cells #[.bool x.is, .string x.t.a, .string x.t.b, .string x.t.c, .string x.t.d, .string x.t.e, .string x.t.f] 131)) = w2_ at *
          clear hgce k0 k1 k2 k3 k4 k5 k6
          have hI0 : w2_.drew.ownsRow w.heap.size 5 1 bv c.length (bcells c) := HO2.out
          have hIs : ∀ (W W' : World), W.ownsRow w.heap.size 5 1 bv c.length (bcells c) → Below W.heap.size W W' → W'.ownsRow w.heap.size 5 1 bv c.length (bcells c) := fun _ _ h hb => owns_below h hb
          have hR0 : GrowR w.heap.size w2_ w2_.drew := GrowR.drew _ _
          have hRB : ∀ W W', GrowR w.heap.size w2_ W → Below W.heap.size W W' → GrowR w.heap.size w2_ W' := fun _ _ h k => h.bel k hB2
          have hRT : ∀ W W', GrowR w.heap.size w2_ W → GrowR w.heap.size W W' → GrowR w.heap.size w2_ W' := fun _ _ h k => h.trans k
          refine wp_region_takelast (l := [_, _, _, _, _, _, _]) (RT := GrowR w.heap.size) (RI := GrowR w.heap.size) (by kernel_rfl) [eqT (bv), eqT (.pointer (some ⟨gc, 0, none⟩)), eqT (.bool x.is), onT (ownsF w.heap.size 5 1 c1.length (bcells c1)), eqT (.pointer (some ⟨gc, 1, none⟩)), eqT (.agg #[.string x.t.a, .string x.t.b, .string x.t.c, .string x.t.d, .string x.t.e, .string x.t.f]), onT (ownsF w.heap.size 5 1 c2.length (bcells c2))] 3 (fun W => W.ownsRow w.heap.size 5 1 bv c.length (bcells c)) (by kernel_rfl) (by kernel_rfl) (by kernel_rfl) (by kernel_rfl) hI0 hIs hR0 hRB hRT ⟨?_, ?_, ?_, ?_, ?_, ?_, ?_, trivial⟩ ?_
          · intro ρ wx hρ hri hI hl
            have e3 : ρ (.tmp 3) = bv := hρ.tmp 3 (by decide +kernel)
            refine t_of ?_ (by decide)
            refine y_val (v := bv) ?_ rfl
            simp [execOp, go_sem, e3]
          · intro ρ wx hρ hri hI hl
            have e7 : ρ (.tmp 7) = .pointer (some ⟨gc, 0, none⟩) := hρ.tmp 7 (by decide +kernel)
            refine t_of ?_ (by decide)
            refine y_val (v := .pointer (some ⟨gc, 0, none⟩)) ?_ rfl
            simp [execOp, go_sem, e7]
          · intro ρ wx hρ hri hI hl
            have e83 : ρ (.tmp 83) = .pointer (some ⟨gc, 0, none⟩) := hl 1 (by decide +kernel) 83 rfl
            refine t_of ?_ (by decide)
            have kk := hri.cell HBx.out (by decide) 0 _ rfl
            refine y_val (v := .bool x.is) ?_ rfl
            simp [execOp, go_sem, e83, kk]
          · intro ρ wx hρ hri hI hl
            have e82 : ρ (.tmp 82) = bv := hl 0 (by decide +kernel) 82 rfl
            have e84 : ρ (.tmp 84) = .bool x.is := hl 2 (by decide +kernel) 84 rfl
            refine t_call (by decide) (f := 54) (args := #[bv, .bool x.is]) (by simp [execOp, resolve, invoke, hρ.func, go_sem, e82, e84]) ?_
            refine (rtruth_any wx w.heap.size bv c x.is (hI rfl) (Nat.le_trans hB2 hri.1.size) (by omega)).mono ?_
            rintro e w6 ⟨v7, rfl, f7, b7, kt7⟩
            rw [← Hc1.out] at f7
            exact ⟨v7, rfl, f7, b7, KeepT.of_keepW kt7⟩
          · intro ρ wx hρ hri hI hl
            have e7 : ρ (.tmp 7) = .pointer (some ⟨gc, 0, none⟩) := hρ.tmp 7 (by decide +kernel)
            refine t_of ?_ (by decide)
            refine y_val (v := .pointer (some ⟨gc, 1, none⟩)) ?_ rfl
            simp [execOp, go_sem, e7]
          · intro ρ wx hρ hri hI hl
            have e86 : ρ (.tmp 86) = .pointer (some ⟨gc, 1, none⟩) := hl 4 (by decide +kernel) 86 rfl
            refine t_of ?_ (by decide)
            have k1 := hri.cell HBx.out (by decide) 1 _ rfl
            have k2 := hri.cell HBx.out (by decide) 2 _ rfl
            have k3 := hri.cell HBx.out (by decide) 3 _ rfl
            have k4 := hri.cell HBx.out (by decide) 4 _ rfl
            have k5 := hri.cell HBx.out (by decide) 5 _ rfl
            have k6 := hri.cell HBx.out (by decide) 6 _ rfl
            refine y_val (v := .agg #[.string x.t.a, .string x.t.b, .string x.t.c, .string x.t.d, .string x.t.e, .string x.t.f]) ?_ rfl
            simp [execOp, go_sem, e86, k1, k2, k3, k4, k5, k6]
          · intro ρ wx hρ hri hI hl
            have e85 := hl 3 (by decide +kernel) 85 rfl
            have e87 : ρ (.tmp 87) = .agg #[.string x.t.a, .string x.t.b, .string x.t.c, .string x.t.d, .string x.t.e, .string x.t.f] := hl 5 (by decide +kernel) 87 rfl
            refine t_of ?_ (by decide)
            refine y_call (f := 55) (args := #[ρ (.tmp 85), .agg #[.string x.t.a, .string x.t.b, .string x.t.c, .string x.t.d, .string x.t.e, .string x.t.f]]) (by simp [execOp, resolve, invoke, hρ.func, go_sem, e87]) ?_
            refine (rtuple_any wx _ c1 x.t (ownsRow.reads e85) (by rw [Hc2.out, List.length_append] at hc2l; exact Nat.le_trans hc2l (by decide))).mono ?_
            rintro e w6 ⟨v7, rfl, f7, b7⟩
            rw [← Hc2.out] at f7
            exact ⟨v7, rfl, owns_less f7 (Nat.le_trans hB2 hri.1.size), b7⟩
          intro aa w3 hdef hsz hlk hri hf
          have ha := act_of_like hdef hsz hlk [82, 83, 84, 85, 86, 87, 88] 142 rfl (by decide +kernel)
          have e82 : aa.tmps.getD 82 undef = bv := hf 0 _ 82 rfl rfl
          have e83 : aa.tmps.getD 83 undef = .pointer (some ⟨gc, 0, none⟩) := hf 1 _ 83 rfl rfl
          have e84 : aa.tmps.getD 84 undef = .bool x.is := hf 2 _ 84 rfl rfl
          have e86 : aa.tmps.getD 86 undef = .pointer (some ⟨gc, 1, none⟩) := hf 4 _ 86 rfl rfl
          have e87 : aa.tmps.getD 87 undef = .agg #[.string x.t.a, .string x.t.b, .string x.t.c, .string x.t.d, .string x.t.e, .string x.t.f] := hf 5 _ 87 rfl rfl
          have e88 : (ownsF w.heap.size 5 1 c2.length (bcells c2)).1 (aa.tmps.getD 88 undef) w3 := hf 6 _ 88 rfl rfl
          generalize hv88 : aa.tmps.getD 88 undef = v88 at e88
          simp only [putAll, List.foldl_cons, List.foldl_nil, e82, e83, e84, e86, e87, hv88] at ha
          generalize aa.tmps.getD 85 undef = v85 at ha
          simp [Act.put] at ha
          subst ha
          clear hdef hsz hlk hf e82 e83 e84 e86 e87 hv88
          have HOz := Lib.hid e88
          have HGz := Lib.hid (HG2.out.trans hri)
          clear e88 hri hI0 hIs hR0 hRB hRT HBx HG2 HO2
          go_wp2
          exact ⟨⟨i + 1, by go_num, by rw [HK2.out]; omega, by rw [HFn.out]; exact HOz.out, HGz.out⟩, by simp [intOf]; omega⟩
        · obtain rfl : n2 = i := by omega
          have hltI : ¬ (n2 : Int) < n2 := by omega
          rw [List.take_of_length_le (by rw [HK2.out]; exact Nat.le_refl _), ← Hp10.out] at ho
          have HO := Lib.hid ho
          have HX := Lib.hid (hg.2 _ _ _ _ HX.out (by decide))
          have HB := Lib.hid (HB.out.trans hg.1)
          clear ho hg
          have k12 := Lib.cell_of_heap HX.out 12
          simp at k12
          have hgx := (Array.getElem?_eq_some_iff.1 HX.out).1
          have hC := rmany_any wr u3 p10 n3 (ownsRow.reads HO.out) (by omega) (by omega)
          rw [← Hp11.out] at hC
          have HC := Lib.hid hC
          clear hC
          go_wp2_with (go_at_call 53; go_must (refine HC.out.mono ?_))
          rintro e w9 ⟨v9, rfl, o4, b4⟩
          have HX := Lib.hid ((b4.block gx hgx).trans HX.out)
          have HO := Lib.hid (owns_less o4 HB.out.size)
          have HB := Lib.hid (HB.out.trans (b4.mono HB.out.size))
          clear o4 b4 HC hgx
          have k12 := Lib.cell_of_heap HX.out 12
          simp at k12
          have hgx := (Array.getElem?_eq_some_iff.1 HX.out).1
          have hcn3 : n3 ≤ q3 := by
            obtain ⟨_, _, hv, h1, _⟩ := HR3.out.le
            cases hv
            exact h1
          go_wp2_with fail
          go_loopw [3, 98] (fun bv iv wr => RqRel t6B w.heap.size w9 p11 q.asks bv iv wr) (fun _ iv _ => n3 - (intOf iv).toNat)
          case atStart => exact ⟨0, rfl, Nat.zero_le _, by simpa using HO.out, GrowR.refl _ _⟩
          case round =>
            obtain ⟨i, rfl, hin, ho, hg⟩ := hrel
            rw [HK3.out] at hin
            by_cases hlt : i < n3
            · have hltI : (i : Int) < n3 := by omega
              obtain ⟨x, hx⟩ : ∃ x, q.asks[i]? = some x := ⟨q.asks[i]'(by rw [HK3.out]; exact hlt), List.getElem?_eq_getElem _⟩
              obtain ⟨b, off, rfl, hb2, hcs⟩ := rows_at T6.cells 6 (fun _ => rfl) (HR3.out.below' (HB.out.trans hg.1)) hx (by decide)
              have k0 := hcs 0 _ rfl
              have k1 := hcs 1 _ rfl
              have k2 := hcs 2 _ rfl
              have k3 := hcs 3 _ rfl
              have k4 := hcs 4 _ rfl
              have k5 := hcs 5 _ rfl
              simp only [Nat.add_zero] at k0
              have hne := flat_next t6B hx
              have htk := flat_take t6B q.asks (i + 1)
              obtain ⟨bv, hbv⟩ : ∃ bv, bv = u3 := ⟨_, rfl⟩
              obtain ⟨c, hc⟩ : ∃ c, c = p11 ++ (q.asks.take i).flatMap t6B := ⟨_, rfl⟩
              rw [← hc, ← hbv] at ho
              rw [← hbv]
              clear hbv
              obtain ⟨c1, hc1⟩ : ∃ z, z = c ++ txts [x.a, x.b, x.c] := ⟨_, rfl⟩
              obtain ⟨c2, hc2⟩ : ∃ z, z = c1 ++ txts [x.d, x.e, x.f] := ⟨_, rfl⟩
              have hfin : p11 ++ (q.asks.take (i + 1)).flatMap t6B = c2 := by
                rw [hne, hc2, hc1, hc]
                simp [t6B, T6.list, txts]
              have hzl : c2.length ≤ 20000000 := by
                have h1 := hl12
                rw [Hp12.out, List.length_append] at h1
                rw [← hfin, List.length_append]
                omega
              have hc2l := hzl
              have hc1l : c1.length ≤ 20000000 := by rw [hc2, List.length_append] at hc2l; omega
              have hcl : c.length ≤ 20000000 := by rw [hc1, List.length_append] at hc1l; omega
              have Hc1 := Lib.hid hc1
              have Hc2 := Lib.hid hc2
              have hwB : w.heap.size ≤ wr.heap.size := Nat.le_trans HB.out.size hg.1.size
              have hba : Below wr.heap.size wr (wr.alloc (.cells #[.string x.a, .string x.b, .string x.c, .string x.d, .string x.e, .string x.f] 135)) := (Below.refl _ _).alloc (Nat.le_refl _) _
              have HBx := Lib.hid (show (wr.alloc (.cells #[.string x.a, .string x.b, .string x.c, .string x.d, .string x.e, .string x.f] 135)).heap[wr.heap.size]? = some (.cells #[.string x.a, .string x.b, .string x.c, .string x.d, .string x.e, .string x.f] 135 (0, 0)) from heap_alloc_new _ _)
              have HG2 := Lib.hid (hg.trans (GrowR.of_below hba hwB))
              have HO2 := Lib.hid (owns_below ho hba)
              have hB2 : w.heap.size ≤ (wr.alloc (.cells #[.string x.a, .string x.b, .string x.c, .string x.d, .string x.e, .string x.f] 135)).heap.size := Nat.le_trans hwB hba.size
              have HFn := Lib.hid hfin
              clear ho hg hba hfin hne htk hx hc hcs HO hc1 hc2
              go_upto_region 21 with fail
              obtain ⟨gc, hgce⟩ : ∃ gc, wr.heap.size = gc := ⟨_, rfl⟩
              have HGc := Lib.hid hgce
              rw [hgce] at HBx
              rw [hgce]
              generalize (wr.alloc (.cells #[.string x.a, .string x.b, .string x.c, .string x.d, .string x.e, .string x.f] 135)) = w2_ at *
              clear hgce k0 k1 k2 k3 k4 k5
              have k0 := Lib.cell_of_heap HBx.out 0
              have k1 := Lib.cell_of_heap HBx.out 1
              have k2 := Lib.cell_of_heap HBx.out 2
              have k3 := Lib.cell_of_heap HBx.out 3
              have k4 := Lib.cell_of_heap HBx.out 4
              have k5 := Lib.cell_of_heap HBx.out 5
              simp at k0 k1 k2 k3 k4 k5
              have hgc := (Array.getElem?_eq_some_iff.1 HBx.out).1
              refine wp_region_last (l := [_, _, _, _, _, _, _]) (by kernel_rfl) [eqF (bv), eqF (.pointer (some ⟨gc, 0, none⟩)), eqF (.agg #[.string x.a, .string x.b, .string x.c]), ownsF w.heap.size 5 1 c1.length (bcells c1), eqF (.pointer (some ⟨gc, 3, none⟩)), eqF (.agg #[.string x.d, .string x.e, .string x.f]), ownsF w.heap.size 5 1 c2.length (bcells c2)] (by kernel_rfl) (by kernel_rfl) (by kernel_rfl) ⟨?_, ?_, ?_, ?_, ?_, ?_, ?_, trivial⟩ ?_
              · intro ρ wx hρ hbx hl
                have e3 : ρ (.tmp 3) = bv := hρ.tmp 3 (by decide +kernel)
                refine y_val (v := bv) ?_ rfl
                simp [execOp, go_sem, e3]
              · intro ρ wx hρ hbx hl
                have e9 : ρ (.tmp 9) = .pointer (some ⟨gc, 0, none⟩) := hρ.tmp 9 (by decide +kernel)
                refine y_val (v := .pointer (some ⟨gc, 0, none⟩)) ?_ rfl
                simp [execOp, go_sem, e9]
              · intro ρ wx hρ hbx hl
                have e103 : ρ (.tmp 103) = .pointer (some ⟨gc, 0, none⟩) := hl 1 (by decide +kernel) 103 rfl
                have k0 := (hbx.cell (p := ⟨gc, 0, none⟩) hgc).trans k0
                have k1 := (hbx.cell (p := ⟨gc, 1, none⟩) hgc).trans k1
                have k2 := (hbx.cell (p := ⟨gc, 2, none⟩) hgc).trans k2
                refine y_val (v := .agg #[.string x.a, .string x.b, .string x.c]) ?_ rfl
                simp [execOp, go_sem, e103, k0, k1, k2]
              · intro ρ wx hρ hbx hl
                have e102 : ρ (.tmp 102) = bv := hl 0 (by decide +kernel) 102 rfl
                have e104 : ρ (.tmp 104) = .agg #[.string x.a, .string x.b, .string x.c] := hl 2 (by decide +kernel) 104 rfl
                refine y_call (f := 58) (args := #[bv, .agg #[.string x.a, .string x.b, .string x.c]]) (by simp [execOp, resolve, invoke, hρ.func, go_sem, e102, e104]) ?_
                refine (rpoint_any wx bv c x.a x.b x.c ((ownsRow.reads HO2.out).below' hbx) (by rw [Hc1.out, List.length_append] at hc1l; exact Nat.le_trans hc1l (by decide))).mono ?_
                rintro e w6 ⟨v7, rfl, f7, b7⟩
                rw [← Hc1.out] at f7
                exact ⟨v7, rfl, owns_less f7 (Nat.le_trans hB2 hbx.size), b7⟩
              · intro ρ wx hρ hbx hl
                have e9 : ρ (.tmp 9) = .pointer (some ⟨gc, 0, none⟩) := hρ.tmp 9 (by decide +kernel)
                refine y_val (v := .pointer (some ⟨gc, 3, none⟩)) ?_ rfl
                simp [execOp, go_sem, e9]
              · intro ρ wx hρ hbx hl
                have e106 : ρ (.tmp 106) = .pointer (some ⟨gc, 3, none⟩) := hl 4 (by decide +kernel) 106 rfl
                have k3 := (hbx.cell (p := ⟨gc, 3, none⟩) hgc).trans k3
                have k4 := (hbx.cell (p := ⟨gc, 4, none⟩) hgc).trans k4
                have k5 := (hbx.cell (p := ⟨gc, 5, none⟩) hgc).trans k5
                refine y_val (v := .agg #[.string x.d, .string x.e, .string x.f]) ?_ rfl
                simp [execOp, go_sem, e106, k3, k4, k5]
              · intro ρ wx hρ hbx hl
                have e105 := hl 3 (by decide +kernel) 105 rfl
                have e107 : ρ (.tmp 107) = .agg #[.string x.d, .string x.e, .string x.f] := hl 5 (by decide +kernel) 107 rfl
                refine y_call (f := 56) (args := #[ρ (.tmp 105), .agg #[.string x.d, .string x.e, .string x.f]]) (by simp [execOp, resolve, invoke, hρ.func, go_sem, e107]) ?_
                refine (rsub_any wx _ c1 x.d x.e x.f (ownsRow.reads e105) (by rw [Hc2.out, List.length_append] at hc2l; exact Nat.le_trans hc2l (by decide))).mono ?_
                rintro e w6 ⟨v7, rfl, f7, b7⟩
                rw [← Hc2.out] at f7
                exact ⟨v7, rfl, owns_less f7 (Nat.le_trans hB2 hbx.size), b7⟩
              intro aa w3 hdef hsz hlk hbz hf
              have ha := act_of_like hdef hsz hlk [102, 103, 104, 105, 106, 107, 108] 142 rfl (by decide +kernel)
              have e102 : aa.tmps.getD 102 undef = bv := hf 0 _ 102 rfl rfl
              have e103 : aa.tmps.getD 103 undef = .pointer (some ⟨gc, 0, none⟩) := hf 1 _ 103 rfl rfl
              have e104 : aa.tmps.getD 104 undef = .agg #[.string x.a, .string x.b, .string x.c] := hf 2 _ 104 rfl rfl
              have e106 : aa.tmps.getD 106 undef = .pointer (some ⟨gc, 3, none⟩) := hf 4 _ 106 rfl rfl
              have e107 : aa.tmps.getD 107 undef = .agg #[.string x.d, .string x.e, .string x.f] := hf 5 _ 107 rfl rfl
              have e108 : (ownsF w.heap.size 5 1 c2.length (bcells c2)).1 (aa.tmps.getD 108 undef) w3 := hf 6 _ 108 rfl rfl
              generalize hv108 : aa.tmps.getD 108 undef = v108 at e108
              simp only [putAll, List.foldl_cons, List.foldl_nil, e102, e103, e104, e106, e107, hv108] at ha
              generalize aa.tmps.getD 105 undef = v105 at ha
              simp [Act.put] at ha
              subst ha
              clear hdef hsz hlk hf e102 e103 e104 e106 e107 hv108
              have HOz := Lib.hid e108
              have HGz := Lib.hid (HG2.out.trans (GrowR.of_below hbz hB2))
              clear e108 hbz HBx HG2 HO2 hgc k0 k1 k2 k3 k4 k5
              go_wp2
              exact ⟨⟨i + 1, by go_num, by rw [HK3.out]; omega, by rw [HFn.out]; exact HOz.out, HGz.out⟩, by simp [intOf]; omega⟩
            · obtain rfl : n3 = i := by omega
              have hltI : ¬ (n3 : Int) < n3 := by omega
              rw [List.take_of_length_le (by rw [HK3.out]; exact Nat.le_refl _), ← Hp12.out] at ho
              have HO := Lib.hid ho
              have HX := Lib.hid (hg.2 _ _ _ _ HX.out (by decide))
              have HB := Lib.hid (HB.out.trans hg.1)
              clear ho hg
              have k13 := Lib.cell_of_heap HX.out 13
              simp at k13
              have hgx := (Array.getElem?_eq_some_iff.1 HX.out).1
              have hC := rmany_any wr u3 p12 n4 (ownsRow.reads HO.out) (by omega) (by omega)
              rw [← Hp13.out] at hC
              have HC := Lib.hid hC
              clear hC
              go_wp2_with (go_at_call 53; go_must (refine HC.out.mono ?_))
              rintro e w11 ⟨v11, rfl, o4, b4⟩
              have HX := Lib.hid ((b4.block gx hgx).trans HX.out)
              have HO := Lib.hid (owns_less o4 HB.out.size)
              have HB := Lib.hid (HB.out.trans (b4.mono HB.out.size))
              clear o4 b4 HC hgx
              have k13 := Lib.cell_of_heap HX.out 13
              simp at k13
              have hgx := (Array.getElem?_eq_some_iff.1 HX.out).1
              have hcn4 : n4 ≤ q4 := by
                obtain ⟨_, _, hv, h1, _⟩ := HR4.out.le
                cases hv
                exact h1
              go_wp2_with fail
              go_loopw [3, 118] (fun bv iv wr => RqRel argB w.heap.size w11 p13 q.args bv iv wr) (fun _ iv _ => n4 - (intOf iv).toNat)
              case atStart => exact ⟨0, rfl, Nat.zero_le _, by simpa using HO.out, GrowR.refl _ _⟩
              case round =>
                obtain ⟨i, rfl, hin, ho, hg⟩ := hrel
                rw [HK4.out] at hin
                by_cases hlt : i < n4
                · have hltI : (i : Int) < n4 := by omega
                  obtain ⟨x, hx⟩ : ∃ x, q.args[i]? = some x := ⟨q.args[i]'(by rw [HK4.out]; exact hlt), List.getElem?_eq_getElem _⟩
                  obtain ⟨b, off, rfl, hb2, hcs⟩ := rows_at Arg4.cells 4 (fun _ => rfl) (HR4.out.below' (HB.out.trans hg.1)) hx (by decide)
                  have k0 := hcs 0 _ rfl
                  have k1 := hcs 1 _ rfl
                  have k2 := hcs 2 _ rfl
                  have k3 := hcs 3 _ rfl
                  simp only [Nat.add_zero] at k0
                  have hne := flat_next argB hx
                  have htk := flat_take argB q.args (i + 1)
                  obtain ⟨bv, hbv⟩ : ∃ bv, bv = u3 := ⟨_, rfl⟩
                  obtain ⟨c, hc⟩ : ∃ c, c = p13 ++ (q.args.take i).flatMap argB := ⟨_, rfl⟩
                  rw [← hc, ← hbv] at ho
                  rw [← hbv]
                  clear hbv
                  obtain ⟨c1, hc1⟩ : ∃ z, z = c ++ txts [x.name] := ⟨_, rfl⟩
                  obtain ⟨c2, hc2⟩ : ∃ z, z = c1 ++ enc (zig x.kind) := ⟨_, rfl⟩
                  obtain ⟨c3, hc3⟩ : ∃ z, z = c2 ++ enc (zig x.n) := ⟨_, rfl⟩
                  obtain ⟨c4, hc4⟩ : ∃ z, z = c3 ++ txts [x.s] := ⟨_, rfl⟩
                  have hfin : p13 ++ (q.args.take (i + 1)).flatMap argB = c4 := by
                    rw [hne, hc4, hc3, hc2, hc1, hc]
                    simp [argB, txts]
                  have hzl : c4.length ≤ 20000000 := by
                    have h1 := hl14
                    rw [Hp14.out, List.length_append] at h1
                    rw [← hfin, List.length_append]
                    omega
                  have hc4l := hzl
                  have hc3l : c3.length ≤ 20000000 := by rw [hc4, List.length_append] at hc4l; omega
                  have hc2l : c2.length ≤ 20000000 := by rw [hc3, List.length_append] at hc3l; omega
                  have hc1l : c1.length ≤ 20000000 := by rw [hc2, List.length_append] at hc2l; omega
                  have hcl : c.length ≤ 20000000 := by rw [hc1, List.length_append] at hc1l; omega
                  have Hc1 := Lib.hid hc1
                  have Hc2 := Lib.hid hc2
                  have Hc3 := Lib.hid hc3
                  have Hc4 := Lib.hid hc4
                  have hwB : w.heap.size ≤ wr.heap.size := Nat.le_trans HB.out.size hg.1.size
                  have hba : Below wr.heap.size wr (wr.alloc (.cells #[.string x.name, .int .i64 x.kind, .int .i64 x.n, .string x.s] 141)) := (Below.refl _ _).alloc (Nat.le_refl _) _
                  have HBx := Lib.hid (show (wr.alloc (.cells #[.string x.name, .int .i64 x.kind, .int .i64 x.n, .string x.s] 141)).heap[wr.heap.size]? = some (.cells #[.string x.name, .int .i64 x.kind, .int .i64 x.n, .string x.s] 141 (0, 0)) from heap_alloc_new _ _)
                  have HG2 := Lib.hid (hg.trans (GrowR.of_below hba hwB))
                  have HO2 := Lib.hid (owns_below ho hba)
                  have hB2 : w.heap.size ≤ (wr.alloc (.cells #[.string x.name, .int .i64 x.kind, .int .i64 x.n, .string x.s] 141)).heap.size := Nat.le_trans hwB hba.size
                  have HFn := Lib.hid hfin
                  have hxi := HAr.out x (List.mem_of_getElem? hx)
                  clear ho hg hba hfin hne htk hx hc hcs HO hc1 hc2 hc3 hc4
                  go_upto_region 27 with fail
                  obtain ⟨gc, hgce⟩ : ∃ gc, wr.heap.size = gc := ⟨_, rfl⟩
                  have HGc := Lib.hid hgce
                  rw [hgce] at HBx
                  rw [hgce]
                  generalize (wr.alloc (.cells #[.string x.name, .int .i64 x.kind, .int .i64 x.n, .string x.s] 141)) = w2_ at *
                  clear hgce k0 k1 k2 k3
                  have k0 := Lib.cell_of_heap HBx.out 0
                  have k1 := Lib.cell_of_heap HBx.out 1
                  have k2 := Lib.cell_of_heap HBx.out 2
                  have k3 := Lib.cell_of_heap HBx.out 3
                  simp at k0 k1 k2 k3
                  have hgc := (Array.getElem?_eq_some_iff.1 HBx.out).1
                  refine wp_region_last (l := [_, _, _, _, _, _, _, _, _, _, _, _, _, _, _, _, _, _]) (by kernel_rfl) [eqF (bv), eqF (.pointer (some ⟨gc, 0, none⟩)), eqF (.string x.name), litF 9 #[.string x.name] 1, ownsF w.heap.size 5 1 c1.length (bcells c1), eqF (.pointer (some ⟨gc, 1, none⟩)), eqF (.pointer (some ⟨gc, 1, none⟩)), eqF (.int .i64 x.kind), ownsF w.heap.size 5 1 c2.length (bcells c2), eqF (.pointer (some ⟨gc, 1, none⟩)), eqF (.pointer (some ⟨gc, 2, none⟩)), eqF (.int .i64 x.n), ownsF w.heap.size 5 1 c3.length (bcells c3), eqF (.pointer (some ⟨gc, 1, none⟩)), eqF (.pointer (some ⟨gc, 3, none⟩)), eqF (.string x.s), litF 9 #[.string x.s] 1, ownsF w.heap.size 5 1 c4.length (bcells c4)] (by kernel_rfl) (by kernel_rfl) (by kernel_rfl) ⟨?_, ?_, ?_, ?_, ?_, ?_, ?_, ?_, ?_, ?_, ?_, ?_, ?_, ?_, ?_, ?_, ?_, ?_, trivial⟩ ?_
                  · intro ρ wx hρ hbx hl
                    have e3 : ρ (.tmp 3) = bv := hρ.tmp 3 (by decide +kernel)
                    refine y_val (v := bv) ?_ rfl
                    simp [execOp, go_sem, e3]
                  · intro ρ wx hρ hbx hl
                    have e11 : ρ (.tmp 11) = .pointer (some ⟨gc, 0, none⟩) := hρ.tmp 11 (by decide +kernel)
                    refine y_val (v := .pointer (some ⟨gc, 0, none⟩)) ?_ rfl
                    simp [execOp, go_sem, e11]
                  · intro ρ wx hρ hbx hl
                    have e123 : ρ (.tmp 123) = .pointer (some ⟨gc, 0, none⟩) := hl 1 (by decide +kernel) 123 rfl
                    have kk := (hbx.cell (hgc)).trans k0
                    refine y_val (v := .string x.name) ?_ rfl
                    simp [execOp, go_sem, e123, kk]
                  · intro ρ wx hρ hbx hl
                    have e124 : ρ (.tmp 124) = .string x.name := hl 2 (by decide +kernel) 124 rfl
                    refine y_litF ?_
                    simp [execOp, go_sem, e124]
                  · intro ρ wx hρ hbx hl
                    have e122 : ρ (.tmp 122) = bv := hl 0 (by decide +kernel) 122 rfl
                    have e125 := hl 3 (by decide +kernel) 125 rfl
                    obtain ⟨g1, h1, hg1⟩ := e125
                    refine y_call (f := 52) (args := #[bv, .slice (some ⟨g1, 0, none⟩) 1 1]) (by simp [execOp, resolve, invoke, hρ.func, go_sem, e122, h1]) ?_
                    refine (rtexts_any wx bv c g1 1 [x.name] ((ownsRow.reads HO2.out).below' hbx) hg1 rfl (by decide) (by decide) (by rw [Hc1.out, List.length_append] at hc1l; exact Nat.le_trans hc1l (by decide))).mono ?_
                    rintro e w6 ⟨v7, rfl, f7, b7⟩
                    rw [← Hc1.out] at f7
                    exact ⟨v7, rfl, owns_less f7 (Nat.le_trans hB2 hbx.size), b7⟩
                  · intro ρ wx hρ hbx hl
                    have e11 : ρ (.tmp 11) = .pointer (some ⟨gc, 0, none⟩) := hρ.tmp 11 (by decide +kernel)
                    refine y_val (v := .pointer (some ⟨gc, 1, none⟩)) ?_ rfl
                    simp [execOp, go_sem, e11]
                  · intro ρ wx hρ hbx hl
                    have e127 : ρ (.tmp 127) = .pointer (some ⟨gc, 1, none⟩) := hl 5 (by decide +kernel) 127 rfl
                    refine y_val (v := .pointer (some ⟨gc, 1, none⟩)) ?_ rfl
                    simp [execOp, go_sem, e127]
                  · intro ρ wx hρ hbx hl
                    have e128 : ρ (.tmp 128) = .pointer (some ⟨gc, 1, none⟩) := hl 6 (by decide +kernel) 128 rfl
                    have kk := (hbx.cell (hgc)).trans k1
                    refine y_val (v := .int .i64 x.kind) ?_ rfl
                    simp [execOp, go_sem, e128, kk]
                  · intro ρ wx hρ hbx hl
                    have e126 := hl 4 (by decide +kernel) 126 rfl
                    have e129 : ρ (.tmp 129) = .int .i64 x.kind := hl 7 (by decide +kernel) 129 rfl
                    refine y_call (f := 50) (args := #[ρ (.tmp 126), .int .i64 x.kind]) (by simp [execOp, resolve, invoke, hρ.func, go_sem, e129]) ?_
                    refine (rwhole_any wx _ c1 x.kind (ownsRow.reads e126) hxi.1 (by omega)).mono ?_
                    rintro e w6 ⟨v7, rfl, f7, b7⟩
                    rw [← Hc2.out] at f7
                    exact ⟨v7, rfl, owns_less f7 (Nat.le_trans hB2 hbx.size), b7⟩
                  · intro ρ wx hρ hbx hl
                    have e11 : ρ (.tmp 11) = .pointer (some ⟨gc, 0, none⟩) := hρ.tmp 11 (by decide +kernel)
                    refine y_val (v := .pointer (some ⟨gc, 1, none⟩)) ?_ rfl
                    simp [execOp, go_sem, e11]
                  · intro ρ wx hρ hbx hl
                    have e131 : ρ (.tmp 131) = .pointer (some ⟨gc, 1, none⟩) := hl 9 (by decide +kernel) 131 rfl
                    refine y_val (v := .pointer (some ⟨gc, 2, none⟩)) ?_ rfl
                    simp [execOp, go_sem, e131]
                  · intro ρ wx hρ hbx hl
                    have e132 : ρ (.tmp 132) = .pointer (some ⟨gc, 2, none⟩) := hl 10 (by decide +kernel) 132 rfl
                    have kk := (hbx.cell (hgc)).trans k2
                    refine y_val (v := .int .i64 x.n) ?_ rfl
                    simp [execOp, go_sem, e132, kk]
                  · intro ρ wx hρ hbx hl
                    have e130 := hl 8 (by decide +kernel) 130 rfl
                    have e133 : ρ (.tmp 133) = .int .i64 x.n := hl 11 (by decide +kernel) 133 rfl
                    refine y_call (f := 50) (args := #[ρ (.tmp 130), .int .i64 x.n]) (by simp [execOp, resolve, invoke, hρ.func, go_sem, e133]) ?_
                    refine (rwhole_any wx _ c2 x.n (ownsRow.reads e130) hxi.2 (by omega)).mono ?_
                    rintro e w6 ⟨v7, rfl, f7, b7⟩
                    rw [← Hc3.out] at f7
                    exact ⟨v7, rfl, owns_less f7 (Nat.le_trans hB2 hbx.size), b7⟩
                  · intro ρ wx hρ hbx hl
                    have e11 : ρ (.tmp 11) = .pointer (some ⟨gc, 0, none⟩) := hρ.tmp 11 (by decide +kernel)
                    refine y_val (v := .pointer (some ⟨gc, 1, none⟩)) ?_ rfl
                    simp [execOp, go_sem, e11]
                  · intro ρ wx hρ hbx hl
                    have e135 : ρ (.tmp 135) = .pointer (some ⟨gc, 1, none⟩) := hl 13 (by decide +kernel) 135 rfl
                    refine y_val (v := .pointer (some ⟨gc, 3, none⟩)) ?_ rfl
                    simp [execOp, go_sem, e135]
                  · intro ρ wx hρ hbx hl
                    have e136 : ρ (.tmp 136) = .pointer (some ⟨gc, 3, none⟩) := hl 14 (by decide +kernel) 136 rfl
                    have kk := (hbx.cell (hgc)).trans k3
                    refine y_val (v := .string x.s) ?_ rfl
                    simp [execOp, go_sem, e136, kk]
                  · intro ρ wx hρ hbx hl
                    have e137 : ρ (.tmp 137) = .string x.s := hl 15 (by decide +kernel) 137 rfl
                    refine y_litF ?_
                    simp [execOp, go_sem, e137]
                  · intro ρ wx hρ hbx hl
                    have e134 := hl 12 (by decide +kernel) 134 rfl
                    have e138 := hl 16 (by decide +kernel) 138 rfl
                    obtain ⟨g1, h1, hg1⟩ := e138
                    refine y_call (f := 52) (args := #[ρ (.tmp 134), .slice (some ⟨g1, 0, none⟩) 1 1]) (by simp [execOp, resolve, invoke, hρ.func, go_sem, h1]) ?_
                    refine (rtexts_any wx _ c3 g1 1 [x.s] (ownsRow.reads e134) hg1 rfl (by decide) (by decide) (by rw [Hc4.out, List.length_append] at hc4l; exact Nat.le_trans hc4l (by decide))).mono ?_
                    rintro e w6 ⟨v7, rfl, f7, b7⟩
                    rw [← Hc4.out] at f7
                    exact ⟨v7, rfl, owns_less f7 (Nat.le_trans hB2 hbx.size), b7⟩
                  intro aa w3 hdef hsz hlk hbz hf
                  have ha := act_of_like hdef hsz hlk [122, 123, 124, 125, 126, 127, 128, 129, 130, 131, 132, 133, 134, 135, 136, 137, 138, 139] 142 rfl (by decide +kernel)
                  have e122 : aa.tmps.getD 122 undef = bv := hf 0 _ 122 rfl rfl
                  have e123 : aa.tmps.getD 123 undef = .pointer (some ⟨gc, 0, none⟩) := hf 1 _ 123 rfl rfl
                  have e124 : aa.tmps.getD 124 undef = .string x.name := hf 2 _ 124 rfl rfl
                  have e127 : aa.tmps.getD 127 undef = .pointer (some ⟨gc, 1, none⟩) := hf 5 _ 127 rfl rfl
                  have e128 : aa.tmps.getD 128 undef = .pointer (some ⟨gc, 1, none⟩) := hf 6 _ 128 rfl rfl
                  have e129 : aa.tmps.getD 129 undef = .int .i64 x.kind := hf 7 _ 129 rfl rfl
                  have e131 : aa.tmps.getD 131 undef = .pointer (some ⟨gc, 1, none⟩) := hf 9 _ 131 rfl rfl
                  have e132 : aa.tmps.getD 132 undef = .pointer (some ⟨gc, 2, none⟩) := hf 10 _ 132 rfl rfl
                  have e133 : aa.tmps.getD 133 undef = .int .i64 x.n := hf 11 _ 133 rfl rfl
                  have e135 : aa.tmps.getD 135 undef = .pointer (some ⟨gc, 1, none⟩) := hf 13 _ 135 rfl rfl
                  have e136 : aa.tmps.getD 136 undef = .pointer (some ⟨gc, 3, none⟩) := hf 14 _ 136 rfl rfl
                  have e137 : aa.tmps.getD 137 undef = .string x.s := hf 15 _ 137 rfl rfl
                  have e139 : (ownsF w.heap.size 5 1 c4.length (bcells c4)).1 (aa.tmps.getD 139 undef) w3 := hf 17 _ 139 rfl rfl
                  generalize hv139 : aa.tmps.getD 139 undef = v139 at e139
                  simp only [putAll, List.foldl_cons, List.foldl_nil, e122, e123, e124, e127, e128, e129, e131, e132, e133, e135, e136, e137, hv139] at ha
                  generalize aa.tmps.getD 125 undef = v125 at ha
                  generalize aa.tmps.getD 126 undef = v126 at ha
                  generalize aa.tmps.getD 130 undef = v130 at ha
                  generalize aa.tmps.getD 134 undef = v134 at ha
                  generalize aa.tmps.getD 138 undef = v138 at ha
                  simp [Act.put] at ha
                  subst ha
                  clear hdef hsz hlk hf e122 e123 e124 e127 e128 e129 e131 e132 e133 e135 e136 e137 hv139
                  have HOz := Lib.hid e139
                  have HGz := Lib.hid (HG2.out.trans (GrowR.of_below hbz hB2))
                  clear e139 hbz HBx HG2 HO2 hgc k0 k1 k2 k3
                  go_wp2
                  exact ⟨⟨i + 1, by go_num, by rw [HK4.out]; omega, by rw [HFn.out]; exact HOz.out, HGz.out⟩, by simp [intOf]; omega⟩
                · obtain rfl : n4 = i := by omega
                  have hltI : ¬ (n4 : Int) < n4 := by omega
                  rw [List.take_of_length_le (by rw [HK4.out]; exact Nat.le_refl _), ← Hp14.out] at ho
                  have HO := Lib.hid ho
                  have HX := Lib.hid (hg.2 _ _ _ _ HX.out (by decide))
                  have HB := Lib.hid (HB.out.trans hg.1)
                  clear ho hg
                  go_wp2
                  go_ret
                  exact ⟨_, rfl, HO.out, HB.out⟩
end Go.Proofs.YtdonibkkdhokpaaGreat
