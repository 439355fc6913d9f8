/- The reference's structs of a request. -/
import Derived.Test.YtdonibkkdhokpaaGreatZWireR
import Derived.Test.YtdonibkkdhokpaaGreatZWireP
namespace Go.Proofs.YtdonibkkdhokpaaGreat
open Go Go.RowKit

theorem y_litF {P : Program} {ρ : Operand → Value} {o : Oper} {w : World} {e : TypeId} {cs : Array Value} {n : Nat} (h : (execOp ρ o).run P w = .ok (.value (.slice (some ⟨w.heap.size, 0, none⟩) n n)) (w.alloc (.cells cs e))) : YieldsP P ρ o w (fun u w' => (litF e cs n).1 u w' ∧ Below w.heap.size w w') := by
  unfold YieldsP
  rw [h]
  exact ⟨⟨w.heap.size, rfl, heap_alloc_new w _⟩, (Below.refl _ _).alloc (Nat.le_refl _) _⟩

set_option maxRecDepth 100000 in
set_option maxHeartbeats 1000000 in
theorem rsub_any (w : World) (v : Value) (L : List UInt8) (x y z : ByteArray) (h : Reads w 1 v L.length (bcells L)) (hl : L.length + (txts [x, y, z]).length ≤ 1000000000) :
    Calls Tryz.prog 56 #[v, .agg #[.string x, .string y, .string z]] w (GivesOwn w (L ++ txts [x, y, z])) := by
  have hba : Below w.heap.size w ((w.alloc (.cells #[.string x, .string y, .string z] 60)).alloc (.cells #[.string x, .string y, .string z] 9)) := ((Below.refl _ _).alloc (Nat.le_refl _) _).alloc (by simp) _
  have hli : ((w.alloc (.cells #[.string x, .string y, .string z] 60)).alloc (.cells #[.string x, .string y, .string z] 9)).heap[w.heap.size + 1]? = some (.cells (scells [x, y, z]).toArray 9 (0, 0)) := heap_alloc2_new w _ _
  have HC := Lib.hid (rtexts_any ((w.alloc (.cells #[.string x, .string y, .string z] 60)).alloc (.cells #[.string x, .string y, .string z] 9)) v L (w.heap.size + 1) 3 [x, y, z] (h.below' hba) hli rfl (by decide) (by decide) hl)
  have HB := Lib.hid hba
  clear h hba hli
  go_enter Tryz.func56, Tryz.ntmps56
  go_wp2_with (go_at_call 52; go_must (refine HC.out.mono ?_))
  rintro e w1 ⟨v1, rfl, o1, b1⟩
  have HO := Lib.hid (owns_less o1 HB.out.size)
  have HBz := Lib.hid (HB.out.trans (b1.mono HB.out.size))
  clear o1 b1 HC
  go_wp2
  go_ret
  exact ⟨_, rfl, HO.out, HBz.out⟩

set_option maxRecDepth 100000 in
set_option maxHeartbeats 1000000 in
theorem rpoint_any (w : World) (v : Value) (L : List UInt8) (x y z : ByteArray) (h : Reads w 1 v L.length (bcells L)) (hl : L.length + (txts [x, y, z]).length ≤ 1000000000) :
    Calls Tryz.prog 58 #[v, .agg #[.string x, .string y, .string z]] w (GivesOwn w (L ++ txts [x, y, z])) := by
  have hba : Below w.heap.size w ((w.alloc (.cells #[.string x, .string y, .string z] 68)).alloc (.cells #[.string x, .string y, .string z] 9)) := ((Below.refl _ _).alloc (Nat.le_refl _) _).alloc (by simp) _
  have hli : ((w.alloc (.cells #[.string x, .string y, .string z] 68)).alloc (.cells #[.string x, .string y, .string z] 9)).heap[w.heap.size + 1]? = some (.cells (scells [x, y, z]).toArray 9 (0, 0)) := heap_alloc2_new w _ _
  have HC := Lib.hid (rtexts_any ((w.alloc (.cells #[.string x, .string y, .string z] 68)).alloc (.cells #[.string x, .string y, .string z] 9)) v L (w.heap.size + 1) 3 [x, y, z] (h.below' hba) hli rfl (by decide) (by decide) hl)
  have HB := Lib.hid hba
  clear h hba hli
  go_enter Tryz.func58, Tryz.ntmps58
  go_wp2_with (go_at_call 52; go_must (refine HC.out.mono ?_))
  rintro e w1 ⟨v1, rfl, o1, b1⟩
  have HO := Lib.hid (owns_less o1 HB.out.size)
  have HBz := Lib.hid (HB.out.trans (b1.mono HB.out.size))
  clear o1 b1 HC
  go_wp2
  go_ret
  exact ⟨_, rfl, HO.out, HBz.out⟩

set_option maxRecDepth 100000 in
set_option maxHeartbeats 2000000 in
theorem rtuple_any (w : World) (v : Value) (L : List UInt8) (t : T6) (h : Reads w 1 v L.length (bcells L)) (hl : L.length + (t6B t).length ≤ 1000000000) :
    Calls Tryz.prog 55 #[v, .agg #[.string t.a, .string t.b, .string t.c, .string t.d, .string t.e, .string t.f]] w (GivesOwn w (L ++ t6B t)) := by
  have heq : L ++ txts [t.a, t.b, t.c] ++ txts [t.d, t.e, t.f] = L ++ t6B t := by simp [t6B, T6.list, txts]
  have hlen := congrArg List.length heq
  simp only [List.length_append] at hlen
  have hba : Below w.heap.size w (w.alloc (.cells #[.string t.a, .string t.b, .string t.c, .string t.d, .string t.e, .string t.f] 62)) := (Below.refl _ _).alloc (Nat.le_refl _) _
  have hbx0 : (w.alloc (.cells #[.string t.a, .string t.b, .string t.c, .string t.d, .string t.e, .string t.f] 62)).heap[w.heap.size]? = some (.cells #[.string t.a, .string t.b, .string t.c, .string t.d, .string t.e, .string t.f] 62 (0, 0)) := heap_alloc_new _ _
  have HB := Lib.hid hba
  have HX := Lib.hid hbx0
  have HV := Lib.hid (h.below' hba)
  have HEq := Lib.hid heq
  have hsz0 := hba.size
  clear h hba hbx0 heq
  go_enter Tryz.func55, Tryz.ntmps55
  go_upto_region 1 with fail
  generalize w.alloc (.cells #[.string t.a, .string t.b, .string t.c, .string t.d, .string t.e, .string t.f] 62) = w0 at *
  obtain ⟨gx, hgxe⟩ : ∃ gx, w.heap.size = gx := ⟨_, rfl⟩
  have hxx := HX.out
  rw [hgxe] at hxx
  have k0 := Lib.cell_of_heap hxx 0
  have k1 := Lib.cell_of_heap hxx 1
  have k2 := Lib.cell_of_heap hxx 2
  have k3 := Lib.cell_of_heap hxx 3
  have k4 := Lib.cell_of_heap hxx 4
  have k5 := Lib.cell_of_heap hxx 5
  simp at k0 k1 k2 k3 k4 k5
  have hgx : gx < w0.heap.size := (Array.getElem?_eq_some_iff.1 hxx).1
  have HGe := Lib.hid hgxe
  rw [hgxe]
  clear hxx hgxe
  refine wp_region_all (by kernel_rfl) [eqF (v), eqF (.pointer (some ⟨gx, 0, none⟩)), eqF (.pointer (some ⟨gx, 0, none⟩)), eqF (.string t.a), eqF (.pointer (some ⟨gx, 0, none⟩)), eqF (.pointer (some ⟨gx, 1, none⟩)), eqF (.string t.b), eqF (.pointer (some ⟨gx, 2, none⟩)), eqF (.string t.c), litF 9 #[.string t.a, .string t.b, .string t.c] 3, ownsF w.heap.size 5 1 (L ++ txts [t.a, t.b, t.c]).length (bcells (L ++ txts [t.a, t.b, t.c])), eqF (.pointer (some ⟨gx, 3, none⟩)), eqF (.agg #[.string t.d, .string t.e, .string t.f]), ownsF w.heap.size 5 1 (L ++ t6B t).length (bcells (L ++ t6B t)), ownsF w.heap.size 5 1 (L ++ t6B t).length (bcells (L ++ t6B t))] (by kernel_rfl) ⟨?_, ?_, ?_, ?_, ?_, ?_, ?_, ?_, ?_, ?_, ?_, ?_, ?_, ?_, ?_, trivial⟩ ⟨trivial, trivial, trivial, trivial, trivial, trivial, trivial, trivial, trivial, trivial, trivial, trivial, trivial, trivial, trivial, trivial⟩ ?_
  · intro ρ wx hρ hbx hl
    have e0 : ρ (.tmp 0) = v := hρ.tmp 0 (by decide +kernel)
    refine y_val (v := v) ?_ rfl
    simp [execOp, go_sem, e0]
  · intro ρ wx hρ hbx hl
    have e3 : ρ (.tmp 3) = .pointer (some ⟨gx, 0, none⟩) := hρ.tmp 3 (by decide +kernel)
    refine y_val (v := .pointer (some ⟨gx, 0, none⟩)) ?_ rfl
    simp [execOp, go_sem, e3]
  · intro ρ wx hρ hbx hl
    have e6 : ρ (.tmp 6) = .pointer (some ⟨gx, 0, none⟩) := hl 1 (by decide +kernel) 6 rfl
    refine y_val (v := .pointer (some ⟨gx, 0, none⟩)) ?_ rfl
    simp [execOp, go_sem, e6]
  · intro ρ wx hρ hbx hl
    have e7 : ρ (.tmp 7) = .pointer (some ⟨gx, 0, none⟩) := hl 2 (by decide +kernel) 7 rfl
    have kk := (hbx.cell (hgx)).trans k0
    refine y_val (v := .string t.a) ?_ rfl
    simp [execOp, go_sem, e7, kk]
  · intro ρ wx hρ hbx hl
    have e3 : ρ (.tmp 3) = .pointer (some ⟨gx, 0, none⟩) := hρ.tmp 3 (by decide +kernel)
    refine y_val (v := .pointer (some ⟨gx, 0, none⟩)) ?_ rfl
    simp [execOp, go_sem, e3]
  · intro ρ wx hρ hbx hl
    have e9 : ρ (.tmp 9) = .pointer (some ⟨gx, 0, none⟩) := hl 4 (by decide +kernel) 9 rfl
    refine y_val (v := .pointer (some ⟨gx, 1, none⟩)) ?_ rfl
    simp [execOp, go_sem, e9]
  · intro ρ wx hρ hbx hl
    have e10 : ρ (.tmp 10) = .pointer (some ⟨gx, 1, none⟩) := hl 5 (by decide +kernel) 10 rfl
    have kk := (hbx.cell (hgx)).trans k1
    refine y_val (v := .string t.b) ?_ rfl
    simp [execOp, go_sem, e10, kk]
  · intro ρ wx hρ hbx hl
    have e3 : ρ (.tmp 3) = .pointer (some ⟨gx, 0, none⟩) := hρ.tmp 3 (by decide +kernel)
    refine y_val (v := .pointer (some ⟨gx, 2, none⟩)) ?_ rfl
    simp [execOp, go_sem, e3]
  · intro ρ wx hρ hbx hl
    have e12 : ρ (.tmp 12) = .pointer (some ⟨gx, 2, none⟩) := hl 7 (by decide +kernel) 12 rfl
    have kk := (hbx.cell (hgx)).trans k2
    refine y_val (v := .string t.c) ?_ rfl
    simp [execOp, go_sem, e12, kk]
  · intro ρ wx hρ hbx hl
    have e8 : ρ (.tmp 8) = .string t.a := hl 3 (by decide +kernel) 8 rfl
    have e11 : ρ (.tmp 11) = .string t.b := hl 6 (by decide +kernel) 11 rfl
    have e13 : ρ (.tmp 13) = .string t.c := hl 8 (by decide +kernel) 13 rfl
    refine y_litF ?_
    simp [execOp, go_sem, e8, e11, e13]
  · intro ρ wx hρ hbx hl
    have e5 : ρ (.tmp 5) = v := hl 0 (by decide +kernel) 5 rfl
    have e14 := hl 9 (by decide +kernel) 14 rfl
    obtain ⟨g14, h14, hg14⟩ := e14
    refine y_call (f := 52) (args := #[v, .slice (some ⟨g14, 0, none⟩) 3 3]) (by simp [execOp, resolve, invoke, hρ.func, go_sem, e5, h14]) ?_
    refine (rtexts_any wx v L g14 3 [t.a, t.b, t.c] (HV.out.below' hbx) hg14 rfl (by decide) (by decide) (by omega)).mono ?_
    rintro e w6 ⟨v7, rfl, f7, b7⟩
    exact ⟨v7, rfl, owns_less f7 (Nat.le_trans hsz0 hbx.size), b7⟩
  · intro ρ wx hρ hbx hl
    have e3 : ρ (.tmp 3) = .pointer (some ⟨gx, 0, none⟩) := hρ.tmp 3 (by decide +kernel)
    refine y_val (v := .pointer (some ⟨gx, 3, none⟩)) ?_ rfl
    simp [execOp, go_sem, e3]
  · intro ρ wx hρ hbx hl
    have e16 : ρ (.tmp 16) = .pointer (some ⟨gx, 3, none⟩) := hl 11 (by decide +kernel) 16 rfl
    have q3 := (hbx.cell (p := ⟨gx, 3, none⟩) hgx).trans k3
    have q4 := (hbx.cell (p := ⟨gx, 4, none⟩) hgx).trans k4
    have q5 := (hbx.cell (p := ⟨gx, 5, none⟩) hgx).trans k5
    refine y_val (v := .agg #[.string t.d, .string t.e, .string t.f]) ?_ rfl
    simp [execOp, go_sem, e16, q3, q4, q5]
  · intro ρ wx hρ hbx hl
    have e15 := hl 10 (by decide +kernel) 15 rfl
    have e17 : ρ (.tmp 17) = .agg #[.string t.d, .string t.e, .string t.f] := hl 12 (by decide +kernel) 17 rfl
    refine y_call (f := 56) (args := #[ρ (.tmp 15), .agg #[.string t.d, .string t.e, .string t.f]]) (by simp [execOp, resolve, invoke, hρ.func, go_sem, e17]) ?_
    refine (rsub_any wx _ (L ++ txts [t.a, t.b, t.c]) t.d t.e t.f (ownsRow.reads e15) (by rw [List.length_append]; omega)).mono ?_
    rintro e w6 ⟨v7, rfl, f7, b7⟩
    rw [HEq.out] at f7
    exact ⟨v7, rfl, owns_less f7 (Nat.le_trans hsz0 hbx.size), b7⟩
  · intro ρ wx hρ hbx hl
    have e18 := hl 13 (by decide +kernel) 18 rfl
    refine y_val (v := ρ (.tmp 18)) ?_ e18
    simp [execOp, go_sem]
  intro aa wz hdef hsz hlk hbz hf
  have ha := act_of_like hdef hsz hlk [5, 6, 7, 8, 9, 10, 11, 12, 13, 14, 15, 16, 17, 18, 4] 19 rfl (by decide +kernel)
  have e5 : aa.tmps.getD 5 undef = v := hf 0 _ 5 rfl rfl
  have e6 : aa.tmps.getD 6 undef = .pointer (some ⟨gx, 0, none⟩) := hf 1 _ 6 rfl rfl
  have e7 : aa.tmps.getD 7 undef = .pointer (some ⟨gx, 0, none⟩) := hf 2 _ 7 rfl rfl
  have e8 : aa.tmps.getD 8 undef = .string t.a := hf 3 _ 8 rfl rfl
  have e9 : aa.tmps.getD 9 undef = .pointer (some ⟨gx, 0, none⟩) := hf 4 _ 9 rfl rfl
  have e10 : aa.tmps.getD 10 undef = .pointer (some ⟨gx, 1, none⟩) := hf 5 _ 10 rfl rfl
  have e11 : aa.tmps.getD 11 undef = .string t.b := hf 6 _ 11 rfl rfl
  have e12 : aa.tmps.getD 12 undef = .pointer (some ⟨gx, 2, none⟩) := hf 7 _ 12 rfl rfl
  have e13 : aa.tmps.getD 13 undef = .string t.c := hf 8 _ 13 rfl rfl
  have e16 : aa.tmps.getD 16 undef = .pointer (some ⟨gx, 3, none⟩) := hf 11 _ 16 rfl rfl
  have e17 : aa.tmps.getD 17 undef = .agg #[.string t.d, .string t.e, .string t.f] := hf 12 _ 17 rfl rfl
  have e4 : (ownsF w.heap.size 5 1 (L ++ t6B t).length (bcells (L ++ t6B t))).1 (aa.tmps.getD 4 undef) wz := hf 14 _ 4 rfl rfl
  generalize hv4 : aa.tmps.getD 4 undef = v4 at e4
  simp only [putAll, List.foldl_cons, List.foldl_nil, e5, e6, e7, e8, e9, e10, e11, e12, e13, e16, e17, hv4] at ha
  generalize aa.tmps.getD 14 undef = v14 at ha
  generalize aa.tmps.getD 15 undef = v15 at ha
  generalize aa.tmps.getD 18 undef = v18 at ha
  simp [Act.put] at ha
  subst ha
  clear hdef hsz hlk hf e5 e6 e7 e8 e9 e10 e11 e12 e13 e16 e17 hv4
  have HO := Lib.hid e4
  have HBz := Lib.hid (HB.out.trans (hbz.mono HB.out.size))
  clear e4 hbz k0 k1 k2 k3 k4 k5
  go_wp2
  go_ret
  exact ⟨_, rfl, HO.out, HBz.out⟩
end Go.Proofs.YtdonibkkdhokpaaGreat
