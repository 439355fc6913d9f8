/- The closure of the sort: a region that draws its order, whose calls make memory; the world is told to the block. -/
import Derived.Test.YthjimldojdhccaaZEditCmp
import Derived.Test.YthjimldojdhccaaZDrawnSf
import Derived.Test.YthjimldojdhccaaMga
namespace Go.Proofs.Ythjimldojdhccaa
open Go Go.RowKit Go.Lib

def TwoAt (x y : Int) (v : Value) (w : World) : Prop := ∃ b, v = .slice (some ⟨b, 0, none⟩) 2 2 ∧ w.cell? ⟨b, 0, none⟩ = some (.int .i64 x) ∧ w.cell? ⟨b, 1, none⟩ = some (.int .i64 y) ∧ b < w.heap.size

theorem TwoAt.below {x y : Int} {v : Value} {w w' : World} (h : TwoAt x y v w) (hb : Below w.heap.size w w') : TwoAt x y v w' := by
  obtain ⟨b, h1, h2, h3, h4⟩ := h
  exact ⟨b, h1, (hb.cell h4).trans h2, (hb.cell h4).trans h3, Nat.lt_of_lt_of_le h4 hb.size⟩

/-- The world has grown, and drawn. -/
def Gr (w w' : World) : Prop := ∃ q os, w' = Sort.grow (w.drewN q) os
theorem Gr.below {w w' : World} (h : Gr w w') : Below w.heap.size w w' := by
  obtain ⟨q, os, rfl⟩ := h
  have := grow_below (w.drewN q) os
  exact ⟨this.os, this.tape, this.output, this.size, this.block⟩
theorem Gr.drew (w : World) : Gr w w.drew := ⟨1, #[], by rw [Sort.grow_empty]; rfl⟩
theorem Gr.grow {w w' : World} (h : Gr w w') (os : Array Obj) : Gr w (Sort.grow w' os) := by
  obtain ⟨q, os', rfl⟩ := h
  exact ⟨q, os' ++ os, Sort.grow_grow _ _ _⟩

theorem f_new {P : Program} {ρ : Operand → Value} {o : Oper} {w w' : World} {v : Value} {p : Value → World → Prop} {J R : World → Prop} (h : (execOp ρ o).run P w = .ok (.value v) w') (hv : p v w') (hJ : J w') (hR : R w') : YieldsP P ρ o w (fun u w' => p u w' ∧ J w' ∧ R w') := by
  unfold YieldsP
  rw [h]
  exact ⟨hv, hJ, hR⟩

set_option maxRecDepth 100000 in
set_option maxHeartbeats 1000000 in
theorem sortcmp_any (w : World) (a b : Tb) : Calls Try.prog 47 #[tv a, tv b] w (GrownInt w (cfT a b)) := by
  have hp := fun w => places_any w a b
  have hn := fun w => cmpi_any w a.num b.num
  have hc : cfT a b = orI (plc a b) (compareInt a.num b.num) := rfl
  generalize plc a b = p at *
  generalize compareInt a.num b.num = cn at *
  have HC := Lib.hid hc
  clear hc
  obtain ⟨an, al, az, af, at'⟩ := a
  obtain ⟨bn, bl, bz, bf, bt⟩ := b
  simp only [tv] at *
  have t12 := two_boxes w #[.int .i64 an, .int .i64 al, .int .i64 az, .string af, .string at'] #[.int .i64 bn, .int .i64 bl, .int .i64 bz, .string bf, .string bt] 45 45
  have g0 := grow_two w (.cells #[.int .i64 an, .int .i64 al, .int .i64 az, .string af, .string at'] 45) (.cells #[.int .i64 bn, .int .i64 bl, .int .i64 bz, .string bf, .string bt] 45)
  have T1 := Lib.hid t12
  have G0 := Lib.hid g0
  clear t12 g0
  go_enter Try.func47, Try.ntmps47
  go_wp2
  generalize (w.alloc (.cells #[.int .i64 an, .int .i64 al, .int .i64 az, .string af, .string at'] 45)).alloc (.cells #[.int .i64 bn, .int .i64 bl, .int .i64 bz, .string bf, .string bt] 45) = w1 at *
  obtain ⟨t1, t2, t3, t4⟩ := T1.out
  have HS := Lib.hid t4
  generalize w.heap.size = N at *
  have n1 : N < w1.heap.size := by omega
  have n2 : N + 1 < w1.heap.size := by omega
  have cA : ∀ wx, Gr w1 wx → wx.heap[N]? = some (.cells #[.int .i64 an, .int .i64 al, .int .i64 az, .string af, .string at'] 45 (0, 0)) := fun wx h => (h.below.block N n1).trans t1
  have cB : ∀ wx, Gr w1 wx → wx.heap[N + 1]? = some (.cells #[.int .i64 bn, .int .i64 bl, .int .i64 bz, .string bf, .string bt] 45 (0, 0)) := fun wx h => (h.below.block (N + 1) n2).trans t2
  refine wp_region_sf (by kernel_rfl) [fun v _ => v = .agg #[.int .i64 an, .int .i64 al, .int .i64 az, .string af, .string at'], fun v _ => v = .agg #[.int .i64 bn, .int .i64 bl, .int .i64 bz, .string bf, .string bt], fun v _ => v = .int .i64 p,
    fun v _ => v = .pointer (some ⟨N, 0, none⟩), fun v _ => v = .int .i64 an, fun v _ => v = .pointer (some ⟨N + 1, 0, none⟩), fun v _ => v = .int .i64 bn, fun v _ => v = .int .i64 cn, TwoAt p cn, fun v _ => v = .int .i64 (orI p cn), fun v _ => v = .int .i64 (orI p cn)] (by kernel_rfl) (by kernel_rfl) (fun _ W => Gr w1 W) (fun W W' => Below W.heap.size W W') ?_ ?_ ⟨?_, ?_, ?_, ?_, ?_, ?_, ?_, ?_, ?_, ?_, ?_, trivial⟩ ?_
  · intro i v W W' hf ht
    match i, hf with
    | 0, hf => exact hf
    | 1, hf => exact hf
    | 2, hf => exact hf
    | 3, hf => exact hf
    | 4, hf => exact hf
    | 5, hf => exact hf
    | 6, hf => exact hf
    | 7, hf => exact hf
    | 8, hf => exact TwoAt.below hf ht
    | 9, hf => exact hf
    | 10, hf => exact hf
    | n + 11, _ => trivial
  · intro L _
    exact Gr.drew w1
  · intro ρ wx L hρ hL hd hl hI
    have e2 : ρ (.tmp 2) = .pointer (some ⟨N, 0, none⟩) := hρ.tmp 2 (by decide +kernel)
    have h := cA wx hI
    have k0 := Lib.cell_of_heap h 0
    have k1 := Lib.cell_of_heap h 1
    have k2 := Lib.cell_of_heap h 2
    have k3 := Lib.cell_of_heap h 3
    have k4 := Lib.cell_of_heap h 4
    simp at k0 k1 k2 k3 k4
    refine f_val (v := .agg #[.int .i64 an, .int .i64 al, .int .i64 az, .string af, .string at']) ?_ rfl hI (Below.refl _ _)
    simp [execOp, go_sem, e2, k0, k1, k2, k3, k4]
  · intro ρ wx L hρ hL hd hl hI
    have e3 : ρ (.tmp 3) = .pointer (some ⟨N + 1, 0, none⟩) := hρ.tmp 3 (by decide +kernel)
    have h := cB wx hI
    have k0 := Lib.cell_of_heap h 0
    have k1 := Lib.cell_of_heap h 1
    have k2 := Lib.cell_of_heap h 2
    have k3 := Lib.cell_of_heap h 3
    have k4 := Lib.cell_of_heap h 4
    simp at k0 k1 k2 k3 k4
    refine f_val (v := .agg #[.int .i64 bn, .int .i64 bl, .int .i64 bz, .string bf, .string bt]) ?_ rfl hI (Below.refl _ _)
    simp [execOp, go_sem, e3, k0, k1, k2, k3, k4]
  · intro ρ wx L hρ hL hd hl hI
    have e5 : ρ (.tmp 5) = .agg #[.int .i64 an, .int .i64 al, .int .i64 az, .string af, .string at'] := hl 0 (by decide +kernel) 5 rfl
    have e6 : ρ (.tmp 6) = .agg #[.int .i64 bn, .int .i64 bl, .int .i64 bz, .string bf, .string bt] := hl 1 (by decide +kernel) 6 rfl
    refine f_call (f := 49) (args := #[.agg #[.int .i64 an, .int .i64 al, .int .i64 az, .string af, .string at'], .agg #[.int .i64 bn, .int .i64 bl, .int .i64 bz, .string bf, .string bt]]) (by simp [execOp, resolve, invoke, hρ.func, go_sem, e5, e6]) ?_
    refine (hp wx).mono ?_
    rintro e w6 ⟨rfl, os, rfl⟩
    exact ⟨_, rfl, rfl, hI.grow os, grow_below _ _⟩
  · intro ρ wx L hρ hL hd hl hI
    have e2 : ρ (.tmp 2) = .pointer (some ⟨N, 0, none⟩) := hρ.tmp 2 (by decide +kernel)
    refine f_val (v := .pointer (some ⟨N, 0, none⟩)) ?_ rfl hI (Below.refl _ _)
    simp [execOp, go_sem, e2]
  · intro ρ wx L hρ hL hd hl hI
    have e8 : ρ (.tmp 8) = .pointer (some ⟨N, 0, none⟩) := hl 3 (by decide +kernel) 8 rfl
    have k0 := Lib.cell_of_heap (cA wx hI) 0
    simp at k0
    refine f_val (v := .int .i64 an) ?_ rfl hI (Below.refl _ _)
    simp [execOp, go_sem, e8, k0]
  · intro ρ wx L hρ hL hd hl hI
    have e3 : ρ (.tmp 3) = .pointer (some ⟨N + 1, 0, none⟩) := hρ.tmp 3 (by decide +kernel)
    refine f_val (v := .pointer (some ⟨N + 1, 0, none⟩)) ?_ rfl hI (Below.refl _ _)
    simp [execOp, go_sem, e3]
  · intro ρ wx L hρ hL hd hl hI
    have e10 : ρ (.tmp 10) = .pointer (some ⟨N + 1, 0, none⟩) := hl 5 (by decide +kernel) 10 rfl
    have k0 := Lib.cell_of_heap (cB wx hI) 0
    simp at k0
    refine f_val (v := .int .i64 bn) ?_ rfl hI (Below.refl _ _)
    simp [execOp, go_sem, e10, k0]
  · intro ρ wx L hρ hL hd hl hI
    have e9 : ρ (.tmp 9) = .int .i64 an := hl 4 (by decide +kernel) 9 rfl
    have e11 : ρ (.tmp 11) = .int .i64 bn := hl 6 (by decide +kernel) 11 rfl
    refine f_call (f := 50) (args := #[.int .i64 an, .int .i64 bn]) (by simp [execOp, resolve, invoke, hρ.func, go_sem, e9, e11]) ?_
    refine (hn wx).mono ?_
    rintro e w6 ⟨rfl, rfl⟩
    exact ⟨_, rfl, rfl, hI, Below.refl _ _⟩
  · intro ρ wx L hρ hL hd hl hI
    have e7 : ρ (.tmp 7) = .int .i64 p := hl 2 (by decide +kernel) 7 rfl
    have e12 : ρ (.tmp 12) = .int .i64 cn := hl 7 (by decide +kernel) 12 rfl
    refine f_new (v := .slice (some ⟨wx.heap.size, 0, none⟩) 2 2) (w' := wx.alloc (.cells #[.int .i64 p, .int .i64 cn] 3)) ?_ ⟨wx.heap.size, rfl, new_cell _ _ _ rfl rfl, new_cell _ _ _ rfl rfl, by simp⟩ ?_ ((Below.refl _ _).alloc (Nat.le_refl _) _)
    · simp [execOp, go_sem, e7, e12]
    · rw [Sort.alloc_eq_grow]
      exact hI.grow _
  · intro ρ wx L hρ hL hd hl hI
    obtain ⟨b, e13, h0, h1, _⟩ := hl 8 (by decide +kernel) 13 rfl
    refine f_call (f := 48) (args := #[.slice (some ⟨b, 0, none⟩) 2 2]) (by simp [execOp, resolve, invoke, hρ.func, go_sem, e13]) ?_
    refine (or_two wx b p cn h0 h1).mono ?_
    rintro e w6 ⟨rfl, rfl⟩
    exact ⟨_, rfl, rfl, hI, Below.refl _ _⟩
  · intro ρ wx L hρ hL hd hl hI
    have e14 : ρ (.tmp 14) = .int .i64 (orI p cn) := hl 9 (by decide +kernel) 14 rfl
    refine f_val (v := .int .i64 (orI p cn)) ?_ rfl hI (Below.refl _ _)
    simp [execOp, go_sem, e14]
  · intro aa wz L hdef hsz hlk hL hI hf
    have ha := act_of_like hdef hsz hlk [5, 6, 7, 8, 9, 10, 11, 12, 13, 14, 4] 15 rfl (by decide +kernel)
    have e4 : aa.tmps.getD 4 undef = .int .i64 (orI p cn) := hf 10 _ 4 rfl rfl
    simp only [putAll, List.foldl_cons, List.foldl_nil, e4] at ha
    generalize aa.tmps.getD 5 undef = v5 at ha
    generalize aa.tmps.getD 6 undef = v6 at ha
    generalize aa.tmps.getD 7 undef = v7 at ha
    generalize aa.tmps.getD 8 undef = v8 at ha
    generalize aa.tmps.getD 9 undef = v9 at ha
    generalize aa.tmps.getD 10 undef = v10 at ha
    generalize aa.tmps.getD 11 undef = v11 at ha
    generalize aa.tmps.getD 12 undef = v12 at ha
    generalize aa.tmps.getD 13 undef = v13 at ha
    generalize aa.tmps.getD 14 undef = v14 at ha
    simp [Act.put] at ha
    subst ha
    clear hdef hsz hlk hf e4
    go_wp2
    go_ret
    rw [HC.out]
    refine ⟨rfl, ?_⟩
    obtain ⟨q, os, rfl⟩ := hI
    rw [G0.out]
    exact ⟨q, _, Sort.grow_grow (w.drewN q) _ os⟩
end Go.Proofs.Ythjimldojdhccaa
