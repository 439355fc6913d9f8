/- A schema that came in, of small bulk. -/
import Derived.Test.YtopnldebekhelaaDoorZBulk
import Derived.Test.YtopnldebekhelaaDoorZFieldOpen
import Derived.Test.YtopnldebekhelaaDoorZSchPrM
namespace Go.Proofs.YtopnldebekhelaaDoor
open Go Go.RowKit Go.Joins Go.WideShapes Go.ChangeShapes Go.ChangeAt Go.Deep

theorem wtL_mem {p : Tr RuH} : ∀ {ps : List (Tr RuH)}, p ∈ ps → p.wt ≤ wtL ps
  | [], h => by cases h
  | q :: r, h => by
    rw [wtL_cons]
    rcases List.mem_cons.1 h with rfl | h
    · omega
    · have := wtL_mem h
      omega

theorem depth_wt : ∀ (n : Nat) (t : Tr RuH), t.wt ≤ n → t.depth ≤ n
  | 0, t, h => by have := wt_ge t; omega
  | n + 1, .mk h ps, hw => by
    rw [wt_mk] at hw
    rw [Tr.depth_mk]
    have : Tr.depthL ps ≤ n := (Tr.depthL_le ps).2 fun p hp => depth_wt n p (by have := wtL_mem hp; omega)
    omega

theorem wtL_sum (l : List (Tr RuH)) : wtL l = (l.map Tr.wt).sum := by
  induction l with
  | nil => rw [wtL_nil]; rfl
  | cons a r ih => rw [wtL_cons, ih]; simp

section
variable {H : Type} {enc' : TypeId × Value → H} {w : World} {base : Nat} {spare : Nat → Bool} {held : Bool}

theorem trs_readsS {ε : Type} {ec : ε → List Value} {s n cap : Nat} {a : Option Addr} {l : List ε} (et : ε → Tr RuH) (hs : 0 < s) (hec : ∀ e, (ec e).length = s) (h : Reads w s (.slice a n cap) n (l.flatMap ec)) (hat : ∀ e ∈ l, TrAt ruHd (· < w.heap.size) s w (ec e) (et e)) : TrsAt ruHd (· < w.heap.size) s w a 0 (l.map et) := by
  refine TrsAt.of_all _ _ fun i p hi => ?_
  rw [List.getElem?_map] at hi
  obtain ⟨e, he, rfl⟩ := Option.map_eq_some_iff.1 hi
  obtain ⟨b, off, rfl, hb, hc⟩ := rows_at ec s hec h he hs
  refine ⟨b, off, ec e, rfl, hb, hb, hec e, fun j u hj => ?_, hat e (List.mem_of_getElem? he)⟩
  rw [Nat.zero_add]
  exact hc j u hj

theorem reads_rowsS {k n cap : Nat} {a : Option Addr} {xs : List Value} (h : Reads w k (.slice a n cap) n xs) (h1 : n ≤ cap) (h2 : cap ≤ maxLen) : RowsAt (· < w.heap.size) w (.slice a n cap) n xs :=
  ⟨a, cap, rfl, h1, h2, fun j u hj => by
    obtain ⟨b, off, rfl, hb, hc⟩ := h.at hj
    exact ⟨b, off, rfl, hb, hb, hc⟩⟩

instance : Inhabited RuE := ⟨⟨⟨0, ⟨#[]⟩, ⟨#[]⟩⟩, [], none, 0⟩⟩
instance : Inhabited RlE := ⟨⟨⟨#[]⟩, default⟩⟩
instance : Inhabited TyE := ⟨⟨⟨#[]⟩, [], none, 0⟩⟩

theorem rule_bulk : ∀ (N : Nat), N ≤ 1048576 → ∀ (n : Nat) (cs : List Value) (y : DataW H × List MemPlace), bulk y.1 ≤ N → cs.length = 4 → DataW.trod enc' Tryd.prog w base spare held n 42 cs = some y → ∃ e : RuE, cs = e.cells ∧ ruEAt (· < w.heap.size) w e ∧ e.tree.wt ≤ 10 * bulk y.1
  | 0, _, n, cs, y, hB, _, _ => by have := bulk_pos y.1; omega
  | N + 1, hN, n, cs, y, hB, hcs, h => by
    have ih := rule_bulk N (by omega)
    obtain ⟨ys, hl, hb, hp⟩ := open_parts Tryd.underlying42 h
    obtain ⟨_, y0, e0, h0⟩ := hp 0 3 0 1 rfl (by kernel_rfl)
    obtain ⟨_, y1, e1, h1⟩ := hp 1 9 1 1 rfl (by kernel_rfl)
    obtain ⟨_, y2, e2, h2⟩ := hp 2 9 2 1 rfl (by kernel_rfl)
    obtain ⟨_, y3, e3, h3⟩ := hp 3 40 3 1 rfl (by kernel_rfl)
    have hl : ys.length = 4 := hl
    obtain rfl : ys = [y0, y1, y2, y3] := by
      match ys, hl with
      | [z0, z1, z2, z3], _ =>
        simp at e0 e1 e2 e3
        simp [e0, e1, e2, e3]
    simp only [List.map_cons, List.map_nil, Rows.uptoBulkAll] at hb
    clear e0 e1 e2 e3 hp hl
    match cs, hcs with
    | [c0, c1, c2, c3], _ =>
      simp at h0 h1 h2 h3
      obtain ⟨m, rfl, _⟩ := one_i64 Tryd.underlying3 h0
      obtain ⟨s1, rfl, b1⟩ := bulk_text h1
      obtain ⟨s2, rfl, b2⟩ := bulk_text h2
      have p0 := bulk_pos y0.1
      have hlt : bulk y3.1 ≤ N := by unfold bulk at *; omega
      obtain ⟨a, len, cap, l, rfl, hc1, hc2, hln, hq, hr, hsum, hlb⟩ := slice_rows_bulk RuE.cells (ruEAt (· < w.heap.size) w) (fun e => e.tree.wt) Tryd.underlying40 (by kernel_rfl) (by decide) (fun _ => rfl) (fun n cs y hl ht hb => ih n cs y (by omega) hl ht) h3
      subst hln
      refine ⟨⟨⟨m, s1, s2⟩, l.map RuE.tree, a, cap⟩, by simp [RuE.cells], ⟨by simpa using hc1, hc2, trs_readsS RuE.tree (by decide) (fun _ => rfl) hr fun e he => RuE.at (hq e he)⟩, ?_⟩
      unfold RuE.tree
      rw [wt_mk, wtL_sum, List.map_map]
      have hs2 : (l.map (Tr.wt ∘ RuE.tree)).sum + 10 ≤ 10 * bulk y3.1 := hsum
      unfold bulk at *
      show s1.size + s2.size + 8 + (l.map (Tr.wt ∘ RuE.tree)).sum ≤ _
      omega

theorem rel_bulk {n : Nat} {cs : List Value} {y : DataW H × List MemPlace} (hcs : cs.length = 5) (h : DataW.trod enc' Tryd.prog w base spare held n 44 cs = some y) (hB : bulk y.1 ≤ 1048576) : ∃ e : RlE, cs = e.cells ∧ rlEAt (· < w.heap.size) w e ∧ wR e.rl ≤ 10 * bulk y.1 := by
  obtain ⟨ys, hl, hb, hp⟩ := open_parts Tryd.underlying44 h
  obtain ⟨_, y0, e0, h0⟩ := hp 0 9 0 1 rfl (by kernel_rfl)
  obtain ⟨_, y1, e1, h1⟩ := hp 1 42 1 4 rfl (by kernel_rfl)
  have hl : ys.length = 2 := hl
  obtain rfl : ys = [y0, y1] := by
    match ys, hl with
    | [z0, z1], _ =>
      simp at e0 e1
      simp [e0, e1]
  simp only [List.map_cons, List.map_nil, Rows.uptoBulkAll] at hb
  clear e0 e1 hp hl
  match cs, hcs with
  | [c0, c1, c2, c3, c4], _ =>
    simp at h0 h1
    obtain ⟨s, rfl, b0⟩ := bulk_text h0
    have hlt : bulk y1.1 ≤ 1048576 := by unfold bulk at *; omega
    obtain ⟨x, hx, hq, hw⟩ := rule_bulk _ (Nat.le_refl _) _ _ _ hlt rfl h1
    refine ⟨⟨s, x⟩, by rw [hx]; rfl, hq, ?_⟩
    show s.size + x.tree.wt + 4 ≤ _
    unfold bulk at *
    omega

theorem type_bulk {n : Nat} {cs : List Value} {y : DataW H × List MemPlace} (hcs : cs.length = 2) (h : DataW.trod enc' Tryd.prog w base spare held n 39 cs = some y) (hB : bulk y.1 ≤ 1048576) : ∃ e : TyE, cs = e.cells ∧ tyEAt (· < w.heap.size) w e ∧ wY e.ty ≤ 10 * bulk y.1 := by
  obtain ⟨ys, hl, hb, hp⟩ := open_parts Tryd.underlying39 h
  obtain ⟨_, y0, e0, h0⟩ := hp 0 9 0 1 rfl (by kernel_rfl)
  obtain ⟨_, y1, e1, h1⟩ := hp 1 37 1 1 rfl (by kernel_rfl)
  have hl : ys.length = 2 := hl
  obtain rfl : ys = [y0, y1] := by
    match ys, hl with
    | [z0, z1], _ =>
      simp at e0 e1
      simp [e0, e1]
  simp only [List.map_cons, List.map_nil, Rows.uptoBulkAll] at hb
  clear e0 e1 hp hl
  match cs, hcs with
  | [c0, c1], _ =>
    simp at h0 h1
    obtain ⟨s, rfl, b0⟩ := bulk_text h0
    obtain ⟨a, len, cap, l, rfl, hc1, hc2, hln, hq, hr, hsum, _⟩ := slice_rows_bulk RlE.cells (rlEAt (· < w.heap.size) w) (fun e => wR e.rl) Tryd.underlying37 (by kernel_rfl) (by decide) (fun _ => rfl) (fun n cs y hl ht hb => rel_bulk hl ht (by unfold bulk at *; omega)) h1
    subst hln
    refine ⟨⟨s, l.map RlE.rl, a, cap⟩, by simp [TyE.cells, TyE.v], ⟨l, rfl, ?_, hq⟩, ?_⟩
    · show RowsAt _ w (.slice a (l.map RlE.rl).length cap) (l.map RlE.rl).length _
      rw [List.length_map]
      exact reads_rowsS hr hc1 hc2
    · show s.size + 6 + ((l.map RlE.rl).map wR).sum ≤ _
      rw [List.map_map]
      have hs2 : (l.map (wR ∘ RlE.rl)).sum + 10 ≤ 10 * bulk y1.1 := hsum
      unfold bulk at *
      omega

set_option maxRecDepth 100000 in
/-- An argument of type api.Schema. -/
theorem schema_open {r : Reach} {b0 : Nat} {v : Value} {d : DataW H} {p : List MemPlace} (hv : Value.okWide Tryd.prog w r b0 25 v) (h : DataW.Trod enc' Tryd.prog w base spare held 25 v d p) (hB : bulk d ≤ 1048576) :
    ∃ tv S, v = .agg #[tv] ∧ SchAt (· < w.heap.size) w tv S ∧ wS S ≤ 10485760 := by
  have k1 : Tryd.prog.cellsOf 25 = 1 := by kernel_rfl
  obtain ⟨cs, rfl, hsz⟩ := okWide_struct Tryd.underlying25 hv
  obtain ⟨c0, rfl⟩ : ∃ c0, cs = #[c0] := by
    have h1 := hsz.trans k1
    match cs, h1 with
    | ⟨[c0]⟩, _ => exact ⟨c0, rfl⟩
  obtain ⟨fuel, hf⟩ := h
  have hB2 : bulk (d, p).1 ≤ 1048576 := hB
  obtain ⟨ys, hl, hb, hp⟩ := open_parts Tryd.underlying25 hf
  obtain ⟨_, y0, e0, h0⟩ := hp 0 23 0 1 rfl (by kernel_rfl)
  have hl : ys.length = 1 := hl
  obtain rfl : ys = [y0] := by
    match ys, hl with
    | [z0], _ =>
      simp at e0
      simp [e0]
  simp only [List.map_cons, List.map_nil, Rows.uptoBulkAll] at hb
  clear e0 hp hl
  simp [Value.cells] at h0
  obtain ⟨a, len, cap, l, rfl, hc1, hc2, hln, hq, hr, hsum, _⟩ := slice_rows_bulk TyE.cells (tyEAt (· < w.heap.size) w) (fun e => wY e.ty) Tryd.underlying23 (by kernel_rfl) (by decide) (fun _ => rfl) (fun n cs y hl ht hb => type_bulk hl ht (by unfold bulk at *; omega)) h0
  subst hln
  refine ⟨_, l.map TyE.ty, rfl, ⟨l, rfl, ?_, hq⟩, ?_⟩
  · rw [List.length_map]
    exact reads_rowsS hr hc1 hc2
  · show ((l.map TyE.ty).map wY).sum ≤ _
    rw [List.map_map]
    have hs2 : (l.map (wY ∘ TyE.ty)).sum + 10 ≤ 10 * bulk y0.1 := hsum
    unfold bulk at *
    omega
end
end Go.Proofs.YtopnldebekhelaaDoor
