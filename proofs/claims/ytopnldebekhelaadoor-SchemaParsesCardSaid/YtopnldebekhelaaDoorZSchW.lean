/- The writer: a strings.Builder within a struct. -/
import Derived.Test.YtopnldebekhelaaDoorZSchS
import Derived.Lib.Builder
import Derived.Lib.AppendStr
import Derived.Laws.Externs
namespace Go.Proofs.YtopnldebekhelaaDoor
open Go Go.RowKit

theorem sizeBuilder : (Tryd.prog.info? 61).map (·.size) = some 2 := by kernel_rfl
theorem liesWriter : liesAt Tryd.prog Tryd.prog.depth 63 (4 / Tryd.prog.cellsOf 63) 0 61 1 = true := by kernel_rfl
theorem infoByte : (Tryd.prog.info? 5).map (fun i => (i.zero, i.size, i.bytes)) = some (some (.int .u8 0), 1, 1) := by kernel_rfl

/-- A writer in block b with the bytes l; p: its builder's own address, or none. -/
def WAtP (p : Value) (w : World) (B b : Nat) (l : List UInt8) (d : Int) (bad : Bool) : Prop :=
  B ≤ b ∧ ∃ v, w.heap[b]? = some (.cells #[p, v, .int .i64 d, .bool bad] 63 (0, 0)) ∧ w.ownsRow B 5 1 v l.length (bcells l)
def WAt (w : World) (B b : Nat) (l : List UInt8) (d : Int) (bad : Bool) : Prop := WAtP (.pointer none) w B b l d bad ∨ WAtP (.pointer (some ⟨b, 0, none⟩)) w B b l d bad

theorem WAtP.lt {p : Value} {w : World} {B b : Nat} {l : List UInt8} {d : Int} {bad : Bool} (h : WAtP p w B b l d bad) : b < w.heap.size := by
  obtain ⟨_, v, h, _⟩ := h
  exact (Array.getElem?_eq_some_iff.1 h).1
theorem WAt.lt {w : World} {B b : Nat} {l : List UInt8} {d : Int} {bad : Bool} (h : WAt w B b l d bad) : b < w.heap.size := h.elim (·.lt) (·.lt)

/-- What a writer's calls keep. -/
structure WF (B b : Nat) (w w' : World) : Prop where
  os : w'.os = w.os
  tape : w'.tape = w.tape
  output : w'.output = w.output
  size : w.heap.size ≤ w'.heap.size
  low : ∀ k, k < B → w'.heap[k]? = w.heap[k]?
  typ : ∀ (k : Nat) (cs : Array Value) (e : TypeId) (fz : Nat × Nat), w.heap[k]? = some (.cells cs e fz) → e ≠ 5 → k ≠ b → w'.heap[k]? = some (.cells cs e fz)

theorem WF.refl (B b : Nat) (w : World) : WF B b w w := ⟨rfl, rfl, rfl, Nat.le_refl _, fun _ _ => rfl, fun _ _ _ _ h _ _ => h⟩
theorem WF.trans {B b : Nat} {x y z : World} (h : WF B b x y) (k : WF B b y z) : WF B b x z :=
  ⟨k.os.trans h.os, k.tape.trans h.tape, k.output.trans h.output, Nat.le_trans h.size k.size, fun i hi => (k.low i hi).trans (h.low i hi), fun i cs e fz hi he hn => k.typ i cs e fz (h.typ i cs e fz hi he hn) he hn⟩
theorem WF.below {B b : Nat} {w w' : World} (h : WF B b w w') : Below B w w' := ⟨h.os, h.tape, h.output, h.size, h.low⟩
theorem WF.of_below {B b : Nat} {w w' : World} (h : Below w.heap.size w w') (hB : B ≤ w.heap.size) : WF B b w w' :=
  ⟨h.os, h.tape, h.output, h.size, fun k hk => h.block k (by omega), fun k cs e fz hk _ _ => (h.block k (Array.getElem?_eq_some_iff.1 hk).1).trans hk⟩
theorem WF.set {B b : Nat} {w : World} (hB : B ≤ b) (j : Nat) (u : Value) : WF B b w (w.setCell ⟨b, j, none⟩ u) :=
  ⟨rfl, rfl, rfl, by simp [World.setCell], fun k hk => Below.heap_setCell _ _ _ _ (fun e => by have e : k = b := e; omega), fun k _ _ _ hk _ hn => (Below.heap_setCell _ _ _ _ hn).trans hk⟩

theorem WAtP.set {p : Value} {w : World} {B b : Nat} {l : List UInt8} {d : Int} {bad : Bool} (h : WAtP p w B b l d bad) (q : Value) : WAtP q (w.setCell ⟨b, 0, none⟩ q) B b l d bad := by
  obtain ⟨hB, v, hb, ho⟩ := h
  refine ⟨hB, v, by rw [heap_setCell_same _ b 0 _ _ _ hb]; rfl, owns_cell' ho (owns_other ho hb (by decide)) _ _⟩
theorem WAt.depth {w : World} {B b : Nat} {l : List UInt8} {d : Int} {bad : Bool} (h : WAt w B b l d bad) (d' : Int) : WAt (w.setCell ⟨b, 2, none⟩ (.int .i64 d')) B b l d' bad := by
  rcases h with h | h
  · obtain ⟨hB, v, hb, ho⟩ := h
    exact .inl ⟨hB, v, by rw [heap_setCell_same _ b 2 _ _ _ hb]; rfl, owns_cell' ho (owns_other ho hb (by decide)) _ _⟩
  · obtain ⟨hB, v, hb, ho⟩ := h
    exact .inr ⟨hB, v, by rw [heap_setCell_same _ b 2 _ _ _ hb]; rfl, owns_cell' ho (owns_other ho hb (by decide)) _ _⟩
theorem WAt.bad {w : World} {B b : Nat} {l : List UInt8} {d : Int} {bad : Bool} (h : WAt w B b l d bad) (bad' : Bool) : WAt (w.setCell ⟨b, 3, none⟩ (.bool bad')) B b l d bad' := by
  rcases h with h | h
  · obtain ⟨hB, v, hb, ho⟩ := h
    exact .inl ⟨hB, v, by rw [heap_setCell_same _ b 3 _ _ _ hb]; rfl, owns_cell' ho (owns_other ho hb (by decide)) _ _⟩
  · obtain ⟨hB, v, hb, ho⟩ := h
    exact .inr ⟨hB, v, by rw [heap_setCell_same _ b 3 _ _ _ hb]; rfl, owns_cell' ho (owns_other ho hb (by decide)) _ _⟩
theorem WAt.below {w w' : World} {B b : Nat} {l : List UInt8} {d : Int} {bad : Bool} (h : WAt w B b l d bad) (hb : Below w.heap.size w w') : WAt w' B b l d bad := by
  rcases h with h | h
  · obtain ⟨hB, v, hc, ho⟩ := h
    exact .inl ⟨hB, v, (hb.block b (Array.getElem?_eq_some_iff.1 hc).1).trans hc, owns_below ho hb⟩
  · obtain ⟨hB, v, hc, ho⟩ := h
    exact .inr ⟨hB, v, (hb.block b (Array.getElem?_eq_some_iff.1 hc).1).trans hc, owns_below ho hb⟩
theorem WAt.cells {w : World} {B b : Nat} {l : List UInt8} {d : Int} {bad : Bool} (h : WAt w B b l d bad) : B ≤ b ∧ w.cell? ⟨b, 2, none⟩ = some (.int .i64 d) ∧ w.cell? ⟨b, 3, none⟩ = some (.bool bad) ∧ ∀ j, w.frozen? ⟨b, j, none⟩ = false := by
  rcases h with h | h
  all_goals
    obtain ⟨hB, v, hc, _⟩ := h
    have c2 := Lib.cell_of_heap hc 2
    have c3 := Lib.cell_of_heap hc 3
    simp at c2 c3
    exact ⟨hB, c2, c3, fun j => Lib.frozen_of_heap hc j⟩

set_option maxRecDepth 100000 in
set_option maxHeartbeats 1000000 in
theorem wcheck_used (w : World) (b : Nat) (c0 : w.cell? ⟨b, 0, none⟩ = some (.pointer (some ⟨b, 0, none⟩))) :
    Calls Tryd.prog 48 #[.pointer (some ⟨b, 0, none⟩)] w fun e w' => e = .returned (.tuple #[]) ∧ w = w' := by
  obtain ⟨j, hj, _⟩ := Option.map_eq_some_iff.1 sizeBuilder
  go_enter Tryd.func48, Tryd.ntmps48
  go_wp2
  rw [Lib.run_neq_ptr_same w _ Tryd.underlying59 hj]
  go_wp2
  go_end0
  exact ⟨rfl, rfl⟩

set_option maxRecDepth 100000 in
set_option maxHeartbeats 1000000 in
theorem wcheck_new (w : World) (b : Nat) (c0 : w.cell? ⟨b, 0, none⟩ = some (.pointer none)) (hsh : w.shape? b = some (63, 4)) (hfz : w.frozen? ⟨b, 0, none⟩ = false) :
    Calls Tryd.prog 48 #[.pointer (some ⟨b, 0, none⟩)] w fun e w' => e = .returned (.tuple #[]) ∧ w' = w.setCell ⟨b, 0, none⟩ (.pointer (some ⟨b, 0, none⟩)) := by
  obtain ⟨j, hj, hjs⟩ := Option.map_eq_some_iff.1 sizeBuilder
  go_enter Tryd.func48, Tryd.ntmps48
  go_wp2
  rw [Lib.run_to_unsafe w ⟨b, 0, none⟩ Tryd.underlying59 Tryd.underlying96 hj (by rw [hjs]; decide) hsh (Nat.zero_lt_succ 3)]
  simp only [Result.andThen]
  rw [Oper.upon_value]
  go_wp2
  rw [run_callFunc_extern Tryd.func64 (by kernel_rfl) (by kernel_rfl) (by kernel_rfl) (e := Extern.AbiNoEscape.same) (by kernel_rfl)]
  rw [Lib.run_noEscape]
  simp only [Result.andThen]
  rw [Oper.upon_value]
  go_wp2
  rw [Lib.run_from_unsafe w ⟨b, 0, none⟩ Tryd.underlying96 Tryd.underlying59 hj hsh liesWriter]
  simp only [Result.andThen]
  rw [Oper.upon_value]
  go_wp2
  go_end0
  exact ⟨rfl, rfl⟩

def WcPost (w : World) (B b : Nat) (l : List UInt8) (d : Int) (bad : Bool) (e : Ending) (w' : World) : Prop := e = .returned (.tuple #[]) ∧ WAtP (.pointer (some ⟨b, 0, none⟩)) w' B b l d bad ∧ WF B b w w'

theorem wcheck_any (w : World) (B b : Nat) (l : List UInt8) (d : Int) (bad : Bool) (h : WAt w B b l d bad) :
    Calls Tryd.prog 48 #[.pointer (some ⟨b, 0, none⟩)] w (WcPost w B b l d bad) := by
  rcases h with h | h
  · have hh := h
    obtain ⟨hB, v, hc, ho⟩ := hh
    have c0 := Lib.cell_of_heap hc 0
    simp at c0
    refine (wcheck_new w b c0 (by simp [World.shape?, hc]) (Lib.frozen_of_heap hc 0)).mono ?_
    rintro e w' ⟨rfl, rfl⟩
    exact ⟨rfl, h.set _, WF.set hB _ _⟩
  · have hh := h
    obtain ⟨hB, v, hc, ho⟩ := hh
    have c0 := Lib.cell_of_heap hc 0
    simp at c0
    refine (wcheck_used w b c0).mono ?_
    rintro e w' ⟨rfl, rfl⟩
    exact ⟨rfl, h, WF.refl _ _ _⟩

def WsP (w : World) (B b : Nat) (l : List UInt8) (n : Nat) (d : Int) (bad : Bool) (e : Ending) (w' : World) : Prop := e = .returned (.tuple #[.int .i64 (n : Int), .nilIface]) ∧ WAt w' B b l d bad ∧ WF B b w w'

set_option maxRecDepth 100000 in
set_option maxHeartbeats 1000000 in
theorem wstr_any (w : World) (B b : Nat) (l : List UInt8) (d : Int) (bad : Bool) (s : ByteArray) (h : WAt w B b l d bad) (hlen : l.length + s.size ≤ 1000000000) (hBw : B ≤ w.heap.size) :
    Calls Tryd.prog 26 #[.pointer (some ⟨b, 0, none⟩), .string s] w (WsP w B b (l ++ s.data.toList) s.size d bad) := by
  obtain ⟨i0, hi, hz0, hz1, hz2⟩ := info_parts infoByte
  have HC := Lib.hid (wcheck_any w B b l d bad h)
  clear h
  go_enter Tryd.func26, Tryd.ntmps26
  go_wp2_with (go_at_call 48; go_must (refine HC.out.mono ?_))
  rintro e w1 ⟨rfl, h1, hf1⟩
  obtain ⟨hB, v, hbk, hown⟩ := h1
  have c1 : w1.cell? ⟨b, 1, none⟩ = some v := by rw [Lib.cell_of_heap hbk]; rfl
  have hBw1 : B ≤ w1.heap.size := Nat.le_trans hBw hf1.size
  have Hbk := Lib.hid hbk
  have Hown := Lib.hid hown
  have Hne := Lib.hid (owns_other hown hbk (by decide))
  have HF1 := Lib.hid hf1
  clear hbk hown hf1 HC
  have hblt : b < w1.heap.size := World.block_lt_of_cell? _ _ c1
  go_wp2_with (at_builtin; go_must (refine Lib.wpList_append_own_string _ rfl _ _ 34 9 rfl B 5 i0 Tryd.underlying34 Tryd.underlying9 hi hz0 hz1 hz2 _ _ _ rfl Hown.out s rfl ?_ ?_ hBw1 ?_))
  · unfold maxLen; omega
  · omega
  intro v2 w2 hown2 hg2 _
  have hb2 : w2.heap[b]? = some (.cells #[.pointer (some ⟨b, 0, none⟩), v, .int .i64 d, .bool bad] 63 (0, 0)) := by
    rw [hg2.block b hblt (fun e => Hne.out e.symm)]
    exact Hbk.out
  have d1 : w2.cell? ⟨b, 1, none⟩ = some v := by rw [Lib.cell_of_heap hb2]; rfl
  have f1 : w2.frozen? ⟨b, 1, none⟩ = false := Lib.frozen_of_heap hb2 1
  obtain ⟨a2, cap, rfl⟩ : ∃ a2 cap, v2 = .slice a2 (l.length + s.size) cap := by
    rcases hown2.2 with ⟨hv, h0⟩ | ⟨g, cap, cur, hv, _⟩
    · exact ⟨none, 0, by rw [hv, h0]⟩
    · exact ⟨_, cap, hv⟩
  have hfr : WF B b w w2 := HF1.out.trans ⟨hg2.os, hg2.tape, hg2.output, hg2.size, fun k hk => hg2.block k (by omega) (fun e => by have := (Hown.out.lt k e.symm).1; omega), fun k cs e fz hk he hn => (hg2.block k (Array.getElem?_eq_some_iff.1 hk).1 (fun e2 => owns_other Hown.out hk he e2.symm)).trans hk⟩
  have hl : (l ++ s.data.toList).length = l.length + s.size := by rw [List.length_append, Array.length_toList]; rfl
  have hne2 : (Value.slice a2 (l.length + s.size) cap).ownBlock ≠ some b := owns_other hown2 hb2 (by decide)
  have hfin : WAt (w2.setCell ⟨b, 1, none⟩ (.slice a2 (l.length + s.size) cap)) B b (l ++ s.data.toList) d bad := by
    refine .inr ⟨hB, .slice a2 (l.length + s.size) cap, by rw [heap_setCell_same _ b 1 _ _ _ hb2]; rfl, ?_⟩
    rw [hl, bcells_append]
    exact owns_cell' hown2 hne2 _ _
  have HFin := Lib.hid hfin
  have HFr := Lib.hid (hfr.trans (WF.set hB 1 (.slice a2 (l.length + s.size) cap)))
  clear hb2 hown2 c1 hfin hfr hl hne2
  go_wp2
  go_ret2
  exact ⟨rfl, HFin.out, HFr.out⟩
end Go.Proofs.YtopnldebekhelaaDoor
