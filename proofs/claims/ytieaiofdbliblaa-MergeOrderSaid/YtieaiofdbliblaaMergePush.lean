/- heap.Pop, heap.Push: the heap's own. -/
import Derived.Test.YtieaiofdbliblaaMergePop
namespace Go.Proofs.Ytieaiofdbliblaa
open Go Go.RowKit

variable {G : Nat → Prop}

theorem info_row : (Try.prog.info? 46).map (fun i => (i.zero, i.size, i.bytes)) = some (some (.slice none 0 0), 1, 24) := by kernel_rfl

theorem RowsAt.snoc {w : World} {svs : List Value} {rs : List Row} {v : Value} {l : Row} (h : RowsAt G w svs rs) (hv : StrAt G w v l) : RowsAt G w (svs ++ [v]) (rs ++ [l]) := by
  refine ⟨by simp [h.1], fun i u k hu hk => ?_⟩
  by_cases hi : i < rs.length
  · rw [List.getElem?_append_left (by rw [h.1]; exact hi)] at hu
    rw [List.getElem?_append_left hi] at hk
    exact h.2 i u k hu hk
  · have hi' : i = rs.length := by
      have := (List.getElem?_eq_some_iff.1 hk).1
      simp at this
      omega
    subst hi'
    rw [List.getElem?_append_right (by rw [h.1]; exact Nat.le_refl _)] at hu
    rw [List.getElem?_append_right (Nat.le_refl _)] at hk
    simp [h.1] at hu hk
    subst hu
    subst hk
    exact hv

/-- A row more at the end. -/
theorem push_state {w w2 : World} {B m : Nat} {hv hv2 v : Value} {svs : List Value} {rs : List Row} {l : Row} (h : MS G w B m hv svs rs) (hs : StrAt G w v l) (hl : l ≠ []) (hf : rs.length + 1 ≤ 100000)
    (o2 : w2.ownsRow B 46 1 hv2 (rs.length + 1) (svs ++ [v])) (g2 : w.grownBy w2 hv.ownBlock) :
    MS G (w2.setCell ⟨m, 0, none⟩ hv2) B m hv2 (svs ++ [v]) (rs ++ [l]) ∧ MF B w (w2.setCell ⟨m, 0, none⟩ hv2) ∧ w2.cell? ⟨m, 0, none⟩ = some hv ∧ w2.frozen? ⟨m, 0, none⟩ = false ∧ m < w2.heap.size := by
  have hown : ∀ g, hv.ownBlock = some g → B ≤ g ∧ ∃ cs fz, w.heap[g]? = some (Obj.cells cs 46 fz) := fun g hg => by
    rcases h.own.2 with ⟨h0, _⟩ | ⟨g', cap', cur, hvv, hB, hgg, _⟩
    · rw [h0] at hg
      simp [Value.ownBlock] at hg
    · rw [hvv] at hg
      simp [Value.ownBlock] at hg
      subst hg
      exact ⟨hB, cur, _, hgg⟩
  have hmg : ∀ (g : Nat) (cs : Array Value) (t : TypeId) (fz : Nat × Nat), w.heap[g]? = some (Obj.cells cs t fz) → t ≠ 46 → w2.heap[g]? = some (Obj.cells cs t fz) := fun g cs t fz hg ht => (g2.block g (Array.getElem?_eq_some_iff.1 hg).1 (fun e => by
    obtain ⟨_, cs', fz', hc⟩ := hown g e.symm
    rw [hg] at hc
    injection hc with hc
    injection hc with _ hc _
    exact ht hc)).trans hg
  have hm2 := hmg m _ _ _ h.cell (by decide)
  have hml := (Array.getElem?_eq_some_iff.1 hm2).1
  have hmf : MF B w (w2.setCell ⟨m, 0, none⟩ hv2) := by
    refine ⟨⟨g2.os, g2.tape, g2.output, Nat.le_trans g2.size (by simp), fun k hk => ?_⟩, fun g cs t fz hg h1 h2 => ?_⟩
    · have hbm := h.base
      have hsz := (Array.getElem?_eq_some_iff.1 h.cell).1
      refine (heap_setCell_other _ ⟨m, 0, none⟩ k _ (by show k ≠ m; omega)).trans (g2.block k (by omega) (fun e => ?_))
      have := (hown k e.symm).1
      omega
    · refine (heap_setCell_other _ ⟨m, 0, none⟩ g _ (fun e => ?_)).trans (hmg g cs t fz hg h2)
      have e' : g = m := e
      rw [e', h.cell] at hg
      injection hg with hg
      injection hg with _ hg _
      exact h1 hg.symm
  refine ⟨⟨?_, h.base, ?_, (h.rows.mf hmf).snoc (hs.mf hmf), fun k hk => ?_, by simpa using hf⟩, hmf, by rw [Lib.cell_of_heap hm2 0]; rfl, Lib.frozen_of_heap hm2 0, hml⟩
  · rw [heap_setCell_same _ _ 0 _ _ _ hm2]
    rfl
  · have hln : (rs ++ [l]).length = rs.length + 1 := by simp
    rw [hln]
    refine ownsRow_setCell_other (a := ⟨m, 0, none⟩) o2 (fun e => ?_) _
    rcases o2.2 with ⟨h0, _⟩ | ⟨g', cap', cur, hvv, _, hgg, _⟩
    · rw [h0] at e
      simp [Value.ownBlock] at e
    · rw [hvv] at e
      simp [Value.ownBlock] at e
      rw [e, hm2] at hgg
      injection hgg with hgg
      injection hgg with _ hgg _
      exact absurd hgg (by decide)
  · rcases List.mem_append.1 hk with hk | hk
    · exact h.full k hk
    · simp at hk
      subst hk
      exact hl

theorem assert_row (a : Option Addr) (n cap : Nat) (w : World) : (Instr.typeAssert (.iface 46 (.slice a n cap)) 20 46 true).run Try.prog w = .ok (.tuple #[.slice a n cap, .bool true]) w := by kernel_rfl

set_option maxRecDepth 100000 in
set_option maxHeartbeats 2000000 in
theorem rpush_any (w : World) (B m : Nat) (hv : Value) (svs : List Value) (rs : List Row) (a : Option Addr) (n cap : Nat) (l : Row) (h : MS G w B m hv svs rs) (hs : StrAt G w (.slice a n cap) l) (hl : l ≠ []) (hf : rs.length + 1 ≤ 100000) :
    Calls Try.prog 43 #[.pointer (some ⟨m, 0, none⟩), .iface 46 (.slice a n cap)] w fun e w' => e = .returned (.tuple #[]) ∧ StatePost G w B m (rs ++ [l]) w' := by
  obtain ⟨i0, hi, hz0, hz1, hz2⟩ := info_parts info_row
  have hm0 := h.mcell
  have hmf := Lib.frozen_of_heap h.cell 0
  have hml := (Array.getElem?_eq_some_iff.1 h.cell).1
  obtain ⟨ha, hcap, rfl, hc1, hc2⟩ := (ownsRow.reads h.own).le
  unfold maxLen at hc2
  have HO := Lib.hid h.own
  have HPs := Lib.hid fun w2 hv2 o2 g2 => push_state (w2 := w2) (hv2 := hv2) h hs hl hf o2 g2
  have hB := h.bsize
  have hta := assert_row a n cap w
  clear h hs
  go_enter Try.func43, Try.ntmps43
  go_wp2_with (at_builtin; go_must (refine wpList_append_rows_at (w0 := w) rfl _ _ 43 rfl B 46 i0 _ 1 24 Try.underlying43 hi hz0 hz1 hz2 rfl [.slice a n cap] 1 rfl rfl HO.out rfl rfl ?_ ?_ ?_ hB ?_))
  · intro u hu; simp at hu; subst hu; rfl
  · unfold maxLen; omega
  · omega
  intro v6 w6 o6 g6 b6 _
  obtain ⟨na, ncap, rfl, _, _⟩ := (ownsRow.reads o6).le
  obtain ⟨k1, k2, k3, k4, k5⟩ := HPs.out w6 _ o6 g6
  have HK1 := Lib.hid k1
  have HK2 := Lib.hid k2
  clear o6 g6 b6 k1 k2 hm0 hmf hml
  go_wp2
  exact bodyPost_end (by simp [results, Try.results43]) rfl ⟨rfl, ⟨_, _, HK1.out⟩, HK2.out⟩

/-- What heap.Push leaves. -/
def HPushPost (G : Nat → Prop) (w : World) (B m : Nat) (rs : List Row) (l : Row) (e : Ending) (w' : World) : Prop :=
  e = .returned (.tuple #[]) ∧ ∃ rs' : List Row, rs'.Perm (l :: rs) ∧ HeapFrom rs' 0 rs'.length ∧ StatePost G w B m rs' w'

theorem snoc_up {rs : List Row} {l : Row} (h : HeapFrom rs 0 rs.length) : HeapUp (rs ++ [l]) (rs.length + 1) rs.length := by
  have hh : ∀ i, i < rs.length → hd (rs ++ [l]) i = hd rs i := fun i hi => by
    unfold hd
    rw [List.getElem?_append_left hi]
  refine ⟨fun c c0 hc hne => ?_, fun c c0 hc hp hj => by omega⟩
  unfold lessR
  rw [hh c (by omega), hh _ (by omega)]
  exact h c c0 (by omega) (Nat.zero_le _)

set_option maxRecDepth 100000 in
set_option maxHeartbeats 2000000 in
theorem hpush_any (w : World) (B m : Nat) (hv : Value) (svs : List Value) (rs : List Row) (a : Option Addr) (n cap : Nat) (l : Row) (h : MS G w B m hv svs rs) (hs : StrAt G w (.slice a n cap) l) (hl : l ≠ []) (hf : rs.length + 1 ≤ 100000) (hh : HeapFrom rs 0 rs.length) :
    Calls Try.prog 20 #[.iface 49 (.pointer (some ⟨m, 0, none⟩)), .iface 46 (.slice a n cap)] w (HPushPost G w B m rs l) := by
  have hmp := m_push w m
  have HP := Lib.hid (rpush_any w B m hv svs rs a n cap l h hs hl hf)
  have HH := Lib.hid (up_facts (rs.length + 1) (rs.length + 1) (rs ++ [l]) rs.length (by simp) (by omega) (by omega) (snoc_up hh))
  clear h hs hh
  go_enter Try.func20, Try.ntmps20
  go_wp2_with (go_at_call 43; go_must (refine HP.out.mono ?_))
  rintro e w1 ⟨rfl, ⟨hv1, svs1, h1⟩, f1⟩
  have hml := m_len h1.mcell
  have hln : (rs ++ [l]).length = rs.length + 1 := by simp
  obtain ⟨na, ncap, rfl, _, _⟩ := (ownsRow.reads h1.own).le
  have HL := Lib.hid (rlen_any w1 na (rs ++ [l]).length ncap)
  have HU := Lib.hid (up_any w1 B m _ svs1 (rs ++ [l]) rs.length h1 (by simp))
  have HF1 := Lib.hid f1
  clear hmp h1 f1 HP
  rw [hln] at HL hml
  have hw : ((rs.length + 1 : Nat) : Int) - 1 = (rs.length : Int) := by omega
  have HW := Lib.hid hw
  clear hln hw
  generalize hN : rs.length + 1 = N at *
  have hNI : (N : Int) ≤ 100000 := by omega
  have HN := Lib.hid hN
  clear hN
  go_wp2_with (go_at_call 39; go_must (refine HL.out.mono ?_))
  rintro e w1' ⟨rfl, rfl⟩
  clear hml
  go_wp2_with (go_at_call 22; rw [HW.out]; go_must (refine HU.out.mono ?_))
  rintro e w2 ⟨rfl, ⟨hv2, svs2, h2⟩, f2⟩
  obtain ⟨k1, k2, k3⟩ := HH.out
  have HK1 := Lib.hid k1
  have HK2 := Lib.hid k2
  have HK3 := Lib.hid k3
  have HM := Lib.hid h2
  have HF2 := Lib.hid (HF1.out.trans f2)
  clear h2 f2 k1 k2 k3 HH
  go_wp2
  exact bodyPost_end (by simp [results, Try.results20]) rfl ⟨rfl, _, HK2.out.trans (List.perm_append_singleton ..), by rw [HK1.out]; exact HK3.out, ⟨_, _, HM.out⟩, HF2.out⟩
end Go.Proofs.Ytieaiofdbliblaa
