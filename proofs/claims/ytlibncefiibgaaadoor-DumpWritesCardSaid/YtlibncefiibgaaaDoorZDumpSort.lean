/- A row of tuples of one's own, sorted; each once. -/
import Derived.Test.YtlibncefiibgaaaDoorZTupleOrd
import Derived.Test.YtlibncefiibgaaaDoorZTupleCmpG
import Derived.Test.YtlibncefiibgaaaDoorZDumpCpt
import Derived.Test.YtlibncefiibgaaaDoorMga
import Derived.Test.YtlibncefiibgaaaDoorZShelfB
namespace Go.Proofs.YtlibncefiibgaaaDoor
open Go Go.RowKit Go.Lib Go.Shelf

theorem flatK_list6 {α : Type} [Inhabited α] (enc : α → List Value) (k : Nat) (hk0 : 0 < k) (hk : ∀ x, (enc x).length = k) (d : Array α) : (Sort.flatK enc k d).toList = d.toList.flatMap enc := by
  refine List.ext_getElem? fun t => ?_
  have hl := flat_length enc k hk d.toList
  rw [Array.length_toList (xs := d)] at hl
  by_cases ht : t < d.size * k
  · have h1 : t / k < d.size := Nat.div_lt_of_lt_mul (by rw [Nat.mul_comm]; exact ht)
    have h2 : t % k < k := Nat.mod_lt _ hk0
    have hjj : t / k * k + t % k = t := by rw [Nat.mul_comm]; exact Nat.div_add_mod t k
    have h3 := flat_cell enc k hk d.toList (t / k) d[t / k] (by simp [h1]) (t % k) h2
    rw [hjj] at h3
    rw [h3]
    have h4 := Sort.get_flatK enc k d t ht
    have h5 : t < (Sort.flatK enc k d).size := by rw [Sort.size_flatK]; exact ht
    rw [getElem!_pos _ t h5, getElem!_pos d (t / k) h1, getElem!_pos _ (t % k) (by rw [hk]; exact h2)] at h4
    rw [Array.getElem?_toList, Array.getElem?_eq_getElem h5, h4, List.getElem?_eq_getElem]
  · rw [List.getElem?_eq_none (by rw [Array.length_toList, Sort.size_flatK]; omega), List.getElem?_eq_none (by omega)]

theorem putCells_take6 (F cur : Array Value) (h : F.size ≤ cur.size) : (Sort.putCells id 0 F cur).toList.take F.size = F.toList := by
  refine List.ext_getElem? fun t => ?_
  rw [List.getElem?_take]
  by_cases ht : t < F.size
  · rw [if_pos ht, Array.getElem?_toList, Array.getElem?_toList]
    unfold Sort.putCells
    rw [Array.getElem?_mapIdx, Array.getElem?_eq_getElem (by omega), Array.getElem?_eq_getElem ht]
    simp [ht]
  · rw [if_neg ht, Array.getElem?_toList, Array.getElem?_eq_none (by omega)]

theorem putCells_size6 (F cur : Array Value) : (Sort.putCells id 0 F cur).size = cur.size := by simp [Sort.putCells]

instance : Inhabited Six := ⟨Six.none⟩
theorem Six.cells_length (t : Six) : t.cells.length = 6 := rfl
theorem Six.cells_one (t : Six) : ∀ v ∈ t.cells, v.oneCell' = true := by
  intro v hv
  simp only [Six.cells, Six.list, scells, List.map_cons, List.map_nil, List.mem_cons, List.not_mem_nil, or_false] at hv
  rcases hv with rfl | rfl | rfl | rfl | rfl | rfl <;> rfl
theorem Six.cells_val (t : Six) : Value.agg t.cells.toArray = t.val := rfl
theorem tcells_flat (l : List Six) : tcells l = l.flatMap Six.cells := rfl

theorem heap_sorted6 (w : World) (g n : Nat) (d : Array Six) (os : Array Obj) {cur : Array Value} {e : TypeId} (h : w.heap[g]? = some (.cells cur e (0, 0))) :
    (sortWorldK Six.cells 6 w g 0 n d os).heap[g]? = some (.cells (Sort.putCells id 0 (Sort.flatK Six.cells 6 d) cur) e (0, 0)) := by
  have hg := (Array.getElem?_eq_some_iff.1 h).1
  unfold sortWorldK Sort.putRowK Sort.putRow Sort.mapBlock Sort.grow
  show ((w.heap.modify g _) ++ os)[g]? = _
  rw [Array.getElem?_append_left (by simpa using hg), Array.getElem?_modify, if_pos rfl, h]
  rfl

theorem heap_unsorted6 (w : World) (g n k : Nat) (d : Array Six) (os : Array Obj) (hk : k < w.heap.size) (hne : k ≠ g) : (sortWorldK Six.cells 6 w g 0 n d os).heap[k]? = w.heap[k]? := by
  unfold sortWorldK Sort.putRowK Sort.putRow Sort.mapBlock Sort.grow
  show ((w.heap.modify g _) ++ os)[k]? = _
  rw [Array.getElem?_append_left (by simpa using hk), Array.getElem?_modify, if_neg (fun h => hne h.symm)]

theorem isAgg6 : ∀ w, (isAgg 37).run Tryd.prog w = .ok true w := Tryd.isAgg37
theorem size6 : ∀ w, (Go.sizeOf 37).run Tryd.prog w = .ok 6 w := Tryd.sizeOf37

def SortedPost6 (w : World) (B : Nat) (v : Value) (l : List Six) (e : Ending) (w' : World) : Prop :=
  e = .returned (.tuple #[]) ∧ w'.ownsRow B 37 6 v (srt6 l).length (tcells (srt6 l)) ∧ w.grownBy w' v.ownBlock

set_option maxRecDepth 100000 in
theorem sort6_any (w : World) (B : Nat) (v : Value) (l : List Six) (h : w.ownsRow B 37 6 v l.length (tcells l)) (hn : l.length ≤ 1000000) :
    Calls Tryd.prog 36 #[v, .func (.func 21) #[] #[]] w (SortedPost6 w B v l) := by
  have hls : (srt6 l).length = l.length := (srt6_perm l).length_eq
  rw [tcells_flat] at h
  by_cases h0 : l.length = 0
  · have hl : l = [] := List.length_eq_zero_iff.1 h0
    subst hl
    have hs : srt6 [] = [] := List.length_eq_zero_iff.1 hls
    obtain ⟨p, cap, rfl, _, _⟩ := (ownsRow.reads h).le
    refine (AnyF.slices_SortFunc_none (P := Tryd.prog) { Tryd.sortT with } p cap _ w).mono ?_
    rintro e w' ⟨rfl, rfl⟩
    refine ⟨rfl, ?_, ⟨rfl, rfl, rfl, Nat.le_refl _, fun _ _ _ => rfl⟩⟩
    rw [hs]
    exact h
  · have h' := h
    obtain ⟨hlen, ⟨rfl, hz⟩ | ⟨g, cap, cur, rfl, hB, hh, h1, h2, h3, h4⟩⟩ := h
    · exact absurd hz h0
    · have hg := (Array.getElem?_eq_some_iff.1 hh).1
      have hsz : (Sort.flatK Six.cells 6 l.toArray).size = l.length * 6 := by simp
      have hle : l.length * 6 ≤ cur.size := by rw [h3]; omega
      have hH : Sort.HoldsK Six.cells 6 w g 0 l.toArray := by
        intro j hj
        rw [hsz] at hj
        rw [Nat.zero_add]
        refine ⟨?_, by simpa using Lib.frozen_of_heap hh j⟩
        rw [Lib.cell_of_heap hh j]
        have e1 := flatK_list6 Six.cells 6 (by decide) Six.cells_length l.toArray
        rw [List.toList_toArray, ← h4] at e1
        have e2 : (Sort.flatK Six.cells 6 l.toArray).toList[j]? = cur.toList[j]? := by rw [e1, List.getElem?_take, if_pos hj]
        rw [Array.getElem?_toList, Array.getElem?_toList, Array.getElem?_eq_getElem (by omega), Array.getElem?_eq_getElem (by omega)] at e2
        rw [getElem!_pos _ j (by omega), Array.getElem?_eq_getElem (by omega)]
        exact e2.symm
      have hcmp : CmpLays Tryd.prog 21 #[] Six.cells 6 cf6 g 0 l.toArray.size w := fun m os dk _ x y => tcmp_grown _ x y
      have hc := AnyQ.slices_SortFunc Tryd.sortT 6 isAgg6 size6 Six.cells Six.cells_length Six.cells_one cf6 (by rw [slt_ltOf]; exact slt_swo) 21 #[] g 0 cap l.toArray w (enters_of Tryd.func21 (by kernel_rfl) rfl) hcmp hH hg (by simp; omega)
      rw [List.size_toArray] at hc
      refine hc.mono ?_
      rintro e w' ⟨rfl, d', n, os, hp, hs, rfl⟩
      rw [slt_ltOf] at hs
      obtain ⟨hp1, _, hp2⟩ := hp
      have hp2 : (d'.extract 0 l.length).toList.Perm (l.toArray.extract 0 l.length).toList := hp2
      have hp1 : d'.size = l.length := hp1
      have hp3 : d'.toList.Perm l := by
        have x1 : d'.extract 0 l.length = d' := by rw [← hp1]; exact Array.extract_size
        have x2 : l.toArray.extract 0 l.length = l.toArray := Array.extract_size (xs := l.toArray)
        rw [x1, x2] at hp2
        exact hp2
      have hup : Up6 d'.toList := by
        unfold Up6
        rw [List.pairwise_iff_getElem]
        intro i j hi hj hij
        rw [Array.length_toList] at hi hj
        have h5 := hs i j (Nat.zero_le _) hij (by show j < l.length; omega)
        rw [getElem!_pos _ i hi, getElem!_pos _ j hj] at h5
        simpa using h5
      have hd : d'.toList = srt6 l := srt6_uniq hp3.symm hup
      refine ⟨rfl, ⟨?_, .inr ⟨g, cap, _, ?_, hB, heap_sorted6 w g n d' os hh, ?_, h2, ?_, ?_⟩⟩, ?_⟩
      · rw [tcells_flat, flat_length _ 6 Six.cells_length]
      · rw [hls]
      · rw [hls]; exact h1
      · rw [putCells_size6, h3]
      · have := putCells_take6 (Sort.flatK Six.cells 6 d') cur (by rw [Sort.size_flatK, hp1]; exact hle)
        rw [Sort.size_flatK, hp1, flatK_list6 Six.cells 6 (by decide) Six.cells_length, hd] at this
        rw [hls]
        exact this
      · refine ⟨rfl, rfl, rfl, ?_, fun k hk hne => heap_unsorted6 w g n k d' os hk (fun e => hne (by subst e; rfl))⟩
        unfold sortWorldK Sort.putRowK Sort.putRow Sort.mapBlock Sort.grow
        show w.heap.size ≤ ((w.heap.modify g _) ++ os).size
        simp

/-- Put in order, each once. -/
noncomputable def once6 (l : List Six) : List Six := ddN (srt6 l) (srt6 l).length

def OncePost (w : World) (B : Nat) (v : Value) (l : List Six) (e : Ending) (w' : World) : Prop :=
  ∃ v', e = .returned v' ∧ w'.ownsRow B 37 6 v' (once6 l).length (tcells (once6 l)) ∧ w.grownBy w' v.ownBlock

set_option maxRecDepth 100000 in
theorem once_any (w : World) (B : Nat) (v : Value) (l : List Six) (h : w.ownsRow B 37 6 v l.length (tcells l)) (hn : l.length ≤ 1000000) :
    Calls Tryd.prog 20 #[v, .func (.func 21) #[] #[]] w (OncePost w B v l) := by
  have HS := Lib.hid (sort6_any w B v l h hn)
  have hls : (srt6 l).length = l.length := (srt6_perm l).length_eq
  have HC := Lib.hid (fun W h => compact_any W B v (srt6 l) h (by rw [hls]; exact hn))
  clear h hls hn
  go_enter Tryd.func20, Tryd.ntmps20
  go_wp2_with (go_at_call 36; go_must (refine HS.out.mono ?_))
  rintro e w1 ⟨rfl, h1, g1⟩
  have HH := Lib.hid h1
  have HG := Lib.hid g1
  clear h1 g1 HS
  go_wp2_with (go_at_call 37; go_must (refine (HC.out _ HH.out).mono ?_))
  rintro e w2 ⟨v', rfl, h2, g2⟩
  have HH2 := Lib.hid h2
  have HG2 := Lib.hid (HG.out.trans g2)
  clear h2 g2 HC HG
  go_wp2
  go_ret
  exact ⟨_, rfl, HH2.out, HG2.out⟩
end Go.Proofs.YtlibncefiibgaaaDoor
