/- A row of tables of one's own, sorted. -/
import Derived.Test.YthjimldojdhccaaZEditClo
import Derived.Test.YthjimldojdhccaaMga
import Derived.Test.YthjimldojdhccaaZShelfB
namespace Go.Proofs.Ythjimldojdhccaa
open Go Go.RowKit Go.Lib Go.Shelf

theorem flatK_list {α : Type} [Inhabited α] (enc : α → List Value) (k : Nat) (hk0 : 0 < k) (hk : ∀ x, (enc x).length = k) (d : Array α) : (Sort.flatK enc k d).toList = d.toList.flatMap enc := by
  refine List.ext_getElem? fun t => ?_
  have hl := flat_length enc k hk d.toList
  rw [Array.length_toList (xs := d)] at hl
  by_cases ht : t < d.size * k
  · have h1 : t / k < d.size := Nat.div_lt_of_lt_mul (by rw [Nat.mul_comm]; exact ht)
    have h2 : t % k < k := Nat.mod_lt _ hk0
    have hjj : t / k * k + t % k = t := by rw [Nat.mul_comm]; exact Nat.div_add_mod t k
    have h3 := flat_cell enc k hk d.toList (t / k) d[t / k] (by simp [h1]) (t % k) h2
    rw [hjj] at h3
    rw [h3]
    have h4 := Sort.get_flatK enc k d t ht
    have h5 : t < (Sort.flatK enc k d).size := by rw [Sort.size_flatK]; exact ht
    rw [getElem!_pos _ t h5, getElem!_pos d (t / k) h1, getElem!_pos _ (t % k) (by rw [hk]; exact h2)] at h4
    rw [Array.getElem?_toList, Array.getElem?_eq_getElem h5, h4, List.getElem?_eq_getElem]
  · rw [List.getElem?_eq_none (by rw [Array.length_toList, Sort.size_flatK]; omega), List.getElem?_eq_none (by omega)]

theorem putCells_take (F cur : Array Value) (h : F.size ≤ cur.size) : (Sort.putCells id 0 F cur).toList.take F.size = F.toList := by
  refine List.ext_getElem? fun t => ?_
  rw [List.getElem?_take]
  by_cases ht : t < F.size
  · rw [if_pos ht, Array.getElem?_toList, Array.getElem?_toList]
    unfold Sort.putCells
    rw [Array.getElem?_mapIdx, Array.getElem?_eq_getElem (by omega), Array.getElem?_eq_getElem ht]
    simp [ht]
  · rw [if_neg ht, Array.getElem?_toList, Array.getElem?_eq_none (by omega)]

theorem putCells_size (F cur : Array Value) : (Sort.putCells id 0 F cur).size = cur.size := by simp [Sort.putCells]

theorem heap_sorted (w : World) (g n : Nat) (d : Array Tb) (os : Array Obj) {cur : Array Value} {e : TypeId} (h : w.heap[g]? = some (.cells cur e (0, 0))) :
    (sortWorldK Tb.cells 5 w g 0 n d os).heap[g]? = some (.cells (Sort.putCells id 0 (Sort.flatK Tb.cells 5 d) cur) e (0, 0)) := by
  have hg := (Array.getElem?_eq_some_iff.1 h).1
  unfold sortWorldK Sort.putRowK Sort.putRow Sort.mapBlock Sort.grow
  show ((w.heap.modify g _) ++ os)[g]? = _
  rw [Array.getElem?_append_left (by simpa using hg), Array.getElem?_modify, if_pos rfl, h]
  rfl

theorem heap_unsorted (w : World) (g n k : Nat) (d : Array Tb) (os : Array Obj) (hk : k < w.heap.size) (hne : k ≠ g) : (sortWorldK Tb.cells 5 w g 0 n d os).heap[k]? = w.heap[k]? := by
  unfold sortWorldK Sort.putRowK Sort.putRow Sort.mapBlock Sort.grow
  show ((w.heap.modify g _) ++ os)[k]? = _
  rw [Array.getElem?_append_left (by simpa using hk), Array.getElem?_modify, if_neg (fun h => hne h.symm)]

theorem isAggT : ∀ w, (isAgg 45).run Try.prog w = .ok true w := Try.isAgg45
theorem sizeT : ∀ w, (Go.sizeOf 45).run Try.prog w = .ok 5 w := Try.sizeOf45

def SortedPost (w : World) (B : Nat) (v : Value) (l : List Tb) (e : Ending) (w' : World) : Prop :=
  e = .returned (.tuple #[]) ∧ w'.ownsRow B 45 5 v l.length ((srt l).flatMap Tb.cells) ∧ w.grownBy w' v.ownBlock

set_option maxRecDepth 100000 in
theorem sort_rows (w : World) (B : Nat) (v : Value) (l : List Tb) (h : w.ownsRow B 45 5 v l.length (l.flatMap Tb.cells)) (ha : Apart l) (hn : l.length ≤ 1000000) :
    Calls Try.prog 46 #[v, .func (.func 47) #[] #[]] w (SortedPost w B v l) := by
  have hls : (srt l).length = l.length := (srt_perm l).length_eq
  by_cases h0 : l.length = 0
  · have hl : l = [] := List.length_eq_zero_iff.1 h0
    subst hl
    have hs : srt [] = [] := List.length_eq_zero_iff.1 hls
    obtain ⟨p, cap, rfl, _, _⟩ := (ownsRow.reads h).le
    refine (AnyF.slices_SortFunc_none (P := Try.prog) { Try.sortT with } p cap _ w).mono ?_
    rintro e w' ⟨rfl, rfl⟩
    refine ⟨rfl, ?_, ⟨rfl, rfl, rfl, Nat.le_refl _, fun _ _ _ => rfl⟩⟩
    rw [hs]
    exact h
  · have h' := h
    obtain ⟨hlen, ⟨rfl, hz⟩ | ⟨g, cap, cur, rfl, hB, hh, h1, h2, h3, h4⟩⟩ := h
    · exact absurd hz h0
    · have hg := (Array.getElem?_eq_some_iff.1 hh).1
      have hsz : (Sort.flatK Tb.cells 5 l.toArray).size = l.length * 5 := by simp
      have hle : l.length * 5 ≤ cur.size := by rw [h3]; omega
      have hH : Sort.HoldsK Tb.cells 5 w g 0 l.toArray := by
        intro j hj
        rw [hsz] at hj
        rw [Nat.zero_add]
        refine ⟨?_, by simpa using Lib.frozen_of_heap hh j⟩
        rw [Lib.cell_of_heap hh j]
        have e1 := flatK_list Tb.cells 5 (by decide) Tb.cells_length l.toArray
        rw [List.toList_toArray, ← h4] at e1
        have e2 : (Sort.flatK Tb.cells 5 l.toArray).toList[j]? = cur.toList[j]? := by rw [e1, List.getElem?_take, if_pos hj]
        rw [Array.getElem?_toList, Array.getElem?_toList, Array.getElem?_eq_getElem (by omega), Array.getElem?_eq_getElem (by omega)] at e2
        rw [getElem!_pos _ j (by omega), Array.getElem?_eq_getElem (by omega)]
        exact e2.symm
      have hcmp : CmpLays Try.prog 47 #[] Tb.cells 5 cfT g 0 l.toArray.size w := fun m os dk _ x y => sortcmp_any _ x y
      have hc := AnyQ.slices_SortFunc Try.sortT 5 isAggT sizeT Tb.cells Tb.cells_length Tb.cells_one cfT (by rw [tlt_ltOf]; exact tlt_swo) 47 #[] g 0 cap l.toArray w (enters_of Try.func47 (by kernel_rfl) rfl) hcmp hH hg (by simp; omega)
      rw [List.size_toArray] at hc
      refine hc.mono ?_
      rintro e w' ⟨rfl, d', n, os, hp, hs, rfl⟩
      rw [tlt_ltOf] at hs
      obtain ⟨hp1, _, hp2⟩ := hp
      have hp2 : (d'.extract 0 l.length).toList.Perm (l.toArray.extract 0 l.length).toList := hp2
      have hp1 : d'.size = l.length := hp1
      have hp3 : d'.toList.Perm l := by
        have x1 : d'.extract 0 l.length = d' := by rw [← hp1]; exact Array.extract_size
        have x2 : l.toArray.extract 0 l.length = l.toArray := Array.extract_size (xs := l.toArray)
        rw [x1, x2] at hp2
        exact hp2
      have hup : Up d'.toList := by
        unfold Up
        rw [List.pairwise_iff_getElem]
        intro i j hi hj hij
        rw [Array.length_toList] at hi hj
        have h5 := hs i j (Nat.zero_le _) hij (by show j < l.length; omega)
        rw [getElem!_pos _ i hi, getElem!_pos _ j hj] at h5
        simpa using h5
      have hd : d'.toList = srt l := srt_uniq hp3.symm hup ha
      refine ⟨rfl, ⟨?_, .inr ⟨g, cap, _, rfl, hB, heap_sorted w g n d' os hh, h1, h2, ?_, ?_⟩⟩, ?_⟩
      · rw [flat_length _ 5 Tb.cells_length, hls]
      · rw [putCells_size, h3]
      · have := putCells_take (Sort.flatK Tb.cells 5 d') cur (by rw [Sort.size_flatK, hp1]; exact hle)
        rw [Sort.size_flatK, hp1, flatK_list Tb.cells 5 (by decide) Tb.cells_length, hd] at this
        exact this
      · refine ⟨rfl, rfl, rfl, ?_, fun k hk hne => heap_unsorted w g n k d' os hk (fun e => hne (by subst e; rfl))⟩
        unfold sortWorldK Sort.putRowK Sort.putRow Sort.mapBlock Sort.grow
        show w.heap.size ≤ ((w.heap.modify g _) ++ os).size
        simp
end Go.Proofs.Ythjimldojdhccaa
