/- The names of a map, sorted; List; SyncDir. -/
import Derived.Test.YtbhapbioibhalaaDiskSet
import Derived.Test.YtbhapbioibhalaaShelf
import Derived.Test.YtbhapbioibhalaaShelfB
import Derived.Shelf.SlIter.Nil
import Derived.Shelf.SortM.Plain
import Derived.Shelf.SortM.SortNone
namespace Go.Proofs.Ytbhapbioibhalaa
open Go Go.RowKit Go.Maps Go.Sort Go.Shelf

theorem sortsT (m : Nat) : AnyZ.SortsIn Try.prog Try.sortedT_ren Fence.wide m :=
  ⟨fun blk off cap ss W hH hblk hsz => callsIn_wide.2 (AnyM.slices_Sort_string Try.laysSlM6_f53 blk off cap ss W hH hblk hsz),
   fun p cap W => callsIn_wide.2 (AnyM.slices_Sort_string_none Try.laysSlM6_f53 p cap W)⟩

/-- maps.Keys: a function over the map. -/
theorem keys_any (mb : Option Nat) (W : World) : Calls Try.prog 38 #[.map mb] W fun e w' =>
    e = .returned (.func (.func 54) #[] #[.pointer (some ⟨W.heap.size, 0, none⟩)]) ∧ w' = W.alloc (.cells #[.map mb] 53) :=
  (callsIn_wide (n := 5)).1 (AnyZ.keys_in Try.keysT Fence.wide 5 trivial rfl mb W)

theorem encStr_spell (s : ByteArray) : encStr s.data.toList = .string s := by simp [encStr]

theorem dir_keys {w : World} {b n : Nat} {D : DataW Unit} {l : Dir} (hown : w.ownsMap Try.prog 9 fileR b n D) (hd : IsDir D l) : (l.map fun p => p.1.data.toList).Perm (strKeys D) := by
  obtain ⟨es, hD, hpw, _⟩ := hown.entries strK
  obtain ⟨es', hD', hko⟩ := hown.keysOf
  obtain rfl : es = es' := by rw [hD] at hD'; simpa using hD'
  subst hD
  refine perm_strKeys hpw (fun p hp => by obtain ⟨v, hv⟩ := hko p hp; obtain ⟨x, _, hx, _⟩ := keyOf_str strU hv; exact ⟨x, hx⟩) ?_ (fun x => ?_)
  · refine List.pairwise_map.2 (hd.1.imp fun {p q} h e => ?_)
    have : p.1 = q.1 := Go.WideShapes.bytes_inj e
    rw [this, bl_irrefl] at h
    cases h
  · have h1 := hd.2.1 ⟨x.toArray⟩
    have e1 : sL ⟨x.toArray⟩ = .string x := by simp [sL]
    rw [e1] at h1
    rw [h1, List.mem_map]
    constructor
    · rintro ⟨p, hp, rfl⟩
      have e2 : (⟨p.1.data.toList.toArray⟩ : ByteArray) = p.1 := by simp
      rw [e2, hd.1.fileOf hp]
      rfl
    · intro h
      obtain ⟨g, hg⟩ := Option.isSome_iff_exists.1 h
      exact ⟨_, fileOf_mem hg, by simp⟩

theorem sorted_keys {ss : List (List UInt8)} {l : Dir} (hu : UpD l) (hp : ss.Perm (l.map fun p => p.1.data.toList)) : (ss.mergeSort fun x y => decide (x ≤ y)).map encStr = scells (l.map (·.1)) := by
  have h1 : ss.mergeSort leB = (l.map fun p => p.1.data.toList).mergeSort leB := mergeSort_of_perm hp
  have h2 : (l.map fun p => p.1.data.toList).mergeSort leB = l.map fun p => p.1.data.toList := by
    refine List.mergeSort_of_pairwise (List.pairwise_map.2 (hu.imp fun {p q} h => ?_))
    unfold bl at h
    rw [bytesLess_eq, decide_eq_true_eq] at h
    simp only [leB, decide_eq_true_eq]
    exact List.le_of_lt h
  show (ss.mergeSort leB).map encStr = _
  rw [h1, h2]
  unfold scells
  rw [List.map_map, List.map_map]
  exact List.map_congr_left fun p _ => encStr_spell p.1

def KeysPost (w : World) (l : Dir) (e : Ending) (w' : World) : Prop := ∃ v, e = .returned v ∧ w'.ownsRow w.heap.size 9 1 v l.length (scells (l.map (·.1))) ∧ Below w.heap.size w w'

/-- slices.Sorted over maps.Keys. -/
theorem sorted_any (w : World) (r m : Nat) (l : Dir) (h : MapAt w m l) (hr : w.heap[r]? = some (.cells #[.map (some m)] 53 (0, 0))) (hl : l.length ≤ 1000000) :
    Calls Try.prog 37 #[.func (.func 54) #[] #[.pointer (some ⟨r, 0, none⟩)]] w (KeysPost w l) := by
  obtain ⟨D, hown, hd⟩ := h
  have hsz := hd.2.2.2
  have hseq : SeqGives Fence.wide 2 Try.prog 54 #[.pointer (some ⟨r, 0, none⟩)] encStr (fun ss => ss.Perm (strKeys D)) (size D) w :=
    AnyZ.keys_gives (ρ := Try.keysT_ren) { Try.keysT with } Fence.wide _ trivial rfl (by omega) r m l.length D _ (Array.getElem?_eq_some_iff.1 hr).1 (by unfold World.cell?; rw [hr]; rfl) hown
  have cS := AnyZ.sorted_in Try.sortedT Fence.wide 5 trivial trivial trivial trivial rfl (by omega) (sortsT _) (enters_of Try.func53 (by kernel_rfl) rfl) 54 #[.pointer (some ⟨r, 0, none⟩)] trivial (enters_of Try.func54 (by kernel_rfl) rfl) _ _ (by rw [hsz]; unfold maxLen; omega) (by rw [hsz]; omega) _ hseq
  refine ((callsIn_wide (n := 5)).1 cS).mono ?_
  rintro e w' ⟨v, ss, rfl, hS, hrow, hnil, hb⟩
  have hp := hS.trans (dir_keys hown hd).symm
  have hlen : ss.length = l.length := by have := hp.length_eq; simpa using this
  rw [sorted_keys hd.1 hp, hlen] at hrow
  exact ⟨v, rfl, hrow, hb⟩
end Go.Proofs.Ytbhapbioibhalaa
