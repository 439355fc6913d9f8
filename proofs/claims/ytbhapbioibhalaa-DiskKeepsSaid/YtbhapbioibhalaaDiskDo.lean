/- An act done to a directory. -/
import Derived.Test.YtbhapbioibhalaaDiskFind
namespace Go.Proofs.Ytbhapbioibhalaa
open Go Go.RowKit Go.Maps

theorem look_run1 {W : World} {m : Nat} {l : Dir} (h : MapAt W m l) {s : ByteArray} (hs : s.size ≤ maxLen) :
    (Instr.lookup 53 (.map (some m)) (.string s) false).run Try.prog W = .ok (fileV (fileOf l s)) W := by
  obtain ⟨D, hown, hd⟩ := h
  obtain ⟨v, ps, hrun, hv⟩ := hown.lookup strK dmapU (zeroFl W) (show fileR (.pointer none) = some (.lit (.bool false), []) from rfl) (sKey hs)
  cases e : fileOf l s with
  | some g =>
    rw [hd.2.2.1 s g e] at hv
    rw [hrun, fileR_inv hv]
    rfl
  | none =>
    have hh : has D (sL s) = false := by rw [hd.2.1, e]; rfl
    rw [atKey_of_not_has hh] at hv
    rw [hrun, fileR_none hv]
    rfl

theorem own_tight {w : World} {b n : Nat} {D : DataW Unit} (h : w.ownsMap Try.prog 9 fileR b n D) : w.ownsMap Try.prog 9 fileR b (size D) D := by
  obtain ⟨es, clock, hb, F, _, rfl⟩ := h
  refine ⟨es, clock, hb, F, ?_, rfl⟩
  have := length_read (P := Try.prog) (k := 9) (R0 := fileR) es
  simp only [size]
  omega

theorem MapAt.del {w' : World} {m n : Nat} {D : DataW Unit} {l : Dir} {s : ByteArray} (h : w'.ownsMap Try.prog 9 fileR m n (D.del (sL s))) (ht : Tidy D) (hd : IsDir D l) : MapAt w' m (delD l s) := by
  have h1 := hd.del ht s
  refine ⟨_, ?_, h1⟩
  have := own_tight h
  rwa [h1.2.2.2] at this
theorem MapAt.put {w' : World} {m n : Nat} {D : DataW Unit} {l : Dir} {s : ByteArray} {g : Nat} (h : w'.ownsMap Try.prog 9 fileR m n (D.put (sL s) (fileD g))) (ht : Tidy D) (hd : IsDir D l) : MapAt w' m (putD l s g) := by
  have h1 := hd.put ht s g
  refine ⟨_, ?_, h1⟩
  have := own_tight h
  rwa [h1.2.2.2] at this

theorem Touch.turned {w w' : World} {m : Nat} (h : w.mapTurned w' m) : Touch w w' [m] := Touch.of_grown h.grown

theorem name_size {s : ByteArray} (h : nameOk s = true) : 1 ≤ s.size ∧ s.size ≤ 32 := by
  unfold nameOk at h
  simp at h
  omega
theorem name_ne {s : ByteArray} (h : nameOk s = true) : s.toList.isEmpty = false := by
  cases e : s.toList with
  | cons a l => rfl
  | nil =>
    rw [Go.ByteArray.toList_eq] at e
    have h1 := name_size h
    have h2 : s.data.toList.length = s.size := Array.length_toList
    rw [e] at h2
    simp at h2
    omega

def DoPost (W : World) (m : Nat) (l : Dir) (e : Ending) (W' : World) : Prop := e = .returned (.tuple #[]) ∧ MapAt W' m l ∧ Touch W W' [m]

set_option maxRecDepth 100000 in
set_option maxHeartbeats 1000000 in
theorem do_any (W : World) (m : Nat) (l : Dir) (a : DAct) (h : MapAt W m l) (ok : okA l a) (hl : l.length ≤ 1000000) :
    Calls Try.prog 56 #[.agg a.cells.toArray, .map (some m)] W (DoPost W m (stepA l a)) := by
  have hm : ∃ es clock, W.heap[m]? = some (.map es clock) := h.heap
  have hmlt : m < W.heap.size := by obtain ⟨es, clock, hm⟩ := hm; exact (Array.getElem?_eq_some_iff.1 hm).1
  have HH := Lib.hid h
  have HL := Lib.hid hl
  clear hm h hl
  cases a with
  | add t g =>
    obtain ⟨D, hown, hd⟩ := HH.out
    have hne := name_ne ok.1
    have hkey := sKey (s := t) (by have := name_size ok.1; unfold maxLen; omega)
    have HD := Lib.hid hd
    have HO := Lib.hid hown
    have HT := Lib.hid (hown.tidy strK)
    have hval : fileR (.pointer (some ⟨g, 0, none⟩)) = some (fileD g, []) := rfl
    clear ok hd hown
    unfold DAct.cells
    go_enter Try.func56, Try.ntmps56
    go_wp2_with (at_mapUpdate; refine wpList_mapUpdate_in _ rfl _ _ _ 53 rfl 9 63 strK dmapU fileR m _ D rfl (HO.out.alloc _) (by have := HL.out; unfold maxLen; omega) _ _ _ rfl rfl hkey (fileD g) [] hval ?_; intro w5 hown5 hturn5)
    go_wp2
    exact bodyPost_end (by simp [results, Try.results56]) rfl ⟨rfl, MapAt.put hown5 HT.out HD.out, (Touch.refl W [m]).alloc _ |>.same (Touch.turned hturn5)⟩
  | mv f t =>
    obtain ⟨okf, okt, g, hg⟩ := ok
    have hlk := look_run1 (W := W.alloc (.cells (DAct.mv f t).cells.toArray 81)) (HH.out.touch ((Touch.refl W []).alloc _) List.not_mem_nil) (s := f) (by have := name_size okf; unfold maxLen; omega)
    rw [hg] at hlk
    obtain ⟨D, hown, hd⟩ := HH.out
    have hnf := name_ne okf
    have hnt := name_ne okt
    have hkf := sKey (s := f) (by have := name_size okf; unfold maxLen; omega)
    have hkey := sKey (s := t) (by have := name_size okt; unfold maxLen; omega)
    have HD := Lib.hid hd
    have HO := Lib.hid hown
    have HT := Lib.hid (hown.tidy strK)
    have hst : stepA l (.mv f t) = putD (delD l f) t g := by show (match fileOf l f with | some g => putD (delD l f) t g | none => delD l f) = _; rw [hg]
    rw [hst]
    have hval : fileR (.pointer (some ⟨g, 0, none⟩)) = some (fileD g, []) := rfl
    have hdl : (delD l f).length ≤ l.length := by have := delD_len hd.1 f; omega
    have HDl := Lib.hid hdl
    clear okf okt hd hown hg hst hdl
    unfold DAct.cells at hlk ⊢
    simp only [fileV] at hlk
    go_enter Try.func56, Try.ntmps56
    go_wp2_with (first | (at_delete; refine wpList_delete_own _ rfl _ _ 53 9 rfl 63 strK dmapU fileR m _ D rfl (HO.out.alloc _) _ _ rfl hkf ?_; intro w5 hown5 hturn5; have hb5 : w5.heap[W.heap.size]? = some (.cells #[.string f, .string t, .pointer none] 81 (0, 0)) := (Touch.turned hturn5).keep (heap_alloc_new W _) (by simp; omega); have e0 := Lib.cell_of_heap hb5 0; have e1 := Lib.cell_of_heap hb5 1; simp at e0 e1; clear hlk hb5) | (at_mapUpdate; refine wpList_mapUpdate_in _ rfl _ _ _ 53 rfl 9 63 strK dmapU fileR m _ (D.del (sL f)) rfl hown5 (by have := HL.out; unfold maxLen; omega) _ _ _ rfl rfl hkey (fileD g) [] hval ?_; intro w6 hown6 hturn6))
    exact bodyPost_end (by simp [results, Try.results56]) rfl ⟨rfl, MapAt.put hown6 (hown5.tidy strK) (HD.out.del HT.out f), ((Touch.refl W [m]).alloc _ |>.same (Touch.turned hturn5)).same (Touch.turned hturn6)⟩
  | rm f =>
    have hlk := look_run1 (W := W.alloc (.cells (DAct.rm f).cells.toArray 81)) (HH.out.touch ((Touch.refl W []).alloc _) List.not_mem_nil) (s := f) (by have := name_size ok; unfold maxLen; omega)
    obtain ⟨D, hown, hd⟩ := HH.out
    have hnf := name_ne ok
    have hkf := sKey (s := f) (by have := name_size ok; unfold maxLen; omega)
    have HD := Lib.hid hd
    have HO := Lib.hid hown
    have HT := Lib.hid (hown.tidy strK)
    clear ok hd hown
    unfold DAct.cells at hlk ⊢
    generalize fileV (fileOf l f) = fv at hlk
    go_enter Try.func56, Try.ntmps56
    go_wp2_with (at_delete; refine wpList_delete_own _ rfl _ _ 53 9 rfl 63 strK dmapU fileR m _ D rfl (HO.out.alloc _) _ _ rfl hkf ?_; intro w5 hown5 hturn5; have hb5 : w5.heap[W.heap.size]? = some (.cells #[.string f, .string ⟨#[]⟩, .pointer none] 81 (0, 0)) := (Touch.turned hturn5).keep (heap_alloc_new W _) (by simp; omega); have e0 := Lib.cell_of_heap hb5 0; have e1 := Lib.cell_of_heap hb5 1; simp at e0 e1; clear hlk hb5)
    exact bodyPost_end (by simp [results, Try.results56]) rfl ⟨rfl, MapAt.del hown5 HT.out HD.out, (Touch.refl W [m]).alloc _ |>.same (Touch.turned hturn5)⟩
end Go.Proofs.Ytbhapbioibhalaa
