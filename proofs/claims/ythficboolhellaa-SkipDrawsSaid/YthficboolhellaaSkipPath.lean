/- (*skip.List).path. -/
import Derived.Test.YthficboolhellaaSkipM
import Derived.Test.YthficboolhellaaGives
import Derived.Test.YthficboolhellaaSetRow
import Derived.Deep.Upon
namespace Go.Proofs.Ythficboolhellaa
open Go Go.RowKit

def zs8 : List Value := [.pointer none, .pointer none, .pointer none, .pointer none, .pointer none, .pointer none, .pointer none, .pointer none]

theorem arr_info {vs : List Value} (h : vs.length = 8) : (Try.prog.info? 43).map (·.size) = some vs.toArray.size := by
  rw [List.size_toArray, h]
  kernel_rfl

theorem arr_size {zs vs : List Value} (h : zs.length = 8) (k : vs.length = 8) : zs.toArray.size = vs.toArray.size := by simp [h, k]

theorem arr_set {w : World} {b f : Nat} {vs : List Value} {v : Value} {t : TypeId} (h : w.heap[b]? = some (Obj.cells vs.toArray t (0, 0))) : (w.setCell ⟨b, f, none⟩ v).heap[b]? = some (Obj.cells (vs.set f v).toArray t (0, 0)) := by
  rw [heap_setCell_same _ _ f _ _ _ h]
  simp

theorem arr_one {vs : List Value} (h : ∀ u ∈ vs, u.oneCell' = true) : vs.toArray.all (·.oneCell') = true := by
  rw [List.all_toArray, List.all_eq_true]
  exact h

set_option maxRecDepth 100000 in
set_option maxHeartbeats 4000000 in
theorem path_any (w : World) (L : Nat) (ns A B : List Nat) (key : Nat → ByteArray) (ht : Nat → Nat) (h : SkN w L ns key ht) (hns : ns = A ++ B) (P : ByteArray → Bool) (hA : ∀ x ∈ A, P (key x) = true) (hB : ∀ x ∈ B, P (key x) = false)
    (cf : FuncId) (cp : Array Value) (hask : Asks w P cf cp) :
    Calls Try.prog 22 #[.pointer (some ⟨L, 0, none⟩), .func (.func cf) #[] cp] w (PathPost w L A ht) := by
  subst hns
  have HS := Lib.hid h
  have HA := Lib.hid hA
  have HB := Lib.hid hB
  have HAsk := Lib.hid hask
  have HG0 := Lib.hid (heap_alloc2_old w (.cells zs8.toArray 43) (.cells zs8.toArray 43))
  have HG1 := Lib.hid (heap_alloc2_new w (.cells zs8.toArray 43) (.cells zs8.toArray 43))
  have HBe := Lib.hid (((Below.refl w.heap.size w).alloc (Nat.le_refl _) (.cells zs8.toArray 43)).alloc (by simp) (.cells zs8.toArray 43))
  clear h hA hB hask
  go_enter Try.func22, Try.ntmps22
  go_wp2
  go_loopw [7, 6] (fun fv av wr => PathRel w L A ht fv av wr) (fun fv _ _ => (intOf fv + 1).toNat)
  case atStart =>
    exact ⟨8, L, zs8, zs8, rfl, Nat.le_refl _, rfl, by simp, ⟨rfl, fun u hu => by simp [zs8] at hu; subst hu; rfl, fun f hf h8 => by omega⟩, rfl, HG0.out, HG1.out, HBe.out⟩
  case round =>
    obtain ⟨g, x, vs, zs, rfl, hg8, rfl, hx, hvs, hzs, h0, h1, hb⟩ := hrel
    have HSr := Lib.hid (HS.out.below hb)
    have HVs := Lib.hid hvs
    have HX := Lib.hid hx
    have HBw := Lib.hid hb
    have H0 := Lib.hid h0
    have H1 := Lib.hid h1
    have HZs := Lib.hid hzs
    clear hvs hx hb h0 h1 hzs
    cases g with
    | zero =>
      have hI : ¬ (0 : Int) ≤ ((0 : Nat) : Int) - 1 := by omega
      have HRo := Lib.hid (setRow_heap wr w.heap.size _ vs.toArray _ _ H0.out)
      have HBe := Lib.hid (Below.setRow HBw.out (g := w.heap.size) (Nat.le_refl _) vs.toArray)
      go_wp2_with (first
        | (refine wpList_load_row rfl 43 _ rfl (w.heap.size + 1) rfl _ vs.toArray _ _ H1.out Try.underlying43 rfl (arr_info HVs.out.1) ?_)
        | (refine wpList_store_row rfl 43 _ _ rfl w.heap.size vs.toArray rfl rfl _ _ H0.out (arr_info HVs.out.1) (arr_size HZs.out HVs.out.1) (arr_one HVs.out.2.1) ?_))
      exact bodyPost_ret (results_cell_row rfl _ _ w.heap.size _ _ _ _ rfl HRo.out Try.underlying43 rfl (arr_info HVs.out.1)) rfl ⟨_, rfl, HVs.out, HBe.out⟩
    | succ f =>
      have hI : (0 : Int) ≤ ((f + 1 : Nat) : Int) - 1 := by omega
      have hw : ((f + 1 : Nat) : Int) - 1 = (f : Int) := by omega
      rw [hw] at hI ⊢
      go_wp2
      go_loop [6] (fun av => PathIn L A B ht f av) (fun av => (fl A ht f).length - (L :: fl (A ++ B) ht f).idxOf (blockOf av))
      case atStart =>
        obtain ⟨i, h1, h2⟩ := fl_start (B := B) (fl_down HX.out)
        exact ⟨i, x, rfl, h1, h2⟩
      case round =>
        obtain ⟨i, y, rfl, hy, hi⟩ := hrel
        have hym := fl_sub (List.mem_of_getElem? hy)
        have hyt := HSr.out.thaw hym
        have hyl := HSr.out.lt hym
        have hc := HSr.out.chain f (by omega) i y hy
        have hlt8 : (f : Int) < 8 := by omega
        have hnd := fl_nodup (ht := ht) HSr.out.nodup f
        have hflen : (fl (A ++ B) ht f).length = (fl A ht f).length + (fl B ht f).length := by rw [fl_append, List.length_append]
        have hlast : i = (fl A ht f).length → y = lastP L (fl A ht f) := fun he => by
          have := lastP_at L (fl A ht f) (fl B ht f)
          rw [← fl_append, ← he, hy] at this
          injection this
        cases hq : (fl (A ++ B) ht f)[i]? with
        | none =>
          rw [hq] at hc
          have hie : i = (fl A ht f).length := by
            have := List.getElem?_eq_none_iff.1 hq
            omega
          unfold ptrO at hc
          have HV2 := Lib.hid (pathV_set HVs.out (show f < 8 by omega))
          have HB2 := Lib.hid (HBw.out.setCell (p := ⟨w.heap.size + 1, f, none⟩) (by simp) (.pointer (some ⟨y, 0, none⟩)))
          have HS1 := Lib.hid (arr_set (v := .pointer (some ⟨y, 0, none⟩)) (f := f) H1.out)
          have HL2 := Lib.hid (lastP_mem L (fl A ht f))
          have HY2 := Lib.hid (hlast hie)
          have c1 : wr.cell? ⟨w.heap.size + 1, f, none⟩ = vs[f]? := by rw [Lib.cell_of_heap H1.out f]; simp
          have c2 := Lib.frozen_of_heap H1.out f
          obtain ⟨v0, hv0⟩ : ∃ v0, vs[f]? = some v0 := ⟨vs[f]'(by rw [HVs.out.1]; omega), List.getElem?_eq_getElem _⟩
          rw [hv0] at c1
          clear hlast hflen hq hy hnd hym hv0 hie
          go_wp2
          exact ⟨⟨f, y, _, zs, rfl, by omega, rfl, by rw [HY2.out]; exact HL2.out, by rw [← HY2.out] at HV2; exact HV2.out, HZs.out, (heap_setCell_other _ ⟨w.heap.size + 1, f, none⟩ w.heap.size _ (by simp)).trans H0.out, HS1.out, HB2.out⟩, by simp [intOf]⟩
        | some z =>
          rw [hq] at hc
          have hzm : z ∈ fl (A ++ B) ht f := List.mem_of_getElem? hq
          have hzn := (fl_mem.1 hzm).1
          have hzl := HSr.out.lt (List.mem_cons_of_mem L hzn)
          have hzt := HSr.out.thaw (List.mem_cons_of_mem L hzn)
          have hzk := HSr.out.key z hzn
          unfold ptrO at hc
          by_cases hil : i < (fl A ht f).length
          · have hzA : z ∈ fl A ht f := by
              rw [fl_append, List.getElem?_append_left hil] at hq
              exact List.mem_of_getElem? hq
            have hP := HA.out z (fl_mem.1 hzA).1
            have hcall := HAsk.out.call (key z) wr HBw.out
            rw [hP] at hcall
            have HCall := Lib.hid hcall
            have HQ := Lib.hid hq
            have HY := Lib.hid hy
            have HNd := Lib.hid hnd
            clear hcall hP hzA hzm hlast hflen hq hy hnd hzn hym
            go_wp2_with fail
            rw [HAsk.out.enter]
            refine HCall.out.mono ?_
            rintro e w6 ⟨rfl, rfl⟩
            go_wp2
            refine ⟨⟨i + 1, z, rfl, by rw [List.getElem?_cons_succ]; exact HQ.out, hil⟩, ?_⟩
            have e1 := idx_of HNd.out HY.out
            have e2 := idx_of HNd.out (show (L :: fl (A ++ B) ht f)[i + 1]? = some z by rw [List.getElem?_cons_succ]; exact HQ.out)
            simp only [blockOf]
            omega
          · have hie : i = (fl A ht f).length := by omega
            have hzB : z ∈ fl B ht f := by
              rw [fl_append, List.getElem?_append_right (by omega)] at hq
              exact List.mem_of_getElem? hq
            have hP := HB.out z (fl_mem.1 hzB).1
            have hcall := HAsk.out.call (key z) wr HBw.out
            rw [hP] at hcall
            have HCall := Lib.hid hcall
            have HV2 := Lib.hid (pathV_set HVs.out (show f < 8 by omega))
            have HB2 := Lib.hid (HBw.out.setCell (p := ⟨w.heap.size + 1, f, none⟩) (by simp) (.pointer (some ⟨y, 0, none⟩)))
            have HS1 := Lib.hid (arr_set (v := .pointer (some ⟨y, 0, none⟩)) (f := f) H1.out)
            have HL2 := Lib.hid (lastP_mem L (fl A ht f))
            have HY2 := Lib.hid (hlast hie)
            have c1 : wr.cell? ⟨w.heap.size + 1, f, none⟩ = vs[f]? := by rw [Lib.cell_of_heap H1.out f]; simp
            have c2 := Lib.frozen_of_heap H1.out f
            obtain ⟨v0, hv0⟩ : ∃ v0, vs[f]? = some v0 := ⟨vs[f]'(by rw [HVs.out.1]; omega), List.getElem?_eq_getElem _⟩
            rw [hv0] at c1
            clear hlast hflen hq hy hnd hym hv0 hie hcall hP hzB hzm hzn
            go_wp2_with fail
            rw [HAsk.out.enter]
            refine HCall.out.mono ?_
            rintro e w6 ⟨rfl, rfl⟩
            go_wp2
            exact ⟨⟨f, y, _, zs, rfl, by omega, rfl, by rw [HY2.out]; exact HL2.out, by rw [← HY2.out] at HV2; exact HV2.out, HZs.out, (heap_setCell_other _ ⟨w.heap.size + 1, f, none⟩ w.heap.size _ (by simp)).trans H0.out, HS1.out, HB2.out⟩, by simp [intOf]⟩
end Go.Proofs.Ythficboolhellaa
