/- The reference gets. -/
import Derived.Test.YtdooedlapoknbaaCacheRefPut
namespace Go.Proofs.Ytdooedlapoknbaa
open Go Go.RowKit Go.Maps

def RGetPost (W : World) (B b room : Nat) (R : List CAct) (f bl : Int) (e : Ending) (W' : World) : Prop :=
  (∃ A x Z, R = A ++ x :: Z ∧ (∀ y ∈ A, ¬ is f bl y) ∧ is f bl x ∧ e = .returned (.tuple #[.slice x.a x.ks.length x.cap, .bool true]) ∧ RCAt W' B b room (A ++ Z ++ [x]) ∧ RF B W W') ∨
    ((∀ y ∈ R, ¬ is f bl y) ∧ e = .returned (.tuple #[.slice none 0 0, .bool false]) ∧ RCAt W' B b room R ∧ RF B W W')

set_option maxRecDepth 100000 in
set_option maxHeartbeats 4000000 in
theorem rget_any (W : World) (B b room : Nat) (R : List CAct) (f bl : Int) (h : RCAt W B b room R) (hn : R.length ≤ 10000) :
    Calls Try.prog 17 #[.pointer (some ⟨b, 0, none⟩), .int .i64 f, .int .i64 bl] W (RGetPost W B b room R f bl) := by
  obtain ⟨i0, hi, hz0, hz1, hz2⟩ := info_parts infoItem
  have HT := Lib.hid (take_any W B b room R f bl h (by omega))
  have hBl := h.lo
  clear h
  unfold RGetPost
  go_enter Try.func17, Try.ntmps17
  go_wp2_with (go_at_call 24; go_must (refine HT.out.mono ?_))
  rintro e w1 hp
  rcases hp with ⟨A, x, Z, hR, hA, hx, rfl, hrc, hrf⟩ | ⟨hno, rfl, hrc, hrf⟩
  · have hlo1 := hrc.lo
    have hlen : (A ++ Z).length ≤ 10000 := by
      rw [hR] at hn
      simp at hn ⊢
      omega
    obtain ⟨L, hL⟩ : ∃ L, L = A ++ Z := ⟨_, rfl⟩
    rw [← hL] at hrc hlen
    have HLL := Lib.hid hL
    clear hL
    obtain ⟨v, hb, hBb, hown⟩ := hrc
    obtain ⟨a, cap, rfl, hc1, hc2⟩ := hown.reads.le
    have hlt : b < w1.heap.size := (Array.getElem?_eq_some_iff.1 hb).1
    have ba := (Below.refl w1.heap.size w1).alloc (Nat.le_refl _) (.cells #[.int .i64 x.f, .int .i64 x.b, .slice x.a x.ks.length x.cap] 57)
    have hloc := heap_alloc_new w1 (.cells #[.int .i64 x.f, .int .i64 x.b, .slice x.a x.ks.length x.cap] 57)
    have hb2 := (ba.block b hlt).trans hb
    have hrf2 := hrf.trans (RF.of_below ba hlo1)
    have hov : (Value.slice a L.length cap).ownBlock ≠ some w1.heap.size := hown.lt (Nat.le_refl _)
    have HO := Lib.hid (hown.below ba)
    have HB := Lib.hid hb2
    have HLoc := Lib.hid hloc
    have HRf := Lib.hid hrf2
    have HA := Lib.hid hA
    have HR := Lib.hid hR
    have HOv := Lib.hid hov
    have hs2 : B ≤ (w1.alloc (.cells #[.int .i64 x.f, .int .i64 x.b, .slice x.a x.ks.length x.cap] 57)).heap.size := Nat.le_trans hlo1 ba.size
    unfold itemV
    clear hb hown hb2 ba hloc hrf hrf2 hA hR hov HT
    go_upto_region 3 with fail
    generalize w1.alloc (.cells #[.int .i64 x.f, .int .i64 x.b, .slice x.a x.ks.length x.cap] 57) = w2 at *
    generalize w1.heap.size = gx at *
    have c1 := Lib.cell_of_heap HB.out 1
    simp at c1
    have hltw : b < w2.heap.size := (Array.getElem?_eq_some_iff.1 HB.out).1
    have y0 := Lib.cell_of_heap HLoc.out 0
    have y1 := Lib.cell_of_heap HLoc.out 1
    have y2 := Lib.cell_of_heap HLoc.out 2
    simp at y0 y1 y2
    have hxlt : gx < w2.heap.size := (Array.getElem?_eq_some_iff.1 HLoc.out).1
    have hbd : Below w2.heap.size w2 (w2.alloc (.cells #[.int .i64 x.f, .int .i64 x.b, .slice x.a x.ks.length x.cap] 57)).drew := ((Below.refl w2.heap.size w2).alloc (Nat.le_refl _) _).drew
    have hnew : (w2.alloc (.cells #[.int .i64 x.f, .int .i64 x.b, .slice x.a x.ks.length x.cap] 57)).drew.heap[w2.heap.size]? = some (.cells (ricell x).toArray 57 (0, 0)) := heap_alloc_new w2 _
    have hod := HO.out.below hbd
    have hbb := (hbd.block b hltw).trans HB.out
    have hxx := (hbd.block gx hxlt).trans HLoc.out
    have HBd := Lib.hid hbd
    have HBB := Lib.hid hbb
    have HXX := Lib.hid hxx
    have hsz : B ≤ (w2.alloc (.cells #[.int .i64 x.f, .int .i64 x.b, .slice x.a x.ks.length x.cap] 57)).drew.heap.size := Nat.le_trans hs2 hbd.size
    clear hbd hbb hxx
    go_region_law (first
      | (refine step_append_at rfl _ _ 41 rfl i0 _ 40 Try.underlying41 hi hz0 hz1 hz2 rfl rfl hod _ 1 (ricell x) rfl hnew rfl (ricells_one [x]) (by unfold maxLen; omega) (by omega) hsz ?_
         intro a9 cap9 w9 how9 hgr9 hbl9
         have hb9 := (hgr9.block b (Array.getElem?_eq_some_iff.1 HBB.out).1 (fun e => hod.other HBB.out (by decide) e.symm)).trans HBB.out
         have x1 := Lib.cell_of_heap hb9 1
         have xf := Lib.frozen_of_heap hb9
         simp at x1
         have hlt9 : b < w9.heap.size := (Array.getElem?_eq_some_iff.1 hb9).1))
    all_goals
      have hx9 := (hgr9.block gx (Array.getElem?_eq_some_iff.1 HXX.out).1 (fun e => HOv.out e.symm)).trans HXX.out
      have hrf9 : RF B W w9 := (HRf.out.trans (RF.of_below HBd.out hs2)).grown hod hgr9 hbl9
      have hrf10 : RF B W (w9.setCell ⟨b, 1, none⟩ (.slice a9 (L.length + 1) cap9)) := RF.set (p := ⟨b, 1, none⟩) hrf9 hBb ⟨_, _, _, hb9, .inl rfl⟩ _
      have hb10 : (w9.setCell ⟨b, 1, none⟩ (.slice a9 (L.length + 1) cap9)).heap[b]? = some (.cells #[.int .i64 (room : Int), .slice a9 (L.length + 1) cap9] 43 (0, 0)) := by
        rw [heap_setCell_same _ b 1 _ _ _ hb9]
        rfl
      have ho10 : OwnAt (w9.setCell ⟨b, 1, none⟩ (.slice a9 (L.length + 1) cap9)) B 57 3 (.slice a9 (L.length + 1) cap9) (L ++ [x]).length (ricells (L ++ [x])) := by
        rw [ricells_append, show (L ++ [x]).length = L.length + 1 by simp]
        refine how9.keep fun g cs hg => (Below.heap_setCell _ _ _ _ ?_).trans hg
        exact cells_ne hg hb9 (by decide)
      have hx10 := (Below.heap_setCell w9 ⟨b, 1, none⟩ (.slice a9 (L.length + 1) cap9) gx (cells_ne hx9 hb9 (by decide))).trans hx9
      have HRc := Lib.hid (show RCAt (w9.setCell ⟨b, 1, none⟩ (.slice a9 (L.length + 1) cap9)) B b room (L ++ [x]) from ⟨_, hb10, hBb, ho10⟩)
      have HRf10 := Lib.hid hrf10
      have HX10 := Lib.hid hx10
      clear hx9 hrf9 hrf10 hb10 ho10 hx10 how9 hgr9 hbl9 hb9 x1 xf hod
      generalize w9.setCell ⟨b, 1, none⟩ (.slice a9 (L.length + 1) cap9) = w10 at *
      have y2 := Lib.cell_of_heap HX10.out 2
      simp at y2
      have hxlt10 : gx < w10.heap.size := (Array.getElem?_eq_some_iff.1 HX10.out).1
      go_wp2
      go_ret2
      exact .inl ⟨A, x, Z, HR.out, HA.out, hx, rfl, by rw [← HLL.out]; exact HRc.out, HRf10.out⟩
  · have hb2 := (Below.refl w1.heap.size w1).alloc (Nat.le_refl _) (.cells #[.int .i64 0, .int .i64 0, .slice none 0 0] 57)
    have HRc := Lib.hid (hrc.below hb2)
    have HRf := Lib.hid (hrf.trans (RF.of_below hb2 hrc.lo))
    have HNo := Lib.hid hno
    unfold noItem
    clear hb2 hrc hrf hno HT
    go_wp2
    go_ret2
    exact .inr ⟨HNo.out, rfl, HRc.out, HRf.out⟩

def DropRRel (W : World) (R : List CAct) (f : Int) (v i : Value) (wr : World) : Prop :=
  ∃ k : Nat, i = .int .i64 (k : Int) ∧ k ≤ R.length ∧ OwnAt wr W.heap.size 57 3 v ((R.take k).filter fun x => !(decide (x.f = f))).length (ricells ((R.take k).filter fun x => !(decide (x.f = f)))) ∧ Below W.heap.size W wr

def RDropPost (W : World) (B b room : Nat) (R : List CAct) (f : Int) (e : Ending) (W' : World) : Prop :=
  e = .returned (.tuple #[]) ∧ RCAt W' B b room (R.filter fun x => !(decide (x.f = f))) ∧ RF B W W'

theorem filter_snoc {R : List CAct} {k : Nat} {x : CAct} (h : R[k]? = some x) (p : CAct → Bool) : (R.take (k + 1)).filter p = (R.take k).filter p ++ if p x then [x] else [] := by
  rw [List.take_add_one, h]
  simp only [Option.toList_some, List.filter_append]
  cases hp : p x <;> simp [hp]

set_option maxRecDepth 100000 in
set_option maxHeartbeats 4000000 in
theorem rdrop_any (W : World) (B b room : Nat) (R : List CAct) (f : Int) (h : RCAt W B b room R) (hn : R.length ≤ 10000) :
    Calls Try.prog 18 #[.pointer (some ⟨b, 0, none⟩), .int .i64 f] W (RDropPost W B b room R f) := by
  obtain ⟨i0, hi, hz0, hz1, hz2⟩ := info_parts infoItem
  have hBl := h.lo
  obtain ⟨v, hb, hBb, hown⟩ := h
  have hlt : b < W.heap.size := (Array.getElem?_eq_some_iff.1 hb).1
  have hrd := hown.reads
  obtain ⟨a, cap, rfl, h1, h2⟩ := hrd.le
  have HB := Lib.hid hb
  have HR := Lib.hid hrd
  have c1 := Lib.cell_of_heap hb 1
  simp at c1
  clear hb hown hrd
  unfold RDropPost
  go_enter Try.func18, Try.ntmps18
  go_wp2
  go_loopw [4, 12] (fun v i wr => DropRRel W R f v i wr) (fun _ i _ => R.length - (intOf i).toNat)
  case atStart => exact ⟨0, rfl, Nat.zero_le _, ⟨by simp [ricells], .inl ⟨rfl, rfl⟩⟩, Below.refl _ _⟩
  case round =>
    obtain ⟨k, rfl, hk, how, hbl⟩ := hrel
    have HBl := Lib.hid hbl
    obtain ⟨a4, cap4, rfl, hc1, hc2⟩ := how.reads.le
    by_cases hkn : k < R.length
    · have hkI : (k : Int) < R.length := by omega
      obtain ⟨x, hx⟩ : ∃ x, R[k]? = some x := ⟨_, List.getElem?_eq_getElem hkn⟩
      obtain ⟨g, off, rfl, hg, e0⟩ := (HR.out.below' hbl).at (flat_cell ricell 3 ricell_len R k x hx 0 (by decide))
      obtain ⟨g1, off1, hge, _, e1⟩ := (HR.out.below' hbl).at (flat_cell ricell 3 ricell_len R k x hx 1 (by decide))
      cases hge
      obtain ⟨g2, off2, hge, _, e2⟩ := (HR.out.below' hbl).at (flat_cell ricell 3 ricell_len R k x hx 2 (by decide))
      cases hge
      simp [← Nat.add_assoc] at e0 e1 e2
      have ba := (Below.refl wr.heap.size wr).alloc (Nat.le_refl _) (.cells #[.int .i64 x.f, .int .i64 x.b, .slice x.a x.ks.length x.cap] 57)
      have hloc := heap_alloc_new wr (.cells #[.int .i64 x.f, .int .i64 x.b, .slice x.a x.ks.length x.cap] 57)
      have hsn := filter_snoc hx (fun x => !(decide (x.f = f)))
      have hle : ((R.take k).filter fun x => !(decide (x.f = f))).length ≤ 10000 := Nat.le_trans (List.length_filter_le _ _) (by rw [List.length_take]; omega)
      have HSn := Lib.hid hsn
      have HO := Lib.hid (how.below ba)
      have HBa := Lib.hid (hbl.trans (ba.mono hbl.size))
      have HLoc := Lib.hid hloc
      have hsW : W.heap.size ≤ wr.heap.size := hbl.size
      obtain ⟨F, hF⟩ : ∃ F, F = (R.take k).filter fun x => !(decide (x.f = f)) := ⟨_, rfl⟩
      rw [← hF] at HSn HO hle
      by_cases hf0 : x.f = f
      · have hsn' : (R.take (k + 1)).filter (fun x => !(decide (x.f = f))) = F := by
          rw [HSn.out]
          simp [hf0]
        subst hf0
        have hne : (x.f != x.f) = false := by simp
        have HS := Lib.hid hsn'
        rw [← hF]
        clear hsn' hsn ba hloc hx how hbl hc1 hc2 hF
        go_wp2
        exact ⟨⟨k + 1, by go_num, by omega, by rw [HS.out]; exact HO.out, HBa.out⟩, by simp [intOf]; omega⟩
      · have hne : (x.f != f) = true := by simp [hf0]
        have hsn' : (R.take (k + 1)).filter (fun x => !(decide (x.f = f))) = F ++ [x] := by
          rw [HSn.out]
          simp [hf0]
        have HS := Lib.hid hsn'
        rw [← hF]
        clear hsn' hsn ba hloc hx how hbl hc1 hc2 hF
        go_upto_region 5 with fail
        generalize wr.alloc (.cells #[.int .i64 x.f, .int .i64 x.b, .slice x.a x.ks.length x.cap] 57) = w5 at *
        generalize wr.heap.size = gx at *
        have y0 := Lib.cell_of_heap HLoc.out 0
        have y1 := Lib.cell_of_heap HLoc.out 1
        have y2 := Lib.cell_of_heap HLoc.out 2
        simp at y0 y1 y2
        have hxlt : gx < w5.heap.size := (Array.getElem?_eq_some_iff.1 HLoc.out).1
        have hnew := heap_alloc_new w5 (.cells #[.int .i64 x.f, .int .i64 x.b, .slice x.a x.ks.length x.cap] 57)
        have HO5 := Lib.hid (HO.out.below ((Below.refl w5.heap.size w5).alloc (Nat.le_refl _) (.cells #[.int .i64 x.f, .int .i64 x.b, .slice x.a x.ks.length x.cap] 57)))
        have hs5 := HBa.out.size
        go_wp2_with (at_builtin; go_must (refine wpList_append_at_own rfl _ _ 41 rfl i0 _ 40 Try.underlying41 hi hz0 hz1 hz2 rfl rfl HO5.out w5.heap.size 1 (ricell x) rfl hnew rfl (ricells_one [x]) ?_ ?_ ?_ ?_))
        · unfold maxLen; omega
        · omega
        · simp; omega
        intro a9 cap9 w9 how9 hgr9 hbl9
        have HO9 := Lib.hid how9
        have HB9 := Lib.hid (HBa.out.trans (((Below.refl w5.heap.size w5).alloc (Nat.le_refl _) (.cells #[.int .i64 x.f, .int .i64 x.b, .slice x.a x.ks.length x.cap] 57)).mono hs5 |>.trans hbl9))
        clear how9 hgr9 hbl9 hnew y0 y1 y2
        go_wp2
        refine ⟨⟨k + 1, by go_num, by omega, ?_, HB9.out⟩, by simp [intOf]; omega⟩
        rw [HS.out, ricells_append, show (F ++ [x]).length = F.length + 1 by simp]
        exact HO9.out
    · obtain rfl : k = R.length := by omega
      rw [List.take_length] at how hc1
      rw [List.take_length]
      have hbr := (hbl.block b hlt).trans HB.out
      have x1 := Lib.cell_of_heap hbr 1
      have xf := Lib.frozen_of_heap hbr
      simp at x1
      have hltr : b < wr.heap.size := (Array.getElem?_eq_some_iff.1 hbr).1
      have HO := Lib.hid how
      have HBr := Lib.hid hbr
      clear how hbl hbr hkn hc1 hc2
      obtain ⟨F, hF⟩ : ∃ F, F = R.filter fun x => !(decide (x.f = f)) := ⟨_, rfl⟩
      rw [← hF] at HO
      rw [← hF]
      have HF := Lib.hid hF
      clear hF
      have hrf : RF B W (wr.setCell ⟨b, 1, none⟩ (.slice a4 F.length cap4)) := RF.set (p := ⟨b, 1, none⟩) (RF.of_below HBl.out hBl) hBb ⟨_, _, _, HBr.out, .inl rfl⟩ _
      have hb10 : (wr.setCell ⟨b, 1, none⟩ (.slice a4 F.length cap4)).heap[b]? = some (.cells #[.int .i64 (room : Int), .slice a4 F.length cap4] 43 (0, 0)) := by
        rw [heap_setCell_same _ b 1 _ _ _ HBr.out]
        rfl
      have ho10 : OwnAt (wr.setCell ⟨b, 1, none⟩ (.slice a4 F.length cap4)) B 57 3 (.slice a4 F.length cap4) F.length (ricells F) :=
        (HO.out.less hBl).keep fun g cs hg => (Below.heap_setCell _ _ _ _ (cells_ne hg HBr.out (by decide))).trans hg
      have HRc := Lib.hid (show RCAt (wr.setCell ⟨b, 1, none⟩ (.slice a4 F.length cap4)) B b room F from ⟨_, hb10, hBb, ho10⟩)
      have HRf := Lib.hid hrf
      clear hrf hb10 ho10
      go_wp2
      exact bodyPost_end (by simp [results, Try.results18]) rfl ⟨rfl, by rw [← HF.out]; exact HRc.out, HRf.out⟩
end Go.Proofs.Ytdooedlapoknbaa
