/- The parser: on to the next sign. -/
import Derived.Test.YtopnldebekhelaaDoorZSchNext
import Derived.BigRegion
namespace Go.Proofs.YtopnldebekhelaaDoor
open Go Go.RowKit

/-- A parser in block g that stands at the first of the signs T. -/
def PAt (w : World) (g : Nat) (T : List ByteArray) (d : Int) (bad : Bool) : Prop :=
  ∃ R : ByteArray, w.heap[g]? = some (.cells #[.string R, .string (T.headD cNone), .int .i64 d, .bool bad] 82 (0, 0)) ∧ toks R.data.toList = T.tail ∧ R.size ≤ 65536 ∧ (T.headD cNone).size ≤ 65536

theorem PAt.touch {w w' : World} {g : Nat} {T : List ByteArray} {d : Int} {bad : Bool} {l : List Nat} (h : PAt w g T d bad) (ht : Touch w w' l) (hn : g ∉ l) : PAt w' g T d bad := by
  obtain ⟨R, h1, h2⟩ := h
  exact ⟨R, ht.keep h1 hn, h2⟩
theorem PAt.below {w w' : World} {g : Nat} {T : List ByteArray} {d : Int} {bad : Bool} (h : PAt w g T d bad) (hb : Below w.heap.size w w') : PAt w' g T d bad :=
  h.touch (Touch.of_below hb []) (by simp)
theorem PAt.lt {w : World} {g : Nat} {T : List ByteArray} {d : Int} {bad : Bool} (h : PAt w g T d bad) : g < w.heap.size := by
  obtain ⟨R, h1, _⟩ := h
  exact (Array.getElem?_eq_some_iff.1 h1).1

def PPost (w : World) (g : Nat) (T : List ByteArray) (d : Int) (bad : Bool) (v : Value) (e : Ending) (w' : World) : Prop :=
  e = .returned v ∧ PAt w' g T d bad ∧ Touch w w' [g]

theorem touch_two {w0 w w' : World} {g : Nat} (h : Below w0.heap.size w0 w) (u v : Value) (i j : Nat) (hw : w' = ((w.setCell ⟨g, i, none⟩ u).setCell ⟨g, j, none⟩ v).drew) : Touch w0 w' [g] := by
  subst hw
  exact (((Touch.of_below h [g]).setCell (.inl (by simp)) _).setCell (.inl (by simp)) _).drew

theorem toks_next (R : ByteArray) : ∃ n : Nat, n = tlen (trimL R.data.toList) ∧ n ≤ (trimL R.data.toList).length ∧ tk ((trimL R.data.toList).take n) = (toks R.data.toList).headD cNone ∧ toks ((trimL R.data.toList).drop n) = (toks R.data.toList).tail :=
  ⟨_, rfl, tlen_le _, (toks_head _).symm, (toks_tail _).symm⟩

set_option maxRecDepth 100000 in
set_option maxHeartbeats 2000000 in
theorem next_any (w : World) (g : Nat) (T : List ByteArray) (d : Int) (bad : Bool) (h : PAt w g T d bad) :
    Calls Tryd.prog 41 #[.pointer (some ⟨g, 0, none⟩)] w (PPost w g T.tail d bad (.tuple #[])) := by
  obtain ⟨R, hg, hR, hRs, hss⟩ := h
  obtain ⟨n, hn, hnl, hsg, hrs⟩ := toks_next R
  obtain ⟨S, hS⟩ : ∃ S, S = tk (trimL R.data.toList) := ⟨_, rfl⟩
  have hSd : S.data.toList = trimL R.data.toList := by rw [hS]; rfl
  have hSs : S.size = (trimL R.data.toList).length := by rw [hS, tk_size]
  have hSR : S.size ≤ 65536 := by
    have := trimL_le R.data.toList
    have h2 : R.data.toList.length = R.size := Array.length_toList
    omega
  have HP1 := Lib.hid (triml_any w R)
  rw [← hS] at HP1
  have hx1 : S.extract 0 n = (toks R.data.toList).headD cNone := by rw [ext_tk, hSd, List.drop_zero, hsg]
  have hx2 : S.extract n S.size = tk ((trimL R.data.toList).drop n) := by
    rw [ext_tk, hSd, List.take_of_length_le (by omega)]
  rw [hR] at hx1 hrs
  have hnS : n ≤ S.size := by omega
  have hsz1 : (T.tail.headD cNone).size ≤ 65536 := by rw [← hx1, ByteArray.size_extract]; omega
  have hsz2 : (tk ((trimL R.data.toList).drop n)).size ≤ 65536 := by rw [tk_size, List.length_drop]; omega
  obtain ⟨sg, hsgE⟩ : ∃ sg, sg = T.tail.headD cNone := ⟨_, rfl⟩
  obtain ⟨rs, hrsE⟩ : ∃ rs, rs = tk ((trimL R.data.toList).drop n) := ⟨_, rfl⟩
  have HSg := Lib.hid hsgE
  rw [← hsgE] at hx1 hsz1
  rw [← hrsE] at hx2 hsz2
  replace hrs : toks rs.data.toList = T.tail.tail := by rw [hrsE, tk_data]; exact hrs
  have HX1 := Lib.hid hx1
  have HX2 := Lib.hid hx2
  have HG := Lib.hid hg
  have HRs := Lib.hid hrs
  have HSd := Lib.hid hSd
  rw [← hSd] at hn
  have HN := Lib.hid hn
  have HS0 := Lib.hid hSs
  clear hS hx1 hx2 hrs hSd hR hsg hSs hnl hn hsgE hrsE
  have b0 := Lib.cell_of_heap hg 0
  simp at b0
  clear hg
  go_enter Tryd.func41, Tryd.ntmps41
  go_wp2_with (go_at_call 59; go_must (refine HP1.out.mono ?_))
  rintro e w1 ⟨rfl, b1⟩
  have HB1 := Lib.hid b1
  have HP2 := Lib.hid (nlen_any w1 S (by omega))
  clear HP1 b1
  go_wp2_with (go_at_call 60; go_must (refine HP2.out.mono ?_))
  rintro e w2 ⟨rfl, b2⟩
  have HB2 := Lib.hid (HB1.out.trans (b2.mono HB1.out.size))
  have HP3 := Lib.hid (prefix_any w2 S ⟨#[45, 62]⟩)
  clear HP2 b2 HB1
  go_wp2_with (go_at_call 16; go_must (refine HP3.out.mono ?_))
  rintro e w3 ⟨rfl, rfl⟩
  clear HP3
  have hgw := (HB2.out.block g (Array.getElem?_eq_some_iff.1 HG.out).1).trans HG.out
  have c0 := Lib.cell_of_heap hgw 0
  have c1 := Lib.cell_of_heap hgw 1
  have fz := Lib.frozen_of_heap hgw
  simp at c0 c1
  have HGW := Lib.hid hgw
  clear hgw
  have fin : ∀ k, PPost w g T.tail d bad (.tuple #[]) (.returned (.tuple #[])) (((w2.setCell ⟨g, 1, none⟩ (.string sg)).setCell ⟨g, 0, none⟩ (.string rs)).drewN k) := by
    intro k
    refine ⟨rfl, ⟨rs, ?_, HRs.out, hsz2, by rw [← HSg.out]; exact hsz1⟩, (((Touch.of_below HB2.out [g]).setCell (.inl (by simp)) _).setCell (.inl (by simp)) _).drewN k⟩
    show ((w2.setCell ⟨g, 1, none⟩ (.string sg)).setCell ⟨g, 0, none⟩ (.string rs)).heap[g]? = _
    rw [heap_setCell_same _ g 0 _ _ _ (heap_setCell_same _ g 1 _ _ _ HGW.out), ← HSg.out]
    simp
  have HFin := Lib.hid fin
  clear fin
  cases ha : arrowB S.data.toList with
  | true =>
    have hp : Lib.hasPrefix S.data.toList (⟨#[45, 62]⟩ : ByteArray).data.toList = true := ha
    have h2 : n = 2 := by rw [HN.out]; unfold tlen; rw [if_pos ha]
    subst h2
    have HA := Lib.hid hp
    clear ha hp
    rw [HA.out]
    have h2S : (2 : Int) ≤ S.size := by omega
    have HX2' : S.extract 2 S.size = _ := HX2.out
    have HX1' : S.extract 0 2 = _ := HX1.out
    go_wp2
    go_region
    go_wp2
    exact bodyPost_end (by simp [results, Tryd.results41]) rfl (HFin.out 1)
  | false =>
    have hp : Lib.hasPrefix S.data.toList (⟨#[45, 62]⟩ : ByteArray).data.toList = false := ha
    have HA := Lib.hid hp
    have h3 : n = if nlen S.data.toList = 0 ∧ S.data.toList ≠ [] then 1 else nlen S.data.toList := by
      have := HN.out
      unfold tlen at this
      rwa [if_neg (by rw [ha]; decide)] at this
    have hl : S.data.toList.length = S.size := Array.length_toList
    clear ha hp
    rw [HA.out]
    by_cases hz : nlen S.data.toList = 0
    · rw [hz] at h3 ⊢
      by_cases h0 : S.size = 0
      · have hnil : S.data.toList = [] := List.eq_nil_of_length_eq_zero (by omega)
        rw [if_neg (fun h => h.2 hnil)] at h3
        have he : S.toList.isEmpty = true := by rw [Lib.toList_data, hnil]; rfl
        subst h3
        have h0S : (0 : Int) ≤ S.size := by omega
        have e2 : rs = S := by rw [← HX2.out]; simp
        have e1 : sg = ByteArray.empty := by rw [← HX1.out]; simp
        subst e1
        subst e2
        clear hnil hl hz h0
        go_wp2
        go_region
        go_wp2
        exact bodyPost_end (by simp [results, Tryd.results41]) rfl (HFin.out 1)
      · rw [if_pos ⟨rfl, fun h => h0 (by rw [h] at hl; simpa using hl.symm)⟩] at h3
        subst h3
        have he : S.toList.isEmpty = false := by
          rw [stremp]
          exact decide_eq_false (fun h => h0 (by rw [h]; rfl))
        have h1S : (1 : Int) ≤ S.size := by omega
        have HX2' : S.extract 1 S.size = _ := HX2.out
        have HX1' : S.extract 0 1 = _ := HX1.out
        clear hl hz
        go_wp2
        go_region
        go_wp2
        exact bodyPost_end (by simp [results, Tryd.results41]) rfl (HFin.out 1)
    · rw [if_neg (fun h => hz h.1)] at h3
      rw [← h3] at hz ⊢
      have hzI : ((n : Int) == 0) = false := by simp; omega
      have hnI : (n : Int) ≤ S.size := by omega
      have h0I : (0 : Int) ≤ n := by omega
      have HX2' : S.extract n S.size = _ := HX2.out
      have HX1' : S.extract 0 n = _ := HX1.out
      clear hl hz h3
      go_wp2
      go_region
      go_wp2
      exact bodyPost_end (by simp [results, Tryd.results41]) rfl (HFin.out 1)

theorem headD_len {T : List ByteArray} (h : T.headD cNone ≠ cNone) : T ≠ [] := fun e => h (by rw [e]; rfl)

theorem PAt.endB {w : World} {g : Nat} {T : List ByteArray} {d : Int} {bad : Bool} (h : PAt w g T d bad) : ∃ R : ByteArray, w.heap[g]? = some (.cells #[.string R, .string (T.headD cNone), .int .i64 d, .bool bad] 82 (0, 0)) ∧ (T.headD cNone).size ≤ 65536 := by
  obtain ⟨R, h1, _, _, h2⟩ := h
  exact ⟨R, h1, h2⟩

set_option maxRecDepth 100000 in
set_option maxHeartbeats 1000000 in
theorem take_any (w : World) (g : Nat) (T : List ByteArray) (d : Int) (bad : Bool) (s : ByteArray) (h : PAt w g T d bad) :
    Calls Tryd.prog 43 #[.pointer (some ⟨g, 0, none⟩), .string s] w (PPost w g (if T.headD cNone = s then T.tail else T) d bad (.bool (decide (T.headD cNone = s)))) := by
  obtain ⟨R, hg, _⟩ := h.endB
  have HP := Lib.hid (next_any w g T d bad h)
  have HH := Lib.hid h
  obtain ⟨sg, hsg⟩ : ∃ sg, T.headD cNone = sg := ⟨_, rfl⟩
  rw [hsg] at hg ⊢
  clear hsg h
  have b1 := Lib.cell_of_heap hg 1
  simp at b1
  clear hg
  have he : (sg.toList == s.toList) = decide (sg = s) := by
    rw [Lib.toList_data s, streq, tk_of]
  have HE := Lib.hid he
  clear he
  by_cases hs : sg = s
  · rw [if_pos hs, decide_eq_true hs]
    rw [decide_eq_true hs] at HE
    go_enter Tryd.func43, Tryd.ntmps43
    have he := HE.out
    go_wp2_with (go_at_call 41; go_must (refine HP.out.mono ?_))
    rintro e w1 ⟨rfl, p1, t1⟩
    go_wp2
    go_ret
    exact ⟨rfl, p1, t1⟩
  · rw [if_neg hs, decide_eq_false hs]
    rw [decide_eq_false hs] at HE
    go_enter Tryd.func43, Tryd.ntmps43
    have he := HE.out
    go_wp2
    go_ret
    exact ⟨rfl, HH.out, Touch.refl _ _⟩

set_option maxRecDepth 100000 in
set_option maxHeartbeats 1000000 in
theorem ends_any (w : World) (g : Nat) (T : List ByteArray) (d : Int) (bad : Bool) (h : PAt w g T d bad) :
    Calls Tryd.prog 42 #[.pointer (some ⟨g, 0, none⟩)] w (PPost w g T.tail d bad (.bool (decide (T.tail.headD cNone = cNone)))) := by
  obtain ⟨U, hU⟩ : ∃ U, T.tail = U := ⟨_, rfl⟩
  have hP := next_any w g T d bad h
  rw [hU] at hP ⊢
  clear h hU
  have he : (U.headD cNone).toList.isEmpty = decide (U.headD cNone = cNone) := stremp _
  have HP := Lib.hid hP
  obtain ⟨sg, hsg⟩ : ∃ sg, U.headD cNone = sg := ⟨_, rfl⟩
  rw [hsg] at he ⊢
  have HS := Lib.hid hsg
  have HE := Lib.hid he
  clear he hsg hP
  go_enter Tryd.func42, Tryd.ntmps42
  go_wp2_with (go_at_call 41; go_must (refine HP.out.mono ?_))
  rintro e w1 ⟨rfl, p1, t1⟩
  have HP1 := Lib.hid p1
  obtain ⟨R, hg, _⟩ := p1.endB
  rw [HS.out] at hg
  clear p1 HP
  have b1 := Lib.cell_of_heap hg 1
  simp at b1
  clear hg
  go_wp2
  go_ret
  rw [HE.out]
  exact ⟨rfl, HP1.out, t1⟩
end Go.Proofs.YtopnldebekhelaaDoor
