import Derived.Test.YtkcaadkamaogbaaDoorIndexRangeMath
import Derived.Test.YtkcaadkamaogbaaDoorTwoIn
import Derived.Deep.DeepCutAuto
namespace Go.Proofs.YtkcaadkamaogbaaDoor
open Go Go.RowKit

def rowP (t : Six) : ByteArray := rowB ⟨#[102]⟩ [t.a, t.b, t.c]
def rowS (t : Six) : ByteArray := rowB ⟨#[114]⟩ [t.d, t.e, t.f]
def rowT (t : Six) : ByteArray := rowB ⟨#[102]⟩ [t.a]

theorem nz_of {l : List ByteArray} (h : ∀ x ∈ l, NZ x.data.toList) : ∀ x ∈ lists l, NZ x := by
  intro x hx
  obtain ⟨y, hy, rfl⟩ := List.mem_map.1 hx
  exact h y hy

structure Windows (p q : Six) : Prop where
  one : withinB (rowP p) (keyF q) = ((p.a.toList == q.a.toList && p.b.toList == q.b.toList) && p.c.toList == q.c.toList)
  two : withinB (rowS p) (keyR q) = ((p.d.toList == q.d.toList && p.e.toList == q.e.toList) && p.f.toList == q.f.toList)
  three : withinB (rowT p) (keyF q) = (p.a.toList == q.a.toList)
  no1 : withinB (rowP p) (keyR q) = false
  no2 : withinB (rowS p) (keyF q) = false
  no3 : withinB (rowT p) (keyR q) = false

theorem beq_dec (a b : ByteArray) : (a.toList == b.toList) = decide (a = b) := by
  rw [Go.ByteArray.toList_eq, Go.ByteArray.toList_eq]
  by_cases h : a = b
  · subst h; simp
  · rw [decide_eq_false h, beq_eq_false_iff_ne]
    intro e
    exact h (ByteArray.ext (Array.toList_inj.1 e))

theorem windows {p q : Six} (hp : p.ok = true) (hq : q.ok = true) : Windows p q := by
  have np := nz_list hp
  have nq := nz_list hq
  have tq := nz_turned hq
  have h3 : ∀ x ∈ lists [p.a, p.b, p.c], NZ x := nz_of (fun x hx => np x (by simp [Six.list] at hx ⊢; rcases hx with h | h | h <;> simp [h]))
  have h4 : ∀ x ∈ lists [p.d, p.e, p.f], NZ x := nz_of (fun x hx => np x (by simp [Six.list] at hx ⊢; rcases hx with h | h | h <;> simp [h]))
  have h5 : ∀ x ∈ lists [p.a], NZ x := nz_of (fun x hx => np x (by simp [Six.list] at hx ⊢; simp [hx]))
  have k1 : ∀ x ∈ lists [q.a, q.b, q.c, q.d, q.e, q.f], NZ x := nz_of nq
  have k2 : ∀ x ∈ lists [q.d, q.e, q.f, q.a, q.b, q.c], NZ x := nz_of tq
  refine ⟨?_, ?_, ?_, ?_, ?_, ?_⟩
  · refine (within_row 102 102 p.a q.a _ _ h3 k1).trans ?_
    simp only [List.cons_prefix_cons, List.nil_prefix, beq_dec]
    by_cases a : p.a = q.a <;> by_cases b : p.b = q.b <;> by_cases c : p.c = q.c <;> simp [a, b, c]
  · refine (within_row 114 114 p.d q.d _ _ h4 k2).trans ?_
    simp only [List.cons_prefix_cons, List.nil_prefix, beq_dec]
    by_cases a : p.d = q.d <;> by_cases b : p.e = q.e <;> by_cases c : p.f = q.f <;> simp [a, b, c]
  · refine (within_row 102 102 p.a q.a _ _ h5 k1).trans ?_
    simp only [List.cons_prefix_cons, List.nil_prefix, beq_dec]
    by_cases a : p.a = q.a <;> simp [a]
  · exact (within_row 102 114 p.a q.d _ _ h3 k2).trans rfl
  · exact (within_row 114 102 p.d q.a _ _ h4 k1).trans rfl
  · exact (within_row 102 114 p.a q.d _ _ h5 k2).trans rfl

theorem rowT_size {t : Six} (h : t.short 200) : t.a.size ≤ 1000000000 := by
  obtain ⟨h1, _⟩ := h
  omega

def unW (r : ByteArray) : ByteArray := withB r

set_option maxRecDepth 100000 in
set_option maxHeartbeats 8000000 in
theorem indexRanges_walk (w : World) (p q : Six) (hm : MaxInt w) : Calls Tryd.prog 5 #[p.val, q.val] w (SaysTrue w) := by
  have up9 : ∀ t : Six, t.short 200 → t.short 1000000000 := fun t ⟨h1, h2, h3, h4, h5, h6⟩ => ⟨by omega, by omega, by omega, by omega, by omega, by omega⟩
  have hcp := fun h w => refcheck_any w p (up9 p h)
  have hcq := fun h w => refcheck_any w q (up9 q h)
  have hky := fun h (hk : q.ok = true) w => keys_yes w q (up9 q h) hk
  have hpo := fun (h : p.short 200) w => point_any w p.a p.b p.c (up9 p h).1 (up9 p h).2.1 (up9 p h).2.2.1
  have hsu := fun (h : p.short 200) w => subject_any w p.d p.e p.f (up9 p h).2.2.2.1 (up9 p h).2.2.2.2.1 (up9 p h).2.2.2.2.2
  have hty := fun (h : p.short 200) w => type_any w p.a (up9 p h).1
  have hwin := fun h1 h2 => windows (p := p) (q := q) h1 h2
  have e1 : rowB ⟨#[102]⟩ [p.a, p.b, p.c] = rowP p := rfl
  have e2 : rowB ⟨#[114]⟩ [p.d, p.e, p.f] = rowS p := rfl
  have e3 : rowB ⟨#[102]⟩ [p.a] = rowT p := rfl
  rw [e1] at hpo
  rw [e2] at hsu
  rw [e3] at hty
  have hvp : p.val = .agg #[.string p.a, .string p.b, .string p.c, .string p.d, .string p.e, .string p.f] := rfl
  have hvq : q.val = .agg #[.string q.a, .string q.b, .string q.c, .string q.d, .string q.e, .string q.f] := rfl
  simp only [hvp, hvq] at hcp hcq hky ⊢
  have HCp := Lib.hid hcp
  have HCq := Lib.hid hcq
  have HKy := Lib.hid hky
  have HPo := Lib.hid hpo
  have HSu := Lib.hid hsu
  have HTy := Lib.hid hty
  have HWn := Lib.hid hwin
  have HI := Lib.hid (TwoIn.start w p q)
  have HM := Lib.hid (hm.below HI.out.1)
  have HUp := Lib.hid up9
  clear hcp hcq hky hpo hsu hty hwin hm up9 e1 e2 e3 hvp hvq
  go_enter Tryd.func5, Tryd.ntmps5
  go_wp2_with (go_at_call 7; go_must (refine (ifixed_any _ HM.out).mono ?_))
  rintro e w1 ⟨rfl, b1⟩
  replace HI := Lib.hid (HI.out.keep b1)
  replace HM := Lib.hid (HM.out.below b1)
  clear b1
  obtain ⟨c0, c1, c2, c3, c4, c5⟩ := six_cells HI.out.2.1
  obtain ⟨d0, d1, d2, d3, d4, d5⟩ := six_cells HI.out.2.2
  have hnew := heap_alloc_new w1 (.cells (scells (p.list ++ q.list)).toArray 27)
  have HFew := Lib.hid (few_any (w1.alloc (.cells (scells (p.list ++ q.list)).toArray 27)) w1.heap.size 2 2 [p, q] rfl (by decide) (by decide) (by simp) (tups_two hnew))
  clear hnew
  go_wp2_with (go_at_call 8; go_must (refine HFew.out.mono ?_))
  rintro e w2 ⟨rfl, b2⟩
  have b12 : Below w1.heap.size w1 w2 := ((Below.refl _ w1).alloc (Nat.le_refl _) _).trans (b2.mono (by simp))
  clear b2 HFew
  replace HI := Lib.hid (HI.out.keep b12)
  replace HM := Lib.hid (HM.out.below b12)
  clear b12
  clear c0 c1 c2 c3 c4 c5 d0 d1 d2 d3 d4 d5
  obtain ⟨c0, c1, c2, c3, c4, c5⟩ := six_cells HI.out.2.1
  obtain ⟨d0, d1, d2, d3, d4, d5⟩ := six_cells HI.out.2.2
  cases hfew : [p, q].all Six.tight with
  | false =>
    go_wp2
    go_ret
    exact ⟨rfl, HI.out.1⟩
  | true =>
    have hsh : p.short 200 ∧ q.short 200 := by
      simp at hfew
      exact ⟨tight_short hfew.1, tight_short hfew.2⟩
    have hcp := HCp.out hsh.1
    have hcq := HCq.out hsh.2
    have HSp := Lib.hid hsh
    clear hsh HCp HCq hfew
    cases hpok : p.ok with
    | false =>
      rw [hpok] at hcp
      unfold checkV at hcp
      have HCP := Lib.hid hcp
      clear hcp
      go_wp2_with (go_at_call 10; go_must (refine (HCP.out _).mono ?_))
      rintro e w3 ⟨rfl, b3⟩
      replace HI := Lib.hid (HI.out.keep b3)
      replace HM := Lib.hid (HM.out.below b3)
      clear b3
      clear c0 c1 c2 c3 c4 c5 d0 d1 d2 d3 d4 d5
      obtain ⟨c0, c1, c2, c3, c4, c5⟩ := six_cells HI.out.2.1
      obtain ⟨d0, d1, d2, d3, d4, d5⟩ := six_cells HI.out.2.2
      go_wp2
      go_ret
      exact ⟨rfl, HI.out.1⟩
    | true =>
      rw [hpok] at hcp
      unfold checkV at hcp
      have HCP := Lib.hid hcp
      clear hcp
      go_wp2_with (go_at_call 10; go_must (refine (HCP.out _).mono ?_))
      rintro e w3 ⟨rfl, b3⟩
      replace HI := Lib.hid (HI.out.keep b3)
      replace HM := Lib.hid (HM.out.below b3)
      clear b3
      clear c0 c1 c2 c3 c4 c5 d0 d1 d2 d3 d4 d5
      obtain ⟨c0, c1, c2, c3, c4, c5⟩ := six_cells HI.out.2.1
      obtain ⟨d0, d1, d2, d3, d4, d5⟩ := six_cells HI.out.2.2
      cases hqok : q.ok with
      | false =>
        rw [hqok] at hcq
        unfold checkV at hcq
        have HCQ := Lib.hid hcq
        clear hcq
        go_wp2_with (go_at_call 10; go_must (refine (HCQ.out _).mono ?_))
        rintro e w4 ⟨rfl, b4⟩
        replace HI := Lib.hid (HI.out.keep b4)
        replace HM := Lib.hid (HM.out.below b4)
        clear b4
        clear c0 c1 c2 c3 c4 c5 d0 d1 d2 d3 d4 d5
        obtain ⟨c0, c1, c2, c3, c4, c5⟩ := six_cells HI.out.2.1
        obtain ⟨d0, d1, d2, d3, d4, d5⟩ := six_cells HI.out.2.2
        go_wp2
        go_ret
        exact ⟨rfl, HI.out.1⟩
      | true =>
        rw [hqok] at hcq
        unfold checkV at hcq
        have HCQ := Lib.hid hcq
        clear hcq
        go_wp2_with (go_at_call 10; go_must (refine (HCQ.out _).mono ?_))
        rintro e w4 ⟨rfl, b4⟩
        replace HI := Lib.hid (HI.out.keep b4)
        replace HM := Lib.hid (HM.out.below b4)
        clear b4
        clear c0 c1 c2 c3 c4 c5 d0 d1 d2 d3 d4 d5
        obtain ⟨c0, c1, c2, c3, c4, c5⟩ := six_cells HI.out.2.1
        obtain ⟨d0, d1, d2, d3, d4, d5⟩ := six_cells HI.out.2.2
        have HW := Lib.hid (HWn.out hpok hqok)
        have HKk := Lib.hid (HKy.out HSp.out.2 hqok)
        have HPP := Lib.hid (HPo.out HSp.out.1)
        have HSS := Lib.hid (HSu.out HSp.out.1)
        have HTT := Lib.hid (HTy.out HSp.out.1)
        clear HWn HKy HPo HSu HTy HSp HCP HCQ hpok hqok HM
        go_wp2_with (go_at_call 9; go_must (refine (HKk.out _).mono ?_))
        rintro e w5 ⟨gk, rfl, two5, b5⟩
        have HTw := Lib.hid two5
        clear two5
        replace HI := Lib.hid (HI.out.keep b5)
        clear b5
        clear c0 c1 c2 c3 c4 c5 d0 d1 d2 d3 d4 d5
        obtain ⟨c0, c1, c2, c3, c4, c5⟩ := six_cells HI.out.2.1
        go_wp2_with (go_at_call 14; go_must (refine (HPP.out _).mono ?_))
        rintro e w6 ⟨rfl, b6⟩
        replace HI := Lib.hid (HI.out.keep b6)
        replace HTw := Lib.hid (HTw.out.keep b6)
        clear b6
        clear c0 c1 c2 c3 c4 c5
        obtain ⟨c0, c1, c2, c3, c4, c5⟩ := six_cells HI.out.2.1
        go_wp2_with (go_at_call 15; go_must (refine (HSS.out _).mono ?_))
        rintro e w7 ⟨rfl, b7⟩
        replace HI := Lib.hid (HI.out.keep b7)
        replace HTw := Lib.hid (HTw.out.keep b7)
        clear b7
        clear c0 c1 c2 c3 c4 c5
        obtain ⟨c0, c1, c2, c3, c4, c5⟩ := six_cells HI.out.2.1
        go_wp2_with (go_at_call 16; go_must (refine (HTT.out _).mono ?_))
        rintro e w8 ⟨rfl, b8⟩
        replace HI := Lib.hid (HI.out.keep b8)
        replace HTw := Lib.hid (HTw.out.keep b8)
        clear b8
        clear c0 c1 c2 c3 c4 c5 HPP HSS HTT HKk
        have hw1 := HW.out.one
        have hw2 := HW.out.two
        have hw3 := HW.out.three
        have hn1 := HW.out.no1
        have hn2 := HW.out.no2
        have hn3 := HW.out.no3
        unfold withinB at hw1 hw2 hw3 hn1 hn2 hn3
        obtain ⟨k0, k1⟩ := HTw.out.cells
        generalize withB (rowP p) = WP at *
        generalize withB (rowS p) = WS at *
        generalize withB (rowT p) = WT at *
        generalize rowP p = RP at *
        generalize rowS p = RS at *
        generalize rowT p = RT at *
        generalize keyF q = KF at *
        generalize keyR q = KR at *
        generalize hea : (p.a.toList == q.a.toList) = ea at *
        generalize heb : (p.b.toList == q.b.toList) = eb at *
        generalize hec : (p.c.toList == q.c.toList) = ec at *
        generalize hed : (p.d.toList == q.d.toList) = ed at *
        generalize hee : (p.e.toList == q.e.toList) = ee at *
        generalize hef : (p.f.toList == q.f.toList) = ef at *
        have HEa := Lib.hid hea
        have HEb := Lib.hid heb
        have HEc := Lib.hid hec
        have HEd := Lib.hid hed
        have HEe := Lib.hid hee
        have HEf := Lib.hid hef
        clear hea heb hec hed hee hef
        go_upto_region 11 with fail
        go_cut [13] (fun s wx => s = .bool ((ea && eb) && ec) ∧ w8 = wx)
        case first => as_aux_lemma =>
          have hww := hw1
          clear hw1 hw2 hw3 hn1 hn2 hn3
          generalize hq : (RP.toList == KF.toList) = q1 at *
          generalize hx : Op.bytesLess RP.toList KF.toList = x1 at *
          generalize hy : Op.bytesLess KF.toList WP.toList = y1 at *
          cases hz : (x1 || q1)
          · go_wp2
            go_meet
            rw [← hww, hz]
            exact ⟨rfl, rfl⟩
          · go_wp2
            go_meet
            rw [← hww, hz]
            exact ⟨rfl, rfl⟩
        case rest =>
        obtain ⟨rfl, rfl⟩ := hcut
        go_upto_region 12 with fail
        go_cut [14] (fun s wx => s = .bool ((ed && ee) && ef) ∧ w8 = wx)
        case first => as_aux_lemma =>
          have hww := hw2
          clear hw1 hw2 hw3 hn1 hn2 hn3
          generalize hq : (RS.toList == KR.toList) = q1 at *
          generalize hx : Op.bytesLess RS.toList KR.toList = x1 at *
          generalize hy : Op.bytesLess KR.toList WS.toList = y1 at *
          cases hz : (x1 || q1)
          · go_wp2
            go_meet
            rw [← hww, hz]
            exact ⟨rfl, rfl⟩
          · go_wp2
            go_meet
            rw [← hww, hz]
            exact ⟨rfl, rfl⟩
        case rest =>
        obtain ⟨rfl, rfl⟩ := hcut
        go_upto_region 13 with fail
        go_cut [15] (fun s wx => s = .bool (ea) ∧ w8 = wx)
        case first => as_aux_lemma =>
          have hww := hw3
          clear hw1 hw2 hw3 hn1 hn2 hn3
          generalize hq : (RT.toList == KF.toList) = q1 at *
          generalize hx : Op.bytesLess RT.toList KF.toList = x1 at *
          generalize hy : Op.bytesLess KF.toList WT.toList = y1 at *
          cases hz : (x1 || q1)
          · go_wp2
            go_meet
            rw [← hww, hz]
            exact ⟨rfl, rfl⟩
          · go_wp2
            go_meet
            rw [← hww, hz]
            exact ⟨rfl, rfl⟩
        case rest =>
        obtain ⟨rfl, rfl⟩ := hcut
        go_upto_region 14 with fail
        go_cut [16] (fun s wx => s = .bool false ∧ w8 = wx)
        case first => as_aux_lemma =>
          generalize hq1 : (RP.toList == KR.toList) = q1 at *
          generalize hq2 : (RS.toList == KF.toList) = q2 at *
          generalize hq3 : (RT.toList == KR.toList) = q3 at *
          generalize hx1 : Op.bytesLess RP.toList KR.toList = x1 at *
          generalize hx2 : Op.bytesLess RS.toList KF.toList = x2 at *
          generalize hx3 : Op.bytesLess RT.toList KR.toList = x3 at *
          generalize hy1 : Op.bytesLess KR.toList WP.toList = y1 at *
          generalize hy2 : Op.bytesLess KF.toList WS.toList = y2 at *
          generalize hy3 : Op.bytesLess KR.toList WT.toList = y3 at *
          have hz1 : ((x1 || q1) = false) ∨ ((x1 || q1) = true ∧ y1 = false) := by revert hn1; cases (x1 || q1) <;> cases y1 <;> simp
          have hz2 : ((x2 || q2) = false) ∨ ((x2 || q2) = true ∧ y2 = false) := by revert hn2; cases (x2 || q2) <;> cases y2 <;> simp
          have hz3 : ((x3 || q3) = false) ∨ ((x3 || q3) = true ∧ y3 = false) := by revert hn3; cases (x3 || q3) <;> cases y3 <;> simp
          clear hn1 hn2 hn3 hw1 hw2 hw3
          rcases hz1 with hz1 | ⟨hz1, rfl⟩ <;> rcases hz2 with hz2 | ⟨hz2, rfl⟩ <;> rcases hz3 with hz3 | ⟨hz3, rfl⟩
          all_goals
            go_wp2
            go_meet
            exact ⟨rfl, rfl⟩
        case rest =>
        obtain ⟨rfl, rfl⟩ := hcut
        obtain ⟨d0, d1, d2, d3, d4, d5⟩ := six_cells HI.out.2.2
        obtain ⟨c0, c1, c2, c3, c4, c5⟩ := six_cells HI.out.2.1
        clear hn1 hn2 hn3 hw1 hw2 hw3
        have hea := HEa.out
        have heb := HEb.out
        have hec := HEc.out
        have hed := HEd.out
        have hee := HEe.out
        have hef := HEf.out
        go_upto_region 15 with fail
        go_cut [4] (fun s wx => s = .bool true ∧ w8 = wx)
        case first => as_aux_lemma =>
          have h1 : ea = false ∨ (ea = true ∧ eb = false) ∨ (ea = true ∧ eb = true ∧ ec = false) ∨ (ea = true ∧ eb = true ∧ ec = true) := by cases ea <;> cases eb <;> cases ec <;> simp
          have h2 : ed = false ∨ (ed = true ∧ ee = false) ∨ (ed = true ∧ ee = true ∧ ef = false) ∨ (ed = true ∧ ee = true ∧ ef = true) := by cases ed <;> cases ee <;> cases ef <;> simp
          rcases h1 with rfl | ⟨rfl, rfl⟩ | ⟨rfl, rfl, rfl⟩ | ⟨rfl, rfl, rfl⟩ <;> rcases h2 with rfl | ⟨rfl, rfl⟩ | ⟨rfl, rfl, rfl⟩ | ⟨rfl, rfl, rfl⟩
          all_goals
            go_wp2
            go_meet
            exact ⟨rfl, rfl⟩
        case rest =>
        obtain ⟨rfl, rfl⟩ := hcut
        go_wp2
        go_ret
        exact ⟨rfl, HI.out.1⟩
end Go.Proofs.YtkcaadkamaogbaaDoor
