/- The reference's Check of any version. -/
import Derived.Test.YthjimldojdhccaaEditRef
namespace Go.Proofs.Ythjimldojdhccaa
open Go Go.RowKit Go.Lib

theorem ok_ref {next : Int} {l : List Tb} {k : Nat} {t : Tb} (hal : (l.take k).all (fun u => mayT u next) = true) (hm : mayT t next = true) (hd : ∀ u ∈ l.take k, u.num ≠ t.num) :
    okTab next (l.take k) t = match (l.take k).getLast? with | none => true | some u => refFol u t := by
  have hf : ((l.take k).any fun u => u.num == t.num) = false := by
    rw [List.any_eq_false]
    intro u hu e
    exact hd u hu (by simpa using e)
  unfold okTab
  rw [hf, hm]
  cases hl : (l.take k).getLast? with
  | none => rfl
  | some u =>
    have hu : u ∈ l.take k := List.mem_of_getLast? hl
    simp only [Bool.not_false, Bool.true_and]
    exact fol_ref (hd u hu) (List.all_eq_true.1 hal u hu) hm

theorem ok_may {next : Int} {pre : List Tb} {t : Tb} (h : mayT t next = false) : okTab next pre t = false := by
  unfold okTab
  rw [h]
  simp
theorem ok_dup {next : Int} {pre : List Tb} {t u : Tb} (hu : u ∈ pre) (h : u.num = t.num) : okTab next pre t = false := by
  unfold okTab
  have : (pre.any fun u => u.num == t.num) = true := by
    rw [List.any_eq_true]
    exact ⟨u, hu, by simp [h]⟩
  rw [this]
  simp

def RcRel (W1 : World) (next : Int) (l : List Tb) (iv : Value) (wr : World) : Prop :=
  ∃ k : Nat, iv = .int .i64 (k : Int) ∧ k ≤ l.length ∧ goodTabs next [] l = goodTabs next (l.take k) (l.drop k) ∧ (l.take k).all (fun u => mayT u next) = true ∧ Below W1.heap.size W1 wr
def RcIn (W1 : World) (l : List Tb) (x : Int) (iv : Value) (wr : World) : Prop :=
  ∃ j : Nat, iv = .int .i64 (j : Int) ∧ j ≤ l.length ∧ (∀ u ∈ l.take j, u.num ≠ x) ∧ Below W1.heap.size W1 wr

set_option maxRecDepth 100000 in
set_option maxHeartbeats 4000000 in
theorem refchk_any (w : World) (v : Ver) (a1 : Option Addr) (n1 c1 : Nat) (h1 : TRows w (.slice a1 n1 c1) v.tabs) (hn : v.tabs.length ≤ 1000000) :
    Calls Try.prog 35 #[vv v a1 n1 c1] w (GivesInt w (chk v)) := by
  have hh : headOk v = (decide (v.floor ≤ v.head) && decide (1 ≤ v.next) && decide (v.next < 4611686018427387904) && decide (0 ≤ v.log) && decide (v.log ≤ v.next)) := rfl
  have hc0 := chk_head (v := v)
  have hc1 := chk_good (v := v)
  obtain ⟨tabs, fl, hd, log, next⟩ := v
  simp only [vv] at *
  obtain ⟨la, lb, lc⟩ := h1.len
  have HL := Lib.hid la
  have HH := Lib.hid hh
  have H1 := Lib.hid h1
  have HC0 := Lib.hid hc0
  have HC1 := Lib.hid hc1
  rw [la] at hn
  clear hh h1 hc0 hc1 la
  have hx0 := heap_alloc_new w (.cells #[.slice a1 n1 c1, .int .u64 (fl : Int), .int .u64 (hd : Int), .int .i64 log, .int .i64 next] 38)
  have hb0 : Below w.heap.size w (w.alloc (.cells #[.slice a1 n1 c1, .int .u64 (fl : Int), .int .u64 (hd : Int), .int .i64 log, .int .i64 next] 38)) := (Below.refl _ w).alloc (Nat.le_refl _) _
  have hs0 : (w.alloc (.cells #[.slice a1 n1 c1, .int .u64 (fl : Int), .int .u64 (hd : Int), .int .i64 log, .int .i64 next] 38)).heap.size = w.heap.size + 1 := by simp
  have HX0 := Lib.hid hx0
  have HB0 := Lib.hid hb0
  have HS0 := Lib.hid hs0
  clear hx0 hb0 hs0
  go_enter Try.func35, Try.ntmps35
  by_cases q1 : 1 ≤ next
  · by_cases q2 : next < 4611686018427387904
    · by_cases q3 : 0 ≤ log
      · by_cases q4 : log ≤ next
        · by_cases q5 : fl ≤ hd
          · have hg := HC1.out (HH.out.trans (by simp [q1, q2, q3, q4, q5]))
            have HG := Lib.hid hg
            have nq1 : ¬ next < 1 := by omega
            have nq2 : ¬ (4611686018427387904 : Int) ≤ next := by omega
            have nq3 : ¬ log < 0 := by omega
            have nq4 : ¬ next < log := by omega
            have nq5 : ¬ hd < fl := by omega
            clear hg HH HC0 HC1
            go_wp2
            generalize w.alloc (.cells #[.slice a1 n1 c1, .int .u64 (fl : Int), .int .u64 (hd : Int), .int .i64 log, .int .i64 next] 38) = W1 at *
            go_loopw [38] (fun iv wr => RcRel W1 next tabs iv wr) (fun iv _ => n1 - (intOf iv).toNat)
            case atStart => exact ⟨0, rfl, Nat.zero_le _, rfl, rfl, Below.refl _ _⟩
            case round =>
              obtain ⟨k, rfl, hk, hgd, hal, hb⟩ := hrel
              rw [HL.out] at hk
              have HGd := Lib.hid hgd
              have HAl := Lib.hid hal
              have HB := Lib.hid hb
              have hbs := hb.size
              rw [HS0.out] at hbs
              have hbw : Below w.heap.size w wr := HB0.out.trans (hb.mono (by rw [HS0.out]; omega))
              have HBW := Lib.hid hbw
              have hxv := (hb.block _ (by rw [HS0.out]; omega)).trans HX0.out
              have v0 := Lib.cell_of_heap hxv 0
              have v4 := Lib.cell_of_heap hxv 4
              simp at v0 v4
              have HXv := Lib.hid hxv
              have ltv : w.heap.size < wr.heap.size := by omega
              clear hgd hal hxv hb
              by_cases hlt : k < n1
              · have hkI : (k : Int) < n1 := by omega
                obtain ⟨x, hx⟩ : ∃ x, tabs[k]? = some x := ⟨tabs[k]'(by rw [HL.out]; exact hlt), List.getElem?_eq_getElem _⟩
                obtain ⟨g, off, rfl, hg, k0, k1, k2, k3, k4⟩ := (TRows.below H1.out hbw).row hx
                have HX := Lib.hid hx
                have hmt : mayT x next = (decide (1 ≤ x.num) && decide (x.num < next) && decide (0 ≤ x.lev) && decide (x.lev < 4) && decide (1 ≤ x.size) && decide (x.size < 4611686018427387904) && leB x.first x.last) := rfl
                have hle : (Op.bytesLess x.first.toList x.last.toList || x.first.toList == x.last.toList) = leB x.first x.last := leB_spell _ _
                generalize leB x.first x.last = lb at *
                have HM := Lib.hid hmt
                obtain ⟨xn, xl, xz, xf, xt⟩ := x
                simp only at k0 k1 k2 k3 k4 hle
                have hgt : (!Op.bytesLess xf.toList xt.toList && !(xf.toList == xt.toList)) = !lb := by rw [← hle, Bool.not_or]
                clear hx hmt hbw
                by_cases m1 : 1 ≤ xn
                · by_cases m2 : xn < next
                  · by_cases m3 : 0 ≤ xl
                    · by_cases m4 : xl < 4
                      · by_cases m5 : 1 ≤ xz
                        · by_cases m6 : xz < 4611686018427387904
                          · cases lb with
                            | false =>
                              have E1 := Lib.hid (ok_may (pre := tabs.take k) (HM.out.trans (by simp)))
                              go_wp2
                              go_ret
                              refine ⟨?_, HBW.out.trans (((Below.refl _ wr).alloc (Nat.le_refl _) _).mono HBW.out.size)⟩
                              rw [HG.out, HGd.out, good_step HX.out, E1.out]
                              rfl
                            | true =>
                              have HMt := Lib.hid (HM.out.trans (by simp [m1, m2, m3, m4, m5, m6] : _ = true))
                              have nm1 : ¬ xn < 1 := by omega
                              have nm2 : ¬ next ≤ xn := by omega
                              have nm3 : ¬ xl < 0 := by omega
                              have nm4 : ¬ (4 : Int) ≤ xl := by omega
                              have nm5 : ¬ xz < 1 := by omega
                              have nm6 : ¬ (4611686018427387904 : Int) ≤ xz := by omega
                              clear HM
                              go_wp2
                              obtain ⟨wo, hwo⟩ : ∃ wo, wr.alloc (.cells #[.int .i64 xn, .int .i64 xl, .int .i64 xz, .string xf, .string xt] 45) = wo := ⟨_, rfl⟩
                              have hxb := heap_alloc_new wr (.cells #[.int .i64 xn, .int .i64 xl, .int .i64 xz, .string xf, .string xt] 45)
                              have hbo : Below wr.heap.size wr (wr.alloc (.cells #[.int .i64 xn, .int .i64 xl, .int .i64 xz, .string xf, .string xt] 45)) := (Below.refl _ _).alloc (Nat.le_refl _) _
                              have hxvo := (hbo.block _ ltv).trans HXv.out
                              have hso : (wr.alloc (.cells #[.int .i64 xn, .int .i64 xl, .int .i64 xz, .string xf, .string xt] 45)).heap.size = wr.heap.size + 1 := by simp
                              generalize wr.alloc (.cells #[.int .i64 xn, .int .i64 xl, .int .i64 xz, .string xf, .string xt] 45) = wo at *
                              clear hwo
                              have HXb := Lib.hid hxb
                              have HSo := Lib.hid hso
                              have HBo := Lib.hid (HB.out.trans (hbo.mono HB.out.size))
                              have HXvo := Lib.hid hxvo
                              clear hxb hso hbo hxvo v0 v4
                              obtain ⟨_, hk0⟩ : ∃ n, n = k := ⟨_, rfl⟩
                              go_loopw [85] (fun iv wi => RcIn wo (tabs.take k) xn iv wi) (fun iv _ => k - (intOf iv).toNat)
                              case atStart => exact ⟨0, rfl, Nat.zero_le _, (fun u hu => by simp at hu), Below.refl _ _⟩
                              case round =>
                                rename World => wi
                                obtain ⟨j, rfl, hj, hno, hbj⟩ := hrel
                                have hkl : (tabs.take k).length = k := by rw [List.length_take, HL.out]; omega
                                rw [hkl] at hj
                                have HNo := Lib.hid hno
                                have HBj := Lib.hid hbj
                                have hxi := (hbj.block _ (by rw [HSo.out]; omega)).trans HXb.out
                                have HXi := Lib.hid hxi
                                have hsi := hbj.size
                                rw [HSo.out] at hsi
                                have HBi := Lib.hid (HBo.out.trans (hbj.mono (by have := HBo.out.size; omega)))
                                have hbwi : Below w.heap.size w wi := HB0.out.trans (HBi.out.mono (by rw [HS0.out]; omega))
                                have HBWi := Lib.hid hbwi
                                clear hno hkl
                                by_cases hltj : j < k
                                · have hjI : (j : Int) < k := by omega
                                  obtain ⟨y, hy⟩ : ∃ y, tabs[j]? = some y := ⟨tabs[j]'(by rw [HL.out]; omega), List.getElem?_eq_getElem _⟩
                                  obtain ⟨_, _, e1, hgi, p0, p1, p2, p3, p4⟩ := (TRows.below H1.out hbwi).row hy
                                  cases e1
                                  have hyk : (tabs.take k)[j]? = some y := by rw [List.getElem?_take, if_pos hltj, hy]
                                  have hsn : (tabs.take k).take (j + 1) = (tabs.take k).take j ++ [y] := by rw [List.take_add_one, hyk]; rfl
                                  have HSn := Lib.hid hsn
                                  have HYk := Lib.hid hyk
                                  obtain ⟨yn, yl, yz, yf, yt⟩ := y
                                  simp only at p0 p1 p2 p3 p4
                                  have r0 := Lib.cell_of_heap hxi 0
                                  simp at r0
                                  have ltr : wr.heap.size < wi.heap.size := by omega
                                  clear hy hyk hsn hbj hxi hbwi
                                  by_cases he : yn = xn
                                  · have hI : (yn == xn) = true := by simp [he]
                                    have E1 := Lib.hid (ok_dup (next := next) (t := ⟨xn, xl, xz, xf, xt⟩) (List.mem_of_getElem? HYk.out) he)
                                    clear he
                                    go_wp2
                                    go_ret
                                    refine ⟨?_, HBWi.out.trans (((Below.refl _ wi).alloc (Nat.le_refl _) _).mono HBWi.out.size)⟩
                                    rw [HG.out, HGd.out, good_step HX.out, E1.out]
                                    rfl
                                  · have hI : (yn == xn) = false := by simp [he]
                                    have HNe := Lib.hid he
                                    clear he
                                    go_wp2
                                    exact ⟨⟨j + 1, by go_num, by rw [List.length_take, HL.out]; omega, (by
                                      rw [HSn.out]
                                      intro u hu
                                      rcases List.mem_append.1 hu with hu | hu
                                      · exact HNo.out u hu
                                      · rw [List.mem_singleton] at hu
                                        rw [hu]
                                        exact HNe.out), HBj.out.trans (((Below.refl _ wi).alloc (Nat.le_refl _) _).mono HBj.out.size)⟩, by simp [intOf]; omega⟩
                                · obtain hjk : j = k := by omega
                                  rw [hjk, List.take_of_length_le (by rw [List.length_take]; omega)] at HNo
                                  have hok := ok_ref HAl.out HMt.out HNo.out
                                  have HOk := Lib.hid hok
                                  have HA1 := Lib.hid (show (tabs.take (k + 1)).all (fun u => mayT u next) = true by rw [List.take_add_one, HX.out, List.all_append, HAl.out]; simp [HMt.out])
                                  clear hok hxi
                                  by_cases hkz : k = 0
                                  · have hkI : ((k : Int) == 0) = true := by simp [hkz]
                                    have hok2 := HOk.out.trans (by subst hkz; rfl : _ = true)
                                    have HOk2 := Lib.hid hok2
                                    clear hok2 hkz hbwi hbj
                                    go_wp2
                                    exact ⟨⟨k + 1, by go_num, by rw [HL.out]; omega, by rw [HGd.out, good_step HX.out, HOk2.out, Bool.true_and], HA1.out, HBi.out⟩, by simp [intOf]; omega⟩
                                  · have hkI : ((k : Int) == 0) = false := by simp; omega
                                    obtain ⟨u, hu⟩ : ∃ u, tabs[k - 1]? = some u := ⟨tabs[k - 1]'(by rw [HL.out]; omega), List.getElem?_eq_getElem _⟩
                                    have hlast : (tabs.take k).getLast? = some u := by
                                      have := last_take (l := tabs) (k := k - 1) (by rw [HL.out]; omega)
                                      rw [Nat.sub_add_cancel (by omega), hu] at this
                                      exact this
                                    obtain ⟨_, _, e1, hsg0, p0, p1, p2, p3, p4⟩ := (TRows.below H1.out hbwi).row hu
                                    cases e1
                                    have hsub : IntKind.i64.wrap ((k : Int) - 1) = ((k - 1 : Nat) : Int) := by rw [IntKind.wrap_i64] <;> omega
                                    have hsub2 : (k : Int) - 1 = ((k - 1 : Nat) : Int) := by omega
                                    have hltk : k - 1 < n1 := by omega
                                    have hltkI : ((k - 1 : Nat) : Int) < n1 := by omega
                                    have hless := fun W => less_any W u ⟨xn, xl, xz, xf, xt⟩
                                    have hok3 := HOk.out
                                    rw [hlast] at hok3
                                    have hrf : refFol u ⟨xn, xl, xz, xf, xt⟩ = (tlt u ⟨xn, xl, xz, xf, xt⟩ && !(decide (u.lev = xl) && decide (0 < xl) && !bl u.last xf)) := rfl
                                    have hok4 := hok3.trans hrf
                                    have HOk4 := Lib.hid hok4
                                    have hge : Op.bytesLess u.last.toList xf.toList = bl u.last xf := bl_spell _ _
                                    generalize tlt u ⟨xn, xl, xz, xf, xt⟩ = r at *
                                    generalize bl u.last xf = lb2 at *
                                    obtain ⟨un, ul, uz, uf, ut⟩ := u
                                    simp only [tv] at p0 p1 p2 p3 p4 hless hge
                                    have r0 := Lib.cell_of_heap HXi.out 0
                                    have r1 := Lib.cell_of_heap HXi.out 1
                                    have r2 := Lib.cell_of_heap HXi.out 2
                                    have r3 := Lib.cell_of_heap HXi.out 3
                                    have r4 := Lib.cell_of_heap HXi.out 4
                                    simp at r0 r1 r2 r3 r4
                                    have ltr : wr.heap.size < wi.heap.size := by omega
                                    have hxvi := (hbj.block _ (by rw [HSo.out]; omega)).trans HXvo.out
                                    have v0 := Lib.cell_of_heap hxvi 0
                                    simp at v0
                                    have ltv2 : w.heap.size < wi.heap.size := by omega
                                    have HLs := Lib.hid hless
                                    clear hu hlast hok3 hrf hok4 hless hbwi hsi hbj hxvi
                                    go_wp2_with (go_at_call 36; go_must (refine (HLs.out _).mono ?_))
                                    rintro e w8 ⟨rfl, os, hw8⟩
                                    have hb8 : Below wi.heap.size wi w8 := ((Below.refl _ wi).alloc (Nat.le_refl _) _).trans (by rw [hw8]; exact (grow_below _ os).mono (by simp))
                                    have hu8 : w8.heap[wi.heap.size]? = some (.cells #[.int .i64 un, .int .i64 ul, .int .i64 uz, .string uf, .string ut] 45 (0, 0)) := by
                                      rw [hw8]
                                      exact ((grow_below _ os).block _ (by simp)).trans (heap_alloc_new wi _)
                                    have hx8 := (hb8.block _ ltr).trans HXi.out
                                    have HB8 := Lib.hid (HBi.out.trans (hb8.mono (by have := HBi.out.size; omega)))
                                    have HW8 := Lib.hid (HBWi.out.trans (hb8.mono HBWi.out.size))
                                    clear r0 r1 r2 r3 r4 hw8 p0 p1 p2 p3 p4 v0
                                    have p1 := Lib.cell_of_heap hu8 1
                                    have p4 := Lib.cell_of_heap hu8 4
                                    have r1 := Lib.cell_of_heap hx8 1
                                    have r3 := Lib.cell_of_heap hx8 3
                                    simp at p1 p4 r1 r3
                                    clear hb8 hu8 hx8
                                    cases r with
                                    | false =>
                                      have E1 := Lib.hid (HOk4.out.trans (by simp : _ = false))
                                      go_wp2
                                      go_ret
                                      refine ⟨?_, HW8.out⟩
                                      rw [HG.out, HGd.out, good_step HX.out, E1.out]
                                      rfl
                                    | true =>
                                      by_cases hul : ul = xl
                                      · have hI : (ul == xl) = true := by simp [hul]
                                        by_cases hxp : 0 < xl
                                        · cases lb2 with
                                          | false =>
                                            have E1 := Lib.hid (HOk4.out.trans (by simp [hul, hxp] : _ = false))
                                            clear hul
                                            go_wp2
                                            go_ret
                                            refine ⟨?_, HW8.out⟩
                                            rw [HG.out, HGd.out, good_step HX.out, E1.out]
                                            rfl
                                          | true =>
                                            have E1 := Lib.hid (HOk4.out.trans (by simp : _ = true))
                                            clear hul
                                            go_wp2
                                            exact ⟨⟨k + 1, by go_num, by rw [HL.out]; omega, by rw [HGd.out, good_step HX.out, E1.out, Bool.true_and], HA1.out, HB8.out⟩, by simp [intOf]; omega⟩
                                        · have E1 := Lib.hid (HOk4.out.trans (by simp [hxp] : _ = true))
                                          clear hul
                                          go_wp2
                                          exact ⟨⟨k + 1, by go_num, by rw [HL.out]; omega, by rw [HGd.out, good_step HX.out, E1.out, Bool.true_and], HA1.out, HB8.out⟩, by simp [intOf]; omega⟩
                                      · have hI : (ul == xl) = false := by simp [hul]
                                        have E1 := Lib.hid (HOk4.out.trans (by simp [hul] : _ = true))
                                        clear hul
                                        go_wp2
                                        exact ⟨⟨k + 1, by go_num, by rw [HL.out]; omega, by rw [HGd.out, good_step HX.out, E1.out, Bool.true_and], HA1.out, HB8.out⟩, by simp [intOf]; omega⟩
                          · have E1 := Lib.hid (ok_may (pre := tabs.take k) (HM.out.trans (by simp [m6])))
                            go_wp2
                            go_ret
                            refine ⟨?_, HBW.out.trans (((Below.refl _ wr).alloc (Nat.le_refl _) _).mono HBW.out.size)⟩
                            rw [HG.out, HGd.out, good_step HX.out, E1.out]
                            rfl
                        · have E1 := Lib.hid (ok_may (pre := tabs.take k) (HM.out.trans (by simp [m5])))
                          go_wp2
                          go_ret
                          refine ⟨?_, HBW.out.trans (((Below.refl _ wr).alloc (Nat.le_refl _) _).mono HBW.out.size)⟩
                          rw [HG.out, HGd.out, good_step HX.out, E1.out]
                          rfl
                      · have E1 := Lib.hid (ok_may (pre := tabs.take k) (HM.out.trans (by simp [m4])))
                        go_wp2
                        go_ret
                        refine ⟨?_, HBW.out.trans (((Below.refl _ wr).alloc (Nat.le_refl _) _).mono HBW.out.size)⟩
                        rw [HG.out, HGd.out, good_step HX.out, E1.out]
                        rfl
                    · have E1 := Lib.hid (ok_may (pre := tabs.take k) (HM.out.trans (by simp [m3])))
                      go_wp2
                      go_ret
                      refine ⟨?_, HBW.out.trans (((Below.refl _ wr).alloc (Nat.le_refl _) _).mono HBW.out.size)⟩
                      rw [HG.out, HGd.out, good_step HX.out, E1.out]
                      rfl
                  · have E1 := Lib.hid (ok_may (pre := tabs.take k) (HM.out.trans (by simp [m2])))
                    go_wp2
                    go_ret
                    refine ⟨?_, HBW.out.trans (((Below.refl _ wr).alloc (Nat.le_refl _) _).mono HBW.out.size)⟩
                    rw [HG.out, HGd.out, good_step HX.out, E1.out]
                    rfl
                · have E1 := Lib.hid (ok_may (pre := tabs.take k) (HM.out.trans (by simp [m1])))
                  go_wp2
                  go_ret
                  refine ⟨?_, HBW.out.trans (((Below.refl _ wr).alloc (Nat.le_refl _) _).mono HBW.out.size)⟩
                  rw [HG.out, HGd.out, good_step HX.out, E1.out]
                  rfl
              · obtain rfl : k = n1 := by omega
                clear hbw
                go_wp2
                go_ret
                refine ⟨?_, HBW.out⟩
                rw [HG.out, HGd.out, List.drop_of_length_le (by rw [HL.out]; exact Nat.le_refl _)]
                rfl
          · have E1 := Lib.hid (HC0.out (HH.out.trans (by simp [q5])))
            clear HC0 HC1 HH
            go_wp2
            go_ret
            exact ⟨by rw [E1.out]; rfl, HB0.out⟩
        · have E1 := Lib.hid (HC0.out (HH.out.trans (by simp [q4])))
          clear HC0 HC1 HH
          go_wp2
          go_ret
          exact ⟨by rw [E1.out]; rfl, HB0.out⟩
      · have E1 := Lib.hid (HC0.out (HH.out.trans (by simp [q3])))
        clear HC0 HC1 HH
        go_wp2
        go_ret
        exact ⟨by rw [E1.out]; rfl, HB0.out⟩
    · have E1 := Lib.hid (HC0.out (HH.out.trans (by simp [q2])))
      clear HC0 HC1 HH
      go_wp2
      go_ret
      exact ⟨by rw [E1.out]; rfl, HB0.out⟩
  · have E1 := Lib.hid (HC0.out (HH.out.trans (by simp [q1])))
    clear HC0 HC1 HH
    go_wp2
    go_ret
    exact ⟨by rw [E1.out]; rfl, HB0.out⟩
end Go.Proofs.Ythjimldojdhccaa
