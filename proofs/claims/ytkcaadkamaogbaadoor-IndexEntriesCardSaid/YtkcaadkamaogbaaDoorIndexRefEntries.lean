import Derived.Test.YtkcaadkamaogbaaDoorIndexEntries
namespace Go.Proofs.YtkcaadkamaogbaaDoor
open Go Go.RowKit

theorem up9_of {t : Six} (h : t.short 1000000) : t.short 1000000000 := by
  obtain ⟨h1, h2, h3, h4, h5, h6⟩ := h
  exact ⟨by omega, by omega, by omega, by omega, by omega, by omega⟩

set_option maxRecDepth 100000 in
set_option maxHeartbeats 2000000 in
theorem refentries_any (w : World) (a : Option Addr) (n cap : Nat) (l : List (Bool × Six)) (h : Reads w 7 (.slice a n cap) n (wcells l)) (hl : l.length = n) (hn : n ≤ 1000) (hcap : n ≤ cap ∧ cap ≤ maxLen) (hs : ∀ x ∈ l, x.2.short 1000000) :
    Calls Tryd.prog 18 #[.slice a n cap] w (EntPost w l) := by
  obtain ⟨i0, hi, hz0, hz1, hz2⟩ := info_parts info53
  have HL := Lib.hid hl
  have HR := Lib.hid h
  have HS := Lib.hid hs
  clear h hl hs
  unfold maxLen at hcap
  go_enter Tryd.func18, Tryd.ntmps18
  go_wp2
  go_loopw [4, 12] (fun lv i wr => EntRel w l n lv i wr) (fun _ i _ => n - (intOf i).toNat)
  case atStart => exact ⟨0, rfl, Nat.zero_le _, rfl, owns_nil _ _ _ _, Below.refl _ _⟩
  case round =>
    obtain ⟨k, rfl, hk, hall, hfr, hb⟩ := hrel
    have hbs := hb.size
    have HB := Lib.hid hb
    have HA := Lib.hid hall
    have HF := Lib.hid hfr
    clear hb hall hfr
    by_cases hlt : k < n
    · obtain ⟨x, hx⟩ : ∃ x, l[k]? = some x := ⟨l[k]'(by rw [HL.out]; exact hlt), List.getElem?_eq_getElem _⟩
      have hcell : ∀ j u, (wcell x)[j]? = some u → ∃ b off, a = some ⟨b, off, none⟩ ∧ wr.cell? ⟨b, off + (k * 7 + j), none⟩ = some u := by
        intro j u hj
        have hj7 : j < 7 := (List.getElem?_eq_some_iff.1 hj).1
        obtain ⟨b, off, ha, hlb, hc⟩ := HR.out.at (j := k * 7 + j) (u := u) (by
          unfold wcells
          rw [flat_cell wcell 7 wcell_length l k x hx j hj7]
          exact hj)
        exact ⟨b, off, ha, (HB.out.cell (p := ⟨b, off + (k * 7 + j), none⟩) hlb).trans hc⟩
      obtain ⟨g, off, rfl, c0⟩ := hcell 0 _ rfl
      have hcell' : ∀ j u, (wcell x)[j]? = some u → wr.cell? ⟨g, off + k * 7 + j, none⟩ = some u := by
        intro j u hj
        obtain ⟨b', off', hb', hc⟩ := hcell j u hj
        cases hb'
        rw [← Nat.add_assoc] at hc
        exact hc
      have hxs := HS.out x (List.mem_of_getElem? hx)
      have hsu := ents_succ hx
      have hbad := fun h => all_take_bad hx h
      have hgood := fun h => all_take_good hx h HA.out
      obtain ⟨d, t⟩ := x
      have c0 := hcell' 0 (.bool d) rfl
      have c1 := hcell' 1 (.string t.a) rfl
      have c2 := hcell' 2 (.string t.b) rfl
      have c3 := hcell' 3 (.string t.c) rfl
      have c4 := hcell' 4 (.string t.d) rfl
      have c5 := hcell' 5 (.string t.e) rfl
      have c6 := hcell' 6 (.string t.f) rfl
      rw [Nat.add_zero] at c0
      dsimp only at hsu
      have HSu := Lib.hid hsu
      have HBa := Lib.hid hbad
      have HGo := Lib.hid hgood
      have HXs := Lib.hid hxs
      have hkI : (k : Int) < n := by omega
      clear hcell hcell' hxs hsu hbad hgood hx
      have hval : t.val = .agg #[.string t.a, .string t.b, .string t.c, .string t.d, .string t.e, .string t.f] := rfl
      have hx0 : (wr.alloc (.cells #[.bool d, .string t.a, .string t.b, .string t.c, .string t.d, .string t.e, .string t.f] 47)).heap[wr.heap.size]? = some (.cells #[.bool d, .string t.a, .string t.b, .string t.c, .string t.d, .string t.e, .string t.f] 47 (0, 0)) := heap_alloc_new wr _
      have hb0 : Below w.heap.size w (wr.alloc (.cells #[.bool d, .string t.a, .string t.b, .string t.c, .string t.d, .string t.e, .string t.f] 47)) := HB.out.alloc hbs _
      have hf0 := HF.out.alloc (.cells #[.bool d, .string t.a, .string t.b, .string t.c, .string t.d, .string t.e, .string t.f] 47)
      have hsz0 : wr.heap.size < (wr.alloc (.cells #[.bool d, .string t.a, .string t.b, .string t.c, .string t.d, .string t.e, .string t.f] 47)).heap.size := (Array.getElem?_eq_some_iff.1 hx0).1
      have HX := Lib.hid hx0
      have HB0 := Lib.hid hb0
      have HF0 := Lib.hid hf0
      clear hx0 hb0 hf0 HB HF
      cases hok : t.ok with
      | false =>
        have hkn := fun w => refcheck_any w t (up9_of HXs.out)
        rw [hval, hok] at hkn
        unfold checkV at hkn
        have HKn := Lib.hid hkn
        have HBad := Lib.hid (HBa.out hok)
        clear hkn hval hsz0 HSu HGo HXs
        go_wp2_with (go_at_call 10; go_must (refine (HKn.out _).mono ?_))
        rintro e w2 ⟨rfl, b2⟩
        replace HB0 := Lib.hid (HB0.out.trans (b2.mono HB0.out.size))
        clear b2
        clear c0 c1 c2 c3 c4 c5 c6
        go_wp2
        go_ret2
        exact .inl ⟨HBad.out, rfl, HB0.out⟩
      | true =>
        have hkn := fun w => refcheck_any w t (up9_of HXs.out)
        have hky : ∀ w, Calls Tryd.prog 11 #[t.val] w (KeysRef (keyF t) (keyR t) w) := fun w => refkeys_any w t HXs.out
        rw [hval, hok] at hkn
        rw [hval] at hky
        unfold checkV at hkn
        have HKn := Lib.hid hkn
        have HKy := Lib.hid hky
        have HGod := Lib.hid (HGo.out hok)
        clear hky hkn hval HBa HGo HXs
        go_wp2_with (go_at_call 10; go_must (refine (HKn.out _).mono ?_))
        rintro e w2 ⟨rfl, b2⟩
        have hf2 := owns_below HF0.out b2
        have hx2 := below_block b2 HX.out hsz0
        replace HB0 := Lib.hid (HB0.out.trans (b2.mono HB0.out.size))
        clear b2
        have HXa := Lib.hid hx2
        have HFa := Lib.hid hf2
        have hsza : wr.heap.size < w2.heap.size := (Array.getElem?_eq_some_iff.1 hx2).1
        clear c0 c1 c2 c3 c4 c5 c6 hf2 HF0 HX hsz0 HKn
        have c1 := Lib.cell_of_heap hx2 1
        have c2 := Lib.cell_of_heap hx2 2
        have c3 := Lib.cell_of_heap hx2 3
        have c4 := Lib.cell_of_heap hx2 4
        have c5 := Lib.cell_of_heap hx2 5
        have c6 := Lib.cell_of_heap hx2 6
        simp at c1 c2 c3 c4 c5 c6
        clear hx2
        go_wp2_with (go_at_call 11; go_must (refine (HKy.out _).mono ?_))
        rintro e w2 ⟨gk, rfl, two2, b2⟩
        have hf2 := owns_below HFa.out b2
        have hx2 := below_block b2 HXa.out hsza
        replace HB0 := Lib.hid (HB0.out.trans (b2.mono HB0.out.size))
        clear b2
        have HT := Lib.hid two2
        have HX2 := Lib.hid hx2
        have HF2 := Lib.hid hf2
        clear c1 c2 c3 c4 c5 c6 hf2 hx2 two2 HFa HXa hsza
        obtain ⟨k0, k1⟩ := HT.out.cells
        have d0 := Lib.cell_of_heap HX2.out 0
        simp at d0
        have hbs2 := HB0.out.size
        generalize keyF t = KF at *
        generalize keyR t = KR at *
        go_wp2
        refine wp_loop_rounds 3 ?_
        rw [rounds_succ]
        go_wp2_with (at_builtin; go_must (refine wpList_append_rows_own (w0 := w2) rfl _ _ 48 rfl w.heap.size 53 i0 _ 3 32 Tryd.underlying48 hi hz0 hz1 hz2 rfl (ecell (KF, d)) 1 rfl HF2.out rfl rfl ?_ ?_ ?_ hbs2 ?_))
        · intro u hu
          simp [ecell] at hu
          rcases hu with rfl | rfl | rfl <;> rfl
        · unfold maxLen; omega
        · omega
        intro v3 w3 f3 g3 b3 _
        have hb3 := HB0.out.trans b3
        have ht3 : w3.heap[gk]? = _ := grown_other HF2.out g3 HT.out (by decide)
        have hx3 := grown_other HF2.out g3 HX2.out (by decide)
        have HT3 := Lib.hid ht3
        have HX3 := Lib.hid hx3
        have HF3 := Lib.hid f3
        have HB3 := Lib.hid hb3
        have k1 := Lib.cell_of_heap ht3 1
        have d0 := Lib.cell_of_heap hx3 0
        simp at d0 k1
        have hbs3 := HB3.out.size
        clear k0 f3 g3 b3 hb3 ht3 hx3 HF2 HT HX2 HB0 hbs2
        go_wp2
        rw [rounds_succ]
        go_wp2_with (at_builtin; go_must (refine wpList_append_rows_own (w0 := w3) rfl _ _ 48 rfl w.heap.size 53 i0 _ 3 32 Tryd.underlying48 hi hz0 hz1 hz2 rfl (ecell (KR, d)) 1 rfl HF3.out rfl rfl ?_ ?_ ?_ hbs3 ?_))
        · intro u hu
          simp [ecell] at hu
          rcases hu with rfl | rfl | rfl <;> rfl
        · unfold maxLen; omega
        · omega
        intro v4 w4 f4 g4 b4 _
        have HF4 := Lib.hid f4
        have HB4 := Lib.hid (HB3.out.trans b4)
        clear f4 g4 b4 k1 d0
        go_wp2
        rw [rounds_succ]
        go_wp2
        refine ⟨⟨k + 1, by go_num, by omega, HGod.out, ?_, HB4.out⟩, by simp [intOf]; omega⟩
        rw [HSu.out, List.append_assoc]
        exact HF4.out
    · obtain rfl : k = n := by omega
      have hkI : ¬ ((k : Int) < k) := by omega
      have htk : l.take k = l := by rw [← HL.out]; exact List.take_length
      have hfin := HF.out
      have hall := HA.out
      rw [htk] at hfin hall
      have hlen : 2 * l.length = 2 * k := by rw [HL.out]
      have HFi := Lib.hid hfin
      have HAl := Lib.hid hall
      have HLn := Lib.hid hlen
      clear hfin hall hlen htk HF HA
      go_wp2
      go_ret2
      refine .inr ⟨HAl.out, _, rfl, ?_, HB.out⟩
      rw [HLn.out]
      exact ownsRow.reads HFi.out
end Go.Proofs.YtkcaadkamaogbaaDoor
