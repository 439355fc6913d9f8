/- sentryref36.Read. -/
import Derived.Test.YtlibncefiibgaaaDoorZDumpRead
import Derived.Test.YtlibncefiibgaaaDoorZTupleRefParse
import Derived.Test.YtlibncefiibgaaaDoorZTupleRefCmp
namespace Go.Proofs.YtlibncefiibgaaaDoor
open Go Go.RowKit

def FRel (w : World) (l : List UInt8) (ov lv av dv iv : Value) (wr : World) : Prop :=
  ∃ (i st at' : Nat) (ts : List Six) (line : ByteArray) (done : Bool), iv = .int .i64 (i : Int) ∧ i ≤ l.length ∧ lv = .string line ∧ line.data.toList = (l.drop st).take (i - st) ∧ st ≤ i ∧ (10 : UInt8) ∉ line.data.toList ∧ av = .int .i64 (at' : Int) ∧ at' ≤ st + 1 ∧ dv = .bool done ∧
    wr.ownsRow w.heap.size 37 6 ov ts.length (tcells ts) ∧ ts.length + 1 ≤ at' ∧ Below w.heap.size w wr ∧
    ((done = false ∧ readD 1 [] l = readD at' ts (l.drop st)) ∨ (done = true ∧ readD 1 [] l = if l.drop st = [] then .ok ts else .error (at', 9)))

theorem extract_oneD {s : ByteArray} {i : Nat} (h : i < s.size) : (s.extract i (i + 1)).data.toList = [s[i]] := by
  rw [ByteArray.data_extract, Array.toList_extract]
  have h2 : i < s.data.toList.length := by rw [Array.length_toList]; exact h
  simp only [List.extract]
  rw [show i + 1 - i = 1 by omega, List.drop_eq_getElem_cons h2]
  rfl

theorem parse_is (s : ByteArray) : ∃ (t : Six) (n : Nat), parseV s = .tuple #[t.val, .int .i64 (n : Int)] ∧ ((isText s = true ∧ t = Six.of s ∧ n = 0) ∨ (isText s = false ∧ n = 9)) := by
  unfold parseV
  cases h : isText s with
  | true => exact ⟨_, 0, rfl, .inl ⟨rfl, rfl, rfl⟩⟩
  | false => exact ⟨_, 9, rfl, .inr ⟨rfl, rfl⟩⟩

set_option maxRecDepth 100000 in
set_option maxHeartbeats 4000000 in
theorem refdread_any (w : World) (s : ByteArray) (hs : s.size ≤ 100000) :
    Calls Tryd.prog 12 #[.string s] w (ReadPost w (readD 1 [] s.data.toList)) := by
  obtain ⟨i0, hi, hz0, hz1, hz2⟩ := info_parts info_six
  obtain ⟨l, hl⟩ : ∃ l, s.data.toList = l := ⟨_, rfl⟩
  have hll : l.length = s.size := by rw [← hl]; exact Array.length_toList
  rw [hl]
  obtain ⟨R, hR⟩ : ∃ R, readD 1 [] l = R := ⟨_, rfl⟩
  rw [hR]
  have HRe := Lib.hid hR
  have HLe := Lib.hid hl
  have HLl := Lib.hid hll
  clear hl hR hll
  go_enter Tryd.func12, Tryd.ntmps12
  go_wp2
  go_loopw [5, 6, 7, 8, 9] (fun ov lv av dv iv wr => FRel w l ov lv av dv iv wr) (fun _ _ _ _ iv _ => s.size - (intOf iv).toNat)
  case atStart => exact ⟨0, 0, 1, [], ⟨#[]⟩, false, rfl, Nat.zero_le _, rfl, by simp, Nat.le_refl _, by simp, rfl, Nat.le_refl _, rfl, owns_nil _ _ _ _, Nat.le_refl _, Below.refl _ _, .inl ⟨rfl, rfl⟩⟩
  case round =>
    obtain ⟨i, st, at', ts, line, done, rfl, hil, rfl, hline, hsti, hno, rfl, hat, rfl, ho, hlen, hb, hd⟩ := hrel
    rw [HLl.out] at hil
    have HO := Lib.hid ho
    have HB := Lib.hid hb
    have hlsz : line.size ≤ i := by
      have e2 : line.data.toList.length = line.size := Array.length_toList
      rw [hline, List.length_take] at e2
      omega
    obtain ⟨oa, cap, rfl, hc1, hc2⟩ := (ownsRow.reads ho).le
    unfold maxLen at hc2
    by_cases hlt : i < s.size
    · have hltI : (i : Int) < s.size := by omega
      have hgi : l[i]? = some s[i] := by
        rw [← HLe.out, List.getElem?_eq_getElem (by rw [Array.length_toList]; exact hlt)]
        rfl
      have hdi : (l.drop st)[i - st]? = some s[i] := by
        rw [List.getElem?_drop, show st + (i - st) = i by omega]
        exact hgi
      by_cases hc : s[i] = 10
      · have he : ((s[i].toNat : Int) == 10) = true := by rw [hc]; rfl
        rw [hc] at hdi
        have hhit := cut_hit hdi (fun k hk e => hno (by
          rw [hline]
          exact List.mem_of_getElem? (i := k) (by rw [List.getElem?_take_of_lt hk]; exact e)))
        have hca : (⟨(cutAL (l.drop st) 10).toArray⟩ : ByteArray) = line := by
          unfold cutAL
          rw [hhit.1, ← hline]
        have hcr : cutRL (l.drop st) 10 = l.drop (i + 1) := by
          unfold cutRL
          rw [hhit.2, List.drop_drop, List.drop_drop]
          congr 1
          omega
        have hmem : (10 : UInt8) ∈ l.drop st := List.mem_of_getElem? hdi
        have hne : l.drop st ≠ [] := fun e => by rw [e] at hmem; cases hmem
        have hbad := fun x (h : takeD at' ts line = .bad x) => readD_bad (at' := at') (ts := ts) (e := x) hmem (by rw [hca]; exact h)
        have hdone := fun (h : takeD at' ts line = .done) => readD_done (at' := at') (ts := ts) hmem (by rw [hca]; exact h)
        have hmore := fun ts' (h : takeD at' ts line = .more ts') => readD_more (at' := at') (ts := ts) (ts' := ts') hmem (by rw [hca]; exact h)
        rw [hcr] at hdone hmore
        obtain ⟨t0, n0, hpv, hpi⟩ := parse_is line
        have HPa0 := refparse_any wr line (by omega)
        rw [hpv] at HPa0
        unfold Six.val at HPa0
        have HPa := Lib.hid HPa0
        have HPi := Lib.hid hpi
        have HBad := Lib.hid hbad
        have HDone := Lib.hid hdone
        have HMore := Lib.hid hmore
        have HD := Lib.hid hd
        have HNe := Lib.hid hne
        have hhd := head_eq line
        clear ho hb hd hline hno hgi hdi hc hhit hca hcr hmem hne hbad hdone hmore hpv hpi HPa0
        go_wp2_with (go_at_call 31; go_must (refine HPa.out.mono ?_))
        rintro e w2 ⟨rfl, b2⟩
        have hb2 := (HB.out.trans (b2.mono HB.out.size)).alloc (Nat.le_trans HB.out.size b2.size) (.cells #[.string t0.a, .string t0.b, .string t0.c, .string t0.d, .string t0.e, .string t0.f] 37)
        have hn2 : (w2.alloc (.cells #[.string t0.a, .string t0.b, .string t0.c, .string t0.d, .string t0.e, .string t0.f] 37)).heap[w2.heap.size]? = some (.cells #[.string t0.a, .string t0.b, .string t0.c, .string t0.d, .string t0.e, .string t0.f] 37 (0, 0)) := heap_alloc_new _ _
        have ho2 := (owns_below HO.out b2).alloc (.cells #[.string t0.a, .string t0.b, .string t0.c, .string t0.d, .string t0.e, .string t0.f] 37)
        have HB2 := Lib.hid hb2
        have HN2 := Lib.hid hn2
        have HO2 := Lib.hid ho2
        clear b2 hb2 hn2 ho2 HPa HB HO
        go_upto_region 12 with fail
        generalize w2.alloc (.cells #[.string t0.a, .string t0.b, .string t0.c, .string t0.d, .string t0.e, .string t0.f] 37) = w3 at *
        generalize w2.heap.size = gt at *
        have hgt : gt < w3.heap.size := (Array.getElem?_eq_some_iff.1 HN2.out).1
        cases done with
        | true =>
          have hfin := HD.out.resolve_left (fun h => by cases h.1)
          have h9 := hfin.2
          rw [if_neg HNe.out, HRe.out] at h9
          subst h9
          go_wp2
          go_ret3
          exact ⟨HB2.out, rfl⟩
        | false =>
          have hfin := (HD.out.resolve_right (fun h => by cases h.1)).2
          have HF := Lib.hid hfin
          clear HD hfin HNe
          by_cases h1 : at' = 1
          · have h1I : ((at' : Int) == 1) = true := by simp [h1]
            by_cases hh : line = headB
            · rw [decide_eq_true hh] at hhd
              have hm := HMore.out ts (by unfold takeD; rw [if_pos h1, if_pos hh])
              have HFin := Lib.hid (HF.out.trans hm)
              clear hm HF HBad HDone HMore hh
              go_wp2
              exact ⟨⟨i + 1, i + 1, at' + 1, ts, ⟨#[]⟩, false, by go_num, by rw [HLl.out]; omega, rfl, by simp, Nat.le_refl _, by simp, by go_num, by omega, rfl, HO2.out, by omega, HB2.out, .inl ⟨rfl, HFin.out⟩⟩, by simp [intOf]; omega⟩
            · rw [decide_eq_false hh] at hhd
              have hm := HBad.out 9 (by unfold takeD; rw [if_pos h1, if_neg hh])
              have hfin := HF.out.trans hm
              rw [HRe.out] at hfin
              subst hfin
              clear hm HF HBad HDone HMore hh
              go_wp2
              go_ret3
              exact ⟨HB2.out, rfl⟩
          · have h1I : ((at' : Int) == 1) = false := by simp; omega
            have hdz := dec_size ts.length (by omega)
            have HDe0 := decimal_any ts.length w3 (by omega)
            have hee := str_eqD line (endB ts.length)
            unfold endB at hee
            by_cases he2 : line = endB ts.length
            · have hm := HDone.out (by unfold takeD; rw [if_neg h1, if_pos he2])
              have HFin := Lib.hid (HF.out.trans hm)
              unfold endB at he2
              rw [decide_eq_true he2] at hee
              generalize (ByteArray.mk (Lib.decDigits ts.length).toArray) = dd at *
              have HDe := Lib.hid HDe0
              clear hm HF HBad HDone HMore he2 HDe0
              go_wp2_with (go_at_call 28; go_must (refine HDe.out.mono ?_))
              rintro e w4 ⟨rfl, b4⟩
              have HB4 := Lib.hid (HB2.out.trans (b4.mono HB2.out.size))
              have HO4 := Lib.hid (owns_below HO2.out b4)
              clear b4
              go_wp2
              exact ⟨⟨i + 1, i + 1, at' + 1, ts, ⟨#[]⟩, true, by go_num, by rw [HLl.out]; omega, rfl, by simp, Nat.le_refl _, by simp, by go_num, by omega, rfl, HO4.out, by omega, HB4.out, .inr ⟨rfl, HFin.out⟩⟩, by simp [intOf]; omega⟩
            · have hne2 : ¬ (line = (⟨#[101, 110, 100, 32]⟩ : ByteArray) ++ ⟨(Lib.decDigits ts.length).toArray⟩) := he2
              rw [decide_eq_false hne2] at hee
              obtain ⟨r, hr⟩ : ∃ r, takeD at' ts line = r := ⟨_, rfl⟩
              have hr2 := hr
              unfold takeD at hr2
              rw [if_neg h1, if_neg he2] at hr2
              rw [hr] at HBad HMore
              generalize (ByteArray.mk (Lib.decDigits ts.length).toArray) = dd at *
              have HDe := Lib.hid HDe0
              clear HDone he2 HDe0 hne2 hr
              rcases HPi.out with ⟨hit, ht0, rfl⟩ | ⟨hit, rfl⟩
              · rw [if_pos hit, ← ht0] at hr2
                clear ht0 hit HPi
                obtain ⟨t, rfl⟩ : ∃ t, t = t0 := ⟨_, rfl⟩
                unfold stepT at hr2
                go_wp2_with (go_at_call 28; go_must (refine HDe.out.mono ?_))
                rintro e w4' ⟨rfl, b4⟩
                have HB4 := Lib.hid (HB2.out.trans (b4.mono HB2.out.size))
                have HO4 := Lib.hid (owns_below HO2.out b4)
                have HN4 := Lib.hid ((b4.block gt hgt).trans HN2.out)
                have hgt4 : gt < w4'.heap.size := Nat.lt_of_lt_of_le hgt b4.size
                clear b4 HDe HB2 HO2 HN2 hgt
                cases hgl : ts.getLast? with
                | none =>
                  rw [hgl] at hr2
                  dsimp only at hr2
                  subst hr2
                  have HFin := Lib.hid (HF.out.trans (HMore.out _ rfl))
                  obtain ⟨len, hM⟩ : ∃ len, ts.length = len := ⟨_, rfl⟩
                  have hl0 : len = 0 := by rw [← hM, List.getLast?_eq_none_iff.1 hgl]; rfl
                  have HM := Lib.hid hM
                  have hlI : ¬ (0 : Int) < (len : Int) := by omega
                  rw [hM] at HO4 hc1 hlen ⊢
                  clear hgl hM HF HBad HMore
                  subst hl0
                  go_wp2_with fail
                  go_quiet (fail)
                  obtain ⟨w5, hW⟩ : ∃ W, W = w4'.drewN nq := ⟨_, rfl⟩
                  have hbz : Below w4'.heap.size w4' w5 := by rw [hW]; exact below_drewN w4' nq
                  rw [← hW]
                  have HB5 := Lib.hid (HB4.out.trans (hbz.mono HB4.out.size))
                  have HO5 := Lib.hid (owns_below HO4.out hbz)
                  have q := (hbz.block gt hgt4).trans HN4.out
                  have u0 := Lib.cell_of_heap q 0
                  have u1 := Lib.cell_of_heap q 1
                  have u2 := Lib.cell_of_heap q 2
                  have u3 := Lib.cell_of_heap q 3
                  have u4 := Lib.cell_of_heap q 4
                  have u5 := Lib.cell_of_heap q 5
                  simp at u0 u1 u2 u3 u4 u5
                  clear hbz hW q HB4 HO4 HN4
                  go_wp2_with (at_builtin; go_must (refine wpList_append_rows_at (w0 := w5) rfl _ _ 22 rfl w.heap.size 37 i0 _ 6 96 Tryd.underlying22 hi hz0 hz1 hz2 rfl [.string t.a, .string t.b, .string t.c, .string t.d, .string t.e, .string t.f] 1 rfl rfl HO5.out rfl rfl ?_ ?_ ?_ HB5.out.size ?_))
                  · first | rfl | (intro u hu; simp at hu; rcases hu with rfl | rfl | rfl | rfl | rfl | rfl <;> rfl)
                  · unfold maxLen; omega
                  · omega
                  intro v6 w6 o6 g6 b6 _
                  have ho6 : w6.ownsRow w.heap.size 37 6 v6 (ts ++ [t]).length (tcells (ts ++ [t])) := by
                    rw [List.length_append, List.length_singleton, HM.out, tcells_snoc]
                    exact o6
                  have HO6 := Lib.hid ho6
                  have HB6 := Lib.hid (HB5.out.trans b6)
                  have hln : (ts ++ [t]).length ≤ at' := by rw [List.length_append, List.length_singleton, HM.out]; omega
                  clear o6 g6 b6 ho6 HO5 HB5
                  go_wp2
                  exact ⟨⟨i + 1, i + 1, at' + 1, ts ++ [t], ⟨#[]⟩, false, by go_num, by rw [HLl.out]; omega, rfl, by simp, Nat.le_refl _, by simp, by go_num, by omega, rfl, HO6.out, by omega, HB6.out, .inl ⟨rfl, HFin.out⟩⟩, by simp [intOf]; omega⟩
                | some p =>
                  rw [hgl] at hr2
                  dsimp only at hr2
                  obtain ⟨m, hm⟩ : ∃ m, ts.length = m + 1 := by
                    rcases Nat.eq_zero_or_pos ts.length with e | e
                    · obtain rfl := List.eq_nil_of_length_eq_zero e
                      simp at hgl
                    · exact ⟨ts.length - 1, by omega⟩
                  have hpl : ts[m]? = some p := by rw [← hgl, List.getLast?_eq_getElem?, hm, Nat.add_sub_cancel]
                  obtain ⟨b, off, rfl, hb, k0, k1, k2, k3, k4, k5⟩ := (ownsRow.reads HO4.out).six hpl
                  have HCm0 := fun W => refcmp_any W p t
                  unfold Six.val at HCm0
                  obtain ⟨c, hcc⟩ : ∃ c, cmpBs p.list t.list = c := ⟨_, rfl⟩
                  rw [hcc] at HCm0 hr2
                  obtain ⟨bb, hbb⟩ : ∃ bb, decide (0 ≤ c) = bb := ⟨_, rfl⟩
                  have hp0 : (0 : Int) < (m : Int) + 1 := by omega
                  have hp1 : ¬ ((m : Int) + 1 ≤ m) := by omega
                  have hw1 : IntKind.i64.wrap (m : Int) = (m : Int) := by rw [IntKind.wrap_i64]; omega
                  have HRr := Lib.hid hr2
                  have HCm := Lib.hid HCm0
                  have HM := Lib.hid hm
                  have HN2 := HN4
                  have hgt := hgt4
                  rw [hm] at HO4 hc1 hlen ⊢
                  clear hgl hpl hcc HCm0 hm hr2
                  go_upto_region 19 with fail
                  refine wp_region_all (by kernel_rfl) [eqF (.slice (some ⟨b, off, none⟩) (m + 1) cap), eqF (.int .i64 ((m : Int) + 1)), eqF (.bool true), eqF (.bool true), eqF (.slice (some ⟨b, off, none⟩) (m + 1) cap), eqF (.slice (some ⟨b, off, none⟩) (m + 1) cap), eqF (.int .i64 ((m : Int) + 1)), eqF (.int .i64 (m : Int)), eqF (.pointer (some ⟨b, off + m * 6, none⟩)), eqF (.agg #[.string p.a, .string p.b, .string p.c, .string p.d, .string p.e, .string p.f]), eqF (.agg #[.string t.a, .string t.b, .string t.c, .string t.d, .string t.e, .string t.f]), eqF (.int .i64 c), eqF (.bool bb), eqF (.bool bb), eqF (.bool bb)] (by kernel_rfl) ⟨?_, ?_, ?_, ?_, ?_, ?_, ?_, ?_, ?_, ?_, ?_, ?_, ?_, ?_, ?_, trivial⟩ ⟨trivial, trivial, trivial, trivial, fun _ _ h => h, fun _ _ h => h, fun _ _ h => h, fun _ _ h => h, fun _ _ h => h, fun _ _ h => h, fun _ _ h => h, fun _ _ h => h, fun _ _ h => h, trivial, trivial, trivial⟩ ?_
                  · intro ρ wx hρ hbx hl
                    have e5 : ρ (.tmp 5) = .slice (some ⟨b, off, none⟩) (m + 1) cap := hρ.tmp 5 (by decide +kernel)
                    refine y_val (v := .slice (some ⟨b, off, none⟩) (m + 1) cap) ?_ rfl
                    simp [execOp, go_sem, e5]
                  · intro ρ wx hρ hbx hl
                    have e64 : ρ (.tmp 64) = .slice (some ⟨b, off, none⟩) (m + 1) cap := hl 0 (by decide +kernel) 64 rfl
                    refine y_val (v := .int .i64 ((m : Int) + 1)) ?_ rfl
                    simp [go_sem, e64]
                  · intro ρ wx hρ hbx hl
                    have e65 : ρ (.tmp 65) = .int .i64 ((m : Int) + 1) := hl 1 (by decide +kernel) 65 rfl
                    refine y_val (v := .bool true) ?_ rfl
                    simp [execOp, hρ.const, go_sem, e65, hp0]
                  · intro ρ wx hρ hbx hl
                    have e66 : ρ (.tmp 66) = .bool true := hl 2 (by decide +kernel) 66 rfl
                    refine y_val (v := .bool true) ?_ rfl
                    simp [execOp, go_sem, e66]
                  · intro ρ wx hρ hbx hl
                    have e5 : ρ (.tmp 5) = .slice (some ⟨b, off, none⟩) (m + 1) cap := hρ.tmp 5 (by decide +kernel)
                    refine y_val (v := .slice (some ⟨b, off, none⟩) (m + 1) cap) ?_ rfl
                    simp [execOp, go_sem, e5]
                  · intro ρ wx hρ hbx hl
                    have e5 : ρ (.tmp 5) = .slice (some ⟨b, off, none⟩) (m + 1) cap := hρ.tmp 5 (by decide +kernel)
                    refine y_val (v := .slice (some ⟨b, off, none⟩) (m + 1) cap) ?_ rfl
                    simp [execOp, go_sem, e5]
                  · intro ρ wx hρ hbx hl
                    have e69 : ρ (.tmp 69) = .slice (some ⟨b, off, none⟩) (m + 1) cap := hl 5 (by decide +kernel) 69 rfl
                    refine y_val (v := .int .i64 ((m : Int) + 1)) ?_ rfl
                    simp [go_sem, e69]
                  · intro ρ wx hρ hbx hl
                    have e70 : ρ (.tmp 70) = .int .i64 ((m : Int) + 1) := hl 6 (by decide +kernel) 70 rfl
                    refine y_val (v := .int .i64 (m : Int)) ?_ rfl
                    simp [execOp, hρ.const, go_sem, e70, hw1]
                  · intro ρ wx hρ hbx hl
                    have e68 : ρ (.tmp 68) = .slice (some ⟨b, off, none⟩) (m + 1) cap := hl 4 (by decide +kernel) 68 rfl
                    have e71 : ρ (.tmp 71) = .int .i64 (m : Int) := hl 7 (by decide +kernel) 71 rfl
                    refine y_val (v := .pointer (some ⟨b, off + m * 6, none⟩)) ?_ rfl
                    simp [execOp, go_sem, e68, e71, hp1]
                  · intro ρ wx hρ hbx hl
                    have e72 : ρ (.tmp 72) = .pointer (some ⟨b, off + m * 6, none⟩) := hl 8 (by decide +kernel) 72 rfl
                    have q0 := (hbx.cell (p := ⟨b, off + m * 6, none⟩) hb).trans k0
                    have q1 := (hbx.cell (p := ⟨b, off + m * 6 + 1, none⟩) hb).trans k1
                    have q2 := (hbx.cell (p := ⟨b, off + m * 6 + 2, none⟩) hb).trans k2
                    have q3 := (hbx.cell (p := ⟨b, off + m * 6 + 3, none⟩) hb).trans k3
                    have q4 := (hbx.cell (p := ⟨b, off + m * 6 + 4, none⟩) hb).trans k4
                    have q5 := (hbx.cell (p := ⟨b, off + m * 6 + 5, none⟩) hb).trans k5
                    refine y_val (v := .agg #[.string p.a, .string p.b, .string p.c, .string p.d, .string p.e, .string p.f]) ?_ rfl
                    simp [execOp, go_sem, e72, q0, q1, q2, q3, q4, q5]
                  · intro ρ wx hρ hbx hl
                    have e10 : ρ (.tmp 10) = .pointer (some ⟨gt, 0, none⟩) := hρ.tmp 10 (by decide +kernel)
                    have q := (hbx.block gt hgt).trans HN2.out
                    have q0 := Lib.cell_of_heap q 0
                    have q1 := Lib.cell_of_heap q 1
                    have q2 := Lib.cell_of_heap q 2
                    have q3 := Lib.cell_of_heap q 3
                    have q4 := Lib.cell_of_heap q 4
                    have q5 := Lib.cell_of_heap q 5
                    simp at q0 q1 q2 q3 q4 q5
                    refine y_val (v := .agg #[.string t.a, .string t.b, .string t.c, .string t.d, .string t.e, .string t.f]) ?_ rfl
                    simp [execOp, go_sem, e10, q0, q1, q2, q3, q4, q5]
                  · intro ρ wx hρ hbx hl
                    have e73 : ρ (.tmp 73) = .agg #[.string p.a, .string p.b, .string p.c, .string p.d, .string p.e, .string p.f] := hl 9 (by decide +kernel) 73 rfl
                    have e74 : ρ (.tmp 74) = .agg #[.string t.a, .string t.b, .string t.c, .string t.d, .string t.e, .string t.f] := hl 10 (by decide +kernel) 74 rfl
                    refine y_call (f := 30) (args := #[.agg #[.string p.a, .string p.b, .string p.c, .string p.d, .string p.e, .string p.f], .agg #[.string t.a, .string t.b, .string t.c, .string t.d, .string t.e, .string t.f]]) (by simp [execOp, resolve, invoke, hρ.func, go_sem, e73, e74]) ?_
                    refine (HCm.out wx).mono ?_
                    rintro e w6 ⟨rfl, b7⟩
                    exact ⟨_, rfl, rfl, b7⟩
                  · intro ρ wx hρ hbx hl
                    have e75 : ρ (.tmp 75) = .int .i64 c := hl 11 (by decide +kernel) 75 rfl
                    refine y_val (v := .bool bb) ?_ rfl
                    simp [execOp, hρ.const, go_sem, e75, hbb]
                  · intro ρ wx hρ hbx hl
                    have e67 : ρ (.tmp 67) = .bool true := hl 3 (by decide +kernel) 67 rfl
                    have e76 : ρ (.tmp 76) = .bool bb := hl 12 (by decide +kernel) 76 rfl
                    refine y_val (v := .bool bb) ?_ rfl
                    simp [execOp, go_sem, e67, e76]
                  · intro ρ wx hρ hbx hl
                    have e77 : ρ (.tmp 77) = .bool bb := hl 13 (by decide +kernel) 77 rfl
                    refine y_val (v := .bool bb) ?_ rfl
                    simp [execOp, go_sem, e77]
                  intro aa w4 hdef hsz hlk hbz hf
                  have ha := act_of_like hdef hsz hlk [64, 65, 66, 67, 68, 69, 70, 71, 72, 73, 74, 75, 76, 77, 63] 91 rfl (by decide +kernel)
                  have e64 : aa.tmps.getD 64 undef = .slice (some ⟨b, off, none⟩) (m + 1) cap := hf 0 _ 64 rfl rfl
                  have e65 : aa.tmps.getD 65 undef = .int .i64 ((m : Int) + 1) := hf 1 _ 65 rfl rfl
                  have e66 : aa.tmps.getD 66 undef = .bool true := hf 2 _ 66 rfl rfl
                  have e67 : aa.tmps.getD 67 undef = .bool true := hf 3 _ 67 rfl rfl
                  have e68 : aa.tmps.getD 68 undef = .slice (some ⟨b, off, none⟩) (m + 1) cap := hf 4 _ 68 rfl rfl
                  have e69 : aa.tmps.getD 69 undef = .slice (some ⟨b, off, none⟩) (m + 1) cap := hf 5 _ 69 rfl rfl
                  have e70 : aa.tmps.getD 70 undef = .int .i64 ((m : Int) + 1) := hf 6 _ 70 rfl rfl
                  have e71 : aa.tmps.getD 71 undef = .int .i64 (m : Int) := hf 7 _ 71 rfl rfl
                  have e72 : aa.tmps.getD 72 undef = .pointer (some ⟨b, off + m * 6, none⟩) := hf 8 _ 72 rfl rfl
                  have e73 : aa.tmps.getD 73 undef = .agg #[.string p.a, .string p.b, .string p.c, .string p.d, .string p.e, .string p.f] := hf 9 _ 73 rfl rfl
                  have e74 : aa.tmps.getD 74 undef = .agg #[.string t.a, .string t.b, .string t.c, .string t.d, .string t.e, .string t.f] := hf 10 _ 74 rfl rfl
                  have e75 : aa.tmps.getD 75 undef = .int .i64 c := hf 11 _ 75 rfl rfl
                  have e76 : aa.tmps.getD 76 undef = .bool bb := hf 12 _ 76 rfl rfl
                  have e77 : aa.tmps.getD 77 undef = .bool bb := hf 13 _ 77 rfl rfl
                  have e63 : aa.tmps.getD 63 undef = .bool bb := hf 14 _ 63 rfl rfl
                  simp only [putAll, List.foldl_cons, List.foldl_nil, e64, e65, e66, e67, e68, e69, e70, e71, e72, e73, e74, e75, e76, e77, e63] at ha
                  simp [Act.put] at ha
                  subst ha
                  clear hdef hsz hlk hf e64 e65 e66 e67 e68 e69 e70 e71 e72 e73 e74 e75 e76 e77 e63
                  have HB5 := Lib.hid (HB4.out.trans (hbz.mono HB4.out.size))
                  have HO5 := Lib.hid (owns_below HO4.out hbz)
                  have q := (hbz.block gt hgt4).trans HN4.out
                  have u0 := Lib.cell_of_heap q 0
                  have u1 := Lib.cell_of_heap q 1
                  have u2 := Lib.cell_of_heap q 2
                  have u3 := Lib.cell_of_heap q 3
                  have u4 := Lib.cell_of_heap q 4
                  have u5 := Lib.cell_of_heap q 5
                  simp at u0 u1 u2 u3 u4 u5
                  clear hbz q HB4 HO4 HN4 HN2 k0 k1 k2 k3 k4 k5 HCm
                  cases bb with
                  | true =>
                    have hr := HRr.out
                    rw [if_pos (by simpa using hbb)] at hr
                    subst hr
                    have hfin := HF.out.trans (HBad.out 11 rfl)
                    rw [HRe.out] at hfin
                    subst hfin
                    clear HF HBad HMore
                    go_wp2
                    go_ret3
                    exact ⟨HB5.out, rfl⟩
                  | false =>
                    have hr := HRr.out
                    rw [if_neg (by simpa using hbb)] at hr
                    subst hr
                    have HFin := Lib.hid (HF.out.trans (HMore.out _ rfl))
                    obtain ⟨len, hM⟩ : ∃ len, m + 1 = len := ⟨_, rfl⟩
                    have hlenI : (m : Int) + 1 = (len : Int) := by omega
                    rw [hM] at HO5 HM hc1 hlen ⊢
                    rw [hlenI]
                    obtain ⟨w5, rfl⟩ : ∃ W : World, W = w4 := ⟨_, rfl⟩
                    clear HF HBad HMore HRr hM
                    go_wp2_with (at_builtin; go_must (refine wpList_append_rows_at (w0 := w5) rfl _ _ 22 rfl w.heap.size 37 i0 _ 6 96 Tryd.underlying22 hi hz0 hz1 hz2 rfl [.string t.a, .string t.b, .string t.c, .string t.d, .string t.e, .string t.f] 1 rfl rfl HO5.out rfl rfl ?_ ?_ ?_ HB5.out.size ?_))
                    · first | rfl | (intro u hu; simp at hu; rcases hu with rfl | rfl | rfl | rfl | rfl | rfl <;> rfl)
                    · unfold maxLen; omega
                    · omega
                    intro v6 w6 o6 g6 b6 _
                    have ho6 : w6.ownsRow w.heap.size 37 6 v6 (ts ++ [t]).length (tcells (ts ++ [t])) := by
                      rw [List.length_append, List.length_singleton, HM.out, tcells_snoc]
                      exact o6
                    have HO6 := Lib.hid ho6
                    have HB6 := Lib.hid (HB5.out.trans b6)
                    have hln : (ts ++ [t]).length ≤ at' := by rw [List.length_append, List.length_singleton, HM.out]; omega
                    clear o6 g6 b6 ho6 HO5 HB5
                    go_wp2
                    exact ⟨⟨i + 1, i + 1, at' + 1, ts ++ [t], ⟨#[]⟩, false, by go_num, by rw [HLl.out]; omega, rfl, by simp, Nat.le_refl _, by simp, by go_num, by omega, rfl, HO6.out, by omega, HB6.out, .inl ⟨rfl, HFin.out⟩⟩, by simp [intOf]; omega⟩
              · rw [if_neg (by rw [hit]; simp)] at hr2
                subst hr2
                have hfin := HF.out.trans (HBad.out 9 rfl)
                rw [HRe.out] at hfin
                subst hfin
                clear HF HBad HMore HPi hit
                go_wp2_with (go_at_call 28; go_must (refine HDe.out.mono ?_))
                rintro e w4 ⟨rfl, b4⟩
                have HB4 := Lib.hid (HB2.out.trans (b4.mono HB2.out.size))
                clear b4
                go_wp2
                go_ret3
                exact ⟨HB4.out, rfl⟩
      · have he : ((s[i].toNat : Int) == 10) = false := by
          rw [beq_eq_false_iff_ne]
          intro e
          exact hc (UInt8.toNat_inj.1 (by exact_mod_cast e))
        obtain ⟨pc, hpc⟩ : ∃ pc, s.extract i (i + 1) = pc := ⟨_, rfl⟩
        have hpl := extract_oneD hlt
        rw [hpc] at hpl
        have hps : pc.size = 1 := by
          have e2 : pc.data.toList.length = pc.size := Array.length_toList
          rw [hpl] at e2
          exact e2.symm
        have hnl : (line ++ pc).data.toList = (l.drop st).take (i + 1 - st) := by
          rw [show i + 1 - st = i - st + 1 by omega, List.take_add_one, hdi, ← hline]
          simp [hpl]
        have hnn : (10 : UInt8) ∉ (line ++ pc).data.toList := by
          have e : (line ++ pc).data.toList = line.data.toList ++ [s[i]] := by rw [← hpl]; simp
          rw [e, List.mem_append]
          rintro (h | h)
          · exact hno h
          · exact hc (List.mem_singleton.1 h).symm
        have hsum : line.size + pc.size ≤ 9223372036854775807 := by omega
        have HNl := Lib.hid hnl
        have HNn := Lib.hid hnn
        have HD := Lib.hid hd
        clear ho hb hd hline hno hgi hdi hc hpl hnl hnn
        go_wp2
        exact ⟨⟨i + 1, st, at', ts, line ++ pc, done, by go_num, by rw [HLl.out]; omega, rfl, HNl.out, by omega, HNn.out, rfl, hat, rfl, HO.out, hlen, HB.out, HD.out⟩, by simp [intOf]; omega⟩
    · obtain rfl : i = s.size := by omega
      have hltI : ¬ (s.size : Int) < s.size := by omega
      have hall : (l.drop st).take (s.size - st) = l.drop st := List.take_of_length_le (by rw [List.length_drop, HLl.out]; exact Nat.le_refl _)
      rw [hall] at hline
      have hno2 : (10 : UInt8) ∉ l.drop st := by rw [← hline]; exact hno
      cases done with
      | true =>
        have hfin := (hd.resolve_left (fun h => by cases h.1)).2
        rw [HRe.out, ← hline] at hfin
        have HFin := Lib.hid hfin
        clear ho hb hd hline hno hall hno2 hfin
        by_cases h0 : line = ⟨#[]⟩
        · subst h0
          have hR := HFin.out
          rw [if_pos rfl] at hR
          subst hR
          go_wp2
          go_ret3
          exact ⟨HB.out, _, rfl, HO.out⟩
        · have hR := HFin.out
          rw [if_neg (fun h => h0 ((empty_list line).1 h))] at hR
          subst hR
          have h0I : (line.toList == []) = false := by
            rw [beq_eq_false_iff_ne]
            exact fun h => h0 ((empty_list line).1 (by rw [← Go.ByteArray.toList_eq]; exact h))
          go_wp2
          go_ret3
          exact ⟨HB.out, rfl⟩
      | false =>
        have hfin := (hd.resolve_right (fun h => by cases h.1)).2
        rw [HRe.out, readD_none hno2] at hfin
        subst hfin
        clear ho hb hd hline hno hall hno2
        go_wp2
        go_ret3
        exact ⟨HB.out, rfl⟩
end Go.Proofs.YtlibncefiibgaaaDoor
