/- The law SkipPlays. -/
import Derived.Test.YthficboolhellaaSkipDrawsW
import Derived.Test.YthficboolhellaaRef11PutB
namespace Go.Proofs.Ythficboolhellaa
open Go Go.RowKit

theorem owns_touch {w w' : World} {B n s : Nat} {e : TypeId} {v : Value} {xs : List Value} {l : List Nat} (h : w.ownsRow B e s v n xs) (t : Touch w w' l) (hl : ∀ x ∈ l, ∃ cs t' fz, t' ≠ e ∧ w.heap[x]? = some (Obj.cells cs t' fz)) : w'.ownsRow B e s v n xs := by
  refine ⟨h.1, ?_⟩
  rcases h.2 with h0 | ⟨g, cap, cur, hv, hB, hg, h3⟩
  · exact .inl h0
  · refine .inr ⟨g, cap, cur, hv, hB, t.keep hg (fun hm => ?_), h3⟩
    obtain ⟨cs, t', fz, hn, hc⟩ := hl g hm
    rw [hg] at hc
    injection hc with hc
    injection hc with _ hc _
    exact hn hc.symm

theorem inK_facts (K : List ByteArray) (x : ByteArray) : (inK K x = true → putK K x = K) ∧ (inK K x = false → (putK K x).length = K.length + 1 ∧ sumSz (putK K x) = sumSz K + x.size) := by
  unfold inK putK
  refine ⟨fun h => if_pos (of_decide_eq_true h), fun h => ?_⟩
  rw [if_neg (of_decide_eq_false h)]
  have hle := putAt_le K x
  have h2 : sumSz K = sumSz (K.take (putAt K x)) + sumSz (K.drop (putAt K x)) := by
    unfold sumSz
    rw [← List.sum_append, ← List.map_append, List.take_append_drop]
  constructor
  · simp
    omega
  · unfold sumSz at h2 ⊢
    rw [h2]
    simp
    omega

def PPutRel (w0 : World) (L : Nat) (ks : List ByteArray) (hv zv iv : Value) (wr : World) : Prop :=
  ∃ k : Nat, iv = .int .i64 (k : Int) ∧ k ≤ ks.length ∧ zv = .int .i64 (sumSz (putsOf (ks.take k)) : Int) ∧ wr.ownsRow w0.heap.size 9 1 hv (putsOf (ks.take k)).length (scells (putsOf (ks.take k))) ∧ LOwn w0.heap.size w0 L (putsOf (ks.take k)) wr

theorem has_spell (o : Option ByteArray) (x : ByteArray) : ∃ s b, sk11V o = .tuple #[.string s, .bool b] ∧ decide (o = some x) = (b && decide (s = x)) := by
  cases o with
  | none => exact ⟨_, _, rfl, rfl⟩
  | some y => exact ⟨y, true, rfl, by simp⟩

theorem two_spell (o : Option ByteArray) : ∃ s b, sk11V o = .tuple #[.string s, .bool b] := by
  cases o with
  | none => exact ⟨_, _, rfl⟩
  | some y => exact ⟨_, _, rfl⟩

theorem last_spell (K : List ByteArray) (s : ByteArray) (t : Bool) (h : sk11V K.getLast? = .tuple #[.string s, .bool t]) : (K.length = 0 ∧ s = ⟨#[]⟩ ∧ t = false) ∨ (0 < K.length ∧ K[K.length - 1]? = some s ∧ t = true) := by
  cases hg : K.getLast? with
  | none =>
    rw [hg] at h
    left
    unfold sk11V at h
    injection h with h
    simp at h
    rw [List.getLast?_eq_none_iff] at hg
    exact ⟨by rw [hg]; rfl, h.1.symm, h.2⟩
  | some z =>
    rw [hg] at h
    right
    unfold sk11V at h
    injection h with h
    simp at h
    rw [List.getLast?_eq_getElem?] at hg
    refine ⟨?_, by rw [hg, h.1], h.2⟩
    have := (List.getElem?_eq_some_iff.1 hg).1
    omega

def PAskRel (w5 : World) (n : Nat) (iv : Value) (wr : World) : Prop := ∃ k : Nat, iv = .int .i64 (k : Int) ∧ k ≤ n ∧ Below w5.heap.size w5 wr

set_option maxRecDepth 100000 in
set_option maxHeartbeats 8000000 in
theorem skipPlays_walk (w : World) (a c d : Option Addr) (n cap p pcap q qcap : Nat) (ds : List UInt8) (ks js : List ByteArray) (h1 : Reads w 1 (.slice a n cap) n (bcells ds)) (h3 : Reads w 1 (.slice c p pcap) p (scells ks)) (h4 : Reads w 1 (.slice d q qcap) q (scells js)) :
    Calls Try.prog 3 #[.slice a n cap, .slice c p pcap, .slice d q qcap] w (SaysTrue w) := by
  obtain ⟨i0, hi, hz0, hz1, hz2⟩ := info_parts info9
  have hkl : ks.length = p := by have := h3.1; rw [scells_length] at this; omega
  have hjl : js.length = q := by have := h4.1; rw [scells_length] at this; omega
  have HD := Lib.hid h1
  have HK := Lib.hid h3
  have HJ := Lib.hid h4
  obtain ⟨_, _, hv, hc1, hc2⟩ := h1.le
  cases hv
  obtain ⟨_, _, hv, he1, he2⟩ := h3.le
  cases hv
  obtain ⟨_, _, hv, hg1, hg2⟩ := h4.le
  cases hv
  unfold maxLen at hc2 he2 hg2
  have HF := Lib.hid (fixed11_any w)
  clear h1 h3 h4
  go_enter Try.func3, Try.ntmps3
  go_wp2_with (go_at_call 7; go_must (refine HF.out.mono ?_))
  rintro e w1 ⟨rfl, b1⟩
  have HB1 := Lib.hid b1
  have HK1 := Lib.hid (HK.out.below' b1)
  have HJ1 := Lib.hid (HJ.out.below' b1)
  have HD1 := Lib.hid (HD.out.below' b1)
  clear b1 HF
  have HW := Lib.hid (few11_any w1 c p pcap ks HK1.out)
  go_wp2_with (go_at_call 8; go_must (refine HW.out.mono ?_))
  rintro e w1 ⟨rfl, rfl⟩
  cases hf : few11 ks with
  | false =>
    go_wp2
    go_ret
    exact ⟨rfl, HB1.out⟩
  | true =>
  obtain ⟨hlow, hlen⟩ := few11_low hf
  have HLow := Lib.hid hlow
  clear hf hlow HW
  have HW := Lib.hid (few11_any w1 d q qcap js HJ1.out)
  go_wp2_with (go_at_call 8; go_must (refine HW.out.mono ?_))
  rintro e w1 ⟨rfl, rfl⟩
  cases hf : few11 js with
  | false =>
    go_wp2
    go_ret
    exact ⟨rfl, HB1.out⟩
  | true =>
  obtain ⟨hlowj, hlenj⟩ := few11_low hf
  clear hf hlowj HW
  by_cases hn : n ≤ 1000
  case neg =>
    have hnI : (1000 : Int) < n := by omega
    go_wp2
    go_ret
    exact ⟨rfl, HB1.out⟩
  have hnI : ¬ (1000 : Int) < n := by omega
  have HNe := Lib.hid (new_any w1 a n cap ds HD1.out hn)
  go_wp2_with (go_at_call 9; go_must (refine HNe.out.mono ?_))
  rintro e w2 ⟨L, kf, ht, rfl, hs2, b2, hL⟩
  have HO2 := Lib.hid (show LOwn w1.heap.size w1 L [] w2 from ⟨[], kf, ht, hs2, fun x hx => by simp at hx; subst hx; exact hL, b2⟩)
  clear hs2 b2 hL HNe
  go_wp2
  go_loopw [8, 9, 45] (fun hv zv iv wr => PPutRel w1 L ks hv zv iv wr) (fun _ _ iv _ => p - (intOf iv).toNat)
  case atStart => exact ⟨0, rfl, Nat.zero_le _, rfl, owns_nil _ _ _ _, HO2.out⟩
  case round =>
    obtain ⟨k, rfl, hk, rfl, hown, ns, kf, ht, hs, hg, hb⟩ := hrel
    have hsm := putsOf_small ks HLow.out k
    have hbs := hb.size
    obtain ⟨oa, ocap, rfl, ho1, ho2⟩ := (ownsRow.reads hown).le
    unfold maxLen at ho2
    by_cases hlt : k < p
    · have hkI : (k : Int) < p := by omega
      obtain ⟨g, off, x, rfl, hx, hbb, hcc⟩ := (HK1.out.below' hb).scell k hlt
      have hxs := HLow.out x (List.mem_of_getElem? hx)
      have HSn := Lib.hid (putsOf_snoc hx)
      have HPb := Lib.hid (putb_any wr w1.heap.size oa _ ocap _ x hown hbs (by omega))
      have hsm1 := hsm.1
      have hsm2 := hsm.2
      have HS := Lib.hid hs
      have HG := Lib.hid hg
      have HB := Lib.hid hb
      clear hx hs hg hb hsm hown
      generalize putsOf (ks.take k) = P at *
      go_wp2_with (go_at_call 10; go_must (refine HPb.out.mono ?_))
      rintro e w3 ⟨v3, rfl, o3, b3⟩
      have hs3 := HS.out.below b3
      have HP := Lib.hid (skput_any w3 L ns kf ht _ x hs3 (by omega) (by omega))
      have hz3 := Nat.le_trans hbs b3.size
      have HB3 := Lib.hid (HB.out.trans (b3.mono hbs))
      have HTy := Lib.hid hs3.nodes.types
      have HO3 := Lib.hid o3
      clear b3 hs3 o3 HPb
      go_wp2_with (go_at_call 11; go_must (refine HP.out.mono ?_))
      rintro e w4 hp
      have ho4 : w4.ownsRow w1.heap.size 9 1 v3 (putK P x).length (scells (putK P x)) := by
        obtain ⟨_, _, _, _, _, t4, _⟩ := hp
        exact owns_touch HO3.out t4 (fun y hy => by
          obtain ⟨cs, t, fz, hn, hc⟩ := HTy.out y hy
          exact ⟨cs, t, fz, hn.2, hc⟩)
      obtain ⟨rfl, ho5⟩ := LOwn.put HG.out HB3.out hz3 hp
      obtain ⟨na, ncap, rfl, hn1, hn2⟩ := (ownsRow.reads ho4).le
      unfold maxLen at hn2
      obtain ⟨hin1, hin2⟩ := inK_facts P x
      have hii : isIn P x = inK P x := rfl
      have HO4 := Lib.hid ho4
      have HL4 := Lib.hid ho5
      have hln4 : ∀ w', w' = w4 → ∃ ns' kf' ht', SkL w' L ns' kf' ht' (putK P x) := fun w' h => by
        obtain ⟨ns', kf', ht', hs', _⟩ := ho5
        exact ⟨ns', kf', ht', h ▸ hs'⟩
      obtain ⟨ns', kf', ht', hs'⟩ := hln4 w4 rfl
      have HLn := Lib.hid (len_any w4 L _ hs'.len)
      have HSz := Lib.hid (size_any w4 L _ hs'.size)
      rw [hii]
      clear hp ho4 ho5 hs' hln4 HP hii
      cases hik : inK P x with
      | true =>
        have HPk := Lib.hid (hin1 hik)
        rw [HPk.out] at HO4 HL4 HLn HSz hn1 ⊢
        clear hin1 hin2 hik
        go_wp2_with (go_at_call 12; go_must (refine HLn.out.mono ?_))
        rintro e w5 ⟨rfl, rfl⟩
        go_wp2_with (go_at_call 13; go_must (refine HSz.out.mono ?_))
        rintro e w5 ⟨rfl, rfl⟩
        go_wp2
        exact ⟨⟨k + 1, by go_num, by omega, by rw [HSn.out, HPk.out], by rw [HSn.out, HPk.out]; exact HO4.out, by rw [HSn.out, HPk.out]; exact HL4.out⟩, by simp [intOf]; omega⟩
      | false =>
        obtain ⟨hq1, hq2⟩ := hin2 hik
        have HQ2 := Lib.hid hq2
        have HQ1 := Lib.hid hq1
        clear hin1 hin2 hik
        rw [hq2] at HSz
        have hsmx : sumSz P + x.size ≤ 1000000 := by omega
        clear hq2
        go_wp2_with (go_at_call 12; go_must (refine HLn.out.mono ?_))
        rintro e w5 ⟨rfl, rfl⟩
        go_wp2_with (go_at_call 13; go_must (refine HSz.out.mono ?_))
        rintro e w5 ⟨rfl, rfl⟩
        go_wp2
        exact ⟨⟨k + 1, by go_num, by omega, by rw [HSn.out, HQ2.out]; go_num, by rw [HSn.out]; have := HO4.out; rw [HQ1.out] at this ⊢; exact this, by rw [HSn.out]; exact HL4.out⟩, by simp [intOf]; omega⟩
    · obtain rfl : k = p := by omega
      have hkI : ¬ ((k : Int) < k) := by omega
      rw [List.take_of_length_le (by omega)] at hs hsm hown ⊢
      have HSumG := Lib.hid hsm
      generalize putsOf ks = K at *
      have hKl : K.length ≤ 200 := by omega
      have HOw := Lib.hid hown
      have HS := Lib.hid hs
      have HB := Lib.hid hb
      have hbs2 := hbs
      have hown2 := (ownsRow.reads hown).le
      have HJ3 := Lib.hid (HJ1.out.below' hb)
      have HK3 := Lib.hid (HK1.out.below' hb)
      clear hs hb hown hg HO2 HSumG hsm hown2
      have HE0 := Lib.hid (show (wr.alloc (.cells #[] 9)).ownsRow wr.heap.size 9 1 (.slice (some ⟨wr.heap.size, 0, none⟩) 0 0) 0 [] from World.ownsRow_lit wr #[] 0 (Nat.le_refl _) (Nat.zero_le _) rfl)
      have HJ4 := Lib.hid (HJ3.out.alloc (.cells #[] 9))
      go_wp2_with (at_builtin; go_must (refine wpList_append_owns rfl _ _ 23 23 rfl wr.heap.size 9 i0 (.string ⟨#[]⟩) 1 16 Try.underlying23 hi hz0 hz1 hz2 rfl _ _ _ rfl HE0.out _ _ _ rfl (Reads.src Try.underlying23 HJ4.out (scells_one js)) ?_ ?_ ?_ ?_))
      · unfold maxLen; omega
      · omega
      intro v4 w4 o4 g4 b4 _
      have hb04 : Below wr.heap.size wr w4 := ((Below.refl _ _).alloc (Nat.le_refl _) _).trans b4
      have HK5 := Lib.hid (HK3.out.below' hb04)
      have HO4 := Lib.hid o4
      have HB4 := Lib.hid hb04
      obtain ⟨a4, cap4, rfl, _, _⟩ := (ownsRow.reads o4).le
      clear o4 g4 b4 hb04
      go_wp2_with (at_builtin; go_must (refine wpList_append_owns rfl _ _ 23 23 rfl wr.heap.size 9 i0 (.string ⟨#[]⟩) 1 16 Try.underlying23 hi hz0 hz1 hz2 rfl _ _ _ rfl HO4.out _ _ _ rfl (Reads.src Try.underlying23 HK5.out (scells_one ks)) ?_ ?_ ?_ ?_))
      · unfold maxLen; omega
      · omega
      · exact HB4.out.size
      intro v5 w5 o5 g5 b5 _
      have hb05 : Below wr.heap.size wr w5 := HB4.out.trans b5
      have hrows : Reads w5 1 v5 (js ++ ks).length (scells (js ++ ks)) := by
        have := ownsRow.reads o5
        rw [List.length_append, hjl, hkl, scells_append]
        simpa using this
      obtain ⟨a5, cap5, rfl, hc51, hc52⟩ := hrows.le
      unfold maxLen at hc52
      have HRw := Lib.hid hrows
      have HS5 := Lib.hid (HS.out.below hb05)
      have HHv := Lib.hid ((ownsRow.reads HOw.out).below' hb05)
      have HB5 := Lib.hid (HB1.out.trans ((HB.out.trans (hb05.mono hbs2)).mono HB1.out.size))
      have hrl : (js ++ ks).length ≤ 400 := by rw [List.length_append]; omega
      clear o5 g5 b5 hb05 hrows HO4 HB4 HJ4 HE0 HK5 HJ3 HK3 HB HS HOw
      generalize js ++ ks = R at *
      go_wp2
      go_loopw [84] (fun iv wr' => PAskRel w5 R.length iv wr') (fun iv _ => R.length - (intOf iv).toNat)
      case atStart => exact ⟨0, rfl, Nat.zero_le _, Below.refl _ _⟩
      case round =>
        obtain ⟨j, rfl, hj, hbq⟩ := hrel
        have HBq := Lib.hid hbq
        have hsq := HS5.out.below hbq
        have HHq := Lib.hid (HHv.out.below' hbq)
        by_cases hjr : j < R.length
        · have hjI : (j : Int) < R.length := by omega
          obtain ⟨g, off, x, rfl, hx, hbb, hcc⟩ := (HRw.out.below' hbq).scell j hjr
          have HA := Lib.hid (seek_any wr L ns kf ht K x hsq)
          have HSq := Lib.hid hsq
          obtain ⟨ha, hacap, hvq, hh1, hh2⟩ := HHq.out.le
          clear hx hsq hbq
          go_wp2_with (go_at_call 14; go_must (refine HA.out.mono ?_))
          rintro e w6 ⟨rfl, b6⟩
          have HB6 := Lib.hid (HBq.out.trans (b6.mono HBq.out.size))
          have hs6 := HSq.out.below b6
          have HH6 := Lib.hid (HHq.out.below' b6)
          have HR6 := Lib.hid (seek11_any w6 _ _ _ K x false HH6.out)
          have HS6 := Lib.hid hs6
          obtain ⟨s1, t1, hv1, hd1⟩ := has_spell (sk11 K x false) x
          rw [hv1]
          have HV1 := Lib.hid hv1
          have HD1' := Lib.hid hd1
          clear b6 hs6 HA hv1 hd1
          go_wp2_with (go_at_call 15; go_must (refine HR6.out.mono ?_))
          rintro e w7 ⟨rfl, rfl⟩
          rw [HV1.out]
          have HA := Lib.hid (after_any w6 L ns kf ht K x HS6.out)
          clear HR6
          go_wp2_with (go_at_call 16; go_must (refine HA.out.mono ?_))
          rintro e w7 ⟨rfl, b7⟩
          have HB7 := Lib.hid (HB6.out.trans (b7.mono HB6.out.size))
          have hs7 := HS6.out.below b7
          have HH7 := Lib.hid (HH6.out.below' b7)
          have HR7 := Lib.hid (seek11_any w7 _ _ _ K x true HH7.out)
          have HHs := Lib.hid (has_any w7 L ns kf ht K x hs7)
          obtain ⟨s2, t2, hv2⟩ := two_spell (sk11 K x true)
          rw [hv2]
          have HV2 := Lib.hid hv2
          clear b7 hs7 HA hv2
          go_wp2_with (go_at_call 15; go_must (refine HR7.out.mono ?_))
          rintro e w8 ⟨rfl, rfl⟩
          rw [HV2.out]
          clear HR7
          have e3 := str_eq s1 x
          by_cases hsx : s1 = x
          · rw [decide_eq_true hsx] at e3
            have HHv2 := Lib.hid (show decide (sk11 K x false = some x) = t1 by rw [HD1'.out, decide_eq_true hsx, Bool.and_true])
            clear hsx
            go_wp2_with (go_at_call 17; go_must (refine HHs.out.mono ?_))
            rintro e w8 ⟨rfl, b8⟩
            rw [HHv2.out]
            have HB8 := Lib.hid (HB7.out.trans (b8.mono HB7.out.size))
            clear b8
            cases t1 with
            | true =>
              go_wp2
              exact ⟨⟨j + 1, by go_num, by omega, HB8.out⟩, by simp [intOf]; omega⟩
            | false =>
              go_wp2
              exact ⟨⟨j + 1, by go_num, by omega, HB8.out⟩, by simp [intOf]; omega⟩
          · rw [decide_eq_false hsx] at e3
            have HHv2 := Lib.hid (show decide (sk11 K x false = some x) = false by rw [HD1'.out, decide_eq_false hsx, Bool.and_false])
            clear hsx
            go_wp2_with (go_at_call 17; go_must (refine HHs.out.mono ?_))
            rintro e w8 ⟨rfl, b8⟩
            rw [HHv2.out]
            have HB8 := Lib.hid (HB7.out.trans (b8.mono HB7.out.size))
            clear b8
            cases t1 with
            | true =>
              go_wp2
              exact ⟨⟨j + 1, by go_num, by omega, HB8.out⟩, by simp [intOf]; omega⟩
            | false =>
              go_wp2
              exact ⟨⟨j + 1, by go_num, by omega, HB8.out⟩, by simp [intOf]; omega⟩
        · obtain rfl : j = R.length := by omega
          have hjI : ¬ ((R.length : Int) < R.length) := by omega
          have HL := Lib.hid (last_any wr L ns kf ht K hsq)
          have HSq := Lib.hid hsq
          clear hbq hsq
          go_wp2_with (go_at_call 18; go_must (refine HL.out.mono ?_))
          rintro e w6 ⟨rfl, b6⟩
          have HB6 := Lib.hid (HBq.out.trans (b6.mono HBq.out.size))
          have hs6 := HSq.out.below b6
          have HH6 := Lib.hid (HHq.out.below' b6)
          have HAl := Lib.hid (all_any w6 L ns kf ht K hs6 (by omega))
          obtain ⟨s2, t2, hv2⟩ := two_spell K.getLast?
          rw [hv2]
          have HV2 := Lib.hid hv2
          clear b6 hs6 HL hv2
          go_wp2_with (go_at_call 20; go_must (refine HAl.out.mono ?_))
          rintro e w7 ⟨v7, rfl, o7, b7⟩
          have hr7 := ownsRow.reads o7
          obtain ⟨a7, cap7, rfl, _, _⟩ := hr7.le
          have HB7 := Lib.hid (HB6.out.trans (b7.mono HB6.out.size))
          have HH7 := Lib.hid (HH6.out.below' b7)
          have hsm := sames_any w7 a7 _ _ _ cap7 _ K K hr7 HH7.out
          rw [decide_eq_true (rfl : K = K)] at hsm
          have HSm := Lib.hid hsm
          clear o7 b7 hr7 hsm HAl
          have hlast := last_spell K s2 t2 HV2.out
          go_wp2_with (go_at_call 19; go_must (refine HSm.out.mono ?_))
          rintro e w8 ⟨rfl, b8⟩
          have HBf := Lib.hid (HB5.out.trans ((HB7.out.trans (b8.mono HB7.out.size)).mono HB5.out.size))
          have HH8 := Lib.hid (HH7.out.below' b8)
          clear b8 HSm
          rcases hlast with ⟨hk0, rfl, rfl⟩ | ⟨hk0, hkz, rfl⟩
          · obtain rfl : K = [] := List.length_eq_zero_iff.1 hk0
            clear hk0
            go_wp2
            go_ret
            exact ⟨rfl, HBf.out⟩
          · have hkI : (0 : Int) < K.length := by omega
            obtain ⟨g, off, z, hoa, hz, hgb, hgc⟩ := HH8.out.scell (K.length - 1) (by omega)
            rw [hkz] at hz
            cases hz
            cases hoa
            have hsub : (K.length : Int) - 1 = ((K.length - 1 : Nat) : Int) := by omega
            have hlt2 : ((K.length - 1 : Nat) : Int) < K.length := by omega
            clear hkz
            go_wp2
            go_ret
            exact ⟨rfl, HBf.out⟩
end Go.Proofs.Ythficboolhellaa
