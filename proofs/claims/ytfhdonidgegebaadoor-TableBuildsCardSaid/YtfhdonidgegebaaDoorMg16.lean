/- What the proof stands on, part 16. -/
import Derived.Test.YtfhdonidgegebaaDoorMg15
/- sentryref13.Build. -/
namespace Go.Proofs.YtfhdonidgegebaaDoor
open Go Go.RowKit

theorem apart_new {w w' : World} {B n s n' s' : Nat} {e e' : TypeId} {u v : Value} {xs ys : List Value} (hu : w'.ownsRow w.heap.size e s u n xs) (hv : w.ownsRow B e' s' v n' ys) : ApartV u v := fun g hg hv' => by
  have h1 := own_lt hv hv'
  rcases hu.2 with ⟨rfl, _⟩ | ⟨g', cap, cur, rfl, hB, _⟩
  · simp [Value.ownBlock] at hg
  · simp [Value.ownBlock] at hg
    subst hg
    omega

def RBuildRel (w : World) (ks : List ByteArray) (ov ev hv iv : Value) (wr : World) : Prop :=
  ∃ i q : Nat, iv = .int .i64 (i : Int) ∧ i ≤ ks.length ∧ stepsUp ks i ∧ q = (i + 15) / 16 ∧ hv = .int .i64 (q : Int) ∧ wr.ownsRow w.heap.size 5 1 ov (bodyTo ks i).length (bcells (bodyTo ks i)) ∧
    wr.ownsRow w.heap.size 5 1 ev (placesTo ks i).length (bcells (placesTo ks i)) ∧ ApartV ov ev ∧ Below w.heap.size w wr

set_option maxRecDepth 100000 in
set_option maxHeartbeats 2000000 in
theorem refbuild_any (w : World) (a : Option Addr) (n cap : Nat) (ks : List ByteArray) (h : Reads w 1 (.slice a n cap) n (scells ks)) (hn : n ≤ 60000) (hsz : ∀ x ∈ ks, x.size ≤ 60000) :
    Calls Tryd.prog 35 #[.slice a n cap] w (BuildPost w ks) := by
  obtain ⟨i0, hi, hz0, hz1, hz2⟩ := info_parts info5
  have hkl : ks.length = n := by have := h.1; rw [scells_length] at this; omega
  have HR := Lib.hid h
  have HL := Lib.hid hkl
  have HSz := Lib.hid hsz
  clear h hkl hsz
  unfold BuildPost
  go_enter Tryd.func35, Tryd.ntmps35
  go_wp2
  go_loopw [4, 5, 6, 12] (fun ov ev hv iv wr => RBuildRel w ks ov ev hv iv wr) (fun _ _ _ iv _ => n - (intOf iv).toNat)
  case atStart => exact ⟨0, 0, rfl, Nat.zero_le _, fun i h0 h1 => by omega, rfl, rfl, owns_nil _ _ _ _, owns_nil _ _ _ _, fun g hg => by simp [Value.ownBlock] at hg, Below.refl _ _⟩
  case round =>
    obtain ⟨i, q, rfl, hin, hst, hq, rfl, hbd, hpl, hap, hbw⟩ := hrel
    rw [HL.out] at hin
    by_cases hlt : i < n
    · have hltI : (i : Int) < n := by omega
      obtain ⟨g, off, x, rfl, hx, hg, hcx⟩ := (HR.out.below' hbw).scell i hlt
      have hqb : q ≤ 60000 := by omega
      have HQ := Lib.hid hq
      have HX := Lib.hid hx
      have HSt := Lib.hid hst
      have HBd0 := Lib.hid hbd
      have HBw0 := Lib.hid hbw
      obtain ⟨oa, ocap, rfl, hbc1, hbc2⟩ := (ownsRow.reads hbd).le
      obtain ⟨pa, pcap, rfl, hpc1, hpc2⟩ := (ownsRow.reads hpl).le
      have HAp0 := Lib.hid hap
      have HPl0 := Lib.hid hpl
      clear hq
      by_cases hi0 : i = 0
      · have hgI : ¬ (0 : Int) < (i : Int) := by omega
        have hmI : ((i : Int) % 16 == 0) = true := by simp; omega
        have Hm : Hid (i % 16 = 0) := Lib.hid (by omega)
        have HSt1 : Hid (stepsUp ks (i + 1)) := Lib.hid (by rw [hi0]; exact steps_one ks)
        clear hx hst hbd hpl hap hbw hi0
        have hbl0 := bodyTo_length HSz.out i
        have HFo := Lib.hid (four13_any wr (bodyTo ks i).length (by omega))
        have hqI : IntKind.i64.wrap ((q : Int) + 1) = ((q + 1 : Nat) : Int) := by rw [IntKind.wrap_i64]; omega
        have hpl0 : (placesTo ks i).length ≤ 400000 := by have := placesTo_length ks i; omega
        go_wp2_with (go_at_call 62; go_must (refine HFo.out.mono ?_))
        rintro e W4 ⟨v3, rfl, f4, b4⟩
        have hsrc := (ownsRow.reads f4).src (P := Tryd.prog) (tx := 24) Tryd.underlying24 (bcells_one _)
        have hbe : (be4 (bodyTo ks i).length).length = 4 := by simp [be4]
        have hop4 := owns_below HPl0.out b4
        have hob4 := owns_below HBd0.out b4
        have hB4 := HBw0.out.trans (b4.mono HBw0.out.size)
        have hBs4 := hB4.size
        rw [hbe] at hsrc
        have HB4 := Lib.hid hB4
        have HOb4 := Lib.hid hob4
        have HOp4 := Lib.hid hop4
        clear f4 b4 hB4 hob4 HFo HPl0 HBd0 HBw0 hbe
        go_wp2_with (at_builtin; go_must (refine wpList_append_owns rfl _ _ 24 24 rfl w.heap.size 5 i0 (.int .u8 0) 1 1 Tryd.underlying24 hi hz0 hz1 hz2 rfl _ _ _ rfl hop4 _ _ _ rfl hsrc ?_ ?_ ?_ ?_))
        · unfold maxLen; omega
        · omega
        · exact hBs4
        intro ev5 W5 o5 g5 b5 m5
        rw [← bcells_append] at o5
        have HBd5 := Lib.hid (owns_apart HOb4.out g5 HAp0.out.symm)
        have HPl5 : Hid (W5.ownsRow w.heap.size 5 1 ev5 (placesTo ks (i + 1)).length (bcells (placesTo ks (i + 1)))) := Lib.hid (by
          have : placesTo ks (i + 1) = placesTo ks i ++ be4 (bodyTo ks i).length := by
            show _ ++ (if i % 16 = 0 then _ else _) = _
            rw [if_pos Hm.out]
          rw [this, List.length_append, show (be4 (bodyTo ks i).length).length = 4 by simp [be4]]
          exact o5)
        have HBw5 := Lib.hid (HB4.out.trans b5)
        have Hs0 : Hid ((0 : Nat) = shareL ks i) := Lib.hid (by unfold shareL; rw [if_pos Hm.out])
        obtain ⟨q5, hq5⟩ : ∃ q5, q5 = q + 1 := ⟨_, rfl⟩
        have HQ5 : Hid (q5 = (i + 1 + 15) / 16) := Lib.hid (by have := HQ.out; have := Hm.out; omega)
        have hq5I : ((q : Int) + 1) = (q5 : Int) := by omega
        rw [hq5I]
        clear o5 g5 b5 m5 hsrc hop4 HOb4 HOp4 HB4 HAp0 hqI hq5 hq5I
        obtain ⟨s, hs⟩ : ∃ s, s = (0 : Nat) := ⟨_, rfl⟩
        have Hs : Hid (s = shareL ks i) := Lib.hid (by rw [hs]; exact Hs0.out)
        have hsx : s ≤ x.size := by omega
        have hsI0 : ((0 : Int)) = (s : Int) := by omega
        clear hs Hs0
        rw [hsI0]
        clear hsI0
        have hxsz : x.size ≤ 60000 := HSz.out x (List.mem_of_getElem? HX.out)
        have hbl := bodyTo_length HSz.out i
        have hel := enc_length_le 9 s (by omega)
        have hsI : (s : Int) ≤ x.size := by omega
        have hw47 : IntKind.u64.wrap (s : Int) = (s : Int) := by rw [IntKind.wrap_u64]; omega
        have hyd : (x.extract s x.size).data.toList = x.data.toList.drop s := Lib.extract_to_end x s
        have hys : (x.extract s x.size).size = x.size - s := by
          have h1 : (x.extract s x.size).data.toList.length = (x.data.toList.drop s).length := by rw [hyd]
          rw [Array.length_toList, List.length_drop, Array.length_toList] at h1
          exact h1
        obtain ⟨y, hy⟩ : ∃ y, x.extract s x.size = y := ⟨_, rfl⟩
        rw [hy] at hyd hys
        have hysz : y.size ≤ 60000 := by omega
        have HBody : Hid (bodyTo ks i ++ enc s ++ enc y.size ++ y.data.toList = bodyTo ks (i + 1)) := Lib.hid (by
          show _ = bodyTo ks i ++ entL (shareL ks i) (kb ks i)
          rw [← Hs.out, kb_at HX.out]
          unfold entL
          rw [hyd, hys, Array.length_toList]
          simp only [List.append_assoc]
          rfl)
        have HRd := Lib.hid (ownsRow.reads HBd5.out)
        clear hyd hys
        go_wp2_with fail
        refine wp_region_last (l := [_, _, _, _, _, _, _, _]) (by kernel_rfl) [eqF (.slice oa (bodyTo ks i).length ocap), eqF (.int .i64 (s : Int)), eqF (.int .u64 (s : Int)), ownsF W5.heap.size 5 1 (bodyTo ks i ++ enc s).length (bcells (bodyTo ks i ++ enc s)), eqF (.string x), eqF (.int .i64 (s : Int)), eqF (.string y), ownsF W5.heap.size 5 1 (bodyTo ks (i + 1)).length (bcells (bodyTo ks (i + 1)))] (by kernel_rfl) (by kernel_rfl) (by kernel_rfl) ⟨?_, ?_, ?_, ?_, ?_, ?_, ?_, ?_, trivial⟩ ?_
        · intro ρ wx hρ hbx hl
          have e4 : ρ (.tmp 4) = .slice oa (bodyTo ks i).length ocap := hρ.tmp 4 (by decide +kernel)
          refine y_val (v := .slice oa (bodyTo ks i).length ocap) ?_ rfl
          simp [execOp, go_sem, e4]
        · intro ρ wx hρ hbx hl
          have e9 : ρ (.tmp 9) = .int .i64 (s : Int) := hρ.tmp 9 (by decide +kernel)
          refine y_val (v := .int .i64 (s : Int)) ?_ rfl
          simp [execOp, go_sem, e9]
        · intro ρ wx hρ hbx hl
          have e46 : ρ (.tmp 46) = .int .i64 (s : Int) := hl 1 (by decide +kernel) 46 rfl
          refine y_val (v := .int .u64 (s : Int)) ?_ rfl
          simp [execOp, go_sem, e46, hw47]
        · intro ρ wx hρ hbx hl
          have e45 : ρ (.tmp 45) = .slice oa (bodyTo ks i).length ocap := hl 0 (by decide +kernel) 45 rfl
          have e47 : ρ (.tmp 47) = .int .u64 (s : Int) := hl 2 (by decide +kernel) 47 rfl
          refine y_call (f := 34) (args := #[.slice oa (bodyTo ks i).length ocap, .int .u64 (s : Int)]) (by simp [execOp, resolve, invoke, hρ.func, go_sem, e45, e47]) ?_
          refine (refputo_any wx _ (bodyTo ks i) s (HRd.out.below' hbx) (by omega) (by omega)).mono ?_
          rintro e w6 ⟨v7, rfl, f7, b7⟩
          exact ⟨v7, rfl, owns_less f7 hbx.size, b7⟩
        · intro ρ wx hρ hbx hl
          have e8 : ρ (.tmp 8) = .string x := hρ.tmp 8 (by decide +kernel)
          refine y_val (v := .string x) ?_ rfl
          simp [execOp, go_sem, e8]
        · intro ρ wx hρ hbx hl
          have e9 : ρ (.tmp 9) = .int .i64 (s : Int) := hρ.tmp 9 (by decide +kernel)
          refine y_val (v := .int .i64 (s : Int)) ?_ rfl
          simp [execOp, go_sem, e9]
        · intro ρ wx hρ hbx hl
          have e49 : ρ (.tmp 49) = .string x := hl 4 (by decide +kernel) 49 rfl
          have e50 : ρ (.tmp 50) = .int .i64 (s : Int) := hl 5 (by decide +kernel) 50 rfl
          refine y_val (v := .string y) ?_ rfl
          simp [execOp, go_sem, e49, e50, hsI, hy]
        · intro ρ wx hρ hbx hl
          have e48 := hl 3 (by decide +kernel) 48 rfl
          have e51 : ρ (.tmp 51) = .string y := hl 6 (by decide +kernel) 51 rfl
          refine y_call (f := 37) (args := #[ρ (.tmp 48), .string y]) (by simp [execOp, resolve, invoke, hρ.func, go_sem, e51]) ?_
          refine (refputtexto_any wx _ (bodyTo ks i ++ enc s) y (ownsRow.reads e48) (by rw [List.length_append]; omega) (by omega)).mono ?_
          rintro e w6 ⟨v7, rfl, f7, b7⟩
          rw [HBody.out] at f7
          exact ⟨v7, rfl, owns_less f7 hbx.size, b7⟩
        intro aa wz hdef hsz hlk hbz hf
        have ha := act_of_like hdef hsz hlk [45, 46, 47, 48, 49, 50, 51, 52] 60 rfl (by decide +kernel)
        have e45 : aa.tmps.getD 45 undef = .slice oa (bodyTo ks i).length ocap := hf 0 _ 45 rfl rfl
        have e46 : aa.tmps.getD 46 undef = .int .i64 (s : Int) := hf 1 _ 46 rfl rfl
        have e47 : aa.tmps.getD 47 undef = .int .u64 (s : Int) := hf 2 _ 47 rfl rfl
        have e49 : aa.tmps.getD 49 undef = .string x := hf 4 _ 49 rfl rfl
        have e50 : aa.tmps.getD 50 undef = .int .i64 (s : Int) := hf 5 _ 50 rfl rfl
        have e51 : aa.tmps.getD 51 undef = .string y := hf 6 _ 51 rfl rfl
        have e52 : (ownsF W5.heap.size 5 1 (bodyTo ks (i + 1)).length (bcells (bodyTo ks (i + 1)))).1 (aa.tmps.getD 52 undef) wz := hf 7 _ 52 rfl rfl
        generalize hv52 : aa.tmps.getD 52 undef = v52 at e52
        simp only [putAll, List.foldl_cons, List.foldl_nil, e45, e46, e47, e49, e50, e51, hv52] at ha
        generalize aa.tmps.getD 48 undef = v48 at ha
        simp [Act.put] at ha
        subst ha
        clear hdef hsz hlk hf e45 e46 e47 e49 e50 e51 hv52
        have e52' : wz.ownsRow W5.heap.size 5 1 v52 (bodyTo ks (i + 1)).length (bcells (bodyTo ks (i + 1))) := e52
        have hap9 := apart_new e52' HPl5.out
        have HFin : Hid (RBuildRel w ks v52 ev5 (.int .i64 (q5 : Int)) (.int .i64 ((i + 1 : Nat) : Int)) wz) := Lib.hid ⟨i + 1, q5, rfl, by rw [HL.out]; omega, HSt1.out, HQ5.out, rfl, owns_less e52' HBw5.out.size, owns_below HPl5.out hbz, hap9, HBw5.out.trans (hbz.mono HBw5.out.size)⟩
        clear e52 e52' hbz hap9
        go_wp2
        exact ⟨HFin.out, by simp [intOf]; omega⟩
      · obtain ⟨j, rfl⟩ : ∃ j, i = j + 1 := ⟨i - 1, by omega⟩
        have hgI : (0 : Int) < ((j + 1 : Nat) : Int) := by omega
        obtain ⟨_, _, z, hae, hz, _, hcz⟩ := (HR.out.below' hbw).scell j (by omega)
        cases hae
        have hw64 : IntKind.i64.wrap (((j + 1 : Nat) : Int) - 1) = (j : Int) := by rw [IntKind.wrap_i64]; omega
        have hjI2 : (((j + 1 : Nat) : Int) - 1) = (j : Int) := by omega
        have hjn : (j : Int) < n := by omega
        have e1 := bl_spell z x
        have e2 := bl_spell x z
        have e3 := str_eq z x
        have HZ := Lib.hid hz
        cases hbz : bl z x with
        | false =>
          have hno : ¬ rises ks := not_rises (by omega) (by simpa using hz) hx hbz
          have HNo := Lib.hid hno
          rw [hbz] at e1
          clear hx hst hbd hpl hap hbw hno hz e2 e3
          go_wp2
          go_ret2
          exact .inr ⟨HNo.out, rfl, HBw0.out⟩
        | true =>
          have HSt1 := Lib.hid (steps_more HSt.out (by simpa using hz) hx hbz)
          rw [hbz] at e1
          by_cases hm : (j + 1) % 16 = 0
          · have hmI : (((j + 1 : Nat) : Int) % 16 == 0) = true := by simp; omega
            have Hm := Lib.hid hm
            clear hx hst hbd hpl hap hbw hz e2 e3 hm
            generalize j + 1 = i at *
            have hbl0 := bodyTo_length HSz.out i
            have HFo := Lib.hid (four13_any wr (bodyTo ks i).length (by omega))
            have hqI : IntKind.i64.wrap ((q : Int) + 1) = ((q + 1 : Nat) : Int) := by rw [IntKind.wrap_i64]; omega
            have hpl0 : (placesTo ks i).length ≤ 400000 := by have := placesTo_length ks i; omega
            go_wp2_with (go_at_call 62; go_must (refine HFo.out.mono ?_))
            rintro e W4 ⟨v3, rfl, f4, b4⟩
            have hsrc := (ownsRow.reads f4).src (P := Tryd.prog) (tx := 24) Tryd.underlying24 (bcells_one _)
            have hbe : (be4 (bodyTo ks i).length).length = 4 := by simp [be4]
            have hop4 := owns_below HPl0.out b4
            have hob4 := owns_below HBd0.out b4
            have hB4 := HBw0.out.trans (b4.mono HBw0.out.size)
            have hBs4 := hB4.size
            rw [hbe] at hsrc
            have HB4 := Lib.hid hB4
            have HOb4 := Lib.hid hob4
            have HOp4 := Lib.hid hop4
            clear f4 b4 hB4 hob4 HFo HPl0 HBd0 HBw0 hbe
            go_wp2_with (at_builtin; go_must (refine wpList_append_owns rfl _ _ 24 24 rfl w.heap.size 5 i0 (.int .u8 0) 1 1 Tryd.underlying24 hi hz0 hz1 hz2 rfl _ _ _ rfl hop4 _ _ _ rfl hsrc ?_ ?_ ?_ ?_))
            · unfold maxLen; omega
            · omega
            · exact hBs4
            intro ev5 W5 o5 g5 b5 m5
            rw [← bcells_append] at o5
            have HBd5 := Lib.hid (owns_apart HOb4.out g5 HAp0.out.symm)
            have HPl5 : Hid (W5.ownsRow w.heap.size 5 1 ev5 (placesTo ks (i + 1)).length (bcells (placesTo ks (i + 1)))) := Lib.hid (by
              have : placesTo ks (i + 1) = placesTo ks i ++ be4 (bodyTo ks i).length := by
                show _ ++ (if i % 16 = 0 then _ else _) = _
                rw [if_pos Hm.out]
              rw [this, List.length_append, show (be4 (bodyTo ks i).length).length = 4 by simp [be4]]
              exact o5)
            have HBw5 := Lib.hid (HB4.out.trans b5)
            have Hs0 : Hid ((0 : Nat) = shareL ks i) := Lib.hid (by unfold shareL; rw [if_pos Hm.out])
            obtain ⟨q5, hq5⟩ : ∃ q5, q5 = q + 1 := ⟨_, rfl⟩
            have HQ5 : Hid (q5 = (i + 1 + 15) / 16) := Lib.hid (by have := HQ.out; have := Hm.out; omega)
            have hq5I : ((q : Int) + 1) = (q5 : Int) := by omega
            rw [hq5I]
            clear o5 g5 b5 m5 hsrc hop4 HOb4 HOp4 HB4 HAp0 hqI hq5 hq5I
            obtain ⟨s, hs⟩ : ∃ s, s = (0 : Nat) := ⟨_, rfl⟩
            have Hs : Hid (s = shareL ks i) := Lib.hid (by rw [hs]; exact Hs0.out)
            have hsx : s ≤ x.size := by omega
            have hsI0 : ((0 : Int)) = (s : Int) := by omega
            clear hs Hs0
            rw [hsI0]
            clear hsI0
            have hxsz : x.size ≤ 60000 := HSz.out x (List.mem_of_getElem? HX.out)
            have hbl := bodyTo_length HSz.out i
            have hel := enc_length_le 9 s (by omega)
            have hsI : (s : Int) ≤ x.size := by omega
            have hw47 : IntKind.u64.wrap (s : Int) = (s : Int) := by rw [IntKind.wrap_u64]; omega
            have hyd : (x.extract s x.size).data.toList = x.data.toList.drop s := Lib.extract_to_end x s
            have hys : (x.extract s x.size).size = x.size - s := by
              have h1 : (x.extract s x.size).data.toList.length = (x.data.toList.drop s).length := by rw [hyd]
              rw [Array.length_toList, List.length_drop, Array.length_toList] at h1
              exact h1
            obtain ⟨y, hy⟩ : ∃ y, x.extract s x.size = y := ⟨_, rfl⟩
            rw [hy] at hyd hys
            have hysz : y.size ≤ 60000 := by omega
            have HBody : Hid (bodyTo ks i ++ enc s ++ enc y.size ++ y.data.toList = bodyTo ks (i + 1)) := Lib.hid (by
              show _ = bodyTo ks i ++ entL (shareL ks i) (kb ks i)
              rw [← Hs.out, kb_at HX.out]
              unfold entL
              rw [hyd, hys, Array.length_toList]
              simp only [List.append_assoc]
              rfl)
            have HRd := Lib.hid (ownsRow.reads HBd5.out)
            clear hyd hys
            go_wp2_with fail
            refine wp_region_last (l := [_, _, _, _, _, _, _, _]) (by kernel_rfl) [eqF (.slice oa (bodyTo ks i).length ocap), eqF (.int .i64 (s : Int)), eqF (.int .u64 (s : Int)), ownsF W5.heap.size 5 1 (bodyTo ks i ++ enc s).length (bcells (bodyTo ks i ++ enc s)), eqF (.string x), eqF (.int .i64 (s : Int)), eqF (.string y), ownsF W5.heap.size 5 1 (bodyTo ks (i + 1)).length (bcells (bodyTo ks (i + 1)))] (by kernel_rfl) (by kernel_rfl) (by kernel_rfl) ⟨?_, ?_, ?_, ?_, ?_, ?_, ?_, ?_, trivial⟩ ?_
            · intro ρ wx hρ hbx hl
              have e4 : ρ (.tmp 4) = .slice oa (bodyTo ks i).length ocap := hρ.tmp 4 (by decide +kernel)
              refine y_val (v := .slice oa (bodyTo ks i).length ocap) ?_ rfl
              simp [execOp, go_sem, e4]
            · intro ρ wx hρ hbx hl
              have e9 : ρ (.tmp 9) = .int .i64 (s : Int) := hρ.tmp 9 (by decide +kernel)
              refine y_val (v := .int .i64 (s : Int)) ?_ rfl
              simp [execOp, go_sem, e9]
            · intro ρ wx hρ hbx hl
              have e46 : ρ (.tmp 46) = .int .i64 (s : Int) := hl 1 (by decide +kernel) 46 rfl
              refine y_val (v := .int .u64 (s : Int)) ?_ rfl
              simp [execOp, go_sem, e46, hw47]
            · intro ρ wx hρ hbx hl
              have e45 : ρ (.tmp 45) = .slice oa (bodyTo ks i).length ocap := hl 0 (by decide +kernel) 45 rfl
              have e47 : ρ (.tmp 47) = .int .u64 (s : Int) := hl 2 (by decide +kernel) 47 rfl
              refine y_call (f := 34) (args := #[.slice oa (bodyTo ks i).length ocap, .int .u64 (s : Int)]) (by simp [execOp, resolve, invoke, hρ.func, go_sem, e45, e47]) ?_
              refine (refputo_any wx _ (bodyTo ks i) s (HRd.out.below' hbx) (by omega) (by omega)).mono ?_
              rintro e w6 ⟨v7, rfl, f7, b7⟩
              exact ⟨v7, rfl, owns_less f7 hbx.size, b7⟩
            · intro ρ wx hρ hbx hl
              have e8 : ρ (.tmp 8) = .string x := hρ.tmp 8 (by decide +kernel)
              refine y_val (v := .string x) ?_ rfl
              simp [execOp, go_sem, e8]
            · intro ρ wx hρ hbx hl
              have e9 : ρ (.tmp 9) = .int .i64 (s : Int) := hρ.tmp 9 (by decide +kernel)
              refine y_val (v := .int .i64 (s : Int)) ?_ rfl
              simp [execOp, go_sem, e9]
            · intro ρ wx hρ hbx hl
              have e49 : ρ (.tmp 49) = .string x := hl 4 (by decide +kernel) 49 rfl
              have e50 : ρ (.tmp 50) = .int .i64 (s : Int) := hl 5 (by decide +kernel) 50 rfl
              refine y_val (v := .string y) ?_ rfl
              simp [execOp, go_sem, e49, e50, hsI, hy]
            · intro ρ wx hρ hbx hl
              have e48 := hl 3 (by decide +kernel) 48 rfl
              have e51 : ρ (.tmp 51) = .string y := hl 6 (by decide +kernel) 51 rfl
              refine y_call (f := 37) (args := #[ρ (.tmp 48), .string y]) (by simp [execOp, resolve, invoke, hρ.func, go_sem, e51]) ?_
              refine (refputtexto_any wx _ (bodyTo ks i ++ enc s) y (ownsRow.reads e48) (by rw [List.length_append]; omega) (by omega)).mono ?_
              rintro e w6 ⟨v7, rfl, f7, b7⟩
              rw [HBody.out] at f7
              exact ⟨v7, rfl, owns_less f7 hbx.size, b7⟩
            intro aa wz hdef hsz hlk hbz hf
            have ha := act_of_like hdef hsz hlk [45, 46, 47, 48, 49, 50, 51, 52] 60 rfl (by decide +kernel)
            have e45 : aa.tmps.getD 45 undef = .slice oa (bodyTo ks i).length ocap := hf 0 _ 45 rfl rfl
            have e46 : aa.tmps.getD 46 undef = .int .i64 (s : Int) := hf 1 _ 46 rfl rfl
            have e47 : aa.tmps.getD 47 undef = .int .u64 (s : Int) := hf 2 _ 47 rfl rfl
            have e49 : aa.tmps.getD 49 undef = .string x := hf 4 _ 49 rfl rfl
            have e50 : aa.tmps.getD 50 undef = .int .i64 (s : Int) := hf 5 _ 50 rfl rfl
            have e51 : aa.tmps.getD 51 undef = .string y := hf 6 _ 51 rfl rfl
            have e52 : (ownsF W5.heap.size 5 1 (bodyTo ks (i + 1)).length (bcells (bodyTo ks (i + 1)))).1 (aa.tmps.getD 52 undef) wz := hf 7 _ 52 rfl rfl
            generalize hv52 : aa.tmps.getD 52 undef = v52 at e52
            simp only [putAll, List.foldl_cons, List.foldl_nil, e45, e46, e47, e49, e50, e51, hv52] at ha
            generalize aa.tmps.getD 48 undef = v48 at ha
            simp [Act.put] at ha
            subst ha
            clear hdef hsz hlk hf e45 e46 e47 e49 e50 e51 hv52
            have e52' : wz.ownsRow W5.heap.size 5 1 v52 (bodyTo ks (i + 1)).length (bcells (bodyTo ks (i + 1))) := e52
            have hap9 := apart_new e52' HPl5.out
            have HFin : Hid (RBuildRel w ks v52 ev5 (.int .i64 (q5 : Int)) (.int .i64 ((i + 1 : Nat) : Int)) wz) := Lib.hid ⟨i + 1, q5, rfl, by rw [HL.out]; omega, HSt1.out, HQ5.out, rfl, owns_less e52' HBw5.out.size, owns_below HPl5.out hbz, hap9, HBw5.out.trans (hbz.mono HBw5.out.size)⟩
            clear e52 e52' hbz hap9
            go_wp2
            exact ⟨HFin.out, by simp [intOf]; omega⟩
          · have hmI : (((j + 1 : Nat) : Int) % 16 == 0) = false := by simp; omega
            have Hs1 : Hid (comL z.data.toList x.data.toList = shareL ks (j + 1)) := Lib.hid (by
              unfold shareL
              rw [if_neg hm, kb_at hx, show j + 1 - 1 = j by omega, kb_at hz])
            have hzz : z.size ≤ 60000 := HSz.out z (List.mem_of_getElem? hz)
            have HCm := Lib.hid (rcommon_any wr z x (by omega))
            have hpeq : placesTo ks (j + 1 + 1) = placesTo ks (j + 1) := by
              show _ ++ (if (j + 1) % 16 = 0 then _ else _) = _
              rw [if_neg hm, List.append_nil]
            have HPeq := Lib.hid hpeq
            have hcl := (comL_le z.data.toList x.data.toList).2
            rw [Array.length_toList] at hcl
            have HQ5 : Hid (q = (j + 1 + 1 + 15) / 16) := Lib.hid (by have := HQ.out; omega)
            clear hx hst hbd hpl hap hbw hz e2 e3 hm hpeq
            go_wp2_with (go_at_call 63; go_must (refine HCm.out.mono ?_))
            rintro e W5 ⟨rfl, b5⟩
            have HBd5 := Lib.hid (owns_below HBd0.out b5)
            have HBw5 := Lib.hid (HBw0.out.trans (b5.mono HBw0.out.size))
            obtain ⟨ev5, hev⟩ : ∃ v, v = Value.slice pa (placesTo ks (j + 1)).length pcap := ⟨_, rfl⟩
            have HPl5 : Hid (W5.ownsRow w.heap.size 5 1 ev5 (placesTo ks (j + 1 + 1)).length (bcells (placesTo ks (j + 1 + 1)))) := Lib.hid (by
              rw [HPeq.out, hev]
              exact owns_below HPl0.out b5)
            obtain ⟨q5, hq5⟩ : ∃ q5, q5 = q := ⟨_, rfl⟩
            rw [← hq5] at HQ5
            rw [← hev, ← hq5]
            clear b5 HCm HPl0 HBd0 HBw0 HAp0 hev hq5 HPeq
            generalize comL z.data.toList x.data.toList = s at *
            have Hs := Hs1
            have hsx : s ≤ x.size := hcl
            clear Hs1 hcl
            generalize j + 1 = i at *
            have hxsz : x.size ≤ 60000 := HSz.out x (List.mem_of_getElem? HX.out)
            have hbl := bodyTo_length HSz.out i
            have hel := enc_length_le 9 s (by omega)
            have hsI : (s : Int) ≤ x.size := by omega
            have hw47 : IntKind.u64.wrap (s : Int) = (s : Int) := by rw [IntKind.wrap_u64]; omega
            have hyd : (x.extract s x.size).data.toList = x.data.toList.drop s := Lib.extract_to_end x s
            have hys : (x.extract s x.size).size = x.size - s := by
              have h1 : (x.extract s x.size).data.toList.length = (x.data.toList.drop s).length := by rw [hyd]
              rw [Array.length_toList, List.length_drop, Array.length_toList] at h1
              exact h1
            obtain ⟨y, hy⟩ : ∃ y, x.extract s x.size = y := ⟨_, rfl⟩
            rw [hy] at hyd hys
            have hysz : y.size ≤ 60000 := by omega
            have HBody : Hid (bodyTo ks i ++ enc s ++ enc y.size ++ y.data.toList = bodyTo ks (i + 1)) := Lib.hid (by
              show _ = bodyTo ks i ++ entL (shareL ks i) (kb ks i)
              rw [← Hs.out, kb_at HX.out]
              unfold entL
              rw [hyd, hys, Array.length_toList]
              simp only [List.append_assoc]
              rfl)
            have HRd := Lib.hid (ownsRow.reads HBd5.out)
            clear hyd hys
            go_wp2_with fail
            refine wp_region_last (l := [_, _, _, _, _, _, _, _]) (by kernel_rfl) [eqF (.slice oa (bodyTo ks i).length ocap), eqF (.int .i64 (s : Int)), eqF (.int .u64 (s : Int)), ownsF W5.heap.size 5 1 (bodyTo ks i ++ enc s).length (bcells (bodyTo ks i ++ enc s)), eqF (.string x), eqF (.int .i64 (s : Int)), eqF (.string y), ownsF W5.heap.size 5 1 (bodyTo ks (i + 1)).length (bcells (bodyTo ks (i + 1)))] (by kernel_rfl) (by kernel_rfl) (by kernel_rfl) ⟨?_, ?_, ?_, ?_, ?_, ?_, ?_, ?_, trivial⟩ ?_
            · intro ρ wx hρ hbx hl
              have e4 : ρ (.tmp 4) = .slice oa (bodyTo ks i).length ocap := hρ.tmp 4 (by decide +kernel)
              refine y_val (v := .slice oa (bodyTo ks i).length ocap) ?_ rfl
              simp [execOp, go_sem, e4]
            · intro ρ wx hρ hbx hl
              have e9 : ρ (.tmp 9) = .int .i64 (s : Int) := hρ.tmp 9 (by decide +kernel)
              refine y_val (v := .int .i64 (s : Int)) ?_ rfl
              simp [execOp, go_sem, e9]
            · intro ρ wx hρ hbx hl
              have e46 : ρ (.tmp 46) = .int .i64 (s : Int) := hl 1 (by decide +kernel) 46 rfl
              refine y_val (v := .int .u64 (s : Int)) ?_ rfl
              simp [execOp, go_sem, e46, hw47]
            · intro ρ wx hρ hbx hl
              have e45 : ρ (.tmp 45) = .slice oa (bodyTo ks i).length ocap := hl 0 (by decide +kernel) 45 rfl
              have e47 : ρ (.tmp 47) = .int .u64 (s : Int) := hl 2 (by decide +kernel) 47 rfl
              refine y_call (f := 34) (args := #[.slice oa (bodyTo ks i).length ocap, .int .u64 (s : Int)]) (by simp [execOp, resolve, invoke, hρ.func, go_sem, e45, e47]) ?_
              refine (refputo_any wx _ (bodyTo ks i) s (HRd.out.below' hbx) (by omega) (by omega)).mono ?_
              rintro e w6 ⟨v7, rfl, f7, b7⟩
              exact ⟨v7, rfl, owns_less f7 hbx.size, b7⟩
            · intro ρ wx hρ hbx hl
              have e8 : ρ (.tmp 8) = .string x := hρ.tmp 8 (by decide +kernel)
              refine y_val (v := .string x) ?_ rfl
              simp [execOp, go_sem, e8]
            · intro ρ wx hρ hbx hl
              have e9 : ρ (.tmp 9) = .int .i64 (s : Int) := hρ.tmp 9 (by decide +kernel)
              refine y_val (v := .int .i64 (s : Int)) ?_ rfl
              simp [execOp, go_sem, e9]
            · intro ρ wx hρ hbx hl
              have e49 : ρ (.tmp 49) = .string x := hl 4 (by decide +kernel) 49 rfl
              have e50 : ρ (.tmp 50) = .int .i64 (s : Int) := hl 5 (by decide +kernel) 50 rfl
              refine y_val (v := .string y) ?_ rfl
              simp [execOp, go_sem, e49, e50, hsI, hy]
            · intro ρ wx hρ hbx hl
              have e48 := hl 3 (by decide +kernel) 48 rfl
              have e51 : ρ (.tmp 51) = .string y := hl 6 (by decide +kernel) 51 rfl
              refine y_call (f := 37) (args := #[ρ (.tmp 48), .string y]) (by simp [execOp, resolve, invoke, hρ.func, go_sem, e51]) ?_
              refine (refputtexto_any wx _ (bodyTo ks i ++ enc s) y (ownsRow.reads e48) (by rw [List.length_append]; omega) (by omega)).mono ?_
              rintro e w6 ⟨v7, rfl, f7, b7⟩
              rw [HBody.out] at f7
              exact ⟨v7, rfl, owns_less f7 hbx.size, b7⟩
            intro aa wz hdef hsz hlk hbz hf
            have ha := act_of_like hdef hsz hlk [45, 46, 47, 48, 49, 50, 51, 52] 60 rfl (by decide +kernel)
            have e45 : aa.tmps.getD 45 undef = .slice oa (bodyTo ks i).length ocap := hf 0 _ 45 rfl rfl
            have e46 : aa.tmps.getD 46 undef = .int .i64 (s : Int) := hf 1 _ 46 rfl rfl
            have e47 : aa.tmps.getD 47 undef = .int .u64 (s : Int) := hf 2 _ 47 rfl rfl
            have e49 : aa.tmps.getD 49 undef = .string x := hf 4 _ 49 rfl rfl
            have e50 : aa.tmps.getD 50 undef = .int .i64 (s : Int) := hf 5 _ 50 rfl rfl
            have e51 : aa.tmps.getD 51 undef = .string y := hf 6 _ 51 rfl rfl
            have e52 : (ownsF W5.heap.size 5 1 (bodyTo ks (i + 1)).length (bcells (bodyTo ks (i + 1)))).1 (aa.tmps.getD 52 undef) wz := hf 7 _ 52 rfl rfl
            generalize hv52 : aa.tmps.getD 52 undef = v52 at e52
            simp only [putAll, List.foldl_cons, List.foldl_nil, e45, e46, e47, e49, e50, e51, hv52] at ha
            generalize aa.tmps.getD 48 undef = v48 at ha
            simp [Act.put] at ha
            subst ha
            clear hdef hsz hlk hf e45 e46 e47 e49 e50 e51 hv52
            have e52' : wz.ownsRow W5.heap.size 5 1 v52 (bodyTo ks (i + 1)).length (bcells (bodyTo ks (i + 1))) := e52
            have hap9 := apart_new e52' HPl5.out
            have HFin : Hid (RBuildRel w ks v52 ev5 (.int .i64 (q5 : Int)) (.int .i64 ((i + 1 : Nat) : Int)) wz) := Lib.hid ⟨i + 1, q5, rfl, by rw [HL.out]; omega, HSt1.out, HQ5.out, rfl, owns_less e52' HBw5.out.size, owns_below HPl5.out hbz, hap9, HBw5.out.trans (hbz.mono HBw5.out.size)⟩
            clear e52 e52' hbz hap9
            go_wp2
            exact ⟨HFin.out, by simp [intOf]; omega⟩
    · obtain rfl : i = n := by omega
      have hltI : ¬ (i : Int) < i := by omega
      have hlL := HL.out
      rw [← hlL] at hbd hpl hst hq
      have hri : rises ks := rises_of_steps ks hst
      have hbl := bodyTo_length HSz.out ks.length
      have HRi := Lib.hid hri
      have hpb : (placesTo ks ks.length).length ≤ 100000 := by have := placesTo_length ks ks.length; omega
      have hbb : (bodyTo ks ks.length).length ≤ 3601200000 := by omega
      have HBl : Hid (buildL ks = bodyTo ks ks.length ++ placesTo ks ks.length ++ be4 q) := Lib.hid (by
        unfold buildL
        rw [placesTo_length, Nat.mul_div_cancel _ (by decide), ← hq])
      have hqb : q ≤ 60000 := by omega
      clear hq hst hri hbl
      generalize bodyTo ks ks.length = Bd at *
      generalize placesTo ks ks.length = Pl at *
      obtain ⟨ba, bcap, rfl, hbc1, hbc2⟩ := (ownsRow.reads hbd).le
      obtain ⟨pa, pcap, rfl, hpc1, hpc2⟩ := (ownsRow.reads hpl).le
      have hsrc := (ownsRow.reads hpl).src (P := Tryd.prog) (tx := 24) Tryd.underlying24 (bcells_one _)
      have hBs := hbw.size
      have HBd := Lib.hid hbd
      have HBw := Lib.hid hbw
      clear hpl hbd hbw hlL hap
      go_wp2_with (at_builtin; go_must (refine wpList_append_owns rfl _ _ 24 24 rfl w.heap.size 5 i0 (.int .u8 0) 1 1 Tryd.underlying24 hi hz0 hz1 hz2 rfl _ _ _ rfl HBd.out _ _ _ rfl hsrc ?_ ?_ ?_ ?_))
      · unfold maxLen; omega
      · omega
      intro v5 w5 o5 g5 b5 m5
      rw [← bcells_append, ← List.length_append] at o5
      have hpbd : (Bd ++ Pl).length ≤ 4000000000 := by rw [List.length_append]; omega
      have HO5 := Lib.hid o5
      have HB5 := Lib.hid (HBw.out.trans b5)
      have HFo := Lib.hid (four13_any w5 q (by omega))
      generalize hBP : Bd ++ Pl = BP at *
      clear o5 g5 b5 m5 hsrc HBd HBw hBs hBP
      go_wp2_with (go_at_call 62; go_must (refine HFo.out.mono ?_))
      rintro e w6 ⟨v6, rfl, f6, b6⟩
      have hsrc6 := (ownsRow.reads f6).src (P := Tryd.prog) (tx := 24) Tryd.underlying24 (bcells_one _)
      have hbe : (be4 q).length = 4 := by simp [be4]
      rw [hbe] at hsrc6
      have ho6 := owns_below HO5.out b6
      have hB6 := HB5.out.trans (b6.mono HB5.out.size)
      have hBs6 := hB6.size
      have HB6 := Lib.hid hB6
      clear f6 b6 hB6 hbe HO5 HB5 HFo
      go_wp2_with (at_builtin; go_must (refine wpList_append_owns rfl _ _ 24 24 rfl w.heap.size 5 i0 (.int .u8 0) 1 1 Tryd.underlying24 hi hz0 hz1 hz2 rfl _ _ _ rfl ho6 _ _ _ rfl hsrc6 ?_ ?_ ?_ ?_))
      · unfold maxLen; omega
      · omega
      · exact hBs6
      intro v7 w7 o7 g7 b7 m7
      rw [← bcells_append] at o7
      have HO7 := Lib.hid o7
      have HB7 := Lib.hid (HB6.out.trans b7)
      clear o7 g7 b7 m7 hsrc6 ho6 HB6
      go_wp2
      go_ret2
      refine .inl ⟨HRi.out, _, rfl, ?_, HB7.out⟩
      rw [HBl.out, List.length_append, show (be4 q).length = 4 by simp [be4]]
      exact HO7.out
end Go.Proofs.YtfhdonidgegebaaDoor

namespace Go.Proofs.YtfhdonidgegebaaDoor
open Go Go.RowKit

theorem crcIter_succ (i r : Nat) : crcIter (i + 1) r = crcBit (crcIter i r) := crcIter_add i 1 r

theorem bit_odd (s : Nat) (hs : s < 4294967296) (h : s % 2 = 1) : bits BinOp.xor .u32 ((s : Int) / 2) 3988292384 = (crcBit s : Int) := by
  have := u32_xor_nat (s / 2) 3988292384 (by omega) (by decide)
  simp only [Int.cast_ofNat_Int] at this
  rw [show (s : Int) / 2 = ((s / 2 : Nat) : Int) from by omega, this, crcBit, if_pos h]

theorem bit_even (s : Nat) (h : ¬ s % 2 = 1) : (s : Int) / 2 = (crcBit s : Int) := by
  rw [crcBit, if_neg h]
  simp

def CrcIn (r : Nat) (s i : Value) : Prop := ∃ k : Nat, i = .int .i64 (k : Int) ∧ k ≤ 8 ∧ s = .int .u32 (crcIter k r : Int)

set_option maxRecDepth 100000 in
set_option maxHeartbeats 1000000 in
theorem refsum_any (w : World) (v : Value) (n : Nat) (l : List UInt8) (h : Reads w 1 v n (bcells l)) :
    Calls Tryd.prog 65 #[v] w (TellsU32 w (sumL l)) := by
  obtain ⟨a, cap, rfl, h1, h2⟩ := h.le
  unfold maxLen at h2
  have hl : l.length = n := by have := h.1; simpa [bcells_length] using this
  have Hl := Lib.hid hl
  have HR := Lib.hid h
  clear h hl
  go_enter Tryd.func65, Tryd.ntmps65
  go_wp2
  go_loop [3, 10] (fun h i => CrcRel l h i) (fun _ i => n - (intOf i).toNat)
  case atStart => exact ⟨0, rfl, Nat.zero_le _, rfl⟩
  case round =>
    obtain ⟨k, rfl, hk, rfl⟩ := hrel
    rw [Hl.out] at hk
    by_cases hlt : k < n
    · have hlt' : (k : Int) < n := by omega
      obtain ⟨b, off, cap', hv, hxx1, hxx2, hxx3, hc⟩ := HR.out.head (by omega)
      cases hv
      clear hxx1 hxx2 hxx3
      have ck := hc k hlt
      have hsu : (l.take (k + 1)).foldl crcByte 4294967295 = crcByte ((l.take k).foldl crcByte 4294967295) (l.getD k 0) := by
        have e : l.take (k + 1) = l.take k ++ [l.getD k 0] := by
          rw [List.take_add_one, List.getElem?_eq_getElem (by rw [Hl.out]; exact hlt)]
          simp [List.getD, show k < l.length by rw [Hl.out]; exact hlt]
        rw [e, List.foldl_append, List.foldl_cons, List.foldl_nil]
      have hh := foldCrc_lt (l.take k) 4294967295 (by decide)
      generalize (l.take k).foldl crcByte 4294967295 = s at *
      generalize l.getD k 0 = c at *
      have q1 := crc_in s c hh
      have hc8 := c.toNat_lt
      have hr : s ^^^ c.toNat < 4294967296 := Nat.xor_lt_two_pow (n := 32) hh (by omega)
      have hcb : crcByte s c = crcIter 8 (s ^^^ c.toNat) := rfl
      rw [hcb] at hsu
      generalize s ^^^ c.toNat = r at *
      have Hsu := Lib.hid hsu
      clear hsu hcb hc
      go_wp2
      clear q1 ck
      go_loop [3, 6] (fun s i => CrcIn r s i) (fun _ i => 8 - (intOf i).toNat)
      case atStart => exact ⟨0, rfl, Nat.zero_le _, rfl⟩
      case round =>
        obtain ⟨i, rfl, hi, rfl⟩ := hrel
        have hsi := crcIter_lt i hr
        have hsc := crcIter_succ i r
        by_cases hi8 : i < 8
        · have hi8' : (i : Int) < 8 := by omega
          generalize crcIter i r = q at *
          have Hsc := Lib.hid hsc
          clear hsc
          by_cases hodd : q % 2 = 1
          · have ho : (((q : Int) % 2) == 1) = true := by simp; omega
            have hb := bit_odd q hsi hodd
            clear hodd
            go_wp2
            exact ⟨⟨i + 1, by go_num, by omega, by rw [Hsc.out]⟩, by simp [intOf]; omega⟩
          · have ho : (((q : Int) % 2) == 1) = false := by simp; omega
            have hb := bit_even q hodd
            clear hodd
            go_wp2
            exact ⟨⟨i + 1, by go_num, by omega, by rw [Hsc.out]⟩, by simp [intOf]; omega⟩
        · obtain rfl : i = 8 := by omega
          clear hsc
          go_wp2
          exact ⟨⟨k + 1, by go_num, by rw [Hl.out]; omega, by rw [Hsu.out]⟩, by simp [intOf]; omega⟩
    · obtain rfl : n = k := by omega
      have hlt' : ¬ ((n : Int) < n) := by omega
      have e : List.take n l = l := List.take_of_length_le (by rw [Hl.out]; exact Nat.le_refl _)
      have E := Lib.hid e
      have hs := foldCrc_lt l 4294967295 (by decide)
      have hn := u32_xor_nat _ 4294967295 hs (by decide)
      have Hn := Lib.hid hn
      clear e hn hs
      go_wp2
      go_ret
      rw [E.out]
      refine ⟨?_, rfl⟩
      exact congrArg (fun z => Ending.returned (.int .u32 z)) Hn.out

def FourPost (w : World) (N : Nat) (e : Ending) (w' : World) : Prop :=
  e = .returned (.slice (some ⟨w.heap.size, 0, none⟩) 4 4) ∧ Fresh w.heap.size w' 5 1 (.slice (some ⟨w.heap.size, 0, none⟩) 4 4) 4 (bcells (be4 N)) ∧ Below w.heap.size w w'

set_option maxRecDepth 100000 in
set_option maxHeartbeats 1000000 in
theorem four_any (w : World) (N : Nat) (hN : N < 4294967296) :
    Calls Tryd.prog 64 #[.int .u32 N] w (FourPost w N) := by
  have e4 : #[Value.int .u8 ((N : Int) / 16777216), .int .u8 ((N : Int) / 65536 % 256), .int .u8 ((N : Int) / 256 % 256), .int .u8 ((N : Int) % 256)] = (bcells (be4 N)).toArray := by
    simp [bcells, be4]
    omega
  have E4 := Lib.hid e4
  clear e4
  go_enter Tryd.func64, Tryd.ntmps64
  go_wp2
  go_ret
  refine ⟨rfl, ?_, (Below.refl _ _).alloc (Nat.le_refl _) _⟩
  rw [E4.out]
  exact ⟨lits_read w (be4 N) 4 (0, 0) rfl (by decide), .inl ⟨_, rfl⟩⟩
end Go.Proofs.YtfhdonidgegebaaDoor

namespace Go.Proofs.YtfhdonidgegebaaDoor
open Go Go.RowKit

set_option maxRecDepth 100000 in
set_option maxHeartbeats 1000000 in
theorem refseal_any (w : World) (v : Value) (n : Nat) (l : List UInt8) (h : Reads w 1 v n (bcells l)) (hn : n ≤ 100000000) :
    Calls Tryd.prog 36 #[v] w (GivesBytes w (sealL l)) := by
  obtain ⟨i0, hi, hz0, hz1, hz2⟩ := info_parts info5
  obtain ⟨a, cap, rfl, h1, h2⟩ := h.le
  unfold maxLen at h2
  have hl : l.length = n := by have := h.1; simpa [bcells_length] using this
  have h9 : sealL l = be4 n ++ be4 (sumL l) ++ l := by rw [sealL, hl]
  have hsl := sealL_length l
  have hsum := sumL_lt l
  rw [hl] at hsl
  have Hsl := Lib.hid hsl
  have H9 := Lib.hid h9
  have HR := Lib.hid h
  clear h hl hsl h9
  go_enter Tryd.func36, Tryd.ntmps36
  go_wp2_with (go_at_call 64; go_must (refine (four_any w n (by omega)).mono ?_))
  rintro e w1 ⟨rfl, f1, b1⟩
  have r1 := HR.out.below' b1
  have bs1 := b1.size
  go_wp2_with (go_at_call 65; go_must (refine (refsum_any w1 _ n l r1).mono ?_))
  rintro e w2 ⟨rfl, rfl⟩
  go_wp2_with (go_at_call 64; go_must (refine (four_any w1 (sumL l) hsum).mono ?_))
  rintro e w3 ⟨rfl, f3, b3⟩
  have f13 := f1.grown (row := none) ⟨b3.os, b3.tape, b3.output, b3.size, fun k hk _ => b3.block k hk⟩ (.inr (by simp [Value.ownBlock]))
  have bs3 := b3.size
  have hsrc := Reads.src (P := Tryd.prog) (tx := 24) Tryd.underlying24 f3.1 (bcells_one (be4 (sumL l)))
  have b13 : Below w.heap.size w w3 := b1.trans (b3.mono bs1)
  clear f1 f3 r1 b1 b3
  go_wp2_with (at_builtin; go_must (refine wpList_append_fresh rfl _ _ 24 24 rfl w.heap.size 5 i0 (.int .u8 0) 1 1 Tryd.underlying24 hi hz0 hz1 hz2 rfl _ _ _ rfl f13 _ _ _ rfl hsrc ?_ ?_ ?_ ?_))
  · unfold maxLen; omega
  · omega
  · omega
  intro v4 w4 f4 g4 b4 m4
  rw [← bcells_append] at f4
  have b14 := b13.trans b4
  have r4 := HR.out.below' b14
  have hsrc2 := Reads.src (P := Tryd.prog) (tx := 24) Tryd.underlying24 r4 (bcells_one l)
  have bs4 := b4.size
  clear f13 hsrc r4 g4 m4 b13 b4
  go_wp2_with (at_builtin; go_must (refine wpList_append_fresh rfl _ _ 24 24 rfl w.heap.size 5 i0 (.int .u8 0) 1 1 Tryd.underlying24 hi hz0 hz1 hz2 rfl _ _ _ rfl f4 _ _ _ rfl hsrc2 ?_ ?_ ?_ ?_))
  · unfold maxLen; omega
  · omega
  · omega
  intro v5 w5 f5 g5 b5 m5
  rw [← bcells_append] at f5
  have b15 := b14.trans b5
  have F5 := Lib.hid f5
  clear f4 hsrc2 f5 g5 m5 b5 b14
  go_wp2
  go_ret
  refine ⟨_, rfl, ?_, b15⟩
  rw [Hsl.out, H9.out]
  exact F5.out
end Go.Proofs.YtfhdonidgegebaaDoor
