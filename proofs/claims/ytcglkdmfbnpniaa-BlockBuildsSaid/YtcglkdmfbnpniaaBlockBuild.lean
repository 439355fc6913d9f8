/- Build. -/
import Derived.Test.YtcglkdmfbnpniaaBlockCommon
import Derived.Test.YtcglkdmfbnpniaaBlockPut
import Derived.Test.YtcglkdmfbnpniaaAppendRows
import Derived.IntWalk
import Derived.Lib.IndexBytes
namespace Go.Proofs.Ytcglkdmfbnpniaa
open Go Go.RowKit

def ApartV (u v : Value) : Prop := ∀ g, u.ownBlock = some g → v.ownBlock ≠ some g
theorem ApartV.symm {u v : Value} (h : ApartV u v) : ApartV v u := fun g hv hu => h g hu hv

theorem own_lt {w : World} {B n s g : Nat} {e : TypeId} {v : Value} {xs : List Value} (h : w.ownsRow B e s v n xs) (hg : v.ownBlock = some g) : g < w.heap.size := by
  rcases h.2 with ⟨rfl, _⟩ | ⟨g', cap, cur, rfl, _, hh, _⟩
  · simp [Value.ownBlock] at hg
  · simp [Value.ownBlock] at hg
    subst hg
    exact (Array.getElem?_eq_some_iff.1 hh).1

theorem owns_apart {w w' : World} {B n s : Nat} {e : TypeId} {u v : Value} {xs : List Value} (h : w.ownsRow B e s v n xs) (g : w.grownBy w' u.ownBlock) (ha : ApartV u v) : w'.ownsRow B e s v n xs :=
  h.kept g (by
    cases hv : v.ownBlock with
    | none => exact .inl rfl
    | some k => exact .inr fun e => ha k e.symm hv)

theorem apart_moves {w : World} {B n s : Nat} {e : TypeId} {u u' v : Value} {xs : List Value} (ha : ApartV u v) (hv : w.ownsRow B e s v n xs) (m : Moves w u u') : ApartV u' v := fun g hu' hv' => by
  by_cases hu : u.ownBlock = some g
  · exact ha g hu hv'
  · exact m g (own_lt hv hv') hu hu'

def BuildRel (w : World) (ks : List ByteArray) (bv pv iv : Value) (wr : World) : Prop :=
  ∃ i : Nat, iv = .int .i64 (i : Int) ∧ i ≤ ks.length ∧ stepsUp ks i ∧ wr.ownsRow w.heap.size 5 1 bv (bodyTo ks i).length (bcells (bodyTo ks i)) ∧
    wr.ownsRow w.heap.size 5 1 pv (placesTo ks i).length (bcells (placesTo ks i)) ∧ ApartV bv pv ∧ Below w.heap.size w wr

def BuildPost (w : World) (ks : List ByteArray) (e : Ending) (w' : World) : Prop :=
  (rises ks ∧ ∃ v, e = .returned (.tuple #[v, .int .i64 0]) ∧ w'.ownsRow w.heap.size 5 1 v (buildL ks).length (bcells (buildL ks)) ∧ Below w.heap.size w w') ∨
    (¬ rises ks ∧ e = .returned (.tuple #[.slice none 0 0, .int .i64 11]) ∧ Below w.heap.size w w')

set_option maxRecDepth 100000 in
set_option maxHeartbeats 1500000 in
theorem build_any (w : World) (a : Option Addr) (n cap : Nat) (ks : List ByteArray) (h : Reads w 1 (.slice a n cap) n (scells ks)) (hn : n ≤ 4000) (hsz : ∀ x ∈ ks, x.size ≤ 4000) :
    Calls Try.prog 10 #[.slice a n cap] w (BuildPost w ks) := by
  obtain ⟨i0, hi, hz0, hz1, hz2⟩ := info_parts info5
  have hkl : ks.length = n := by have := h.1; rw [scells_length] at this; omega
  have HR := Lib.hid h
  have HL := Lib.hid hkl
  have HSz := Lib.hid hsz
  clear h hkl hsz
  unfold BuildPost
  go_enter Try.func10, Try.ntmps10
  go_wp2
  go_loopw [4, 5, 11] (fun bv pv iv wr => BuildRel w ks bv pv iv wr) (fun _ _ iv _ => n - (intOf iv).toNat)
  case atStart => exact ⟨0, rfl, Nat.zero_le _, fun i h0 h1 => by omega, owns_nil _ _ _ _, owns_nil _ _ _ _, fun g hg => by simp [Value.ownBlock] at hg, Below.refl _ _⟩
  case round =>
    obtain ⟨i, rfl, hin, hst, hbd, hpl, hap, hbw⟩ := hrel
    rw [HL.out] at hin
    by_cases hlt : i < n
    · have hltI : (i : Int) < n := by omega
      obtain ⟨g, off, x, rfl, hx, hg, hcx⟩ := (HR.out.below' hbw).scell i hlt
      have HX := Lib.hid hx
      have HSt := Lib.hid hst
      have hbl := bodyTo_length HSz.out i
      have HBd := Lib.hid hbd
      have HBw := Lib.hid hbw
      obtain ⟨ba, bcap, rfl, hbc1, hbc2⟩ := (ownsRow.reads hbd).le
      obtain ⟨pa, pcap, rfl, hpc1, hpc2⟩ := (ownsRow.reads hpl).le
      have HAp := Lib.hid hap
      have HPl0 := Lib.hid hpl
      by_cases hi0 : i = 0
      · have hgI : ¬ (0 : Int) < (i : Int) := by omega
        have hmI : ((i : Int) % 16 == 0) = true := by simp; omega
        have Hm : Hid (i % 16 = 0) := Lib.hid (by omega)
        have HSt1 : Hid (stepsUp ks (i + 1)) := Lib.hid (by rw [hi0]; exact steps_one ks)
        clear hx hst hbd hpl hap hbw hi0
        go_upto_region 7 with fail
        have HPut := Lib.hid (put4_any w.heap.size wr _ (placesTo ks i) (bodyTo ks i).length HPl0.out HBw.out.size (by have := placesTo_length ks i; omega) (by omega))
        have Hs : Hid ((0 : Nat) = shareL ks i) := Lib.hid (by unfold shareL; rw [if_pos Hm.out])
        go_wp2_with (go_at_call 21; go_must (refine HPut.out.mono ?_))
        rintro e W5 ⟨pv5, rfl, o5, b5, g5, m5⟩
        have HAp5 := Lib.hid (apart_moves HAp.out.symm HBd.out m5).symm
        have HBd5 := Lib.hid (owns_apart HBd.out g5 HAp.out.symm)
        have HPl5 : Hid (W5.ownsRow w.heap.size 5 1 pv5 (placesTo ks (i + 1)).length (bcells (placesTo ks (i + 1)))) := Lib.hid (by
          have : placesTo ks (i + 1) = placesTo ks i ++ be4 (bodyTo ks i).length := by
            show _ ++ (if i % 16 = 0 then _ else _) = _
            rw [if_pos Hm.out]
          rw [this]
          exact o5)
        have HBw5 := Lib.hid (HBw.out.trans b5)
        clear o5 b5 g5 m5 HPut HBw HPl0 HAp hcx HBd
        obtain ⟨pa5, pcap5, rfl, hpc3, hpc4⟩ := (ownsRow.reads HPl5.out).le
        have HPl := HPl5
        have HBd := HBd5
        have HBw := HBw5
        clear HPl5 HBd5 HBw5
        obtain ⟨s, hs⟩ : ∃ s, s = (0 : Nat) := ⟨_, rfl⟩
        rw [← hs] at Hs
        have hsx : s ≤ x.size := by omega
        have hsI : ((0 : Int)) = (s : Int) := by omega
        rw [hsI]
        clear hsI hs
        have hnil : Reads W5 1 (.slice none 0 0) ([] : List UInt8).length (bcells []) := ⟨by simp [bcells], none, 0, rfl, Nat.le_refl _, Nat.zero_le _, fun j u hj => by simp [bcells] at hj⟩
        have hxsz : x.size ≤ 4000 := HSz.out x (List.mem_of_getElem? HX.out)
        have HPt := Lib.hid (put_any W5 (.slice none 0 0) [] s hnil (by simp) (by omega))
        clear hnil
        go_wp2_with (go_at_call 22; go_must (refine HPt.out.mono ?_))
        rintro e W6 ⟨v6, rfl, f6, b6⟩
        rw [List.nil_append] at f6
        have hel := enc_length_le 9 s (by omega)
        have hbl := bodyTo_length HSz.out i
        have hsrc := f6.1.src (P := Try.prog) (tx := 26) Try.underlying26 (bcells_one (enc s))
        have how6 := owns_below HBd.out b6
        have hop6 := owns_below HPl.out b6
        have hB6 := HBw.out.trans (b6.mono HBw.out.size)
        have hBs6 := hB6.size
        have HOp6 := Lib.hid hop6
        have HOw6 := Lib.hid how6
        have HB6 := Lib.hid hB6
        clear hop6 b6 f6 hB6 HPt
        go_wp2_with (at_builtin; go_must (refine wpList_append_owns rfl _ _ 26 26 rfl w.heap.size 5 i0 (.int .u8 0) 1 1 Try.underlying26 hi hz0 hz1 hz2 rfl _ _ _ rfl how6 _ _ _ rfl hsrc ?_ ?_ ?_ ?_))
        · unfold maxLen; omega
        · omega
        · exact hBs6
        intro v7 w7 o7 g7 b7 m7
        rw [← bcells_append] at o7
        have HOw7 := Lib.hid o7
        have HPl7 := Lib.hid (owns_apart HOp6.out g7 HAp5.out)
        have HAp7 := Lib.hid (apart_moves HAp5.out HOp6.out m7)
        have HB7 := Lib.hid (HB6.out.trans b7)
        clear o7 g7 b7 m7 hsrc how6 HOp6 HOw6 HB6 HPl HBd HBw HAp5
        obtain ⟨a7, cap7, rfl, hc71, hc72⟩ := (ownsRow.reads HOw7.out).le
        have hsI : (s : Int) ≤ x.size := by omega
        have hyd : (x.extract s x.size).data.toList = x.data.toList.drop s := Lib.extract_to_end x s
        have hys : (x.extract s x.size).size = x.size - s := by
          have h1 : (x.extract s x.size).data.toList.length = (x.data.toList.drop s).length := by rw [hyd]
          rw [Array.length_toList, List.length_drop, Array.length_toList] at h1
          exact h1
        have HYd := Lib.hid hyd
        have HYs := Lib.hid hys
        have hysz : (x.extract s x.size).size ≤ 4000 := by omega
        have hnil7 : Reads w7 1 (.slice none 0 0) ([] : List UInt8).length (bcells []) := ⟨by simp [bcells], none, 0, rfl, Nat.le_refl _, Nat.zero_le _, fun j u hj => by simp [bcells] at hj⟩
        have HPT := Lib.hid (puttext_any w7 (.slice none 0 0) [] (x.extract s x.size) hnil7 (by simp) (by omega))
        clear hyd hys hnil7
        go_wp2_with (go_at_call 23; go_must (refine HPT.out.mono ?_))
        rintro e W8 ⟨v8, rfl, f8, b8⟩
        rw [List.nil_append] at f8
        generalize x.extract s x.size = y at *
        have hel2 := enc_length_le 9 y.size (by omega)
        have hyl : y.data.toList.length = y.size := Array.length_toList
        have hln : (enc y.size ++ y.data.toList).length ≤ 5000 := by rw [List.length_append, hyl]; omega
        have hsrc8 := f8.1.src (P := Try.prog) (tx := 26) Try.underlying26 (bcells_one _)
        have how8 := owns_below HOw7.out b8
        have hop8 := owns_below HPl7.out b8
        have hB8 := HB7.out.trans (b8.mono HB7.out.size)
        have hBs8 := hB8.size
        have HOp8 := Lib.hid hop8
        have HOw8 := Lib.hid how8
        have HB8 := Lib.hid hB8
        generalize hY : enc y.size ++ y.data.toList = Y at *
        have HY := Lib.hid hY
        clear hop8 b8 f8 hB8 HPT hyl hY how8
        obtain ⟨Z, hZ⟩ : ∃ Z, Z = bodyTo ks i ++ enc s := ⟨_, rfl⟩
        have hZl : Z.length = (bodyTo ks i).length + (enc s).length := by rw [hZ, List.length_append]
        rw [← hZ, ← hZl] at HOw8
        rw [← hZl] at HAp7
        rw [← hZl]
        have HZ := Lib.hid hZ
        have hZb : Z.length ≤ 20000000 := by omega
        clear hZ hZl HOw7
        go_wp2_with (at_builtin; go_must (refine wpList_append_owns rfl _ _ 26 26 rfl w.heap.size 5 i0 (.int .u8 0) 1 1 Try.underlying26 hi hz0 hz1 hz2 rfl _ _ _ rfl HOw8.out _ _ _ rfl hsrc8 ?_ ?_ ?_ ?_))
        · unfold maxLen; omega
        · omega
        · exact hBs8
        intro v9 w9 o9 g9 b9 m9
        rw [← bcells_append] at o9
        have hbody : Z ++ Y = bodyTo ks (i + 1) := by
          show _ = bodyTo ks i ++ entL (shareL ks i) (kb ks i)
          rw [HZ.out, ← HY.out, ← Hs.out, kb_at HX.out]
          unfold entL
          rw [HYd.out, HYs.out, Array.length_toList, List.append_assoc]
          rfl
        have hlen9 : Z.length + Y.length = (bodyTo ks (i + 1)).length := by rw [← hbody, List.length_append]
        rw [hbody, hlen9] at o9
        have HFin : Hid (BuildRel w ks v9 (.slice pa5 (placesTo ks (i + 1)).length pcap5) (.int .i64 ((i + 1 : Nat) : Int)) w9) := Lib.hid ⟨i + 1, rfl, by rw [HL.out]; omega, HSt1.out, o9, owns_apart HOp8.out g9 HAp7.out, apart_moves HAp7.out HOp8.out m9, HB8.out.trans b9⟩
        clear o9 g9 b9 m9 hbody hlen9 hsrc8 HOw8 HOp8
        go_wp2
        exact ⟨HFin.out, by simp [intOf]; omega⟩
      · obtain ⟨j, rfl⟩ : ∃ j, i = j + 1 := ⟨i - 1, by omega⟩
        have hgI : (0 : Int) < ((j + 1 : Nat) : Int) := by omega
        obtain ⟨_, _, z, hae, hz, _, hcz⟩ := (HR.out.below' hbw).scell j (by omega)
        cases hae
        have hw64 : IntKind.i64.wrap (((j + 1 : Nat) : Int) - 1) = (j : Int) := by rw [IntKind.wrap_i64]; omega
        have hjI2 : (((j + 1 : Nat) : Int) - 1) = (j : Int) := by omega
        have hjn : (j : Int) < n := by omega
        have e1 := bl_spell z x
        have e2 := bl_spell x z
        have e3 := str_eq z x
        have HZ := Lib.hid hz
        cases hbz : bl z x with
        | false =>
          have hno : ¬ rises ks := not_rises (by omega) (by simpa using hz) hx hbz
          have HNo := Lib.hid hno
          rw [hbz] at e1
          clear hx hst hbd hpl hap hbw hno hz e2 e3
          go_wp2
          go_ret2
          exact .inr ⟨HNo.out, rfl, HBw.out⟩
        | true =>
          have HSt1 := Lib.hid (steps_more HSt.out (by simpa using hz) hx hbz)
          rw [hbz] at e1
          by_cases hm : (j + 1) % 16 = 0
          · have hmI : (((j + 1 : Nat) : Int) % 16 == 0) = true := by simp; omega
            have Hm := Lib.hid hm
            clear hx hst hbd hpl hap hbw hz e2 e3 hm
            generalize j + 1 = i at *
            go_upto_region 7 with fail
            have HPut := Lib.hid (put4_any w.heap.size wr _ (placesTo ks i) (bodyTo ks i).length HPl0.out HBw.out.size (by have := placesTo_length ks i; omega) (by omega))
            have Hs : Hid ((0 : Nat) = shareL ks i) := Lib.hid (by unfold shareL; rw [if_pos Hm.out])
            go_wp2_with (go_at_call 21; go_must (refine HPut.out.mono ?_))
            rintro e W5 ⟨pv5, rfl, o5, b5, g5, m5⟩
            have HAp5 := Lib.hid (apart_moves HAp.out.symm HBd.out m5).symm
            have HBd5 := Lib.hid (owns_apart HBd.out g5 HAp.out.symm)
            have HPl5 : Hid (W5.ownsRow w.heap.size 5 1 pv5 (placesTo ks (i + 1)).length (bcells (placesTo ks (i + 1)))) := Lib.hid (by
              have : placesTo ks (i + 1) = placesTo ks i ++ be4 (bodyTo ks i).length := by
                show _ ++ (if i % 16 = 0 then _ else _) = _
                rw [if_pos Hm.out]
              rw [this]
              exact o5)
            have HBw5 := Lib.hid (HBw.out.trans b5)
            clear o5 b5 g5 m5 HPut HBw HPl0 HAp hcx HBd
            obtain ⟨pa5, pcap5, rfl, hpc3, hpc4⟩ := (ownsRow.reads HPl5.out).le
            have HPl := HPl5
            have HBd := HBd5
            have HBw := HBw5
            clear HPl5 HBd5 HBw5
            obtain ⟨s, hs⟩ : ∃ s, s = (0 : Nat) := ⟨_, rfl⟩
            rw [← hs] at Hs
            have hsx : s ≤ x.size := by omega
            have hsI : ((0 : Int)) = (s : Int) := by omega
            rw [hsI]
            clear hsI hs
            have hnil : Reads W5 1 (.slice none 0 0) ([] : List UInt8).length (bcells []) := ⟨by simp [bcells], none, 0, rfl, Nat.le_refl _, Nat.zero_le _, fun j u hj => by simp [bcells] at hj⟩
            have hxsz : x.size ≤ 4000 := HSz.out x (List.mem_of_getElem? HX.out)
            have HPt := Lib.hid (put_any W5 (.slice none 0 0) [] s hnil (by simp) (by omega))
            clear hnil
            go_wp2_with (go_at_call 22; go_must (refine HPt.out.mono ?_))
            rintro e W6 ⟨v6, rfl, f6, b6⟩
            rw [List.nil_append] at f6
            have hel := enc_length_le 9 s (by omega)
            have hbl := bodyTo_length HSz.out i
            have hsrc := f6.1.src (P := Try.prog) (tx := 26) Try.underlying26 (bcells_one (enc s))
            have how6 := owns_below HBd.out b6
            have hop6 := owns_below HPl.out b6
            have hB6 := HBw.out.trans (b6.mono HBw.out.size)
            have hBs6 := hB6.size
            have HOp6 := Lib.hid hop6
            have HOw6 := Lib.hid how6
            have HB6 := Lib.hid hB6
            clear hop6 b6 f6 hB6 HPt
            go_wp2_with (at_builtin; go_must (refine wpList_append_owns rfl _ _ 26 26 rfl w.heap.size 5 i0 (.int .u8 0) 1 1 Try.underlying26 hi hz0 hz1 hz2 rfl _ _ _ rfl how6 _ _ _ rfl hsrc ?_ ?_ ?_ ?_))
            · unfold maxLen; omega
            · omega
            · exact hBs6
            intro v7 w7 o7 g7 b7 m7
            rw [← bcells_append] at o7
            have HOw7 := Lib.hid o7
            have HPl7 := Lib.hid (owns_apart HOp6.out g7 HAp5.out)
            have HAp7 := Lib.hid (apart_moves HAp5.out HOp6.out m7)
            have HB7 := Lib.hid (HB6.out.trans b7)
            clear o7 g7 b7 m7 hsrc how6 HOp6 HOw6 HB6 HPl HBd HBw HAp5
            obtain ⟨a7, cap7, rfl, hc71, hc72⟩ := (ownsRow.reads HOw7.out).le
            have hsI : (s : Int) ≤ x.size := by omega
            have hyd : (x.extract s x.size).data.toList = x.data.toList.drop s := Lib.extract_to_end x s
            have hys : (x.extract s x.size).size = x.size - s := by
              have h1 : (x.extract s x.size).data.toList.length = (x.data.toList.drop s).length := by rw [hyd]
              rw [Array.length_toList, List.length_drop, Array.length_toList] at h1
              exact h1
            have HYd := Lib.hid hyd
            have HYs := Lib.hid hys
            have hysz : (x.extract s x.size).size ≤ 4000 := by omega
            have hnil7 : Reads w7 1 (.slice none 0 0) ([] : List UInt8).length (bcells []) := ⟨by simp [bcells], none, 0, rfl, Nat.le_refl _, Nat.zero_le _, fun j u hj => by simp [bcells] at hj⟩
            have HPT := Lib.hid (puttext_any w7 (.slice none 0 0) [] (x.extract s x.size) hnil7 (by simp) (by omega))
            clear hyd hys hnil7
            go_wp2_with (go_at_call 23; go_must (refine HPT.out.mono ?_))
            rintro e W8 ⟨v8, rfl, f8, b8⟩
            rw [List.nil_append] at f8
            generalize x.extract s x.size = y at *
            have hel2 := enc_length_le 9 y.size (by omega)
            have hyl : y.data.toList.length = y.size := Array.length_toList
            have hln : (enc y.size ++ y.data.toList).length ≤ 5000 := by rw [List.length_append, hyl]; omega
            have hsrc8 := f8.1.src (P := Try.prog) (tx := 26) Try.underlying26 (bcells_one _)
            have how8 := owns_below HOw7.out b8
            have hop8 := owns_below HPl7.out b8
            have hB8 := HB7.out.trans (b8.mono HB7.out.size)
            have hBs8 := hB8.size
            have HOp8 := Lib.hid hop8
            have HOw8 := Lib.hid how8
            have HB8 := Lib.hid hB8
            generalize hY : enc y.size ++ y.data.toList = Y at *
            have HY := Lib.hid hY
            clear hop8 b8 f8 hB8 HPT hyl hY how8
            obtain ⟨Z, hZ⟩ : ∃ Z, Z = bodyTo ks i ++ enc s := ⟨_, rfl⟩
            have hZl : Z.length = (bodyTo ks i).length + (enc s).length := by rw [hZ, List.length_append]
            rw [← hZ, ← hZl] at HOw8
            rw [← hZl] at HAp7
            rw [← hZl]
            have HZ := Lib.hid hZ
            have hZb : Z.length ≤ 20000000 := by omega
            clear hZ hZl HOw7
            go_wp2_with (at_builtin; go_must (refine wpList_append_owns rfl _ _ 26 26 rfl w.heap.size 5 i0 (.int .u8 0) 1 1 Try.underlying26 hi hz0 hz1 hz2 rfl _ _ _ rfl HOw8.out _ _ _ rfl hsrc8 ?_ ?_ ?_ ?_))
            · unfold maxLen; omega
            · omega
            · exact hBs8
            intro v9 w9 o9 g9 b9 m9
            rw [← bcells_append] at o9
            have hbody : Z ++ Y = bodyTo ks (i + 1) := by
              show _ = bodyTo ks i ++ entL (shareL ks i) (kb ks i)
              rw [HZ.out, ← HY.out, ← Hs.out, kb_at HX.out]
              unfold entL
              rw [HYd.out, HYs.out, Array.length_toList, List.append_assoc]
              rfl
            have hlen9 : Z.length + Y.length = (bodyTo ks (i + 1)).length := by rw [← hbody, List.length_append]
            rw [hbody, hlen9] at o9
            have HFin : Hid (BuildRel w ks v9 (.slice pa5 (placesTo ks (i + 1)).length pcap5) (.int .i64 ((i + 1 : Nat) : Int)) w9) := Lib.hid ⟨i + 1, rfl, by rw [HL.out]; omega, HSt1.out, o9, owns_apart HOp8.out g9 HAp7.out, apart_moves HAp7.out HOp8.out m9, HB8.out.trans b9⟩
            clear o9 g9 b9 m9 hbody hlen9 hsrc8 HOw8 HOp8
            go_wp2
            exact ⟨HFin.out, by simp [intOf]; omega⟩
          · have hmI : (((j + 1 : Nat) : Int) % 16 == 0) = false := by simp; omega
            have Hs : Hid (comL z.data.toList x.data.toList = shareL ks (j + 1)) := Lib.hid (by
              unfold shareL
              rw [if_neg hm, kb_at hx, show j + 1 - 1 = j by omega, kb_at hz])
            have hzz : z.size ≤ 4000 := HSz.out z (List.mem_of_getElem? hz)
            have HCm := Lib.hid (common_any wr z x (by omega))
            have HPl0' : Hid (wr.ownsRow w.heap.size 5 1 (.slice pa (placesTo ks (j + 1)).length pcap) (placesTo ks (j + 1 + 1)).length (bcells (placesTo ks (j + 1 + 1)))) := Lib.hid (by
              have : placesTo ks (j + 1 + 1) = placesTo ks (j + 1) := by
                show _ ++ (if (j + 1) % 16 = 0 then _ else _) = _
                rw [if_neg hm, List.append_nil]
              rw [this]
              exact HPl0.out)
            have hpq : (placesTo ks (j + 1)).length = (placesTo ks (j + 1 + 1)).length := by
              have : placesTo ks (j + 1 + 1) = placesTo ks (j + 1) := by
                show _ ++ (if (j + 1) % 16 = 0 then _ else _) = _
                rw [if_neg hm, List.append_nil]
              rw [this]
            have hcl := (comL_le z.data.toList x.data.toList).2
            rw [Array.length_toList] at hcl
            rw [hpq] at HPl0' HAp
            have HPq := Lib.hid hpq
            clear hx hst hbd hpl hap hbw hz e2 e3 hm hpq HPl0
            go_wp2_with (go_at_call 18; go_must (refine HCm.out.mono ?_))
            rintro e W5 ⟨rfl, b5⟩
            rw [HPq.out]
            have HAp5 := HAp
            have HBd := Lib.hid (owns_below HBd.out b5)
            have HPl := Lib.hid (owns_below HPl0'.out b5)
            have HBw := Lib.hid (HBw.out.trans (b5.mono HBw.out.size))
            obtain ⟨pa5, hpa5⟩ : ∃ p, p = pa := ⟨_, rfl⟩
            obtain ⟨pcap5, hpc5⟩ : ∃ p, p = pcap := ⟨_, rfl⟩
            rw [← hpa5, ← hpc5] at HAp5 HPl
            rw [← hpa5, ← hpc5]
            clear b5 HCm HPl0' HAp hpa5 hpc5 HPq
            generalize comL z.data.toList x.data.toList = s at *
            have hsx : s ≤ x.size := hcl
            generalize j + 1 = i at *
            have hnil : Reads W5 1 (.slice none 0 0) ([] : List UInt8).length (bcells []) := ⟨by simp [bcells], none, 0, rfl, Nat.le_refl _, Nat.zero_le _, fun j u hj => by simp [bcells] at hj⟩
            have hxsz : x.size ≤ 4000 := HSz.out x (List.mem_of_getElem? HX.out)
            have HPt := Lib.hid (put_any W5 (.slice none 0 0) [] s hnil (by simp) (by omega))
            clear hnil
            go_wp2_with (go_at_call 22; go_must (refine HPt.out.mono ?_))
            rintro e W6 ⟨v6, rfl, f6, b6⟩
            rw [List.nil_append] at f6
            have hel := enc_length_le 9 s (by omega)
            have hbl := bodyTo_length HSz.out i
            have hsrc := f6.1.src (P := Try.prog) (tx := 26) Try.underlying26 (bcells_one (enc s))
            have how6 := owns_below HBd.out b6
            have hop6 := owns_below HPl.out b6
            have hB6 := HBw.out.trans (b6.mono HBw.out.size)
            have hBs6 := hB6.size
            have HOp6 := Lib.hid hop6
            have HOw6 := Lib.hid how6
            have HB6 := Lib.hid hB6
            clear hop6 b6 f6 hB6 HPt
            go_wp2_with (at_builtin; go_must (refine wpList_append_owns rfl _ _ 26 26 rfl w.heap.size 5 i0 (.int .u8 0) 1 1 Try.underlying26 hi hz0 hz1 hz2 rfl _ _ _ rfl how6 _ _ _ rfl hsrc ?_ ?_ ?_ ?_))
            · unfold maxLen; omega
            · omega
            · exact hBs6
            intro v7 w7 o7 g7 b7 m7
            rw [← bcells_append] at o7
            have HOw7 := Lib.hid o7
            have HPl7 := Lib.hid (owns_apart HOp6.out g7 HAp5.out)
            have HAp7 := Lib.hid (apart_moves HAp5.out HOp6.out m7)
            have HB7 := Lib.hid (HB6.out.trans b7)
            clear o7 g7 b7 m7 hsrc how6 HOp6 HOw6 HB6 HPl HBd HBw HAp5
            obtain ⟨a7, cap7, rfl, hc71, hc72⟩ := (ownsRow.reads HOw7.out).le
            have hsI : (s : Int) ≤ x.size := by omega
            have hyd : (x.extract s x.size).data.toList = x.data.toList.drop s := Lib.extract_to_end x s
            have hys : (x.extract s x.size).size = x.size - s := by
              have h1 : (x.extract s x.size).data.toList.length = (x.data.toList.drop s).length := by rw [hyd]
              rw [Array.length_toList, List.length_drop, Array.length_toList] at h1
              exact h1
            have HYd := Lib.hid hyd
            have HYs := Lib.hid hys
            have hysz : (x.extract s x.size).size ≤ 4000 := by omega
            have hnil7 : Reads w7 1 (.slice none 0 0) ([] : List UInt8).length (bcells []) := ⟨by simp [bcells], none, 0, rfl, Nat.le_refl _, Nat.zero_le _, fun j u hj => by simp [bcells] at hj⟩
            have HPT := Lib.hid (puttext_any w7 (.slice none 0 0) [] (x.extract s x.size) hnil7 (by simp) (by omega))
            clear hyd hys hnil7
            go_wp2_with (go_at_call 23; go_must (refine HPT.out.mono ?_))
            rintro e W8 ⟨v8, rfl, f8, b8⟩
            rw [List.nil_append] at f8
            generalize x.extract s x.size = y at *
            have hel2 := enc_length_le 9 y.size (by omega)
            have hyl : y.data.toList.length = y.size := Array.length_toList
            have hln : (enc y.size ++ y.data.toList).length ≤ 5000 := by rw [List.length_append, hyl]; omega
            have hsrc8 := f8.1.src (P := Try.prog) (tx := 26) Try.underlying26 (bcells_one _)
            have how8 := owns_below HOw7.out b8
            have hop8 := owns_below HPl7.out b8
            have hB8 := HB7.out.trans (b8.mono HB7.out.size)
            have hBs8 := hB8.size
            have HOp8 := Lib.hid hop8
            have HOw8 := Lib.hid how8
            have HB8 := Lib.hid hB8
            generalize hY : enc y.size ++ y.data.toList = Y at *
            have HY := Lib.hid hY
            clear hop8 b8 f8 hB8 HPT hyl hY how8
            obtain ⟨Z, hZ⟩ : ∃ Z, Z = bodyTo ks i ++ enc s := ⟨_, rfl⟩
            have hZl : Z.length = (bodyTo ks i).length + (enc s).length := by rw [hZ, List.length_append]
            rw [← hZ, ← hZl] at HOw8
            rw [← hZl] at HAp7
            rw [← hZl]
            have HZ := Lib.hid hZ
            have hZb : Z.length ≤ 20000000 := by omega
            clear hZ hZl HOw7
            go_wp2_with (at_builtin; go_must (refine wpList_append_owns rfl _ _ 26 26 rfl w.heap.size 5 i0 (.int .u8 0) 1 1 Try.underlying26 hi hz0 hz1 hz2 rfl _ _ _ rfl HOw8.out _ _ _ rfl hsrc8 ?_ ?_ ?_ ?_))
            · unfold maxLen; omega
            · omega
            · exact hBs8
            intro v9 w9 o9 g9 b9 m9
            rw [← bcells_append] at o9
            have hbody : Z ++ Y = bodyTo ks (i + 1) := by
              show _ = bodyTo ks i ++ entL (shareL ks i) (kb ks i)
              rw [HZ.out, ← HY.out, ← Hs.out, kb_at HX.out]
              unfold entL
              rw [HYd.out, HYs.out, Array.length_toList, List.append_assoc]
              rfl
            have hlen9 : Z.length + Y.length = (bodyTo ks (i + 1)).length := by rw [← hbody, List.length_append]
            rw [hbody, hlen9] at o9
            have HFin : Hid (BuildRel w ks v9 (.slice pa5 (placesTo ks (i + 1)).length pcap5) (.int .i64 ((i + 1 : Nat) : Int)) w9) := Lib.hid ⟨i + 1, rfl, by rw [HL.out]; omega, HSt1.out, o9, owns_apart HOp8.out g9 HAp7.out, apart_moves HAp7.out HOp8.out m9, HB8.out.trans b9⟩
            clear o9 g9 b9 m9 hbody hlen9 hsrc8 HOw8 HOp8
            go_wp2
            exact ⟨HFin.out, by simp [intOf]; omega⟩
    · obtain rfl : i = n := by omega
      have hlL := HL.out
      rw [← hlL] at hbd hpl hst
      have hri : rises ks := rises_of_steps ks hst
      have hbl := bodyTo_length HSz.out ks.length
      have HRi := Lib.hid hri
      obtain ⟨ba, bcap, rfl, hbc1, hbc2⟩ := (ownsRow.reads hbd).le
      obtain ⟨pa, pcap, rfl, hpc1, hpc2⟩ := (ownsRow.reads hpl).le
      have hsrc := (ownsRow.reads hpl).src (P := Try.prog) (tx := 26) Try.underlying26 (bcells_one _)
      have hpb : (placesTo ks ks.length).length ≤ 100000 := by have := placesTo_length ks ks.length; omega
      have hBs := hbw.size
      have HBd := Lib.hid hbd
      have HBw := Lib.hid hbw
      rw [← hlL]
      have hbb : (bodyTo ks ks.length).length ≤ 16080000 := by omega
      obtain ⟨Z, hZ⟩ : ∃ Z, Z = buildL ks := ⟨_, rfl⟩
      have HZ := Lib.hid hZ
      clear hZ hlL hbl hpl hst hbd hbw
      obtain ⟨Bd, hBd⟩ : ∃ Bd, Bd = bodyTo ks ks.length := ⟨_, rfl⟩
      obtain ⟨Pl, hPl⟩ : ∃ Pl, Pl = placesTo ks ks.length := ⟨_, rfl⟩
      rw [← hBd] at HBd hbb ⊢
      rw [← hPl] at hsrc hpb ⊢
      have HBl : Hid (buildL ks = Bd ++ Pl ++ be4 (Pl.length / 4)) := Lib.hid (by unfold buildL; rw [← hBd, ← hPl])
      clear hBd hPl
      go_wp2_with (at_builtin; go_must (refine wpList_append_owns rfl _ _ 26 26 rfl w.heap.size 5 i0 (.int .u8 0) 1 1 Try.underlying26 hi hz0 hz1 hz2 rfl _ _ _ rfl HBd.out _ _ _ rfl hsrc ?_ ?_ ?_ ?_))
      · unfold maxLen; omega
      · omega
      · exact hBs
      intro v5 w5 o5 g5 b5 m5
      rw [← bcells_append, ← List.length_append] at o5
      have hB5 := HBw.out.trans b5
      have hput := put4_any w.heap.size w5 v5 (Bd ++ Pl) (Pl.length / 4) o5 hB5.size (by rw [List.length_append]; omega) (by omega)
      rw [show ((Pl.length / 4 : Nat) : Int) = (Pl.length : Int) / 4 by omega] at hput
      have HPut := Lib.hid hput
      have HB5 := Lib.hid hB5
      clear o5 g5 b5 m5 hB5 hput hsrc
      go_wp2_with (go_at_call 21; go_must (refine HPut.out.mono ?_))
      rintro e w6 ⟨v6, rfl, o6, b6, _, _⟩
      have HO6 := Lib.hid o6
      have HB6 := Lib.hid (HB5.out.trans b6)
      clear o6 b6 HPut
      go_wp2
      go_ret2
      refine .inl ⟨HRi.out, _, rfl, ?_, HB6.out⟩
      rw [HBl.out]
      exact HO6.out
end Go.Proofs.Ytcglkdmfbnpniaa
