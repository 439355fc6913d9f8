/- What the proof stands on, part 4. -/
import Derived.Test.YtfhdonidgegebaaDoorMg3
import Derived.IntWalk
import Derived.Lib.IndexBytes
import Derived.Maps.OwnSet
/- Build. -/
namespace Go.Proofs.YtfhdonidgegebaaDoor
open Go Go.RowKit

def ApartV (u v : Value) : Prop := ∀ g, u.ownBlock = some g → v.ownBlock ≠ some g
theorem ApartV.symm {u v : Value} (h : ApartV u v) : ApartV v u := fun g hv hu => h g hu hv

theorem own_lt {w : World} {B n s g : Nat} {e : TypeId} {v : Value} {xs : List Value} (h : w.ownsRow B e s v n xs) (hg : v.ownBlock = some g) : g < w.heap.size := by
  rcases h.2 with ⟨rfl, _⟩ | ⟨g', cap, cur, rfl, _, hh, _⟩
  · simp [Value.ownBlock] at hg
  · simp [Value.ownBlock] at hg
    subst hg
    exact (Array.getElem?_eq_some_iff.1 hh).1

theorem owns_apart {w w' : World} {B n s : Nat} {e : TypeId} {u v : Value} {xs : List Value} (h : w.ownsRow B e s v n xs) (g : w.grownBy w' u.ownBlock) (ha : ApartV u v) : w'.ownsRow B e s v n xs :=
  h.kept g (by
    cases hv : v.ownBlock with
    | none => exact .inl rfl
    | some k => exact .inr fun e => ha k e.symm hv)

theorem apart_moves {w : World} {B n s : Nat} {e : TypeId} {u u' v : Value} {xs : List Value} (ha : ApartV u v) (hv : w.ownsRow B e s v n xs) (m : Moves w u u') : ApartV u' v := fun g hu' hv' => by
  by_cases hu : u.ownBlock = some g
  · exact ha g hu hv'
  · exact m g (own_lt hv hv') hu hu'

def BuildRel (w : World) (ks : List ByteArray) (bv pv iv : Value) (wr : World) : Prop :=
  ∃ i : Nat, iv = .int .i64 (i : Int) ∧ i ≤ ks.length ∧ stepsUp ks i ∧ wr.ownsRow w.heap.size 5 1 bv (bodyTo ks i).length (bcells (bodyTo ks i)) ∧
    wr.ownsRow w.heap.size 5 1 pv (placesTo ks i).length (bcells (placesTo ks i)) ∧ ApartV bv pv ∧ Below w.heap.size w wr

def BuildPost (w : World) (ks : List ByteArray) (e : Ending) (w' : World) : Prop :=
  (rises ks ∧ ∃ v, e = .returned (.tuple #[v, .int .i64 0]) ∧ w'.ownsRow w.heap.size 5 1 v (buildL ks).length (bcells (buildL ks)) ∧ Below w.heap.size w w') ∨
    (¬ rises ks ∧ e = .returned (.tuple #[.slice none 0 0, .int .i64 11]) ∧ Below w.heap.size w w')

set_option maxRecDepth 100000 in
set_option maxHeartbeats 1500000 in
theorem build_any (w : World) (a : Option Addr) (n cap : Nat) (ks : List ByteArray) (h : Reads w 1 (.slice a n cap) n (scells ks)) (hn : n ≤ 60000) (hsz : ∀ x ∈ ks, x.size ≤ 60000) :
    Calls Tryd.prog 27 #[.slice a n cap] w (BuildPost w ks) := by
  obtain ⟨i0, hi, hz0, hz1, hz2⟩ := info_parts info5
  have hkl : ks.length = n := by have := h.1; rw [scells_length] at this; omega
  have HR := Lib.hid h
  have HL := Lib.hid hkl
  have HSz := Lib.hid hsz
  clear h hkl hsz
  unfold BuildPost
  go_enter Tryd.func27, Tryd.ntmps27
  go_wp2
  go_loopw [4, 5, 11] (fun bv pv iv wr => BuildRel w ks bv pv iv wr) (fun _ _ iv _ => n - (intOf iv).toNat)
  case atStart => exact ⟨0, rfl, Nat.zero_le _, fun i h0 h1 => by omega, owns_nil _ _ _ _, owns_nil _ _ _ _, fun g hg => by simp [Value.ownBlock] at hg, Below.refl _ _⟩
  case round =>
    obtain ⟨i, rfl, hin, hst, hbd, hpl, hap, hbw⟩ := hrel
    rw [HL.out] at hin
    by_cases hlt : i < n
    · have hltI : (i : Int) < n := by omega
      obtain ⟨g, off, x, rfl, hx, hg, hcx⟩ := (HR.out.below' hbw).scell i hlt
      have HX := Lib.hid hx
      have HSt := Lib.hid hst
      have hbl := bodyTo_length HSz.out i
      have HBd := Lib.hid hbd
      have HBw := Lib.hid hbw
      obtain ⟨ba, bcap, rfl, hbc1, hbc2⟩ := (ownsRow.reads hbd).le
      obtain ⟨pa, pcap, rfl, hpc1, hpc2⟩ := (ownsRow.reads hpl).le
      have HAp := Lib.hid hap
      have HPl0 := Lib.hid hpl
      by_cases hi0 : i = 0
      · have hgI : ¬ (0 : Int) < (i : Int) := by omega
        have hmI : ((i : Int) % 16 == 0) = true := by simp; omega
        have Hm : Hid (i % 16 = 0) := Lib.hid (by omega)
        have HSt1 : Hid (stepsUp ks (i + 1)) := Lib.hid (by rw [hi0]; exact steps_one ks)
        clear hx hst hbd hpl hap hbw hi0
        go_upto_region 7 with fail
        have HPut := Lib.hid (put13_any w.heap.size wr _ (placesTo ks i) (bodyTo ks i).length HPl0.out HBw.out.size (by have := placesTo_length ks i; omega) (by omega))
        have Hs : Hid ((0 : Nat) = shareL ks i) := Lib.hid (by unfold shareL; rw [if_pos Hm.out])
        go_wp2_with (go_at_call 52; go_must (refine HPut.out.mono ?_))
        rintro e W5 ⟨pv5, rfl, o5, b5, g5, m5⟩
        have HAp5 := Lib.hid (apart_moves HAp.out.symm HBd.out m5).symm
        have HBd5 := Lib.hid (owns_apart HBd.out g5 HAp.out.symm)
        have HPl5 : Hid (W5.ownsRow w.heap.size 5 1 pv5 (placesTo ks (i + 1)).length (bcells (placesTo ks (i + 1)))) := Lib.hid (by
          have : placesTo ks (i + 1) = placesTo ks i ++ be4 (bodyTo ks i).length := by
            show _ ++ (if i % 16 = 0 then _ else _) = _
            rw [if_pos Hm.out]
          rw [this]
          exact o5)
        have HBw5 := Lib.hid (HBw.out.trans b5)
        clear o5 b5 g5 m5 HPut HBw HPl0 HAp hcx HBd
        obtain ⟨pa5, pcap5, rfl, hpc3, hpc4⟩ := (ownsRow.reads HPl5.out).le
        have HPl := HPl5
        have HBd := HBd5
        have HBw := HBw5
        clear HPl5 HBd5 HBw5
        obtain ⟨s, hs⟩ : ∃ s, s = (0 : Nat) := ⟨_, rfl⟩
        rw [← hs] at Hs
        have hsx : s ≤ x.size := by omega
        have hsI : ((0 : Int)) = (s : Int) := by omega
        rw [hsI]
        clear hsI hs
        have hnil : Reads W5 1 (.slice none 0 0) ([] : List UInt8).length (bcells []) := ⟨by simp [bcells], none, 0, rfl, Nat.le_refl _, Nat.zero_le _, fun j u hj => by simp [bcells] at hj⟩
        have hxsz : x.size ≤ 60000 := HSz.out x (List.mem_of_getElem? HX.out)
        have HPt := Lib.hid (put_any W5 (.slice none 0 0) [] s hnil (by simp) (by omega))
        clear hnil
        go_wp2_with (go_at_call 54; go_must (refine HPt.out.mono ?_))
        rintro e W6 ⟨v6, rfl, f6, b6⟩
        rw [List.nil_append] at f6
        have hel := enc_length_le 9 s (by omega)
        have hbl := bodyTo_length HSz.out i
        have hsrc := f6.1.src (P := Tryd.prog) (tx := 24) Tryd.underlying24 (bcells_one (enc s))
        have how6 := owns_below HBd.out b6
        have hop6 := owns_below HPl.out b6
        have hB6 := HBw.out.trans (b6.mono HBw.out.size)
        have hBs6 := hB6.size
        have HOp6 := Lib.hid hop6
        have HOw6 := Lib.hid how6
        have HB6 := Lib.hid hB6
        clear hop6 b6 f6 hB6 HPt
        go_wp2_with (at_builtin; go_must (refine wpList_append_owns rfl _ _ 24 24 rfl w.heap.size 5 i0 (.int .u8 0) 1 1 Tryd.underlying24 hi hz0 hz1 hz2 rfl _ _ _ rfl how6 _ _ _ rfl hsrc ?_ ?_ ?_ ?_))
        · unfold maxLen; omega
        · omega
        · exact hBs6
        intro v7 w7 o7 g7 b7 m7
        rw [← bcells_append] at o7
        have HOw7 := Lib.hid o7
        have HPl7 := Lib.hid (owns_apart HOp6.out g7 HAp5.out)
        have HAp7 := Lib.hid (apart_moves HAp5.out HOp6.out m7)
        have HB7 := Lib.hid (HB6.out.trans b7)
        clear o7 g7 b7 m7 hsrc how6 HOp6 HOw6 HB6 HPl HBd HBw HAp5
        obtain ⟨a7, cap7, rfl, hc71, hc72⟩ := (ownsRow.reads HOw7.out).le
        have hsI : (s : Int) ≤ x.size := by omega
        have hyd : (x.extract s x.size).data.toList = x.data.toList.drop s := Lib.extract_to_end x s
        have hys : (x.extract s x.size).size = x.size - s := by
          have h1 : (x.extract s x.size).data.toList.length = (x.data.toList.drop s).length := by rw [hyd]
          rw [Array.length_toList, List.length_drop, Array.length_toList] at h1
          exact h1
        have HYd := Lib.hid hyd
        have HYs := Lib.hid hys
        have hysz : (x.extract s x.size).size ≤ 60000 := by omega
        have hnil7 : Reads w7 1 (.slice none 0 0) ([] : List UInt8).length (bcells []) := ⟨by simp [bcells], none, 0, rfl, Nat.le_refl _, Nat.zero_le _, fun j u hj => by simp [bcells] at hj⟩
        have HPT := Lib.hid (puttext_any w7 (.slice none 0 0) [] (x.extract s x.size) hnil7 (by simp) (by omega))
        clear hyd hys hnil7
        go_wp2_with (go_at_call 55; go_must (refine HPT.out.mono ?_))
        rintro e W8 ⟨v8, rfl, f8, b8⟩
        rw [List.nil_append] at f8
        generalize x.extract s x.size = y at *
        have hel2 := enc_length_le 9 y.size (by omega)
        have hyl : y.data.toList.length = y.size := Array.length_toList
        have hln : (enc y.size ++ y.data.toList).length ≤ 70000 := by rw [List.length_append, hyl]; omega
        have hsrc8 := f8.1.src (P := Tryd.prog) (tx := 24) Tryd.underlying24 (bcells_one _)
        have how8 := owns_below HOw7.out b8
        have hop8 := owns_below HPl7.out b8
        have hB8 := HB7.out.trans (b8.mono HB7.out.size)
        have hBs8 := hB8.size
        have HOp8 := Lib.hid hop8
        have HOw8 := Lib.hid how8
        have HB8 := Lib.hid hB8
        generalize hY : enc y.size ++ y.data.toList = Y at *
        have HY := Lib.hid hY
        clear hop8 b8 f8 hB8 HPT hyl hY how8
        obtain ⟨Z, hZ⟩ : ∃ Z, Z = bodyTo ks i ++ enc s := ⟨_, rfl⟩
        have hZl : Z.length = (bodyTo ks i).length + (enc s).length := by rw [hZ, List.length_append]
        rw [← hZ, ← hZl] at HOw8
        rw [← hZl] at HAp7
        rw [← hZl]
        have HZ := Lib.hid hZ
        have hZb : Z.length ≤ 4000000000 := by omega
        clear hZ hZl HOw7
        go_wp2_with (at_builtin; go_must (refine wpList_append_owns rfl _ _ 24 24 rfl w.heap.size 5 i0 (.int .u8 0) 1 1 Tryd.underlying24 hi hz0 hz1 hz2 rfl _ _ _ rfl HOw8.out _ _ _ rfl hsrc8 ?_ ?_ ?_ ?_))
        · unfold maxLen; omega
        · omega
        · exact hBs8
        intro v9 w9 o9 g9 b9 m9
        rw [← bcells_append] at o9
        have hbody : Z ++ Y = bodyTo ks (i + 1) := by
          show _ = bodyTo ks i ++ entL (shareL ks i) (kb ks i)
          rw [HZ.out, ← HY.out, ← Hs.out, kb_at HX.out]
          unfold entL
          rw [HYd.out, HYs.out, Array.length_toList, List.append_assoc]
          rfl
        have hlen9 : Z.length + Y.length = (bodyTo ks (i + 1)).length := by rw [← hbody, List.length_append]
        rw [hbody, hlen9] at o9
        have HFin : Hid (BuildRel w ks v9 (.slice pa5 (placesTo ks (i + 1)).length pcap5) (.int .i64 ((i + 1 : Nat) : Int)) w9) := Lib.hid ⟨i + 1, rfl, by rw [HL.out]; omega, HSt1.out, o9, owns_apart HOp8.out g9 HAp7.out, apart_moves HAp7.out HOp8.out m9, HB8.out.trans b9⟩
        clear o9 g9 b9 m9 hbody hlen9 hsrc8 HOw8 HOp8
        go_wp2
        exact ⟨HFin.out, by simp [intOf]; omega⟩
      · obtain ⟨j, rfl⟩ : ∃ j, i = j + 1 := ⟨i - 1, by omega⟩
        have hgI : (0 : Int) < ((j + 1 : Nat) : Int) := by omega
        obtain ⟨_, _, z, hae, hz, _, hcz⟩ := (HR.out.below' hbw).scell j (by omega)
        cases hae
        have hw64 : IntKind.i64.wrap (((j + 1 : Nat) : Int) - 1) = (j : Int) := by rw [IntKind.wrap_i64]; omega
        have hjI2 : (((j + 1 : Nat) : Int) - 1) = (j : Int) := by omega
        have hjn : (j : Int) < n := by omega
        have e1 := bl_spell z x
        have e2 := bl_spell x z
        have e3 := str_eq z x
        have HZ := Lib.hid hz
        cases hbz : bl z x with
        | false =>
          have hno : ¬ rises ks := not_rises (by omega) (by simpa using hz) hx hbz
          have HNo := Lib.hid hno
          rw [hbz] at e1
          clear hx hst hbd hpl hap hbw hno hz e2 e3
          go_wp2
          go_ret2
          exact .inr ⟨HNo.out, rfl, HBw.out⟩
        | true =>
          have HSt1 := Lib.hid (steps_more HSt.out (by simpa using hz) hx hbz)
          rw [hbz] at e1
          by_cases hm : (j + 1) % 16 = 0
          · have hmI : (((j + 1 : Nat) : Int) % 16 == 0) = true := by simp; omega
            have Hm := Lib.hid hm
            clear hx hst hbd hpl hap hbw hz e2 e3 hm
            generalize j + 1 = i at *
            go_upto_region 7 with fail
            have HPut := Lib.hid (put13_any w.heap.size wr _ (placesTo ks i) (bodyTo ks i).length HPl0.out HBw.out.size (by have := placesTo_length ks i; omega) (by omega))
            have Hs : Hid ((0 : Nat) = shareL ks i) := Lib.hid (by unfold shareL; rw [if_pos Hm.out])
            go_wp2_with (go_at_call 52; go_must (refine HPut.out.mono ?_))
            rintro e W5 ⟨pv5, rfl, o5, b5, g5, m5⟩
            have HAp5 := Lib.hid (apart_moves HAp.out.symm HBd.out m5).symm
            have HBd5 := Lib.hid (owns_apart HBd.out g5 HAp.out.symm)
            have HPl5 : Hid (W5.ownsRow w.heap.size 5 1 pv5 (placesTo ks (i + 1)).length (bcells (placesTo ks (i + 1)))) := Lib.hid (by
              have : placesTo ks (i + 1) = placesTo ks i ++ be4 (bodyTo ks i).length := by
                show _ ++ (if i % 16 = 0 then _ else _) = _
                rw [if_pos Hm.out]
              rw [this]
              exact o5)
            have HBw5 := Lib.hid (HBw.out.trans b5)
            clear o5 b5 g5 m5 HPut HBw HPl0 HAp hcx HBd
            obtain ⟨pa5, pcap5, rfl, hpc3, hpc4⟩ := (ownsRow.reads HPl5.out).le
            have HPl := HPl5
            have HBd := HBd5
            have HBw := HBw5
            clear HPl5 HBd5 HBw5
            obtain ⟨s, hs⟩ : ∃ s, s = (0 : Nat) := ⟨_, rfl⟩
            rw [← hs] at Hs
            have hsx : s ≤ x.size := by omega
            have hsI : ((0 : Int)) = (s : Int) := by omega
            rw [hsI]
            clear hsI hs
            have hnil : Reads W5 1 (.slice none 0 0) ([] : List UInt8).length (bcells []) := ⟨by simp [bcells], none, 0, rfl, Nat.le_refl _, Nat.zero_le _, fun j u hj => by simp [bcells] at hj⟩
            have hxsz : x.size ≤ 60000 := HSz.out x (List.mem_of_getElem? HX.out)
            have HPt := Lib.hid (put_any W5 (.slice none 0 0) [] s hnil (by simp) (by omega))
            clear hnil
            go_wp2_with (go_at_call 54; go_must (refine HPt.out.mono ?_))
            rintro e W6 ⟨v6, rfl, f6, b6⟩
            rw [List.nil_append] at f6
            have hel := enc_length_le 9 s (by omega)
            have hbl := bodyTo_length HSz.out i
            have hsrc := f6.1.src (P := Tryd.prog) (tx := 24) Tryd.underlying24 (bcells_one (enc s))
            have how6 := owns_below HBd.out b6
            have hop6 := owns_below HPl.out b6
            have hB6 := HBw.out.trans (b6.mono HBw.out.size)
            have hBs6 := hB6.size
            have HOp6 := Lib.hid hop6
            have HOw6 := Lib.hid how6
            have HB6 := Lib.hid hB6
            clear hop6 b6 f6 hB6 HPt
            go_wp2_with (at_builtin; go_must (refine wpList_append_owns rfl _ _ 24 24 rfl w.heap.size 5 i0 (.int .u8 0) 1 1 Tryd.underlying24 hi hz0 hz1 hz2 rfl _ _ _ rfl how6 _ _ _ rfl hsrc ?_ ?_ ?_ ?_))
            · unfold maxLen; omega
            · omega
            · exact hBs6
            intro v7 w7 o7 g7 b7 m7
            rw [← bcells_append] at o7
            have HOw7 := Lib.hid o7
            have HPl7 := Lib.hid (owns_apart HOp6.out g7 HAp5.out)
            have HAp7 := Lib.hid (apart_moves HAp5.out HOp6.out m7)
            have HB7 := Lib.hid (HB6.out.trans b7)
            clear o7 g7 b7 m7 hsrc how6 HOp6 HOw6 HB6 HPl HBd HBw HAp5
            obtain ⟨a7, cap7, rfl, hc71, hc72⟩ := (ownsRow.reads HOw7.out).le
            have hsI : (s : Int) ≤ x.size := by omega
            have hyd : (x.extract s x.size).data.toList = x.data.toList.drop s := Lib.extract_to_end x s
            have hys : (x.extract s x.size).size = x.size - s := by
              have h1 : (x.extract s x.size).data.toList.length = (x.data.toList.drop s).length := by rw [hyd]
              rw [Array.length_toList, List.length_drop, Array.length_toList] at h1
              exact h1
            have HYd := Lib.hid hyd
            have HYs := Lib.hid hys
            have hysz : (x.extract s x.size).size ≤ 60000 := by omega
            have hnil7 : Reads w7 1 (.slice none 0 0) ([] : List UInt8).length (bcells []) := ⟨by simp [bcells], none, 0, rfl, Nat.le_refl _, Nat.zero_le _, fun j u hj => by simp [bcells] at hj⟩
            have HPT := Lib.hid (puttext_any w7 (.slice none 0 0) [] (x.extract s x.size) hnil7 (by simp) (by omega))
            clear hyd hys hnil7
            go_wp2_with (go_at_call 55; go_must (refine HPT.out.mono ?_))
            rintro e W8 ⟨v8, rfl, f8, b8⟩
            rw [List.nil_append] at f8
            generalize x.extract s x.size = y at *
            have hel2 := enc_length_le 9 y.size (by omega)
            have hyl : y.data.toList.length = y.size := Array.length_toList
            have hln : (enc y.size ++ y.data.toList).length ≤ 70000 := by rw [List.length_append, hyl]; omega
            have hsrc8 := f8.1.src (P := Tryd.prog) (tx := 24) Tryd.underlying24 (bcells_one _)
            have how8 := owns_below HOw7.out b8
            have hop8 := owns_below HPl7.out b8
            have hB8 := HB7.out.trans (b8.mono HB7.out.size)
            have hBs8 := hB8.size
            have HOp8 := Lib.hid hop8
            have HOw8 := Lib.hid how8
            have HB8 := Lib.hid hB8
            generalize hY : enc y.size ++ y.data.toList = Y at *
            have HY := Lib.hid hY
            clear hop8 b8 f8 hB8 HPT hyl hY how8
            obtain ⟨Z, hZ⟩ : ∃ Z, Z = bodyTo ks i ++ enc s := ⟨_, rfl⟩
            have hZl : Z.length = (bodyTo ks i).length + (enc s).length := by rw [hZ, List.length_append]
            rw [← hZ, ← hZl] at HOw8
            rw [← hZl] at HAp7
            rw [← hZl]
            have HZ := Lib.hid hZ
            have hZb : Z.length ≤ 4000000000 := by omega
            clear hZ hZl HOw7
            go_wp2_with (at_builtin; go_must (refine wpList_append_owns rfl _ _ 24 24 rfl w.heap.size 5 i0 (.int .u8 0) 1 1 Tryd.underlying24 hi hz0 hz1 hz2 rfl _ _ _ rfl HOw8.out _ _ _ rfl hsrc8 ?_ ?_ ?_ ?_))
            · unfold maxLen; omega
            · omega
            · exact hBs8
            intro v9 w9 o9 g9 b9 m9
            rw [← bcells_append] at o9
            have hbody : Z ++ Y = bodyTo ks (i + 1) := by
              show _ = bodyTo ks i ++ entL (shareL ks i) (kb ks i)
              rw [HZ.out, ← HY.out, ← Hs.out, kb_at HX.out]
              unfold entL
              rw [HYd.out, HYs.out, Array.length_toList, List.append_assoc]
              rfl
            have hlen9 : Z.length + Y.length = (bodyTo ks (i + 1)).length := by rw [← hbody, List.length_append]
            rw [hbody, hlen9] at o9
            have HFin : Hid (BuildRel w ks v9 (.slice pa5 (placesTo ks (i + 1)).length pcap5) (.int .i64 ((i + 1 : Nat) : Int)) w9) := Lib.hid ⟨i + 1, rfl, by rw [HL.out]; omega, HSt1.out, o9, owns_apart HOp8.out g9 HAp7.out, apart_moves HAp7.out HOp8.out m9, HB8.out.trans b9⟩
            clear o9 g9 b9 m9 hbody hlen9 hsrc8 HOw8 HOp8
            go_wp2
            exact ⟨HFin.out, by simp [intOf]; omega⟩
          · have hmI : (((j + 1 : Nat) : Int) % 16 == 0) = false := by simp; omega
            have Hs : Hid (comL z.data.toList x.data.toList = shareL ks (j + 1)) := Lib.hid (by
              unfold shareL
              rw [if_neg hm, kb_at hx, show j + 1 - 1 = j by omega, kb_at hz])
            have hzz : z.size ≤ 60000 := HSz.out z (List.mem_of_getElem? hz)
            have HCm := Lib.hid (common_any wr z x (by omega))
            have HPl0' : Hid (wr.ownsRow w.heap.size 5 1 (.slice pa (placesTo ks (j + 1)).length pcap) (placesTo ks (j + 1 + 1)).length (bcells (placesTo ks (j + 1 + 1)))) := Lib.hid (by
              have : placesTo ks (j + 1 + 1) = placesTo ks (j + 1) := by
                show _ ++ (if (j + 1) % 16 = 0 then _ else _) = _
                rw [if_neg hm, List.append_nil]
              rw [this]
              exact HPl0.out)
            have hpq : (placesTo ks (j + 1)).length = (placesTo ks (j + 1 + 1)).length := by
              have : placesTo ks (j + 1 + 1) = placesTo ks (j + 1) := by
                show _ ++ (if (j + 1) % 16 = 0 then _ else _) = _
                rw [if_neg hm, List.append_nil]
              rw [this]
            have hcl := (comL_le z.data.toList x.data.toList).2
            rw [Array.length_toList] at hcl
            rw [hpq] at HPl0' HAp
            have HPq := Lib.hid hpq
            clear hx hst hbd hpl hap hbw hz e2 e3 hm hpq HPl0
            go_wp2_with (go_at_call 53; go_must (refine HCm.out.mono ?_))
            rintro e W5 ⟨rfl, b5⟩
            rw [HPq.out]
            have HAp5 := HAp
            have HBd := Lib.hid (owns_below HBd.out b5)
            have HPl := Lib.hid (owns_below HPl0'.out b5)
            have HBw := Lib.hid (HBw.out.trans (b5.mono HBw.out.size))
            obtain ⟨pa5, hpa5⟩ : ∃ p, p = pa := ⟨_, rfl⟩
            obtain ⟨pcap5, hpc5⟩ : ∃ p, p = pcap := ⟨_, rfl⟩
            rw [← hpa5, ← hpc5] at HAp5 HPl
            rw [← hpa5, ← hpc5]
            clear b5 HCm HPl0' HAp hpa5 hpc5 HPq
            generalize comL z.data.toList x.data.toList = s at *
            have hsx : s ≤ x.size := hcl
            generalize j + 1 = i at *
            have hnil : Reads W5 1 (.slice none 0 0) ([] : List UInt8).length (bcells []) := ⟨by simp [bcells], none, 0, rfl, Nat.le_refl _, Nat.zero_le _, fun j u hj => by simp [bcells] at hj⟩
            have hxsz : x.size ≤ 60000 := HSz.out x (List.mem_of_getElem? HX.out)
            have HPt := Lib.hid (put_any W5 (.slice none 0 0) [] s hnil (by simp) (by omega))
            clear hnil
            go_wp2_with (go_at_call 54; go_must (refine HPt.out.mono ?_))
            rintro e W6 ⟨v6, rfl, f6, b6⟩
            rw [List.nil_append] at f6
            have hel := enc_length_le 9 s (by omega)
            have hbl := bodyTo_length HSz.out i
            have hsrc := f6.1.src (P := Tryd.prog) (tx := 24) Tryd.underlying24 (bcells_one (enc s))
            have how6 := owns_below HBd.out b6
            have hop6 := owns_below HPl.out b6
            have hB6 := HBw.out.trans (b6.mono HBw.out.size)
            have hBs6 := hB6.size
            have HOp6 := Lib.hid hop6
            have HOw6 := Lib.hid how6
            have HB6 := Lib.hid hB6
            clear hop6 b6 f6 hB6 HPt
            go_wp2_with (at_builtin; go_must (refine wpList_append_owns rfl _ _ 24 24 rfl w.heap.size 5 i0 (.int .u8 0) 1 1 Tryd.underlying24 hi hz0 hz1 hz2 rfl _ _ _ rfl how6 _ _ _ rfl hsrc ?_ ?_ ?_ ?_))
            · unfold maxLen; omega
            · omega
            · exact hBs6
            intro v7 w7 o7 g7 b7 m7
            rw [← bcells_append] at o7
            have HOw7 := Lib.hid o7
            have HPl7 := Lib.hid (owns_apart HOp6.out g7 HAp5.out)
            have HAp7 := Lib.hid (apart_moves HAp5.out HOp6.out m7)
            have HB7 := Lib.hid (HB6.out.trans b7)
            clear o7 g7 b7 m7 hsrc how6 HOp6 HOw6 HB6 HPl HBd HBw HAp5
            obtain ⟨a7, cap7, rfl, hc71, hc72⟩ := (ownsRow.reads HOw7.out).le
            have hsI : (s : Int) ≤ x.size := by omega
            have hyd : (x.extract s x.size).data.toList = x.data.toList.drop s := Lib.extract_to_end x s
            have hys : (x.extract s x.size).size = x.size - s := by
              have h1 : (x.extract s x.size).data.toList.length = (x.data.toList.drop s).length := by rw [hyd]
              rw [Array.length_toList, List.length_drop, Array.length_toList] at h1
              exact h1
            have HYd := Lib.hid hyd
            have HYs := Lib.hid hys
            have hysz : (x.extract s x.size).size ≤ 60000 := by omega
            have hnil7 : Reads w7 1 (.slice none 0 0) ([] : List UInt8).length (bcells []) := ⟨by simp [bcells], none, 0, rfl, Nat.le_refl _, Nat.zero_le _, fun j u hj => by simp [bcells] at hj⟩
            have HPT := Lib.hid (puttext_any w7 (.slice none 0 0) [] (x.extract s x.size) hnil7 (by simp) (by omega))
            clear hyd hys hnil7
            go_wp2_with (go_at_call 55; go_must (refine HPT.out.mono ?_))
            rintro e W8 ⟨v8, rfl, f8, b8⟩
            rw [List.nil_append] at f8
            generalize x.extract s x.size = y at *
            have hel2 := enc_length_le 9 y.size (by omega)
            have hyl : y.data.toList.length = y.size := Array.length_toList
            have hln : (enc y.size ++ y.data.toList).length ≤ 70000 := by rw [List.length_append, hyl]; omega
            have hsrc8 := f8.1.src (P := Tryd.prog) (tx := 24) Tryd.underlying24 (bcells_one _)
            have how8 := owns_below HOw7.out b8
            have hop8 := owns_below HPl7.out b8
            have hB8 := HB7.out.trans (b8.mono HB7.out.size)
            have hBs8 := hB8.size
            have HOp8 := Lib.hid hop8
            have HOw8 := Lib.hid how8
            have HB8 := Lib.hid hB8
            generalize hY : enc y.size ++ y.data.toList = Y at *
            have HY := Lib.hid hY
            clear hop8 b8 f8 hB8 HPT hyl hY how8
            obtain ⟨Z, hZ⟩ : ∃ Z, Z = bodyTo ks i ++ enc s := ⟨_, rfl⟩
            have hZl : Z.length = (bodyTo ks i).length + (enc s).length := by rw [hZ, List.length_append]
            rw [← hZ, ← hZl] at HOw8
            rw [← hZl] at HAp7
            rw [← hZl]
            have HZ := Lib.hid hZ
            have hZb : Z.length ≤ 4000000000 := by omega
            clear hZ hZl HOw7
            go_wp2_with (at_builtin; go_must (refine wpList_append_owns rfl _ _ 24 24 rfl w.heap.size 5 i0 (.int .u8 0) 1 1 Tryd.underlying24 hi hz0 hz1 hz2 rfl _ _ _ rfl HOw8.out _ _ _ rfl hsrc8 ?_ ?_ ?_ ?_))
            · unfold maxLen; omega
            · omega
            · exact hBs8
            intro v9 w9 o9 g9 b9 m9
            rw [← bcells_append] at o9
            have hbody : Z ++ Y = bodyTo ks (i + 1) := by
              show _ = bodyTo ks i ++ entL (shareL ks i) (kb ks i)
              rw [HZ.out, ← HY.out, ← Hs.out, kb_at HX.out]
              unfold entL
              rw [HYd.out, HYs.out, Array.length_toList, List.append_assoc]
              rfl
            have hlen9 : Z.length + Y.length = (bodyTo ks (i + 1)).length := by rw [← hbody, List.length_append]
            rw [hbody, hlen9] at o9
            have HFin : Hid (BuildRel w ks v9 (.slice pa5 (placesTo ks (i + 1)).length pcap5) (.int .i64 ((i + 1 : Nat) : Int)) w9) := Lib.hid ⟨i + 1, rfl, by rw [HL.out]; omega, HSt1.out, o9, owns_apart HOp8.out g9 HAp7.out, apart_moves HAp7.out HOp8.out m9, HB8.out.trans b9⟩
            clear o9 g9 b9 m9 hbody hlen9 hsrc8 HOw8 HOp8
            go_wp2
            exact ⟨HFin.out, by simp [intOf]; omega⟩
    · obtain rfl : i = n := by omega
      have hlL := HL.out
      rw [← hlL] at hbd hpl hst
      have hri : rises ks := rises_of_steps ks hst
      have hbl := bodyTo_length HSz.out ks.length
      have HRi := Lib.hid hri
      obtain ⟨ba, bcap, rfl, hbc1, hbc2⟩ := (ownsRow.reads hbd).le
      obtain ⟨pa, pcap, rfl, hpc1, hpc2⟩ := (ownsRow.reads hpl).le
      have hsrc := (ownsRow.reads hpl).src (P := Tryd.prog) (tx := 24) Tryd.underlying24 (bcells_one _)
      have hpb : (placesTo ks ks.length).length ≤ 100000 := by have := placesTo_length ks ks.length; omega
      have hBs := hbw.size
      have HBd := Lib.hid hbd
      have HBw := Lib.hid hbw
      rw [← hlL]
      have hbb : (bodyTo ks ks.length).length ≤ 3601200000 := by omega
      obtain ⟨Z, hZ⟩ : ∃ Z, Z = buildL ks := ⟨_, rfl⟩
      have HZ := Lib.hid hZ
      clear hZ hlL hbl hpl hst hbd hbw
      obtain ⟨Bd, hBd⟩ : ∃ Bd, Bd = bodyTo ks ks.length := ⟨_, rfl⟩
      obtain ⟨Pl, hPl⟩ : ∃ Pl, Pl = placesTo ks ks.length := ⟨_, rfl⟩
      rw [← hBd] at HBd hbb ⊢
      rw [← hPl] at hsrc hpb ⊢
      have HBl : Hid (buildL ks = Bd ++ Pl ++ be4 (Pl.length / 4)) := Lib.hid (by unfold buildL; rw [← hBd, ← hPl])
      clear hBd hPl
      go_wp2_with (at_builtin; go_must (refine wpList_append_owns rfl _ _ 24 24 rfl w.heap.size 5 i0 (.int .u8 0) 1 1 Tryd.underlying24 hi hz0 hz1 hz2 rfl _ _ _ rfl HBd.out _ _ _ rfl hsrc ?_ ?_ ?_ ?_))
      · unfold maxLen; omega
      · omega
      · exact hBs
      intro v5 w5 o5 g5 b5 m5
      rw [← bcells_append, ← List.length_append] at o5
      have hB5 := HBw.out.trans b5
      have hput := put13_any w.heap.size w5 v5 (Bd ++ Pl) (Pl.length / 4) o5 hB5.size (by rw [List.length_append]; omega) (by omega)
      rw [show ((Pl.length / 4 : Nat) : Int) = (Pl.length : Int) / 4 by omega] at hput
      have HPut := Lib.hid hput
      have HB5 := Lib.hid hB5
      clear o5 g5 b5 m5 hB5 hput hsrc
      go_wp2_with (go_at_call 52; go_must (refine HPut.out.mono ?_))
      rintro e w6 ⟨v6, rfl, o6, b6, _, _⟩
      have HO6 := Lib.hid o6
      have HB6 := Lib.hid (HB5.out.trans b6)
      clear o6 b6 HPut
      go_wp2
      go_ret2
      refine .inl ⟨HRi.out, _, rfl, ?_, HB6.out⟩
      rw [HBl.out]
      exact HO6.out
end Go.Proofs.YtfhdonidgegebaaDoor

/- What a call that writes into blocks of its caller's own leaves. -/
namespace Go.Proofs.YtfhdonidgegebaaDoor
open Go Go.RowKit

/-- w' is w but for the blocks l, and new ones. -/
structure Touch (w w' : World) (l : List Nat) : Prop where
  os : w'.os = w.os
  tape : w'.tape = w.tape
  output : w'.output = w.output
  size : w.heap.size ≤ w'.heap.size
  block : ∀ k, k < w.heap.size → k ∉ l → w'.heap[k]? = w.heap[k]?

theorem Touch.refl (w : World) (l : List Nat) : Touch w w l := ⟨rfl, rfl, rfl, Nat.le_refl _, fun _ _ _ => rfl⟩

theorem Touch.trans {a b c : World} {l m n : List Nat} (h : Touch a b l) (k : Touch b c m) (hl : ∀ x, x ∈ l → x ∈ n) (hm : ∀ x, x ∈ m → x ∈ n ∨ a.heap.size ≤ x) : Touch a c n :=
  ⟨k.os.trans h.os, k.tape.trans h.tape, k.output.trans h.output, Nat.le_trans h.size k.size, fun i hi hn =>
    (k.block i (Nat.lt_of_lt_of_le hi h.size) (fun e => (hm i e).elim hn (fun h' => absurd hi (by omega)))).trans (h.block i hi (fun e => hn (hl i e)))⟩

theorem Touch.same {a b c : World} {l : List Nat} (h : Touch a b l) (k : Touch b c l) : Touch a c l := h.trans k (fun _ h => h) (fun _ h => .inl h)

theorem Touch.mono {a b : World} {l m : List Nat} (h : Touch a b l) (hl : ∀ x, x ∈ l → x ∈ m) : Touch a b m :=
  ⟨h.os, h.tape, h.output, h.size, fun i hi hn => h.block i hi (fun e => hn (hl i e))⟩

theorem Touch.of_below {w w' : World} (h : Below w.heap.size w w') (l : List Nat) : Touch w w' l := ⟨h.os, h.tape, h.output, h.size, fun i hi _ => h.block i hi⟩

theorem Touch.of_grown {w w' : World} {b : Nat} (h : w.grownBy w' (some b)) : Touch w w' [b] := ⟨h.os, h.tape, h.output, h.size, fun i hi hn => h.block i hi (fun e => hn (by cases e; simp))⟩

theorem Touch.alloc {w w' : World} {l : List Nat} (h : Touch w w' l) (o : Obj) : Touch w (w'.alloc o) l :=
  h.same ⟨rfl, rfl, rfl, by simp, fun k hk _ => Below.heap_alloc _ _ _ hk⟩

theorem Touch.drew {w w' : World} {l : List Nat} (h : Touch w w' l) : Touch w w'.drew l := ⟨h.os, h.tape, h.output, h.size, h.block⟩

theorem Touch.drewN {w w' : World} {l : List Nat} (h : Touch w w' l) (n : Nat) : Touch w (w'.drewN n) l := ⟨h.os, h.tape, h.output, h.size, h.block⟩

theorem Touch.setCell {w w' : World} {l : List Nat} (h : Touch w w' l) {p : Addr} (hp : p.block ∈ l ∨ w.heap.size ≤ p.block) (u : Value) : Touch w (w'.setCell p u) l :=
  ⟨h.os, h.tape, h.output, Nat.le_trans h.size (by simp [World.setCell]), fun k hk hn => by
    have hne : k ≠ p.block := by
      rcases hp with hp | hp
      · intro e; exact hn (e ▸ hp)
      · omega
    exact (Below.heap_setCell _ _ _ _ hne).trans (h.block k hk hn)⟩

/-- Below a number under which no block is touched, all is as it was. -/
theorem Touch.below {w w' : World} {l : List Nat} {B : Nat} (h : Touch w w' l) (hB : B ≤ w.heap.size) (hl : ∀ x, x ∈ l → B ≤ x) : Below B w w' :=
  ⟨h.os, h.tape, h.output, h.size, fun k hk => h.block k (by omega) (fun e => by have := hl k e; omega)⟩

/-- A block that isn't touched. -/
theorem Touch.keep {w w' : World} {l : List Nat} {g : Nat} {o : Obj} (h : Touch w w' l) (hg : w.heap[g]? = some o) (hn : g ∉ l) : w'.heap[g]? = some o :=
  (h.block g (Array.getElem?_eq_some_iff.1 hg).1 hn).trans hg

theorem Touch.keepMap {H : Type} {P : Program} {k : TypeId} {R : Value → Option (DataW H × List MemPlace)} {b n : Nat} {D : DataW H} {w w' : World} {l : List Nat} (h : Touch w w' l) (hm : w.ownsMap P k R b n D) (hn : b ∉ l) : w'.ownsMap P k R b n D := by
  obtain ⟨es, clock, hb, F, hs, hD⟩ := hm
  exact ⟨es, clock, h.keep hb hn, F, hs, hD⟩

/-- What lies in a block. -/
theorem Touch.reads {w w' : World} {l : List Nat} {size n : Nat} {v : Value} {xs : List Value} (h : Touch w w' l) (hr : Reads w size v n xs) (hn : ∀ g, v.ownBlock = some g → g ∉ l) : Reads w' size v n xs := by
  obtain ⟨hl, a, cap, rfl, h1, h2, h3⟩ := hr
  refine ⟨hl, a, cap, rfl, h1, h2, fun j u hj => ?_⟩
  obtain ⟨b, off, rfl, hlt, hr⟩ := h3 j u hj
  refine ⟨b, off, rfl, Nat.lt_of_lt_of_le hlt h.size, ?_⟩
  have := h.block b hlt (hn b rfl)
  simp only [World.cell?] at hr ⊢
  rw [this]
  exact hr
end Go.Proofs.YtfhdonidgegebaaDoor

/- Slices of bytes that came in, and what is cut of them. -/
namespace Go.Proofs.YtfhdonidgegebaaDoor
open Go Go.RowKit

/-- v reads l, and lies in a block below B (or is nil). -/
def Sl (B : Nat) (w : World) (v : Value) (l : List UInt8) : Prop :=
  ((∃ a, v = .slice a 0 0) ∧ l = []) ∨ ∃ b off cap, v = .slice (some ⟨b, off, none⟩) l.length cap ∧ (l ≠ [] → b < B) ∧ (l ≠ [] → b < w.heap.size) ∧ Reads w 1 v l.length (bcells l)

theorem reads_none {w w' : World} {v : Value} {n : Nat} (h : Reads w 1 v n (bcells [])) : Reads w' 1 v n (bcells []) := by
  obtain ⟨hl, a, cap, rfl, h1, h2, h3⟩ := h
  exact ⟨hl, a, cap, rfl, h1, h2, fun j u hj => by simp [bcells] at hj⟩

theorem Sl.reads {B : Nat} {w : World} {v : Value} {l : List UInt8} (h : Sl B w v l) : Reads w 1 v l.length (bcells l) := by
  rcases h with ⟨⟨ax, rfl⟩, rfl⟩ | ⟨b, off, cap, rfl, _, _, h⟩
  · exact ⟨by simp [bcells], ax, 0, rfl, Nat.le_refl _, Nat.zero_le _, fun j u hj => by simp [bcells] at hj⟩
  · exact h

theorem Sl.below {B : Nat} {w w' : World} {v : Value} {l : List UInt8} (h : Sl B w v l) (hb : Below B w w') : Sl B w' v l := by
  rcases h with h | ⟨b, off, cap, rfl, h1, h2, h3⟩
  · exact .inl h
  · refine .inr ⟨b, off, cap, rfl, h1, fun hl => Nat.lt_of_lt_of_le (h2 hl) hb.size, ?_⟩
    by_cases hl : l = []
    · subst hl
      exact reads_none h3
    · have := h1 hl
      exact h3.below hb (fun b' hb' => by simp [Value.ownBlock] at hb'; omega)

/-- v[k:] -/
def cutV : Value → Nat → Value
  | .slice (some ⟨b, off, none⟩) n cap, k => if cap = k then .slice (some ⟨b, off, none⟩) (n - k) (cap - k) else .slice (some ⟨b, off + k, none⟩) (n - k) (cap - k)
  | v, _ => v

theorem cutV_zero (a : Option Addr) : cutV (.slice a 0 0) 0 = .slice a 0 0 := by
  rcases a with _ | ⟨b, o, _ | s⟩
  · rfl
  · simp [cutV]
  · rfl

theorem cutV_some (b off n cap k : Nat) : cutV (.slice (some ⟨b, off, none⟩) n cap) k = if cap = k then .slice (some ⟨b, off, none⟩) (n - k) (cap - k) else .slice (some ⟨b, off + k, none⟩) (n - k) (cap - k) := rfl

theorem Sl.cut {B : Nat} {w : World} {v : Value} {l : List UInt8} (h : Sl B w v l) {k : Nat} (hk : k ≤ l.length) : Sl B w (cutV v k) (l.drop k) := by
  rcases h with ⟨⟨ax, rfl⟩, rfl⟩ | ⟨b, off, cap, rfl, h1, h2, h3⟩
  · left
    obtain rfl : k = 0 := by simpa using hk
    exact ⟨⟨ax, cutV_zero ax⟩, rfl⟩
  · right
    have hs := h3.skip k hk
    obtain ⟨_, _, hv, hc1, hc2⟩ := h3.le
    cases hv
    rw [cutV_some]
    by_cases hck : cap = k
    · have hz : l.length - k = 0 := by omega
      have hd : l.drop k = [] := List.eq_nil_of_length_eq_zero (by rw [List.length_drop]; omega)
      have hcz : cap - k = 0 := by omega
      rw [if_pos hck, hd, hz, hcz]
      exact ⟨b, off, 0, rfl, fun h => absurd rfl h, fun h => absurd rfl h, by simp [bcells], _, 0, rfl, Nat.le_refl _, Nat.zero_le _, fun j u hj => by simp [bcells] at hj⟩
    · rw [if_neg hck]
      have hld : (l.drop k).length = l.length - k := List.length_drop
      refine ⟨b, off + k, cap - k, by rw [hld], fun hd => h1 (fun e => hd (by rw [e]; simp)), fun hd => h2 (fun e => hd (by rw [e]; simp)), ?_⟩
      rw [hld]
      exact hs

theorem Touch.sl {B g : Nat} {w w' : World} {v : Value} {l : List UInt8} (h : Sl B w v l) (ht : Touch w w' [g]) (hB : B ≤ g) : Sl B w' v l := by
  rcases h with h | ⟨b, off, cap, rfl, h1, h2, h3⟩
  · exact .inl h
  · refine .inr ⟨b, off, cap, rfl, h1, fun hl => Nat.lt_of_lt_of_le (h2 hl) ht.size, ?_⟩
    by_cases hl : l = []
    · subst hl
      exact reads_none h3
    · have := h1 hl
      exact ht.reads h3 (fun b' hb' => by simp [Value.ownBlock] at hb' ⊢; omega)

theorem own_sl {w : World} {B : Nat} {v : Value} {l : List UInt8} (h : w.ownsRow B 5 1 v l.length (bcells l)) : Sl w.heap.size w v l := by
  have hr := ownsRow.reads h
  rcases h.2 with ⟨rfl, h0⟩ | ⟨g, cap, cur, rfl, _, hh, _⟩
  · exact .inl ⟨⟨none, rfl⟩, List.eq_nil_of_length_eq_zero h0⟩
  · exact .inr ⟨g, 0, cap, rfl, fun _ => (Array.getElem?_eq_some_iff.1 hh).1, fun _ => (Array.getElem?_eq_some_iff.1 hh).1, hr⟩
end Go.Proofs.YtfhdonidgegebaaDoor

namespace Go.Proofs.YtfhdonidgegebaaDoor

set_option maxRecDepth 100000 in
theorem getGo_ok : ∀ (l : List UInt8) (i V v n : Nat), V < 128 ^ i → getGo i V l = (v, n, 0) → i < n ∧ n ≤ i + l.length ∧ n ≤ 10 ∧ v < 18446744073709551616
  | [], i, V, v, n, _, h => by
    rw [getGo] at h
    simp only [Prod.mk.injEq] at h
    split at h <;> omega
  | c :: r, i, V, v, n, hV, h => by
    rw [getGo] at h
    split at h
    · simp at h
    · rename_i h10
      split at h
      · have := getGo_ok r (i + 1) _ v n (get_grows hV) h
        simp only [List.length_cons]
        omega
      · split at h
        · simp at h
        · rename_i hc hb
          simp only [Prod.mk.injEq] at h
          obtain ⟨rfl, rfl, _⟩ := h
          simp only [List.length_cons]
          refine ⟨by omega, by omega, by omega, ?_⟩
          have hg := get_grows (c := c.toNat) hV
          by_cases h9 : i = 9
          · subst h9
            have hc1 : c.toNat ≤ 1 := by omega
            have e1 : c.toNat % 128 = c.toNat := by omega
            rw [e1]
            have h2 : c.toNat * 128 ^ 9 ≤ 1 * 128 ^ 9 := Nat.mul_le_mul_right _ hc1
            exact Nat.lt_of_lt_of_le (Nat.add_lt_add_of_lt_of_le hV (Nat.le_trans (Nat.mod_le _ _) h2)) (by decide)
          · have : 128 ^ (i + 1) ≤ 128 ^ 9 := Nat.pow_le_pow_right (by omega) (by omega)
            exact Nat.lt_of_lt_of_le hg (Nat.le_trans this (by decide))

/-- what codec.GetText comes to: the text, how many bytes, the error -/
def getText (l : List UInt8) : List UInt8 × Nat × Nat :=
  if (getGo 0 0 l).2.2 = 0 then
    if l.length - (getGo 0 0 l).2.1 < (getGo 0 0 l).1 then ([], 0, 7)
    else ((l.drop (getGo 0 0 l).2.1).take (getGo 0 0 l).1, (getGo 0 0 l).2.1 + (getGo 0 0 l).1, 0)
  else ([], 0, (getGo 0 0 l).2.2)
end Go.Proofs.YtfhdonidgegebaaDoor

namespace Go.Proofs.YtfhdonidgegebaaDoor
open Go.RowKit

def GetTextAny (w : World) (r : List UInt8 × Nat × Nat) (e : Ending) (w' : World) : Prop :=
  e = .returned (.tuple #[.string ⟨r.1.toArray⟩, .int .i64 (r.2.1 : Int), .int .i64 (r.2.2 : Int)]) ∧ w = w'

set_option maxRecDepth 100000 in
set_option maxHeartbeats 400000 in
theorem gettext_any (w : World) (v : Value) (n : Nat) (l : List UInt8) (h : Reads w 1 v n (bcells l)) :
    Calls Tryd.prog 83 #[v] w (GetTextAny w (getText l)) := by
  have hll : l.length = n := by have := h.1; simpa [bcells_length] using this
  obtain ⟨a0, cap0, hv0, h1, h2⟩ := h.le
  unfold maxLen at h2
  have hget := get_any w _ n _ h
  unfold getText
  have hok := getGo_ok l 0 0
  generalize getGo 0 0 l = r at hget hok
  obtain ⟨m, k, er⟩ := r
  simp only
  by_cases he : er = 0
  · subst he
    obtain ⟨hk0, hkl, hk10, hm⟩ := hok m k (by decide) rfl
    rw [if_pos rfl]
    have Hget := Lib.hid hget
    clear hget hok
    by_cases hs : l.length - k < m
    · rw [if_pos hs]
      have e1 : ((n : Int) - k) < m := by omega
      have e3 : (k : Int) ≤ n := by omega
      have Hll := Lib.hid hll
      clear hll hkl hs
      subst hv0
      go_enter Tryd.func83, Tryd.ntmps83
      go_wp2_with (go_at_call 82; go_must (refine Hget.out.mono ?_))
      rintro e w1 ⟨rfl, rfl⟩
      go_wp2
      go_ret3
      exact ⟨rfl, rfl⟩
    · rw [if_neg hs]
      obtain ⟨b, off, cap, rfl, _, _, _, _⟩ := h.head (by omega)
      cases hv0
      have hsk := h.skip k (by omega)
      obtain ⟨a', cap', hv', _, _, ht⟩ := hsk.take m (by omega)
      cases hv'
      have hcv := Reads.conv (P := Tryd.prog) (src := 24) (e := 5) (dst := 9) Tryd.underlying24 Tryd.underlying5 Tryd.underlying9 ht
      generalize hT : (l.drop k).take m = T at *
      clear hsk ht h
      have e1 : ¬ (n : Int) - k < m := by omega
      have e2 : (k : Int) + m ≤ n := by omega
      have e3 : (k : Int) ≤ n := by omega
      by_cases hck : cap0 = k
      · have hm0 : m = 0 := by omega
        have hnk : n = k := by omega
        have hT0 : T = [] := by rw [← hT, hm0]; rfl
        subst hm0
        subst hT0
        subst hnk
        subst hck
        have hr0 : Reads w 1 (.slice (some ⟨b, off, none⟩) 0 0) 0 (bcells []) := ⟨rfl, _, 0, rfl, Nat.le_refl _, Nat.zero_le _, fun j u h => by simp [bcells] at h⟩
        have hcv0 := Reads.conv (P := Tryd.prog) (src := 24) (e := 5) (dst := 9) Tryd.underlying24 Tryd.underlying5 Tryd.underlying9 hr0
        clear hcv hT hll hs
        go_enter Tryd.func83, Tryd.ntmps83
        go_wp2_with (go_at_call 82; go_must (refine Hget.out.mono ?_))
        rintro e w1 ⟨rfl, rfl⟩
        go_wp2
        go_ret3
        exact ⟨by simp, rfl⟩
      · have hck' : ¬ ((cap0 : Int) = k) := by omega
        clear hT hll hs
        go_enter Tryd.func83, Tryd.ntmps83
        go_wp2_with (go_at_call 82; go_must (refine Hget.out.mono ?_))
        rintro e w1 ⟨rfl, rfl⟩
        go_wp2
        go_ret3
        exact ⟨by simp, rfl⟩
  · rw [if_neg he]
    have e1 : (((er : Int)) == 0) = false := by simp; omega
    have Hget := Lib.hid hget
    clear hget hok hll h1 h2 h
    subst hv0
    go_enter Tryd.func83, Tryd.ntmps83
    go_wp2_with (go_at_call 82; go_must (refine Hget.out.mono ?_))
    rintro e w1 ⟨rfl, rfl⟩
    go_wp2
    go_ret3
    exact ⟨rfl, rfl⟩
end Go.Proofs.YtfhdonidgegebaaDoor
