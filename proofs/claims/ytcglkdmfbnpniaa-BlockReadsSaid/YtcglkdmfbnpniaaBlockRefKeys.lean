/- sentryref13.Keys, of any bytes. -/
import Derived.Test.YtcglkdmfbnpniaaBlockRefEnds
import Derived.Test.YtcglkdmfbnpniaaBlockRefB
import Derived.Test.YtcglkdmfbnpniaaBlockKeys
import Derived.Test.YtcglkdmfbnpniaaCodecRefGet
namespace Go.Proofs.Ytcglkdmfbnpniaa
open Go Go.RowKit

def keysU : Nat → List UInt8 → List UInt8 → List ByteArray → Option (List ByteArray)
  | 0, _, _, _ => none
  | f + 1, rest, key, ks =>
    if rest = [] then some ks
    else match stepB rest key with
      | none => none
      | some (r, k, _) => keysU f r k (ks ++ [⟨k.toArray⟩])

def keysUL (data : List UInt8) : Option (List ByteArray) := keysU (data.length + 1) data [] []

def RKeysPost (w : World) (l : List UInt8) (e : Ending) (w' : World) : Prop :=
  Below w.heap.size w w' ∧
    ((e = .returned (.tuple #[.slice none 0 0, .int .i64 9]) ∧ ∀ d p ks, partsL l = some (d, p) → keysUL d = some ks → ¬ (rises ks ∧ buildL ks = l)) ∨
      ∃ d p ks v, partsL l = some (d, p) ∧ keysUL d = some ks ∧ rises ks ∧ buildL ks = l ∧ e = .returned (.tuple #[v, .int .i64 0]) ∧ w'.ownsRow w.heap.size 9 1 v ks.length (scells ks))

theorem parts_none {l : List UInt8} (h : endsL l < 0) : partsL l = none := by
  unfold endsL at h
  unfold partsL
  by_cases h4 : l.length < 4
  · rw [if_pos h4]
  · rw [if_neg h4] at h ⊢
    rw [if_pos (by omega)]

theorem parts_some {l : List UInt8} (h : ¬ endsL l < 0) : ∃ (D : Nat) (p : List UInt8), endsL l = (D : Int) ∧ D + 4 ≤ l.length ∧ partsL l = some (l.take D, p) := by
  unfold endsL at h ⊢
  unfold partsL
  by_cases h4 : l.length < 4
  · rw [if_pos h4] at h
    exact absurd (by decide) h
  · rw [if_neg h4] at h ⊢
    rw [if_neg h4, if_neg (by omega)]
    exact ⟨l.length - 4 - 4 * num4 (l.drop (l.length - 4)), _, by omega, by omega, rfl⟩

theorem cat_list (x : ByteArray) (k : Nat) (S : List UInt8) : (x.extract 0 k ++ ⟨S.toArray⟩).data.toList = x.data.toList.take k ++ S := by
  rw [ByteArray.data_append, ByteArray.data_extract, Array.toList_append, Array.toList_extract]
  simp [List.extract]

def RKeysRel (w : World) (data : List UInt8) (R : Option (List ByteArray)) (ov iv sv : Value) (wr : World) : Prop :=
  ∃ (i F : Nat) (last : ByteArray) (ks : List ByteArray), iv = .int .i64 (i : Int) ∧ i ≤ data.length ∧ sv = .string last ∧ last.size ≤ i ∧ ks.length ≤ i ∧ (∀ x ∈ ks, x.size ≤ data.length) ∧ data.length - i < F ∧ keysU F (data.drop i) last.data.toList ks = R ∧
    wr.ownsRow w.heap.size 9 1 ov ks.length (scells ks) ∧ Below w.heap.size w wr

set_option maxRecDepth 100000 in
set_option maxHeartbeats 4000000 in
theorem refkeys_any (w : World) (v : Value) (l : List UInt8) (h : Sl w.heap.size w v l) (hl : l.length ≤ 4000) :
    Calls Try.prog 14 #[v] w (RKeysPost w l) := by
  obtain ⟨i0, hi, hz0, hz1, hz2⟩ := info_parts info9
  have HE := Lib.hid (ends_any w.heap.size w v l h (by omega))
  by_cases hneg : endsL l < 0
  · obtain ⟨va, vcap, rfl, _, _⟩ := h.reads.le
    have HPn := Lib.hid (parts_none hneg)
    obtain ⟨z, hz⟩ : ∃ z, endsL l = z := ⟨_, rfl⟩
    rw [hz] at HE hneg
    clear h hz
    go_enter Try.func14, Try.ntmps14
    go_wp2_with (go_at_call 16; go_must (refine HE.out.mono ?_))
    rintro e w1 ⟨rfl, b1⟩
    have HB1 := Lib.hid b1
    clear b1
    go_wp2
    go_ret2
    refine ⟨HB1.out, .inl ⟨rfl, fun d p ks hh => ?_⟩⟩
    rw [HPn.out] at hh
    cases hh
  · obtain ⟨D, P, hD, hDl, hpr⟩ := parts_some hneg
    rcases h with ⟨_, h0⟩ | ⟨b, off, cap, rfl, hb1, hb2, hrd⟩
    · rw [h0] at hDl
      simp at hDl
    have hS : Sl w.heap.size w (.slice (some ⟨b, off, none⟩) l.length cap) l := .inr ⟨b, off, cap, rfl, hb1, hb2, hrd⟩
    have HSl := Lib.hid hS
    obtain ⟨_, _, hv, hc1, hc2⟩ := hrd.le
    cases hv
    unfold maxLen at hc2
    rw [hD] at HE
    have HPr := Lib.hid hpr
    obtain ⟨data, hdt⟩ : ∃ data, l.take D = data := ⟨_, rfl⟩
    have hdl : data.length = D := by rw [← hdt, List.length_take]; omega
    rw [hdt] at HPr
    have HDt := Lib.hid hdt
    obtain ⟨R, hR⟩ : ∃ R, keysUL data = R := ⟨_, rfl⟩
    have HR := Lib.hid hR
    have HDl := Lib.hid hdl
    have hD0 : ¬ ((D : Int) < 0) := by omega
    clear hS hrd hpr hdt hneg hD hdl hR
    go_enter Try.func14, Try.ntmps14
    go_wp2_with (go_at_call 16; go_must (refine HE.out.mono ?_))
    rintro e w1 ⟨rfl, b1⟩
    have HB1 := Lib.hid b1
    clear b1
    go_wp2
    go_loopw [5, 6, 7] (fun ov iv sv wr => RKeysRel w data R ov iv sv wr) (fun _ iv _ _ => D - (intOf iv).toNat)
    case atStart => exact ⟨0, data.length + 1, ⟨#[]⟩, [], rfl, Nat.zero_le _, rfl, by decide, Nat.zero_le _, fun x hx => by simp at hx, by omega, HR.out, owns_nil _ _ _ _, HB1.out⟩
    case round =>
      obtain ⟨i, F, last, ks, rfl, hin, rfl, hls, hkl, hks3, hF, hks, hown, hbl⟩ := hrel
      rw [HDl.out] at hin hF hks3
      obtain ⟨F, rfl⟩ : ∃ f, F = f + 1 := ⟨F - 1, by omega⟩
      have hun : keysU (F + 1) (data.drop i) last.data.toList ks = _ := rfl
      conv at hun => rhs; unfold keysU
      rw [hks] at hun
      have HUn := Lib.hid hun
      have HOw := Lib.hid hown
      have HBl := Lib.hid hbl
      have HKs3 := Lib.hid hks3
      obtain ⟨ka, kcap, rfl, _, _⟩ := (ownsRow.reads hown).le
      clear hun hks hks3
      by_cases hlt : i < D
      · have hltI : (i : Int) < (D : Int) := by omega
        have hne : data.drop i ≠ [] := fun h => by
          have := congrArg List.length h
          rw [List.length_drop, HDl.out] at this
          simp at this
          omega
        have hcutV : ∀ j, j ≤ D → Reads wr 1 (.slice (some ⟨b, off + j, none⟩) (D - j) (cap - j)) (D - j) (bcells (data.drop j)) := fun j hj => by
          have h1 := ((HSl.out.below hbl).cut (k := j) (by omega))
          rw [cutV_some, if_neg (by omega), show l.length - j = (l.drop j).length by rw [List.length_drop]] at h1
          have h2 := h1.front (k := D - j) (by rw [List.length_drop]; omega)
          have h3 : (l.drop j).take (D - j) = data.drop j := by rw [← HDt.out, List.drop_take]
          rw [h3] at h2
          have h4 := h2.reads
          have h5 : (data.drop j).length = D - j := by rw [List.length_drop, HDl.out]
          rw [h5] at h4
          exact h4
        have HCut := Lib.hid hcutV
        have HGet := Lib.hid (refget_any wr _ _ _ (hcutV i (by omega)))
        have hok := getGo_ok (data.drop i) 0 0
        have hstep : stepB (data.drop i) last.data.toList = _ := rfl
        conv at hstep => rhs; unfold stepB
        have hdd : ∀ m, (data.drop i).drop m = data.drop (i + m) := fun m => by rw [List.drop_drop]
        rw [hdd] at hstep
        have hdil : (data.drop i).length = D - i := by rw [List.length_drop, HDl.out]
        rw [hdil] at hok
        rw [show last.data.toList.length = last.size from Array.length_toList] at hstep
        generalize getGo 0 0 (data.drop i) = r at *
        obtain ⟨sv, n, er⟩ := r
        simp only at hstep hok HGet
        have HStep := Lib.hid hstep
        have hiD : (i : Int) ≤ (D : Int) := by omega
        have hDc : (D : Int) ≤ (cap : Int) := by omega
        have hic : ¬ (cap = i) := by omega
        clear hcutV hstep hdd hdil hown hbl
        go_wp2_with (go_at_call 30; go_must (refine HGet.out.mono ?_))
        rintro e w2 ⟨rfl, rfl⟩
        by_cases he0 : er = 0
        · subst he0
          obtain ⟨hn0, hnl, _, hsv⟩ := hok sv n (by decide) rfl
          have hwl : IntKind.u64.wrap (last.size : Int) = (last.size : Int) := by rw [IntKind.wrap_u64]; omega
          by_cases hsk : sv ≤ last.size
          · have hskI : ¬ ((last.size : Int) < (sv : Int)) := by omega
            have hnD : i + n ≤ D := by omega
            have hnI : (i : Int) + (n : Int) ≤ (D : Int) := by omega
            have hwn : IntKind.i64.wrap ((i : Int) + (n : Int)) = ((i + n : Nat) : Int) := by rw [IntKind.wrap_i64]; omega
            have HGt := Lib.hid (refgettext_any wr _ _ _ (HCut.out (i + n) hnD))
            have hcn : ¬ (cap = i + n) := by omega
            have hsum := getText_sum (data.drop (i + n))
            have hused := getText_used (data.drop (i + n))
            have hdl2 : (data.drop (i + n)).length = D - (i + n) := by rw [List.length_drop, HDl.out]
            have hStep := HStep.out
            have hdd : ∀ m, (data.drop (i + n)).drop m = data.drop (i + n + m) := fun m => by rw [List.drop_drop]
            rw [hdd] at hStep
            rw [hdl2] at hused
            generalize getText (data.drop (i + n)) = tr at *
            obtain ⟨S, m, er2⟩ := tr
            simp only at hStep hsum hused HGt
            have HStep2 := Lib.hid hStep
            clear hStep hdd hdl2 HStep HGet
            go_wp2_with (go_at_call 31; go_must (refine HGt.out.mono ?_))
            rintro e w3 ⟨rfl, rfl⟩
            by_cases he2 : er2 = 0
            · subst he2
              have hm1 := hsum rfl
              have hm2 := hused rfl
              have HSome : Hid (stepB (data.drop i) last.data.toList = some (data.drop (i + n + m), last.data.toList.take sv ++ S, sv)) := Lib.hid (by rw [HStep2.out, if_pos ⟨by trivial, hsk, by trivial⟩])
              clear hsum hused HStep2 HGt
              have hsvI : (sv : Int) ≤ (last.size : Int) := by omega
              have hwm : IntKind.i64.wrap ((i : Int) + (n : Int) + (m : Int)) = ((i + n + m : Nat) : Int) := by rw [IntKind.wrap_i64]; omega
              obtain ⟨nl, hnl2⟩ : ∃ nl, last.extract 0 sv ++ ⟨S.toArray⟩ = nl := ⟨_, rfl⟩
              have hnlL : nl.data.toList = last.data.toList.take sv ++ S := by rw [← hnl2]; exact cat_list _ _ _
              have hnls : nl.size = sv + S.length := by
                have h1 : nl.data.toList.length = (last.data.toList.take sv ++ S).length := by rw [hnlL]
                rw [Array.length_toList, List.length_append, List.length_take, Array.length_toList] at h1
                have h2 : nl.size = min sv last.size + S.length := h1
                omega
              have HNl := Lib.hid hnlL
              have HNs := Lib.hid hnls
              have hkb : ks.length ≤ 10000 := by omega
              have hbs : w.heap.size ≤ wr.heap.size := HBl.out.size
              clear hnlL hnls
              go_wp2_with (at_builtin; go_must (refine wpList_append_owns_lits (w0 := wr) rfl _ _ 22 rfl w.heap.size 9 i0 (.string ⟨#[]⟩) 16 Try.underlying22 hi hz0 hz1 hz2 rfl [.string nl] 1 rfl HOw.out rfl rfl (fun u hu => by simp at hu; subst hu; rfl) ?_ ?_ hbs ?_))
              · unfold maxLen; omega
              · omega
              intro v9 w9 o9 g9 b9 _
              have o9' : w9.ownsRow w.heap.size 9 1 v9 (ks ++ [nl]).length (scells (ks ++ [nl])) := by
                rw [scells_append, List.length_append]
                exact o9
              have HO9 := Lib.hid o9'
              have HB9 := Lib.hid (HBl.out.trans b9)
              have HRv : Hid (keysU F (data.drop (i + n + m)) nl.data.toList (ks ++ [nl]) = R) := Lib.hid (by
                rw [HUn.out, if_neg hne, HSome.out, HNl.out]
                have : (⟨(last.data.toList.take sv ++ S).toArray⟩ : ByteArray) = nl := by
                  rw [← HNl.out]
                simp only [this])
              clear o9 o9' g9 b9 HUn HSome
              go_wp2
              refine ⟨⟨i + n + m, F, nl, ks ++ [nl], by go_num, by rw [HDl.out]; omega, rfl, by have := HNs.out; omega, by simp; omega, ?_, by rw [HDl.out]; omega, HRv.out, HO9.out, HB9.out⟩, by simp [intOf]; omega⟩
              intro x hx
              rw [HDl.out]
              rcases List.mem_append.1 hx with hx | hx
              · exact HKs3.out x hx
              · simp at hx
                subst hx
                have := HNs.out
                omega
            · have heI : ((er2 : Int) != 0) = true := by simp; omega
              have HNone : Hid (stepB (data.drop i) last.data.toList = none) := Lib.hid (by rw [HStep2.out, if_neg (fun h => he2 h.2.2)])
              clear HStep2
              have hRv : R = none := by rw [HUn.out, if_neg hne, HNone.out]
              have HRv := Lib.hid hRv
              clear hRv HUn
              go_wp2
              go_ret2
              refine ⟨HBl.out, .inl ⟨rfl, fun d p ks' hh hk h' => ?_⟩⟩
              rw [HPr.out] at hh
              cases hh
              rw [HR.out, HRv.out] at hk
              cases hk
          · have hskI : (last.size : Int) < (sv : Int) := by omega
            have HNone : Hid (stepB (data.drop i) last.data.toList = none) := Lib.hid (by rw [HStep.out, if_neg (fun h => hsk h.2.1)])
            clear HStep
            have hRv : R = none := by rw [HUn.out, if_neg hne, HNone.out]
            have HRv := Lib.hid hRv
            clear hRv HUn
            go_wp2
            go_ret2
            refine ⟨HBl.out, .inl ⟨rfl, fun d p ks' hh hk h' => ?_⟩⟩
            rw [HPr.out] at hh
            cases hh
            rw [HR.out, HRv.out] at hk
            cases hk
        · have heI : ((er : Int) != 0) = true := by simp; omega
          have HNone : Hid (stepB (data.drop i) last.data.toList = none) := Lib.hid (by rw [HStep.out, if_neg (fun h => he0 h.1)])
          clear HStep
          have hRv : R = none := by rw [HUn.out, if_neg hne, HNone.out]
          have HRv := Lib.hid hRv
          clear hRv HUn
          go_wp2
          go_ret2
          refine ⟨HBl.out, .inl ⟨rfl, fun d p ks' hh hk h' => ?_⟩⟩
          rw [HPr.out] at hh
          cases hh
          rw [HR.out, HRv.out] at hk
          cases hk
      · obtain rfl : i = D := by omega
        have hltI : ¬ (i : Int) < (i : Int) := by omega
        have hnil : data.drop i = [] := by rw [List.drop_of_length_le]; rw [HDl.out]; omega
        have hRv : R = some ks := by rw [HUn.out, if_pos hnil]
        have HRv := Lib.hid hRv
        have HBu := Lib.hid (refbuild_any wr _ _ _ ks (ownsRow.reads HOw.out) (by omega) (fun x hx => by have := HKs3.out x hx; omega))
        have HSr := Lib.hid (fun W (hW : Below w.heap.size w W) => (HSl.out.below hW).reads)
        clear hRv hnil HUn hown hbl
        go_wp2_with (go_at_call 11; go_must (refine HBu.out.mono ?_))
        rintro e w8 hp
        rcases hp with ⟨hup, v8, rfl, o8, b8⟩ | ⟨hno, rfl, b8⟩
        · have hB8 := HBl.out.trans (b8.mono HBl.out.size)
          have hcv1 := Reads.conv (P := Try.prog) (w := w8) (src := 26) (e := 5) (dst := 9) Try.underlying26 Try.underlying5 Try.underlying9 (ownsRow.reads o8)
          have hcv2 := Reads.conv (P := Try.prog) (w := w8) (src := 26) (e := 5) (dst := 9) Try.underlying26 Try.underlying5 Try.underlying9 (HSr.out w8 hB8)
          have HB8 := Lib.hid hB8
          have HO8 := Lib.hid (owns_below HOw.out b8)
          have HUp := Lib.hid hup
          obtain ⟨v8a, v8c, rfl, _, _⟩ := (ownsRow.reads o8).le
          clear b8 hup o8 hB8
          obtain ⟨BL, hBL⟩ : ∃ BL, buildL ks = BL := ⟨_, rfl⟩
          have HBL := Lib.hid hBL
          rw [hBL] at hcv1 ⊢
          clear hBL
          by_cases hE : BL = l
          · have HE := Lib.hid hE
            subst hE
            go_wp2
            go_ret2
            exact ⟨HB8.out, .inr ⟨data, P, ks, _, HPr.out, by rw [HR.out, HRv.out], HUp.out, HBL.out, rfl, HO8.out⟩⟩
          · have HE := Lib.hid hE
            have hEI : (BL == l) = false := by simpa using hE
            have hEJ : (BL != l) = true := by simpa using hE
            go_wp2
            go_ret2
            refine ⟨HB8.out, .inl ⟨rfl, fun d p ks' hh hk h' => ?_⟩⟩
            rw [HPr.out] at hh
            cases hh
            rw [HR.out, HRv.out] at hk
            cases hk
            exact HE.out (by rw [← HBL.out]; exact h'.2)
        · have HB8 := Lib.hid (HBl.out.trans (b8.mono HBl.out.size))
          have HNo := Lib.hid hno
          clear b8 hno
          go_wp2
          go_ret2
          refine ⟨HB8.out, .inl ⟨rfl, fun d p ks' hh hk h' => ?_⟩⟩
          rw [HPr.out] at hh
          cases hh
          rw [HR.out, HRv.out] at hk
          cases hk
          exact HNo.out h'.1
end Go.Proofs.Ytcglkdmfbnpniaa
