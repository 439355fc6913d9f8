/- The law BlockBuilds' walk. -/
import Derived.Test.YtcglkdmfbnpniaaBlockSeeksW
import Derived.Test.YtcglkdmfbnpniaaBlockRefB
import Derived.Test.YtcglkdmfbnpniaaBlockKeys
namespace Go.Proofs.Ytcglkdmfbnpniaa
open Go Go.RowKit

theorem keys_rest {ks : List ByteArray} (hs : ∀ x ∈ ks, x.size ≤ 4000) : ∀ (d j F : Nat) (key : List UInt8), j + d = ks.length → Ahead ks j key → (restTo ks j d).length < F → keysB F (restTo ks j d) key (ks.take j) = some ks
  | 0, j, F + 1, key, hj, _, _ => by
    have : ks.take j = ks := List.take_of_length_le (by omega)
    simp [keysB, restTo, this]
  | d + 1, j, F + 1, key, hj, h, hF => by
    unfold keysB
    rw [if_neg (rest_ne ks j d), step_rest hs h]
    simp only
    have hl : (ks.take j).length = j := by rw [List.length_take]; omega
    have hno : ¬ ((ks.take j).length % 16 = 0 ∧ 0 < shareL ks j) := by
      rintro ⟨h1, h2⟩
      rw [hl] at h1
      unfold shareL at h2
      rw [if_pos h1] at h2
      omega
    rw [if_neg hno]
    have hjl : j < ks.length := by omega
    obtain ⟨x, hx⟩ : ∃ x, ks[j]? = some x := ⟨_, List.getElem?_eq_getElem hjl⟩
    have ht : ks.take j ++ [⟨(kb ks j).toArray⟩] = ks.take (j + 1) := by
      have hxx : (⟨x.data.toList.toArray⟩ : ByteArray) = x := by cases x; simp
      rw [List.take_add_one, hx, kb_at hx, hxx]
      rfl
    rw [ht]
    refine keys_rest hs d (j + 1) F (kb ks j) (by omega) (.inr (by rw [show j + 1 - 1 = j by omega])) ?_
    have h1 := enc_pos (shareL ks j)
    have h2 : (restTo ks j (d + 1)).length = (entL (shareL ks j) (kb ks j)).length + (restTo ks (j + 1) d).length := by
      show (entL (shareL ks j) (kb ks j) ++ restTo ks (j + 1) d).length = _
      rw [List.length_append]
    have h3 : 0 < (entL (shareL ks j) (kb ks j)).length := by unfold entL; rw [List.length_append]; omega
    omega

theorem keys_build {ks : List ByteArray} (hs : ∀ x ∈ ks, x.size ≤ 4000) : keysL (bodyTo ks ks.length) = some ks := by
  have hb := body_rest ks ks.length 0
  rw [Nat.zero_add] at hb
  have hb2 : bodyTo ks ks.length = restTo ks 0 ks.length := by rw [hb]; rfl
  unfold keysL
  rw [hb2]
  have := keys_rest hs ks.length 0 ((restTo ks 0 ks.length).length + 1) [] (by omega) (.inl rfl) (by omega)
  simpa using this

set_option maxRecDepth 100000 in
set_option maxHeartbeats 4000000 in
theorem blockBuilds_walk (w : World) (a : Option Addr) (n cap : Nat) (l : List ByteArray) (sort : Bool) (h : Reads w 1 (.slice a n cap) n (scells l)) :
    Calls Try.prog 3 #[.slice a n cap, .bool sort] w (SaysTrue w) := by
  have hll : l.length = n := by have := h.1; rw [scells_length] at this; omega
  have HF := Lib.hid (fixed_any w)
  have HR := Lib.hid h
  have HLL := Lib.hid hll
  obtain ⟨_, _, hv, hc1, hc2⟩ := h.le
  cases hv
  unfold maxLen at hc2
  clear h hll
  go_enter Try.func3, Try.ntmps3
  go_wp2_with (go_at_call 7; go_must (refine HF.out.mono ?_))
  rintro e w1 ⟨rfl, b1⟩
  have HB := Lib.hid b1
  have HR1 := Lib.hid (HR.out.below' b1)
  clear b1 HF HR
  have HFw := Lib.hid (few13_any w1 _ _ _ _ HR1.out)
  cases hfew : few13 l with
  | false =>
    rw [hfew] at HFw
    go_wp2_with (go_at_call 8; go_must (refine HFw.out.mono ?_))
    rintro e w2 ⟨rfl, rfl⟩
    go_wp2
    go_ret
    exact ⟨rfl, HB.out⟩
  | true =>
    rw [hfew] at HFw
    obtain ⟨hs1, hn1⟩ := few13_low hfew
    rw [HLL.out] at hn1
    cases sort with
    | false =>
      have HK3 := Lib.hid hs1
      have HKl := HLL
      clear hs1 hfew HLL
      go_wp2_with (go_at_call 8; go_must (refine HFw.out.mono ?_))
      rintro e W ⟨rfl, rfl⟩
      have HRk := HR1
      clear HR1 HFw
      generalize a = ra at *
      generalize n = M at *
      generalize cap = rcap at *
      generalize l = ks at *
      generalize w1 = W at *
      have HBu := Lib.hid (build_any W ra M rcap ks HRk.out (by omega) (fun x hx => by have := HK3.out x hx; omega))
      go_wp2_with (go_at_call 10; go_must (refine HBu.out.mono ?_))
      rintro e w5 hp
      have hb5 : Below W.heap.size W w5 := by
        rcases hp with ⟨_, _, _, _, h⟩ | ⟨_, _, h⟩
        · exact h
        · exact h
      have HRk5 := Lib.hid (HRk.out.below' hb5)
      have HB5 := Lib.hid (HB.out.trans (hb5.mono HB.out.size))
      have HRb := Lib.hid (refbuild_any w5 ra M rcap ks HRk5.out (by omega) (fun x hx => by have := HK3.out x hx; omega))
      by_cases hup : rises ks
      · rcases hp with ⟨_, v5, rfl, o5, _⟩ | ⟨hno, _⟩
        case inr => exact absurd hup hno
        have HUp := Lib.hid hup
        have HO5 := Lib.hid o5
        clear hup o5 hb5 HBu HRk HB
        go_wp2_with (go_at_call 11; go_must (refine HRb.out.mono ?_))
        rintro e w6 hp
        rcases hp with ⟨_, v6, rfl, o6, b6⟩ | ⟨hno, _⟩
        case inr => exact absurd HUp.out hno
        have HRk6 := Lib.hid (HRk5.out.below' b6)
        have HB6 := Lib.hid (HB5.out.trans (b6.mono HB5.out.size))
        have o56 := owns_below HO5.out b6
        have hc1 := Reads.conv (P := Try.prog) (w := w6) (src := 26) (e := 5) (dst := 9) Try.underlying26 Try.underlying5 Try.underlying9 (ownsRow.reads o56)
        have hc2 := Reads.conv (P := Try.prog) (w := w6) (src := 26) (e := 5) (dst := 9) Try.underlying26 Try.underlying5 Try.underlying9 (ownsRow.reads o6)
        have hks : ∀ x ∈ ks, x.size ≤ 4000 := fun x hx => by have := HK3.out x hx; omega
        have hkn : ks.length ≤ 4000 := by have := HKl.out; omega
        have HKy := Lib.hid (keys_any w6 v5 (buildL ks) (own_sl o56) (by have := buildL_small hks hkn; omega) (fun d p ks' h1 h2 => by
          rw [parts_build hkn] at h1
          cases h1
          rw [keys_build hks] at h2
          cases h2
          exact ⟨hkn, hks⟩))
        have HPb := Lib.hid (parts_build hkn)
        have HKb := Lib.hid (keys_build hks)
        obtain ⟨v5a, v5c, rfl, _, _⟩ := (ownsRow.reads o56).le
        obtain ⟨v6a, v6c, rfl, _, _⟩ := (ownsRow.reads o6).le
        obtain ⟨BL, hBL⟩ : ∃ BL, BL = buildL ks := ⟨_, rfl⟩
        have HBL := Lib.hid hBL
        rw [← hBL] at hc1 hc2 HKy ⊢
        clear o6 o56 b6 HO5 HB5 HRk5 HRb hks hkn hBL
        go_wp2_with (go_at_call 12; go_must (refine HKy.out.mono ?_))
        rintro e w7 hp
        obtain ⟨b7, hp⟩ := hp
        rcases hp with ⟨rfl, hno⟩ | ⟨d, p, ks', v7, h1, h2, _, _, rfl, o7⟩
        case inl =>
          rw [HBL.out] at hno
          exact absurd ⟨HUp.out, rfl⟩ (hno _ _ _ HPb.out HKb.out)
        rw [HBL.out, HPb.out] at h1
        cases h1
        rw [HKb.out] at h2
        cases h2
        obtain ⟨v7a, v7c, rfl, _, _⟩ := (ownsRow.reads o7).le
        have HSm := Lib.hid (sames_any w7 v7a ra ks.length M v7c rcap ks ks (ownsRow.reads o7) (HRk6.out.below' b7))
        rw [decide_eq_true rfl] at HSm
        have HB7 := Lib.hid (HB6.out.trans (b7.mono HB6.out.size))
        clear b7 o7 hc1 hc2 HKy HB6 HRk6
        go_wp2_with (go_at_call 13; go_must (refine HSm.out.mono ?_))
        rintro e w8 ⟨rfl, b8⟩
        have HB8 := Lib.hid (HB7.out.trans (b8.mono HB7.out.size))
        clear b8
        go_wp2
        go_ret
        exact ⟨rfl, HB8.out⟩
      · rcases hp with ⟨hyes, _⟩ | ⟨_, rfl, _⟩
        case inl => exact absurd hyes hup
        have HUp := Lib.hid hup
        clear hup hb5 HBu HRk HB
        go_wp2_with (go_at_call 11; go_must (refine HRb.out.mono ?_))
        rintro e w6 hp
        rcases hp with ⟨hyes, _⟩ | ⟨_, rfl, b6⟩
        case inl => exact absurd hyes HUp.out
        have HB6 := Lib.hid (HB5.out.trans (b6.mono HB5.out.size))
        have hnil : Reads w6 1 (.slice none 0 0) ([] : List UInt8).length (bcells []) := ⟨by simp [bcells], none, 0, rfl, Nat.le_refl _, Nat.zero_le _, fun j u hj => by simp [bcells] at hj⟩
        have hc1 := Reads.conv (P := Try.prog) (w := w6) (src := 26) (e := 5) (dst := 9) Try.underlying26 Try.underlying5 Try.underlying9 hnil
        clear hnil b6 HB5 HRk5 HRb
        go_wp2
        go_ret
        exact ⟨rfl, HB6.out⟩
    | true =>
      obtain ⟨hsr, hsm, hsl⟩ := sortK_ok l
      rw [HLL.out] at hsl
      have HSo := Lib.hid (sorted_any w1 _ _ _ _ HR1.out (by omega))
      obtain ⟨ks, hke⟩ : ∃ ks, sortK l = ks := ⟨_, rfl⟩
      rw [hke] at hsr hsm hsl
      have HKe := Lib.hid hke
      have HK3 : Hid (∀ x ∈ ks, x.size ≤ 300) := Lib.hid (fun x hx => hs1 x (hsm x hx))
      clear hke hs1 hsm hsr hfew
      go_wp2_with (go_at_call 8; go_must (refine HFw.out.mono ?_))
      rintro e w2 ⟨rfl, rfl⟩
      go_wp2_with (go_at_call 9; go_must (refine HSo.out.mono ?_))
      rintro e W ⟨v4, rfl, o4, b4⟩
      rw [HKe.out] at o4
      obtain ⟨ra, rcap, rfl, _, _⟩ := (ownsRow.reads o4).le
      have HRk := Lib.hid (ownsRow.reads o4)
      have HB := Lib.hid (HB.out.trans (b4.mono HB.out.size))
      obtain ⟨M, hM⟩ : ∃ M, ks.length = M := ⟨_, rfl⟩
      have HKl := Lib.hid hM
      rw [hM] at HRk hsl ⊢
      clear o4 b4 HSo HR1 HFw hM
      have HBu := Lib.hid (build_any W ra M rcap ks HRk.out (by omega) (fun x hx => by have := HK3.out x hx; omega))
      go_wp2_with (go_at_call 10; go_must (refine HBu.out.mono ?_))
      rintro e w5 hp
      have hb5 : Below W.heap.size W w5 := by
        rcases hp with ⟨_, _, _, _, h⟩ | ⟨_, _, h⟩
        · exact h
        · exact h
      have HRk5 := Lib.hid (HRk.out.below' hb5)
      have HB5 := Lib.hid (HB.out.trans (hb5.mono HB.out.size))
      have HRb := Lib.hid (refbuild_any w5 ra M rcap ks HRk5.out (by omega) (fun x hx => by have := HK3.out x hx; omega))
      by_cases hup : rises ks
      · rcases hp with ⟨_, v5, rfl, o5, _⟩ | ⟨hno, _⟩
        case inr => exact absurd hup hno
        have HUp := Lib.hid hup
        have HO5 := Lib.hid o5
        clear hup o5 hb5 HBu HRk HB
        go_wp2_with (go_at_call 11; go_must (refine HRb.out.mono ?_))
        rintro e w6 hp
        rcases hp with ⟨_, v6, rfl, o6, b6⟩ | ⟨hno, _⟩
        case inr => exact absurd HUp.out hno
        have HRk6 := Lib.hid (HRk5.out.below' b6)
        have HB6 := Lib.hid (HB5.out.trans (b6.mono HB5.out.size))
        have o56 := owns_below HO5.out b6
        have hc1 := Reads.conv (P := Try.prog) (w := w6) (src := 26) (e := 5) (dst := 9) Try.underlying26 Try.underlying5 Try.underlying9 (ownsRow.reads o56)
        have hc2 := Reads.conv (P := Try.prog) (w := w6) (src := 26) (e := 5) (dst := 9) Try.underlying26 Try.underlying5 Try.underlying9 (ownsRow.reads o6)
        have hks : ∀ x ∈ ks, x.size ≤ 4000 := fun x hx => by have := HK3.out x hx; omega
        have hkn : ks.length ≤ 4000 := by have := HKl.out; omega
        have HKy := Lib.hid (keys_any w6 v5 (buildL ks) (own_sl o56) (by have := buildL_small hks hkn; omega) (fun d p ks' h1 h2 => by
          rw [parts_build hkn] at h1
          cases h1
          rw [keys_build hks] at h2
          cases h2
          exact ⟨hkn, hks⟩))
        have HPb := Lib.hid (parts_build hkn)
        have HKb := Lib.hid (keys_build hks)
        obtain ⟨v5a, v5c, rfl, _, _⟩ := (ownsRow.reads o56).le
        obtain ⟨v6a, v6c, rfl, _, _⟩ := (ownsRow.reads o6).le
        obtain ⟨BL, hBL⟩ : ∃ BL, BL = buildL ks := ⟨_, rfl⟩
        have HBL := Lib.hid hBL
        rw [← hBL] at hc1 hc2 HKy ⊢
        clear o6 o56 b6 HO5 HB5 HRk5 HRb hks hkn hBL
        go_wp2_with (go_at_call 12; go_must (refine HKy.out.mono ?_))
        rintro e w7 hp
        obtain ⟨b7, hp⟩ := hp
        rcases hp with ⟨rfl, hno⟩ | ⟨d, p, ks', v7, h1, h2, _, _, rfl, o7⟩
        case inl =>
          rw [HBL.out] at hno
          exact absurd ⟨HUp.out, rfl⟩ (hno _ _ _ HPb.out HKb.out)
        rw [HBL.out, HPb.out] at h1
        cases h1
        rw [HKb.out] at h2
        cases h2
        obtain ⟨v7a, v7c, rfl, _, _⟩ := (ownsRow.reads o7).le
        have HSm := Lib.hid (sames_any w7 v7a ra ks.length M v7c rcap ks ks (ownsRow.reads o7) (HRk6.out.below' b7))
        rw [decide_eq_true rfl] at HSm
        have HB7 := Lib.hid (HB6.out.trans (b7.mono HB6.out.size))
        clear b7 o7 hc1 hc2 HKy HB6 HRk6
        go_wp2_with (go_at_call 13; go_must (refine HSm.out.mono ?_))
        rintro e w8 ⟨rfl, b8⟩
        have HB8 := Lib.hid (HB7.out.trans (b8.mono HB7.out.size))
        clear b8
        go_wp2
        go_ret
        exact ⟨rfl, HB8.out⟩
      · rcases hp with ⟨hyes, _⟩ | ⟨_, rfl, _⟩
        case inl => exact absurd hyes hup
        have HUp := Lib.hid hup
        clear hup hb5 HBu HRk HB
        go_wp2_with (go_at_call 11; go_must (refine HRb.out.mono ?_))
        rintro e w6 hp
        rcases hp with ⟨hyes, _⟩ | ⟨_, rfl, b6⟩
        case inl => exact absurd hyes HUp.out
        have HB6 := Lib.hid (HB5.out.trans (b6.mono HB5.out.size))
        have hnil : Reads w6 1 (.slice none 0 0) ([] : List UInt8).length (bcells []) := ⟨by simp [bcells], none, 0, rfl, Nat.le_refl _, Nat.zero_le _, fun j u hj => by simp [bcells] at hj⟩
        have hc1 := Reads.conv (P := Try.prog) (w := w6) (src := 26) (e := 5) (dst := 9) Try.underlying26 Try.underlying5 Try.underlying9 hnil
        clear hnil b6 HB5 HRk5 HRb
        go_wp2
        go_ret
        exact ⟨rfl, HB6.out⟩
end Go.Proofs.Ytcglkdmfbnpniaa
