/- The law BlockReads' walk. -/
import Derived.Test.YtcglkdmfbnpniaaBlockBuildsW
import Derived.Test.YtcglkdmfbnpniaaBlockRefKeys
namespace Go.Proofs.Ytcglkdmfbnpniaa
open Go Go.RowKit

theorem keysB_U : ∀ (F : Nat) (rest key : List UInt8) (ks out : List ByteArray), keysB F rest key ks = some out → keysU F rest key ks = some out
  | 0, rest, key, ks, out, h => by simp [keysB] at h
  | F + 1, rest, key, ks, out, h => by
    unfold keysB at h
    unfold keysU
    by_cases h0 : rest = []
    · rw [if_pos h0] at h ⊢
      exact h
    · rw [if_neg h0] at h ⊢
      cases hs : stepB rest key with
      | none => rw [hs] at h; cases h
      | some p =>
        obtain ⟨r, k, s⟩ := p
        rw [hs] at h
        simp only at h ⊢
        split at h
        · cases h
        · exact keysB_U F r k _ out h

theorem keysU_small (N : Nat) : ∀ (F : Nat) (rest key : List UInt8) (ks out : List ByteArray), keysU F rest key ks = some out → key.length + rest.length ≤ N → ks.length + rest.length ≤ N → (∀ x ∈ ks, x.size ≤ N) → out.length ≤ N ∧ ∀ x ∈ out, x.size ≤ N
  | 0, rest, key, ks, out, h, _, _, _ => by simp [keysU] at h
  | F + 1, rest, key, ks, out, h, h1, h2, h3 => by
    unfold keysU at h
    by_cases h0 : rest = []
    · rw [if_pos h0] at h
      cases h
      exact ⟨by omega, h3⟩
    · rw [if_neg h0] at h
      cases hs : stepB rest key with
      | none => rw [hs] at h; cases h
      | some p =>
        obtain ⟨r, k, s⟩ := p
        rw [hs] at h
        simp only at h
        have hl := stepB_less hs h0
        refine keysU_small N F r k _ out h (by omega) (by simp; omega) (fun x hx => ?_)
        rcases List.mem_append.1 hx with hx | hx
        · exact h3 x hx
        · simp at hx
          subst hx
          show k.toArray.size ≤ N
          simp
          omega

theorem keysUL_small {d : List UInt8} {ks : List ByteArray} (h : keysUL d = some ks) : ks.length ≤ d.length ∧ ∀ x ∈ ks, x.size ≤ d.length :=
  keysU_small d.length _ _ _ _ _ h (by simp) (by simp) (fun x hx => by simp at hx)

theorem keysL_U {d : List UInt8} {ks : List ByteArray} (h : keysL d = some ks) : keysUL d = some ks := keysB_U _ _ _ _ _ h

def SeekTell (w : World) (l : List UInt8) (e : Ending) (w' : World) : Prop :=
  ∃ (t : ByteArray) (b : Bool) (g : Nat), e = .returned (.tuple #[.string t, .bool b, .int .i64 (g : Int)]) ∧ (g = 0 ∨ g = 9) ∧ (g = 0 → 0 ≤ endsL l) ∧ (∀ ks, rises ks → (∀ x ∈ ks, x.size ≤ 4000) → ks.length ≤ 4000 → buildL ks = l → g = 0) ∧ Below w.heap.size w w'

theorem scanB_err (want : List UInt8) (bad : Bool) : ∀ (F : Nat) (rest key : List UInt8), (scanB want bad F rest key).2.2 = 0 ∨ (scanB want bad F rest key).2.2 = 9
  | 0, rest, key => .inl rfl
  | F + 1, rest, key => by
    unfold scanB
    split
    · cases bad
      · exact .inl rfl
      · exact .inr rfl
    · split
      · exact .inr rfl
      · split
        · exact .inl rfl
        · exact scanB_err want bad F _ _

theorem seektell_any (w : World) (v : Value) (l : List UInt8) (key : ByteArray) (h : Sl w.heap.size w v l) (hl : l.length ≤ 50000000) (hk : key.size ≤ 50000000) :
    Calls Try.prog 15 #[v, .string key] w (SeekTell w l) := by
  refine (seek_any w v l key h hl hk).mono fun e w' hp => ?_
  obtain ⟨b, hm⟩ := hp
  by_cases hneg : endsL l < 0
  · have hn := parts_none hneg
    rw [hn] at hm
    refine ⟨_, _, _, hm, .inr rfl, fun h9 => by simp at h9, fun ks hr hs hn2 hb => ?_, b⟩
    rw [← hb, parts_build hn2] at hn
    cases hn
  · have hge : 0 ≤ endsL l := by omega
    obtain ⟨D, P, _, _, hpr⟩ := parts_some hneg
    rw [hpr] at hm
    simp only at hm
    split at hm
    · exact ⟨_, _, _, hm, .inl rfl, fun _ => hge, fun ks hr hs hn2 hb => rfl, b⟩
    · rename_i hp0
      obtain ⟨i, hf, rfl⟩ := hm
      refine ⟨_, _, _, rfl, scanB_err _ _ _ _ _, fun _ => hge, fun ks hr hs hn2 hb => ?_, b⟩
      rw [← hb, parts_build hn2] at hpr
      simp only [Option.some.injEq, Prod.mk.injEq] at hpr
      obtain ⟨h1, h2⟩ := hpr
      rw [hb] at h1
      rw [← h1, ← h2] at hf ⊢
      have hn0 : 0 < ks.length := by
        rcases Nat.eq_zero_or_pos ks.length with h0 | h0
        · rw [← h2, placesTo_length, h0] at hp0
          exact absurd rfl hp0
        · exact h0
      rw [seek_block hr hs hn2 hn0 key hf]
      cases sk11 ks key false with
      | none => rfl
      | some x => rfl

theorem keys_same {l d p d' p' : List UInt8} {ks ks' : List ByteArray} (h1 : partsL l = some (d, p)) (h2 : keysL d = some ks) (h3 : partsL l = some (d', p')) (h4 : keysUL d' = some ks') : ks = ks' := by
  rw [h1] at h3
  cases h3
  rw [keysL_U h2] at h4
  cases h4
  rfl

set_option maxRecDepth 100000 in
set_option maxHeartbeats 4000000 in
theorem blockReads_walk (w : World) (a : Option Addr) (n cap : Nat) (l : List UInt8) (key : ByteArray) (hln : l.length = n) (h : Sl w.heap.size w (.slice a n cap) l) :
    Calls Try.prog 4 #[.slice a n cap, .string key] w (SaysTrue w) := by
  have HF := Lib.hid (fixed_any w)
  have HSl := Lib.hid h
  have HLn := Lib.hid hln
  clear h hln
  go_enter Try.func4, Try.ntmps4
  go_wp2_with (go_at_call 7; go_must (refine HF.out.mono ?_))
  rintro e w1 ⟨rfl, b1⟩
  have HB1 := Lib.hid b1
  have HS1 := Lib.hid ((HSl.out.below b1).up b1.size)
  clear b1 HF
  by_cases hn : n ≤ 3000
  · have hnI : ¬ (3000 : Int) < n := by omega
    by_cases hk : key.size ≤ 300
    · have hkI : ¬ (300 : Int) < key.size := by omega
      have hl4 : l.length ≤ 4000 := by rw [HLn.out]; omega
      have HK := Lib.hid (keys_any w1 _ l HS1.out (by omega) (fun d p ks h1 h2 => by
        obtain ⟨k1, k2⟩ := keysUL_small (keysL_U h2)
        have h3 := (parts_length h1).1
        exact ⟨by omega, fun x hx => by have := k2 x hx; omega⟩))
      go_wp2_with (go_at_call 12; go_must (refine HK.out.mono ?_))
      rintro e w2 hp
      obtain ⟨b2, hp⟩ := hp
      have HB2 := Lib.hid (HB1.out.trans (b2.mono HB1.out.size))
      have HS2 := Lib.hid ((HS1.out.below b2).up b2.size)
      have HRk := Lib.hid (refkeys_any w2 _ l HS2.out hl4)
      rcases hp with ⟨rfl, hno⟩ | ⟨d, p, ks, v5, h1, h2, hr, hb, rfl, o5⟩
      · have HNo := Lib.hid hno
        clear hno b2 HK
        go_wp2_with (go_at_call 14; go_must (refine HRk.out.mono ?_))
        rintro e w3 hp
        obtain ⟨b3, hp⟩ := hp
        rcases hp with ⟨rfl, _⟩ | ⟨d, p, ks, v5, h1, h2, hr, hb, rfl, o5⟩
        case inr =>
          obtain ⟨k1, k2⟩ := keysUL_small h2
          have h3 := (parts_length h1).1
          have hks : ∀ x ∈ ks, x.size ≤ 4000 := fun x hx => by have := k2 x hx; omega
          have hkl : ks.length ≤ 4000 := by omega
          have h4 := h1
          rw [← hb, parts_build hkl] at h4
          cases h4
          exact absurd ⟨hr, hb⟩ (HNo.out _ _ _ h1 (keys_build hks))
        have HB3 := Lib.hid (HB2.out.trans (b3.mono HB2.out.size))
        have HS3 := Lib.hid ((HS2.out.below b3).up b3.size)
        have HSk := Lib.hid (seektell_any w3 _ l key HS3.out (by omega) (by omega))
        clear b3 HRk HNo
        go_wp2_with (go_at_call 15; go_must (refine HSk.out.mono ?_))
        rintro e w4 ⟨t, bb, g, rfl, hg, hge, _, b4⟩
        have HB4 := Lib.hid (HB3.out.trans (b4.mono HB3.out.size))
        have HS4 := Lib.hid ((HS3.out.below b4).up b4.size)
        have hnil : ∀ W : World, Reads W 1 (.slice none 0 0) 0 (scells []) := fun W => ⟨by simp [scells], none, 0, rfl, Nat.le_refl _, Nat.zero_le _, fun j u hj => by simp [scells] at hj⟩
        have HSm := Lib.hid (sames_any w4 none none 0 0 0 0 [] [] (hnil _) (hnil _))
        rw [decide_eq_true rfl] at HSm
        have HGe := Lib.hid hge
        clear b4 hge HSk hnil
        go_wp2_with (go_at_call 13; go_must (refine HSm.out.mono ?_))
        rintro e w5 ⟨rfl, b5⟩
        have HB5 := Lib.hid (HB4.out.trans (b5.mono HB4.out.size))
        have HS5 := Lib.hid ((HS4.out.below b5).up b5.size)
        clear b5
        rcases hg with rfl | rfl
        · have hz := HGe.out rfl
          have HEn := Lib.hid (ends_any w5.heap.size w5 _ l HS5.out (by omega))
          generalize endsL l = z at *
          go_wp2_with (go_at_call 16; go_must (refine HEn.out.mono ?_))
          rintro e w6 ⟨rfl, b6⟩
          have HB6 := Lib.hid (HB5.out.trans (b6.mono HB5.out.size))
          clear b6
          go_wp2
          go_ret
          exact ⟨rfl, HB6.out⟩
        · go_wp2
          go_ret
          exact ⟨rfl, HB5.out⟩
      · have H1 := Lib.hid h1
        have H2 := Lib.hid h2
        have HRi := Lib.hid hr
        have HBd := Lib.hid hb
        have HO5 := Lib.hid o5
        obtain ⟨k1, k2⟩ := keysUL_small (keysL_U h2)
        have h3 := (parts_length h1).1
        have hks : ∀ x ∈ ks, x.size ≤ 4000 := fun x hx => by have := k2 x hx; omega
        have hkl : ks.length ≤ 4000 := by omega
        have HKs := Lib.hid hks
        clear h1 h2 hr hb o5 b2 HK k1 k2 h3 hks
        obtain ⟨v5a, v5c, rfl, _, _⟩ := (ownsRow.reads HO5.out).le
        go_wp2_with (go_at_call 14; go_must (refine HRk.out.mono ?_))
        rintro e w3 hp
        obtain ⟨b3, hp⟩ := hp
        rcases hp with ⟨rfl, hno⟩ | ⟨d', p', ks', v7, h1, h2, _, _, rfl, o7⟩
        case inl => exact absurd ⟨HRi.out, HBd.out⟩ (hno _ _ _ H1.out (keysL_U H2.out))
        obtain rfl := keys_same H1.out H2.out h1 h2
        obtain ⟨v7a, v7c, rfl, _, _⟩ := (ownsRow.reads o7).le
        have HB3 := Lib.hid (HB2.out.trans (b3.mono HB2.out.size))
        have HS3 := Lib.hid ((HS2.out.below b3).up b3.size)
        have HSk := Lib.hid (seektell_any w3 _ l key HS3.out (by omega) (by omega))
        have HR5 := Lib.hid (ownsRow.reads (owns_below HO5.out b3))
        have HR7 := Lib.hid (ownsRow.reads o7)
        clear b3 HRk h1 h2 o7 HO5
        go_wp2_with (go_at_call 15; go_must (refine HSk.out.mono ?_))
        rintro e w4 ⟨t, bb, g, rfl, hg, hge, hg0, b4⟩
        obtain rfl := hg0 ks HRi.out HKs.out hkl HBd.out
        have HB4 := Lib.hid (HB3.out.trans (b4.mono HB3.out.size))
        have HS4 := Lib.hid ((HS3.out.below b4).up b4.size)
        have HSm := Lib.hid (sames_any w4 v5a v7a ks.length ks.length v5c v7c ks ks (HR5.out.below' b4) (HR7.out.below' b4))
        rw [decide_eq_true rfl] at HSm
        have hz := hge rfl
        clear b4 hge hg0 hg HSk
        go_wp2_with (go_at_call 13; go_must (refine HSm.out.mono ?_))
        rintro e w5 ⟨rfl, b5⟩
        have HB5 := Lib.hid (HB4.out.trans (b5.mono HB4.out.size))
        have HS5 := Lib.hid ((HS4.out.below b5).up b5.size)
        have HEn := Lib.hid (ends_any w5.heap.size w5 _ l HS5.out (by omega))
        clear b5
        generalize endsL l = z at *
        go_wp2_with (go_at_call 16; go_must (refine HEn.out.mono ?_))
        rintro e w6 ⟨rfl, b6⟩
        have HB6 := Lib.hid (HB5.out.trans (b6.mono HB5.out.size))
        clear b6
        go_wp2
        go_ret
        exact ⟨rfl, HB6.out⟩
    · have hkI : (300 : Int) < key.size := by omega
      go_wp2
      go_ret
      exact ⟨rfl, HB1.out⟩
  · have hnI : (3000 : Int) < n := by omega
    go_wp2
    go_ret
    exact ⟨rfl, HB1.out⟩
end Go.Proofs.Ytcglkdmfbnpniaa
