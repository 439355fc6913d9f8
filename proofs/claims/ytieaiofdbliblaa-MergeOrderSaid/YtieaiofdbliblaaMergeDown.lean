/- heap.down. -/
import Derived.Test.YtieaiofdbliblaaMergeSwap
namespace Go.Proofs.Ytieaiofdbliblaa
open Go Go.RowKit

variable {G : Nat → Prop}

def hpI (m : Nat) : Value := .iface 49 (.pointer (some ⟨m, 0, none⟩))

def StatePost (G : Nat → Prop) (w : World) (B m : Nat) (rs : List Row) (w' : World) : Prop := (∃ hv svs, MS G w' B m hv svs rs) ∧ MF B w w'

theorem MS.bsize {w : World} {B m : Nat} {hv : Value} {svs : List Value} {rs : List Row} (h : MS G w B m hv svs rs) : B ≤ w.heap.size := by
  have := (Array.getElem?_eq_some_iff.1 h.cell).1
  have := h.base
  omega

theorem down_stop {f i n : Nat} {rs : List Row} (h1 : 2 * i + 1 < n) (hf : n ≤ i + f) (hl : lessR rs (pickR rs i n) i = false) : downL f rs i n = rs := by
  cases f with
  | zero => rfl
  | succ f =>
    unfold downL
    rw [if_pos h1, hl]
    rfl

theorem down_go {f i n : Nat} {rs : List Row} (h1 : 2 * i + 1 < n) (hf : n ≤ i + f) (hl : lessR rs (pickR rs i n) i = true) : ∃ f', n ≤ pickR rs i n + f' ∧ downL f rs i n = downL f' (swp rs i (pickR rs i n)) (pickR rs i n) n := by
  obtain ⟨p1, p2, _⟩ := pickR_lt (rs := rs) h1
  cases f with
  | zero => omega
  | succ f =>
    refine ⟨f, by omega, ?_⟩
    conv => lhs; unfold downL
    rw [if_pos h1, hl]
    rfl

def DownRel (G : Nat → Prop) (w : World) (B m n : Nat) (rs : List Row) (i0 : Nat) (iv : Value) (wr : World) : Prop :=
  ∃ (i f : Nat) (rs' : List Row) (hv : Value) (svs : List Value), iv = .int .i64 (i : Int) ∧ i ≤ 100000 ∧ MS G wr B m hv svs rs' ∧ downL n rs i0 n = downL f rs' i n ∧ n ≤ i + f ∧ rs'.length = rs.length ∧ MF B w wr

set_option maxRecDepth 100000 in
set_option maxHeartbeats 4000000 in
theorem down_any (w : World) (B m : Nat) (hv : Value) (svs : List Value) (rs : List Row) (i0 n : Nat) (h : MS G w B m hv svs rs) (hn : n ≤ rs.length) (hi : i0 ≤ 100000) :
    Calls Try.prog 21 #[.iface 49 (.pointer (some ⟨m, 0, none⟩)), .int .i64 (i0 : Int), .int .i64 (n : Int)] w fun e w' => (∃ b, e = .returned (.bool b)) ∧ StatePost G w B m (downL n rs i0 n) w' := by
  have HS := Lib.hid h
  have hfw := h.few
  clear h
  go_enter Try.func21, Try.ntmps21
  go_wp2
  go_loopw [7] (fun iv wr => DownRel G w B m n rs i0 iv wr) (fun iv _ => n - (intOf iv).toNat)
  case atStart => exact ⟨i0, n, rs, hv, svs, rfl, hi, HS.out, rfl, by omega, rfl, MF.refl _ _⟩
  case round =>
    clear HS
    obtain ⟨i, f, rs', hv', svs', rfl, hi', hms, hdl, hf, hlen, hmf⟩ := hrel
    have hfew := hms.few
    by_cases h1 : 2 * i + 1 < n
    · have h1I : ¬ (n : Int) ≤ 2 * (i : Int) + 1 := by omega
      by_cases h2 : 2 * i + 2 < n
      · have h2I : 2 * (i : Int) + 1 + 1 < (n : Int) := by omega
        have hl1 := rless_any wr B m hv' svs' rs' (2 * i + 2) (2 * i + 1) hms (by omega) (by omega)
        rw [show ((2 * i + 2 : Nat) : Int) = 2 * (i : Int) + 1 + 1 by omega, show ((2 * i + 1 : Nat) : Int) = 2 * (i : Int) + 1 by omega] at hl1
        have hml := m_less hms.mcell
        have HM := Lib.hid hms
        have HF := Lib.hid hmf
        cases hk : lessR rs' (2 * i + 2) (2 * i + 1) with
        | true =>
          have hj : pickR rs' i n = 2 * i + 2 := by unfold pickR; rw [if_pos ⟨h2, hk⟩]
          rw [hk] at hl1
          have HL1 := Lib.hid hl1
          clear hl1 hk hms hmf
          go_wp2_with (go_at_call 40; go_must (refine HL1.out.mono ?_))
          rintro e w2 ⟨rfl, b2⟩
          have HM2 := Lib.hid (HM.out.below b2)
          have HF2 := Lib.hid (HF.out.trans (MF.of_below b2 HM.out.bsize))
          clear b2 hml
          have hl2 := rless_any w2 B m hv' svs' rs' (2 * i + 2) i HM2.out (by omega) (by omega)
          rw [show ((2 * i + 2 : Nat) : Int) = 2 * (i : Int) + 1 + 1 by omega] at hl2
          have hml2 := m_less HM2.out.mcell
          cases hl : lessR rs' (2 * i + 2) i with
          | false =>
            rw [hl] at hl2
            have HL2 := Lib.hid hl2
            have HD := Lib.hid (show downL n rs i0 n = rs' by rw [hdl, down_stop h1 hf (by rw [hj]; exact hl)])
            clear hl2 hl hdl hj
            go_wp2_with (go_at_call 40; go_must (refine HL2.out.mono ?_))
            rintro e w3 ⟨rfl, b3⟩
            have HM3 := Lib.hid (HM2.out.below b3)
            have HF3 := Lib.hid (HF2.out.trans (MF.of_below b3 (HM2.out.bsize)))
            clear b3 hml2
            go_wp2
            go_ret
            exact ⟨⟨_, rfl⟩, ⟨_, _, by rw [HD.out]; exact HM3.out⟩, HF3.out⟩
          | true =>
            rw [hl] at hl2
            have HL2 := Lib.hid hl2
            obtain ⟨f', hf', hst⟩ := down_go h1 hf (by rw [hj]; exact hl)
            rw [hj] at hst hf'
            have HD := Lib.hid (hdl.trans hst)
            clear hl2 hl hdl hj hst
            go_wp2_with (go_at_call 40; go_must (refine HL2.out.mono ?_))
            rintro e w3 ⟨rfl, b3⟩
            have hm3 := HM2.out.below b3
            have HF3 := Lib.hid (HF2.out.trans (MF.of_below b3 (HM2.out.bsize)))
            have hsw := rswap_any w3 B m hv' svs' rs' i (2 * i + 2) hm3 (by omega) (by omega)
            rw [show ((2 * i + 2 : Nat) : Int) = 2 * (i : Int) + 1 + 1 by omega] at hsw
            have hms3 := m_swap hm3.mcell
            have HSw := Lib.hid hsw
            clear b3 hml2 hm3 hsw
            go_wp2_with (go_at_call 41; go_must (refine HSw.out.mono ?_))
            rintro e w4 ⟨rfl, ⟨hv4, svs4, hm4⟩, hf4⟩
            have HM4 := Lib.hid hm4
            have HF4 := Lib.hid (HF3.out.trans hf4)
            clear hm4 hf4 hms3
            go_wp2
            exact ⟨⟨2 * i + 2, f', swp rs' i (2 * i + 2), hv4, svs4, by go_num, by omega, HM4.out, HD.out, by omega, by rw [swp_length]; exact hlen, HF4.out⟩, by simp [intOf]; omega⟩
        | false =>
          have hj : pickR rs' i n = 2 * i + 1 := by unfold pickR; rw [if_neg (fun h => by rw [hk] at h; cases h.2)]
          rw [hk] at hl1
          have HL1 := Lib.hid hl1
          clear hl1 hk hms hmf
          go_wp2_with (go_at_call 40; go_must (refine HL1.out.mono ?_))
          rintro e w2 ⟨rfl, b2⟩
          have HM2 := Lib.hid (HM.out.below b2)
          have HF2 := Lib.hid (HF.out.trans (MF.of_below b2 HM.out.bsize))
          clear b2 hml
          have hl2 := rless_any w2 B m hv' svs' rs' (2 * i + 1) i HM2.out (by omega) (by omega)
          rw [show ((2 * i + 1 : Nat) : Int) = 2 * (i : Int) + 1 by omega] at hl2
          have hml2 := m_less HM2.out.mcell
          cases hl : lessR rs' (2 * i + 1) i with
          | false =>
            rw [hl] at hl2
            have HL2 := Lib.hid hl2
            have HD := Lib.hid (show downL n rs i0 n = rs' by rw [hdl, down_stop h1 hf (by rw [hj]; exact hl)])
            clear hl2 hl hdl hj
            go_wp2_with (go_at_call 40; go_must (refine HL2.out.mono ?_))
            rintro e w3 ⟨rfl, b3⟩
            have HM3 := Lib.hid (HM2.out.below b3)
            have HF3 := Lib.hid (HF2.out.trans (MF.of_below b3 (HM2.out.bsize)))
            clear b3 hml2
            go_wp2
            go_ret
            exact ⟨⟨_, rfl⟩, ⟨_, _, by rw [HD.out]; exact HM3.out⟩, HF3.out⟩
          | true =>
            rw [hl] at hl2
            have HL2 := Lib.hid hl2
            obtain ⟨f', hf', hst⟩ := down_go h1 hf (by rw [hj]; exact hl)
            rw [hj] at hst hf'
            have HD := Lib.hid (hdl.trans hst)
            clear hl2 hl hdl hj hst
            go_wp2_with (go_at_call 40; go_must (refine HL2.out.mono ?_))
            rintro e w3 ⟨rfl, b3⟩
            have hm3 := HM2.out.below b3
            have HF3 := Lib.hid (HF2.out.trans (MF.of_below b3 (HM2.out.bsize)))
            have hsw := rswap_any w3 B m hv' svs' rs' i (2 * i + 1) hm3 (by omega) (by omega)
            rw [show ((2 * i + 1 : Nat) : Int) = 2 * (i : Int) + 1 by omega] at hsw
            have hms3 := m_swap hm3.mcell
            have HSw := Lib.hid hsw
            clear b3 hml2 hm3 hsw
            go_wp2_with (go_at_call 41; go_must (refine HSw.out.mono ?_))
            rintro e w4 ⟨rfl, ⟨hv4, svs4, hm4⟩, hf4⟩
            have HM4 := Lib.hid hm4
            have HF4 := Lib.hid (HF3.out.trans hf4)
            clear hm4 hf4 hms3
            go_wp2
            exact ⟨⟨2 * i + 1, f', swp rs' i (2 * i + 1), hv4, svs4, by go_num, by omega, HM4.out, HD.out, by omega, by rw [swp_length]; exact hlen, HF4.out⟩, by simp [intOf]; omega⟩
      · have h2I : ¬ 2 * (i : Int) + 1 + 1 < (n : Int) := by omega
        have hj : pickR rs' i n = 2 * i + 1 := by unfold pickR; rw [if_neg (fun h => h2 h.1)]
        have HM := Lib.hid hms
        have HF := Lib.hid hmf
        clear hms hmf
        have hl2 := rless_any wr B m hv' svs' rs' (2 * i + 1) i HM.out (by omega) (by omega)
        rw [show ((2 * i + 1 : Nat) : Int) = 2 * (i : Int) + 1 by omega] at hl2
        have hml2 := m_less HM.out.mcell
        cases hl : lessR rs' (2 * i + 1) i with
        | false =>
          rw [hl] at hl2
          have HL2 := Lib.hid hl2
          have HD := Lib.hid (show downL n rs i0 n = rs' by rw [hdl, down_stop h1 hf (by rw [hj]; exact hl)])
          clear hl2 hl hdl hj
          go_wp2_with (go_at_call 40; go_must (refine HL2.out.mono ?_))
          rintro e w3 ⟨rfl, b3⟩
          have HM3 := Lib.hid (HM.out.below b3)
          have HF3 := Lib.hid (HF.out.trans (MF.of_below b3 (HM.out.bsize)))
          clear b3 hml2
          go_wp2
          go_ret
          exact ⟨⟨_, rfl⟩, ⟨_, _, by rw [HD.out]; exact HM3.out⟩, HF3.out⟩
        | true =>
          rw [hl] at hl2
          have HL2 := Lib.hid hl2
          obtain ⟨f', hf', hst⟩ := down_go h1 hf (by rw [hj]; exact hl)
          rw [hj] at hst hf'
          have HD := Lib.hid (hdl.trans hst)
          clear hl2 hl hdl hj hst
          go_wp2_with (go_at_call 40; go_must (refine HL2.out.mono ?_))
          rintro e w3 ⟨rfl, b3⟩
          have hm3 := HM.out.below b3
          have HF3 := Lib.hid (HF.out.trans (MF.of_below b3 (HM.out.bsize)))
          have hsw := rswap_any w3 B m hv' svs' rs' i (2 * i + 1) hm3 (by omega) (by omega)
          rw [show ((2 * i + 1 : Nat) : Int) = 2 * (i : Int) + 1 by omega] at hsw
          have hms3 := m_swap hm3.mcell
          have HSw := Lib.hid hsw
          clear b3 hml2 hm3 hsw
          go_wp2_with (go_at_call 41; go_must (refine HSw.out.mono ?_))
          rintro e w4 ⟨rfl, ⟨hv4, svs4, hm4⟩, hf4⟩
          have HM4 := Lib.hid hm4
          have HF4 := Lib.hid (HF3.out.trans hf4)
          clear hm4 hf4 hms3
          go_wp2
          exact ⟨⟨2 * i + 1, f', swp rs' i (2 * i + 1), hv4, svs4, by go_num, by omega, HM4.out, HD.out, by omega, by rw [swp_length]; exact hlen, HF4.out⟩, by simp [intOf]; omega⟩
    · have h1I : (n : Int) ≤ 2 * (i : Int) + 1 := by omega
      have HD := Lib.hid (show downL n rs i0 n = rs' by
        rw [hdl]
        cases f with
        | zero => rfl
        | succ f => unfold downL; rw [if_neg h1])
      have HM := Lib.hid hms
      have HF := Lib.hid hmf
      clear hms hmf hdl
      go_wp2
      go_ret
      exact ⟨⟨_, rfl⟩, ⟨_, _, by rw [HD.out]; exact HM.out⟩, HF.out⟩
end Go.Proofs.Ytieaiofdbliblaa
