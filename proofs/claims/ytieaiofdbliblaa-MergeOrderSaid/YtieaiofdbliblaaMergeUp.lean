/- heap.up, Init. -/
import Derived.Test.YtieaiofdbliblaaMergeDown
namespace Go.Proofs.Ytieaiofdbliblaa
open Go Go.RowKit

variable {G : Nat → Prop}

def UpRel (G : Nat → Prop) (w : World) (B m : Nat) (R : List Row) (n : Nat) (jv : Value) (wr : World) : Prop :=
  ∃ (j f : Nat) (rs' : List Row) (hv : Value) (svs : List Value), jv = .int .i64 (j : Int) ∧ j < n ∧ j < f ∧ MS G wr B m hv svs rs' ∧ R = upL f rs' j ∧ rs'.length = n ∧ MF B w wr

set_option maxRecDepth 100000 in
set_option maxHeartbeats 4000000 in
theorem up_any (w : World) (B m : Nat) (hv : Value) (svs : List Value) (rs : List Row) (j : Nat) (h : MS G w B m hv svs rs) (hj : j < rs.length) :
    Calls Try.prog 22 #[.iface 49 (.pointer (some ⟨m, 0, none⟩)), .int .i64 (j : Int)] w fun e w' => e = .returned (.tuple #[]) ∧ StatePost G w B m (upL (j + 1) rs j) w' := by
  have HS := Lib.hid h
  clear h
  go_enter Try.func22, Try.ntmps22
  go_wp2
  go_loopw [1] (fun jv wr => UpRel G w B m (upL (j + 1) rs j) rs.length jv wr) (fun jv _ => (intOf jv).toNat)
  case atStart => exact ⟨j, j + 1, rs, hv, svs, rfl, hj, by omega, HS.out, rfl, rfl, MF.refl _ _⟩
  case round =>
    clear HS
    obtain ⟨k, f, rs', hv', svs', rfl, hk, hf, hms, hup, hlen, hmf⟩ := hrel
    have hfew := hms.few
    by_cases h0 : k = 0
    · subst h0
      have HD := Lib.hid (show upL (j + 1) rs j = rs' by
        rw [hup]
        cases f with
        | zero => omega
        | succ f => unfold upL; rw [if_pos rfl])
      have HM := Lib.hid hms
      have HF := Lib.hid hmf
      clear hms hmf hup
      go_wp2
      exact bodyPost_end (by simp [results, Try.results22]) rfl ⟨rfl, ⟨_, _, by rw [HD.out]; exact HM.out⟩, HF.out⟩
    · obtain ⟨i, hi⟩ : ∃ i, (k - 1) / 2 = i := ⟨_, rfl⟩
      have hq : ((k : Int) - 1).tdiv 2 = (i : Int) := by
        rw [Int.tdiv_eq_ediv_of_nonneg (by omega)]
        omega
      have hne : ¬ (i : Int) = (k : Int) := by omega
      have hl2 := rless_any wr B m hv' svs' rs' k i hms (by omega) (by omega)
      have hml := m_less hms.mcell
      have HM := Lib.hid hms
      have HF := Lib.hid hmf
      clear hms hmf
      obtain ⟨f', rfl⟩ : ∃ f', f = f' + 1 := ⟨f - 1, by omega⟩
      have hst : upL (f' + 1) rs' k = if lessR rs' k i then upL f' (swp rs' i k) i else rs' := by
        unfold upL
        rw [if_neg h0, hi]
        cases f' <;> rfl
      cases hl : lessR rs' k i with
      | false =>
        rw [hl] at hl2 hst
        have HL2 := Lib.hid hl2
        have HD := Lib.hid (hup.trans hst)
        clear hl2 hl hup hst
        go_wp2_with (go_at_call 40; go_must (refine HL2.out.mono ?_))
        rintro e w3 ⟨rfl, b3⟩
        have HM3 := Lib.hid (HM.out.below b3)
        have HF3 := Lib.hid (HF.out.trans (MF.of_below b3 HM.out.bsize))
        clear b3 hml
        go_wp2
        exact bodyPost_end (by simp [results, Try.results22]) rfl ⟨rfl, ⟨_, _, by rw [HD.out]; exact HM3.out⟩, HF3.out⟩
      | true =>
        rw [hl] at hl2 hst
        have HL2 := Lib.hid hl2
        have HD := Lib.hid (hup.trans hst)
        clear hl2 hl hup hst
        go_wp2_with (go_at_call 40; go_must (refine HL2.out.mono ?_))
        rintro e w3 ⟨rfl, b3⟩
        have hm3 := HM.out.below b3
        have HF3 := Lib.hid (HF.out.trans (MF.of_below b3 HM.out.bsize))
        have hsw := rswap_any w3 B m hv' svs' rs' i k hm3 (by omega) (by omega)
        have hms3 := m_swap hm3.mcell
        have HSw := Lib.hid hsw
        clear b3 hml hm3 hsw
        go_wp2_with (go_at_call 41; go_must (refine HSw.out.mono ?_))
        rintro e w4 ⟨rfl, ⟨hv4, svs4, hm4⟩, hf4⟩
        have HM4 := Lib.hid hm4
        have HF4 := Lib.hid (HF3.out.trans hf4)
        clear hm4 hf4 hms3
        go_wp2
        exact ⟨⟨i, f', swp rs' i k, hv4, svs4, rfl, by omega, by omega, HM4.out, HD.out, by rw [swp_length]; exact hlen, HF4.out⟩, by simp [intOf]; omega⟩

def InitRel (G : Nat → Prop) (w : World) (B m n : Nat) (R : List Row) (iv : Value) (wr : World) : Prop :=
  ∃ (k : Nat) (rs' : List Row) (hv : Value) (svs : List Value), iv = .int .i64 ((k : Int) - 1) ∧ k ≤ n ∧ MS G wr B m hv svs rs' ∧ R = initL k rs' n ∧ rs'.length = n ∧ MF B w wr

set_option maxRecDepth 100000 in
set_option maxHeartbeats 4000000 in
theorem init_any (w : World) (B m : Nat) (hv : Value) (svs : List Value) (rs : List Row) (h : MS G w B m hv svs rs) :
    Calls Try.prog 18 #[.iface 49 (.pointer (some ⟨m, 0, none⟩))] w fun e w' => e = .returned (.tuple #[]) ∧ StatePost G w B m (initL (rs.length / 2) rs rs.length) w' := by
  have HS := Lib.hid h
  have hfew := h.few
  have hml := m_len h.mcell
  obtain ⟨a, cap, rfl, _, _⟩ := (ownsRow.reads h.own).le
  have HL := Lib.hid (rlen_any w a rs.length cap)
  clear h
  have hq : ((rs.length : Int)).tdiv 2 = ((rs.length / 2 : Nat) : Int) := by
    rw [Int.tdiv_eq_ediv_of_nonneg (by omega)]
    omega
  go_enter Try.func18, Try.ntmps18
  go_wp2_with (go_at_call 39; go_must (refine HL.out.mono ?_))
  rintro e w1 ⟨rfl, rfl⟩
  clear hml
  go_wp2
  go_loopw [3] (fun iv wr => InitRel G w B m rs.length (initL (rs.length / 2) rs rs.length) iv wr) (fun iv _ => (intOf iv + 1).toNat)
  case atStart => exact ⟨rs.length / 2, rs, _, svs, rfl, by omega, HS.out, rfl, rfl, MF.refl _ _⟩
  case round =>
    clear HS HL
    obtain ⟨k, rs', hv', svs', rfl, hk, hms, hin, hlen, hmf⟩ := hrel
    cases k with
    | zero =>
      have hI : ¬ (0 : Int) ≤ ((0 : Nat) : Int) - 1 := by omega
      have HD := Lib.hid (show initL (rs.length / 2) rs rs.length = rs' from hin)
      have HM := Lib.hid hms
      have HF := Lib.hid hmf
      clear hms hmf hin
      go_wp2
      exact bodyPost_end (by simp [results, Try.results18]) rfl ⟨rfl, ⟨_, _, by rw [HD.out]; exact HM.out⟩, HF.out⟩
    | succ k =>
      have hI : (0 : Int) ≤ ((k + 1 : Nat) : Int) - 1 := by omega
      have hw : ((k + 1 : Nat) : Int) - 1 = (k : Int) := by omega
      rw [hw] at hI ⊢
      have HDn := Lib.hid (down_any wr B m hv' svs' rs' k rs.length hms (by omega) (by omega))
      have HD := Lib.hid (show initL (rs.length / 2) rs rs.length = initL k (downL rs.length rs' k rs.length) rs.length from hin)
      have HLn := Lib.hid ((downL_facts rs.length rs' k rs.length (by omega)).1.trans hlen)
      have HF := Lib.hid hmf
      clear hms hmf hin
      go_wp2_with (go_at_call 21; go_must (refine HDn.out.mono ?_))
      rintro e w3 ⟨⟨b, rfl⟩, ⟨hv3, svs3, hm3⟩, hf3⟩
      have HM3 := Lib.hid hm3
      have HF3 := Lib.hid (HF.out.trans hf3)
      clear hm3 hf3
      go_wp2
      exact ⟨⟨k, _, hv3, svs3, rfl, by omega, HM3.out, HD.out, HLn.out, HF3.out⟩, by simp [intOf]⟩
end Go.Proofs.Ytieaiofdbliblaa
