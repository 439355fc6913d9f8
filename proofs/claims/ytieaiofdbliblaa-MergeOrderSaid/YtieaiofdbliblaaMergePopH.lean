/- heap.Pop. -/
import Derived.Test.YtieaiofdbliblaaMergePush
namespace Go.Proofs.Ytieaiofdbliblaa
open Go Go.RowKit

variable {G : Nat → Prop}

def HPopPost (G : Nat → Prop) (w : World) (B m : Nat) (rs : List Row) (e : Ending) (w' : World) : Prop :=
  ∃ (v : Value) (l : Row) (rs' : List Row), e = .returned (.iface 46 v) ∧ rs[0]? = some l ∧ StrAt G w' v l ∧ (l :: rs').Perm rs ∧ HeapFrom rs' 0 rs'.length ∧ StatePost G w B m rs' w'

theorem hd_take {rs : List Row} {k i : Nat} (h : i < k) : hd (rs.take k) i = hd rs i := by
  unfold hd
  rw [List.getElem?_take_of_lt h]

theorem pop_facts {rs : List Row} {n : Nat} (hn : rs.length = n + 1) (hh : HeapFrom rs 0 rs.length) :
    (downL n (swp rs 0 n) 0 n).length = n + 1 ∧ (downL n (swp rs 0 n) 0 n)[n]? = rs[0]? ∧ (∀ l, rs[0]? = some l → (l :: (downL n (swp rs 0 n) 0 n).take n).Perm rs) ∧ HeapFrom ((downL n (swp rs 0 n) 0 n).take n) 0 n := by
  have hsl := swp_length rs 0 n
  obtain ⟨d1, d2, d3⟩ := downL_facts n (swp rs 0 n) 0 n (by omega)
  have hat : (downL n (swp rs 0 n) 0 n)[n]? = rs[0]? := by
    rw [d3 n (Nat.le_refl _), swp_get (by omega) (by omega), if_pos rfl]
  refine ⟨by omega, hat, fun l hl => ?_, fun c c0 hc _ => ?_⟩
  · rw [hl] at hat
    have e : downL n (swp rs 0 n) 0 n = (downL n (swp rs 0 n) 0 n).take n ++ [l] := by
      conv => lhs; rw [← List.take_append_drop n (downL n (swp rs 0 n) 0 n)]
      congr 1
      obtain ⟨h1, h2⟩ := List.getElem?_eq_some_iff.1 hat
      rw [List.drop_eq_getElem_cons h1, h2, List.drop_of_length_le (by omega)]
    have h1 := d2.trans (swp_perm (rs := rs) (i := 0) (j := n) (by omega) (by omega))
    rw [e] at h1
    exact (List.perm_append_singleton l _).symm.trans h1
  · have hb : HeapBut (swp rs 0 n) 0 n 0 := by
      refine ⟨fun c c0 hc _ hne => ?_, fun c c0 hc hp h0 => by omega⟩
      unfold lessR
      rw [swp_hd (by omega) (by omega), swp_hd (by omega) (by omega), if_neg (by omega), if_neg (by omega), if_neg (by omega), if_neg hne]
      exact hh c c0 (by omega) (Nat.zero_le _)
    have := down_heap n (swp rs 0 n) 0 0 n (by omega) (by omega) (Nat.le_refl _) hb c c0 hc (Nat.zero_le _)
    unfold lessR at this ⊢
    rw [hd_take hc, hd_take (by omega)]
    exact this

set_option maxRecDepth 100000 in
set_option maxHeartbeats 2000000 in
theorem hpop_any (w : World) (B m : Nat) (hv : Value) (svs : List Value) (rs : List Row) (h : MS G w B m hv svs rs) (hn : 0 < rs.length) (hh : HeapFrom rs 0 rs.length) :
    Calls Try.prog 19 #[.iface 49 (.pointer (some ⟨m, 0, none⟩))] w (HPopPost G w B m rs) := by
  obtain ⟨n, hnn⟩ : ∃ n, rs.length = n + 1 := ⟨rs.length - 1, by omega⟩
  obtain ⟨p1, p2, p3, p4⟩ := pop_facts hnn hh
  have hfew := h.few
  have hml := m_len h.mcell
  have hms := m_swap h.mcell
  obtain ⟨na, ncap, rfl, _, _⟩ := (ownsRow.reads h.own).le
  have HL := Lib.hid (rlen_any w na rs.length ncap)
  have hsw := rswap_any w B m _ svs rs 0 n h (by omega) (by omega)
  have hsub : (rs.length : Int) - 1 = (n : Int) := by omega
  have HSw := Lib.hid (show Calls Try.prog 41 #[.slice na rs.length ncap, .int .i64 0, .int .i64 (n : Int)] w (SwapPost G w B m (swp rs 0 n)) from hsw)
  have P1 := Lib.hid p1
  have P2 := Lib.hid p2
  have P3 := Lib.hid p3
  have P4 := Lib.hid p4
  have HNN := Lib.hid hnn
  have hsl : (swp rs 0 n).length = n + 1 := by rw [swp_length]; exact hnn
  have HSl := Lib.hid hsl
  clear h hh hsw p1 p2 p3 p4 hnn hsl hn
  go_enter Try.func19, Try.ntmps19
  go_wp2_with (go_at_call 39; go_must (refine HL.out.mono ?_))
  rintro e w1' ⟨rfl, rfl⟩
  clear hml
  go_wp2_with (go_at_call 41; go_must (refine HSw.out.mono ?_))
  rintro e w2 ⟨rfl, ⟨hv2, svs2, h2⟩, f2⟩
  have HDn := Lib.hid (show Calls Try.prog 21 #[.iface 49 (.pointer (some ⟨m, 0, none⟩)), .int .i64 0, .int .i64 (n : Int)] w2 _ from down_any w2 B m hv2 svs2 (swp rs 0 n) 0 n h2 (by rw [HSl.out]; omega) (by omega))
  have HF2 := Lib.hid f2
  clear hms h2 f2 HSw hsub
  go_wp2_with (go_at_call 21; go_must (refine HDn.out.mono ?_))
  rintro e w3 ⟨⟨b, rfl⟩, ⟨hv3, svs3, h3⟩, f3⟩
  have hmp := m_pop w3 m
  have hp := rpop_any w3 B m hv3 svs3 _ h3 (by rw [P1.out]; omega)
  have HP := Lib.hid hp
  have HF3 := Lib.hid (HF2.out.trans f3)
  clear h3 f3 hp HDn
  go_wp2_with (go_at_call 42; go_must (refine HP.out.mono ?_))
  rintro e w4 ⟨v, l, rfl, hl, hst, ⟨hv4, svs4, h4⟩, f4⟩
  rw [P1.out, Nat.add_sub_cancel] at hl h4
  rw [P2.out] at hl
  have hp3 := P3.out l hl
  have hlen : ((downL n (swp rs 0 n) 0 n).take n).length = n := by rw [List.length_take, P1.out]; omega
  have HL4 := Lib.hid hl
  have HSt := Lib.hid hst
  have HP3 := Lib.hid hp3
  have HM4 := Lib.hid h4
  have HF4 := Lib.hid (HF3.out.trans f4)
  have HLe := Lib.hid hlen
  clear hl hst hp3 h4 f4 hlen hmp HP
  go_wp2
  go_ret
  exact ⟨_, l, _, rfl, HL4.out, HSt.out, HP3.out, by rw [HLe.out]; exact P4.out, ⟨_, _, HM4.out⟩, HF4.out⟩
end Go.Proofs.Ytieaiofdbliblaa
