/- parts; sort.Search. -/
import Derived.Test.YtcglkdmfbnpniaaBlockFrom
namespace Go.Proofs.Ytcglkdmfbnpniaa
open Go Go.RowKit

def partsL (b : List UInt8) : Option (List UInt8 × List UInt8) :=
  if b.length < 4 then none
  else if (b.length - 4) / 4 < num4 (b.drop (b.length - 4)) then none
  else some (b.take (b.length - 4 - 4 * num4 (b.drop (b.length - 4))), (b.drop (b.length - 4 - 4 * num4 (b.drop (b.length - 4)))).take (4 * num4 (b.drop (b.length - 4))))

def PartsPost (B : Nat) (w : World) (r : Option (List UInt8 × List UInt8)) (e : Ending) (w' : World) : Prop :=
  Below w.heap.size w w' ∧ match r with
    | none => e = .returned (.tuple #[.slice none 0 0, .slice none 0 0, .int .i64 9])
    | some (d, p) => ∃ da dcap pa pcap, e = .returned (.tuple #[.slice da d.length dcap, .slice pa p.length pcap, .int .i64 0]) ∧ Sl B w' (.slice da d.length dcap) d ∧ Sl B w' (.slice pa p.length pcap) p

theorem Sl.front {B : Nat} {w : World} {b off cap : Nat} {l : List UInt8} (h : Sl B w (.slice (some ⟨b, off, none⟩) l.length cap) l) {k : Nat} (hk : k ≤ l.length) : Sl B w (.slice (some ⟨b, off, none⟩) k cap) (l.take k) := by
  have hr := h.reads
  obtain ⟨a2, cap2, hv, _, _, ht⟩ := hr.take k hk
  cases hv
  have hkl : (l.take k).length = k := by rw [List.length_take]; omega
  right
  by_cases hl : l = []
  · subst hl
    obtain rfl : k = 0 := by simpa using hk
    exact ⟨b, off, cap, rfl, fun h => absurd rfl h, fun h => absurd rfl h, ht⟩
  · rcases h with ⟨_, h0⟩ | ⟨b', off', cap', hv, h1, h2, _⟩
    · exact absurd h0 hl
    · cases hv
      exact ⟨b, off, cap, by rw [hkl], fun _ => h1 hl, fun _ => h2 hl, by rw [hkl]; exact ht⟩

set_option maxRecDepth 100000 in
set_option maxHeartbeats 2000000 in
theorem parts_any (B : Nat) (w : World) (v : Value) (l : List UInt8) (h : Sl B w v l) (hl : l.length ≤ 100000000) :
    Calls Try.prog 27 #[v] w (PartsPost B w (partsL l)) := by
  have hP : partsL l = _ := rfl
  conv at hP => rhs; unfold partsL
  by_cases h4 : l.length < 4
  · rw [if_pos h4] at hP
    rw [hP]
    obtain ⟨a, cap, rfl, _, _⟩ := h.reads.le
    have h4I : (l.length : Int) < 4 := by omega
    clear h hP
    go_enter Try.func27, Try.ntmps27
    go_wp2
    refine bodyPost_ret (v := .tuple #[.slice none 0 0, .slice none 0 0, .int .i64 9]) (by simp [results, Try.results27, go_sem]) rfl ?_
    exact ⟨Below.refl _ _, rfl⟩
  · rw [if_neg h4] at hP
    have h4I : ¬ (l.length : Int) < 4 := by omega
    rcases h with ⟨_, h0⟩ | ⟨b, off, cap, rfl, hb1, hb2, hrd⟩
    · rw [h0] at h4
      simp at h4
    have hS : Sl B w (.slice (some ⟨b, off, none⟩) l.length cap) l := .inr ⟨b, off, cap, rfl, hb1, hb2, hrd⟩
    obtain ⟨_, _, hv, hc1, hc2⟩ := hrd.le
    cases hv
    unfold maxLen at hc2
    obtain ⟨E, hE⟩ : ∃ E, l.length = E + 4 := ⟨l.length - 4, by omega⟩
    have hcut := hS.cut (k := E) (by omega)
    rw [cutV_some, if_neg (by omega)] at hcut
    have hdl : (l.drop E).length = 4 := by rw [List.length_drop]; omega
    have hcr := hcut.reads
    rw [hdl, show l.length - E = 4 by omega] at hcr
    have HG := Lib.hid (get4_any w _ _ _ hcr (by omega))
    have HSl := Lib.hid hS
    rw [show l.length - 4 = E by omega] at hP
    generalize num4 (l.drop E) = n at *
    have HP := Lib.hid hP
    have hw0 : IntKind.i64.wrap ((l.length : Int) - 4) = (E : Int) := by rw [IntWalk.i64_in _ (by omega)]; omega
    have hw0' : (l.length : Int) - 4 = (E : Int) := by omega
    have hEl : (E : Int) ≤ (l.length : Int) := by omega
    have hcE : ¬ (cap = E) := by omega
    have hlE : l.length - E = 4 := by omega
    clear hcut hcr hP hS hrd
    by_cases hn : E / 4 < n
    · have hnI : (E : Int) / 4 < (n : Int) := by omega
      have hP := HP.out
      rw [if_pos hn] at hP
      rw [hP]
      clear hP HP
      go_enter Try.func27, Try.ntmps27
      go_wp2_with (go_at_call 38; go_must (refine HG.out.mono ?_))
      rintro e w1 ⟨rfl, q, rfl⟩
      go_wp2
      refine bodyPost_ret (v := .tuple #[.slice none 0 0, .slice none 0 0, .int .i64 9]) (by simp [results, Try.results27, go_sem]) rfl ?_
      exact ⟨below_quiet (Below.refl _ _) q, rfl⟩
    · have hnI : ¬ (E : Int) / 4 < (n : Int) := by omega
      have hP := HP.out
      rw [if_neg hn] at hP
      obtain ⟨M, hM⟩ : ∃ M, E = M + 4 * n := ⟨E - 4 * n, by omega⟩
      have hMe : E - 4 * n = M := by omega
      rw [hMe] at hP
      have h1 := HSl.out.front (k := M) (by omega)
      have h2 := (HSl.out.cut (k := M) (by omega))
      rw [cutV_some, if_neg (by omega), show l.length - M = (l.drop M).length by rw [List.length_drop]] at h2
      have h3 := h2.front (k := 4 * n) (by rw [List.length_drop]; omega)
      have hl1 : (l.take M).length = M := by rw [List.length_take]; omega
      have hl2 : ((l.drop M).take (4 * n)).length = 4 * n := by rw [List.length_take, List.length_drop]; omega
      have H1 := Lib.hid h1
      have H3 := Lib.hid h3
      have hw1 : IntKind.i64.wrap (4 * (n : Int)) = 4 * (n : Int) := by rw [IntWalk.i64_in _ (by omega)]
      have hw2 : IntKind.i64.wrap ((E : Int) - 4 * (n : Int)) = (M : Int) := by rw [IntWalk.i64_in _ (by omega)]; omega
      have hw3 : (E : Int) - 4 * (n : Int) = (M : Int) := by omega
      have hMc : (M : Int) ≤ (cap : Int) := by omega
      have hME : (M : Int) ≤ (E : Int) := by omega
      have hEc : (E : Int) ≤ (cap : Int) := by omega
      have hcM : ¬ (cap = M) := by omega
      have hEM : E - M = 4 * n := by omega
      have HL1 := Lib.hid hl1
      have HL2 := Lib.hid hl2
      rw [hP]
      clear hP HP h1 h2 h3 hl1 hl2 hM hMe HSl
      go_enter Try.func27, Try.ntmps27
      go_wp2_with (go_at_call 38; go_must (refine HG.out.mono ?_))
      rintro e w1 ⟨rfl, q, rfl⟩
      go_wp2
      go_quiet (fail)
      go_wp2
      refine bodyPost_ret (v := .tuple #[.slice (some ⟨b, off, none⟩) M cap, .slice (some ⟨b, off + M, none⟩) (4 * n) (cap - M), .int .i64 0]) (by simp [results, Try.results27, go_sem]) rfl ?_
      have hbq : Below w.heap.size w ((w.drewN q).drewN nq) := below_quiet (below_quiet (Below.refl _ _) q) nq
      have hbB : Below B w ((w.drewN q).drewN nq) := below_quiet (below_quiet (Below.refl _ _) q) nq
      refine ⟨hbq, some ⟨b, off, none⟩, cap, some ⟨b, off + M, none⟩, cap - M, by rw [HL1.out, HL2.out], ?_, ?_⟩
      · rw [HL1.out]
        exact H1.out.below hbB
      · rw [HL2.out]
        exact H3.out.below hbB
end Go.Proofs.Ytcglkdmfbnpniaa
