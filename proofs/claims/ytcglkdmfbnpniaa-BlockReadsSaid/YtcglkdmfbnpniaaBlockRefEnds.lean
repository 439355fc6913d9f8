/- The reference's number and Ends. -/
import Derived.Test.YtcglkdmfbnpniaaBlockParts
namespace Go.Proofs.Ytcglkdmfbnpniaa
open Go Go.RowKit

set_option maxRecDepth 100000 in
set_option maxHeartbeats 1000000 in
theorem number_any (w : World) (v : Value) (n : Nat) (l : List UInt8) (h : Reads w 1 v n (bcells l)) (hn : 4 ≤ n) :
    Calls Try.prog 36 #[v] w (TellsQ w (num4 l)) := by
  obtain ⟨b, off, cap, rfl, h1, h2, hl, hc⟩ := h.head (by omega)
  unfold maxLen at h2
  have c0 := hc 0 (by omega)
  have c1 := hc 1 (by omega)
  have c2 := hc 2 (by omega)
  have c3 := hc 3 (by omega)
  have hm : num4 l = ((((l.getD 0 0).toNat * 256 + (l.getD 1 0).toNat) * 256 + (l.getD 2 0).toNat) * 256 + (l.getD 3 0).toNat) := rfl
  rw [hm]
  clear hm h hc
  generalize l.getD 0 0 = d0 at *
  generalize l.getD 1 0 = d1 at *
  generalize l.getD 2 0 = d2 at *
  generalize l.getD 3 0 = d3 at *
  clear hl
  simp only [Nat.add_zero] at c0
  have i0 : (0 : Int) < n := by omega
  have i1 : (1 : Int) < n := by omega
  have i2 : (2 : Int) < n := by omega
  have i3 : (3 : Int) < n := by omega
  go_enter Try.func36, Try.ntmps36
  go_wp2_with fail
  go_quiet (fail)
  go_wp2
  go_ret
  refine ⟨?_, _, rfl⟩
  have h0 := d0.toNat_lt
  have h1 := d1.toNat_lt
  have h2 := d2.toNat_lt
  have h3 := d3.toNat_lt
  refine congrArg (fun z => Ending.returned (.int .i64 z)) ?_
  have hfin : ((((d0.toNat : Int) * 256 + d1.toNat) * 256 + d2.toNat) * 256 + d3.toNat) = ((((d0.toNat * 256 + d1.toNat) * 256 + d2.toNat) * 256 + d3.toNat : Nat) : Int) := by omega
  rw [← hfin, w64_small (d0.toNat : Int) (by omega) (by omega), w64_small (d1.toNat : Int) (by omega) (by omega), w64_small (d2.toNat : Int) (by omega) (by omega), w64_small (d3.toNat : Int) (by omega) (by omega),
    w64_small ((d0.toNat : Int) * 256) (by omega) (by omega), w64_small ((d0.toNat : Int) * 256 + d1.toNat) (by omega) (by omega), w64_small (((d0.toNat : Int) * 256 + d1.toNat) * 256) (by omega) (by omega),
    w64_small (((d0.toNat : Int) * 256 + d1.toNat) * 256 + d2.toNat) (by omega) (by omega), w64_small ((((d0.toNat : Int) * 256 + d1.toNat) * 256 + d2.toNat) * 256) (by omega) (by omega), w64_small ((((d0.toNat : Int) * 256 + d1.toNat) * 256 + d2.toNat) * 256 + d3.toNat) (by omega) (by omega)]

/-- Where the keys end. -/
def endsL (l : List UInt8) : Int := if l.length < 4 then -1 else (l.length : Int) - 4 - 4 * (num4 (l.drop (l.length - 4)) : Int)

def EndsPost (w : World) (z : Int) (e : Ending) (w' : World) : Prop := e = .returned (.int .i64 z) ∧ Below w.heap.size w w'

set_option maxRecDepth 100000 in
set_option maxHeartbeats 1000000 in
theorem ends_any (B : Nat) (w : World) (v : Value) (l : List UInt8) (h : Sl B w v l) (hl : l.length ≤ 100000000) :
    Calls Try.prog 16 #[v] w (EndsPost w (endsL l)) := by
  by_cases h4 : l.length < 4
  · have he : endsL l = -1 := by unfold endsL; rw [if_pos h4]
    have HE := Lib.hid he
    obtain ⟨a, cap, rfl, _, _⟩ := h.reads.le
    have h4I : (l.length : Int) < 4 := by omega
    clear h he
    go_enter Try.func16, Try.ntmps16
    go_wp2
    go_ret
    rw [HE.out]
    exact ⟨rfl, Below.refl _ _⟩
  · have h4I : ¬ (l.length : Int) < 4 := by omega
    rcases h with ⟨_, h0⟩ | ⟨b, off, cap, rfl, hb1, hb2, hrd⟩
    · rw [h0] at h4
      simp at h4
    have hS : Sl B w (.slice (some ⟨b, off, none⟩) l.length cap) l := .inr ⟨b, off, cap, rfl, hb1, hb2, hrd⟩
    obtain ⟨_, _, hv, hc1, hc2⟩ := hrd.le
    cases hv
    unfold maxLen at hc2
    obtain ⟨E, hE⟩ : ∃ E, l.length = E + 4 := ⟨l.length - 4, by omega⟩
    have hcut := hS.cut (k := E) (by omega)
    rw [cutV_some, if_neg (by omega)] at hcut
    have hdl : (l.drop E).length = 4 := by rw [List.length_drop]; omega
    have hcr := hcut.reads
    rw [hdl, show l.length - E = 4 by omega] at hcr
    have HG := Lib.hid (number_any w _ _ _ hcr (by omega))
    have he : endsL l = (E : Int) - 4 * (num4 (l.drop E) : Int) := by
      unfold endsL
      rw [if_neg h4, show l.length - 4 = E by omega]
      omega
    have hnb : num4 (l.drop E) < 4294967296 := num4_lt _
    generalize num4 (l.drop E) = n at *
    have HE := Lib.hid he
    have hw0 : IntKind.i64.wrap ((l.length : Int) - 4) = (E : Int) := by rw [IntWalk.i64_in _ (by omega)]; omega
    have hw0' : (l.length : Int) - 4 = (E : Int) := by omega
    have hEl : (E : Int) ≤ (l.length : Int) := by omega
    have hcE : ¬ (cap = E) := by omega
    have hlE : l.length - E = 4 := by omega
    have hw1 : IntKind.i64.wrap (4 * (n : Int)) = 4 * (n : Int) := by rw [IntWalk.i64_in _ (by omega)]
    have hw2 : IntKind.i64.wrap ((E : Int) - 4 * (n : Int)) = (E : Int) - 4 * (n : Int) := by rw [IntWalk.i64_in _ (by omega)]
    clear hcut hcr hS hrd he
    go_enter Try.func16, Try.ntmps16
    go_wp2_with (go_at_call 36; go_must (refine HG.out.mono ?_))
    rintro e w1 ⟨rfl, q, rfl⟩
    go_wp2
    go_ret
    rw [HE.out]
    exact ⟨rfl, below_quiet (Below.refl _ _) q⟩
end Go.Proofs.Ytcglkdmfbnpniaa
