/- sentryref07.SameTuples of rows that read alike. -/
import Derived.Test.YtlibncefiibgaaaDoorZDumpRead
namespace Go.Proofs.YtlibncefiibgaaaDoor
open Go Go.RowKit

def STRel (w : World) (n : Nat) (v : Value) (wr : World) : Prop := ∃ k : Nat, v = .int .i64 (k : Int) ∧ k ≤ n ∧ Below w.heap.size w wr

set_option maxRecDepth 100000 in
set_option maxHeartbeats 1000000 in
theorem sametup_any (w : World) (a a2 : Option Addr) (n cap cap2 : Nat) (l : List Six) (hl : l.length = n) (h : Reads w 6 (.slice a n cap) n (tcells l)) (k : Reads w 6 (.slice a2 n cap2) n (tcells l)) :
    Calls Tryd.prog 10 #[.slice a n cap, .slice a2 n cap2] w (GivesVal w (.bool true)) := by
  obtain ⟨_, _, hv, hc1, hc2⟩ := h.le
  cases hv
  obtain ⟨_, _, hv, hd1, hd2⟩ := k.le
  cases hv
  unfold maxLen at hc2
  have HR := Lib.hid h
  have HK := Lib.hid k
  have HL := Lib.hid hl
  clear h k hl hd2
  go_enter Tryd.func10, Tryd.ntmps10
  go_wp2
  go_loopw [13] (fun v wr => STRel w n v wr) (fun v _ => n - (intOf v).toNat)
  case atStart => exact ⟨0, rfl, Nat.zero_le _, Below.refl _ _⟩
  case round =>
    obtain ⟨i, rfl, hin, hb⟩ := hrel
    have HB := Lib.hid hb
    clear hb
    by_cases hlt : i < n
    · have hltI : (i : Int) < n := by omega
      obtain ⟨t, ht⟩ : ∃ t, l[i]? = some t := ⟨l[i]'(by rw [HL.out]; exact hlt), List.getElem?_eq_getElem _⟩
      obtain ⟨b, off, rfl, hb, k0, k1, k2, k3, k4, k5⟩ := (HR.out.below' HB.out).six ht
      obtain ⟨b2, off2, rfl, hb2, q0, q1, q2, q3, q4, q5⟩ := (HK.out.below' HB.out).six ht
      clear ht
      go_wp2_with fail
      go_quiet (fail)
      go_wp2
      exact ⟨⟨i + 1, by go_num, by omega, below_quietD HB.out _⟩, by simp [intOf]; omega⟩
    · obtain rfl : i = n := by omega
      have hltI : ¬ (i : Int) < i := by omega
      go_wp2
      go_ret
      exact ⟨rfl, HB.out⟩
end Go.Proofs.YtlibncefiibgaaaDoor
