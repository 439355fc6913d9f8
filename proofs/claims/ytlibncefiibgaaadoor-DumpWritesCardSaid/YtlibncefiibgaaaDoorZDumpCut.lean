/- strings.Cut at one byte: whether it stands there, too. -/
import Derived.Test.YtlibncefiibgaaaDoorZTupleCut
namespace Go.Proofs.YtlibncefiibgaaaDoor
open Go Go.RowKit

def CutPostB (w : World) (s : ByteArray) (c : UInt8) (b : Bool) (e : Ending) (w' : World) : Prop :=
  e = .returned (.tuple #[.string (cutA s c), .string (cutR s c), .bool b]) ∧ Below w.heap.size w w'

set_option maxRecDepth 100000 in
set_option maxHeartbeats 1000000 in
theorem litecutb_any (w : World) (s : ByteArray) (c : UInt8) (hs : s.size ≤ 1000000000) :
    Calls Tryd.prog 40 #[.string s, .string ⟨#[c]⟩] w (CutPostB w s c (decide (c ∈ s.data.toList))) := by
  have hindex := fun w => Tryd.stringslite_Index_one s c w
  have hge := Lib.indexByte_ge s.data.toList c
  have hn := fun h => Lib.indexByte_none (l := s.data.toList) (c := c) h
  have hsm := fun (o : Nat) (h : Lib.indexByte s.data.toList c = o) => Lib.indexByte_some (l := s.data.toList) (c := c) (o := o) h
  generalize Lib.indexByte s.data.toList c = i at *
  have HI := Lib.hid hindex
  clear hindex
  by_cases h0 : i = -1
  · subst h0
    have hm := cut_miss (hn rfl)
    have ha : cutA s c = s := by unfold cutA cutAL; rw [hm.1]
    have hr : cutR s c = ⟨#[]⟩ := by unfold cutR cutRL; rw [hm.2]; rfl
    have hmem : decide (c ∈ s.data.toList) = false := by
      have h := hn rfl
      rw [decide_eq_false_iff_not]
      intro hc
      obtain ⟨k, hk, e⟩ := List.mem_iff_getElem.1 hc
      exact h k (by rw [List.getElem?_eq_getElem hk, e])
    have HMm := Lib.hid hmem
    have HA := Lib.hid ha
    have HR := Lib.hid hr
    clear hn hsm hm ha hr hge hmem
    go_enter Tryd.func40, Tryd.ntmps40
    go_wp2_with (go_at_call 50; go_must (refine (HI.out _).mono ?_))
    rintro e w1 ⟨rfl, rfl⟩
    go_wp2
    refine bodyPost_ret (v := .tuple #[.string s, .string ⟨#[]⟩, .bool false]) ?_ rfl ⟨by rw [HA.out, HR.out, HMm.out], Below.refl _ _⟩
    simp [results, Tryd.results40, go_sem]
  · obtain ⟨k, rfl⟩ : ∃ k : Nat, i = k := ⟨i.toNat, by omega⟩
    have hh := hsm k rfl
    have hk : k < s.data.toList.length := (List.getElem?_eq_some_iff.1 hh.1).1
    have hsl : s.data.toList.length = s.size := Array.length_toList
    rw [hsl] at hk
    have hm := cut_hit hh.1 hh.2
    have ha : s.extract 0 k = cutA s c := by
      unfold cutA cutAL
      rw [hm.1, ← Lib.extract_from_zero]
    have hr : s.extract (k + 1) s.size = cutR s c := by
      unfold cutR cutRL
      rw [hm.2, List.drop_drop, ← Lib.extract_to_end]
    have hmem : decide (c ∈ s.data.toList) = true := by
      rw [decide_eq_true_eq]
      exact List.mem_of_getElem? hh.1
    have HMm := Lib.hid hmem
    have HA := Lib.hid ha
    have HR := Lib.hid hr
    clear hn hsm hm ha hr hge hh hsl hmem
    go_enter Tryd.func40, Tryd.ntmps40
    go_wp2_with (go_at_call 50; go_must (refine (HI.out _).mono ?_))
    rintro e w1 ⟨rfl, rfl⟩
    go_wp2_with fail
    go_quiet (fail)
    go_wp2
    refine bodyPost_ret (v := .tuple #[.string (s.extract 0 k), .string (s.extract (k + 1) s.size), .bool true]) ?_ rfl ⟨by rw [HA.out, HR.out, HMm.out], below_drewN _ _⟩
    simp [results, Tryd.results40, go_sem]

set_option maxRecDepth 100000 in
set_option maxHeartbeats 1000000 in
theorem cutb_any (w : World) (s : ByteArray) (c : UInt8) (hs : s.size ≤ 1000000000) :
    Calls Tryd.prog 25 #[.string s, .string ⟨#[c]⟩] w (CutPostB w s c (decide (c ∈ s.data.toList))) := by
  have hcut := fun w => litecutb_any w s c hs
  have HC := Lib.hid hcut
  clear hcut
  go_enter Tryd.func25, Tryd.ntmps25
  go_wp2_with (go_at_call 40; go_must (refine (HC.out _).mono ?_))
  rintro e w1 ⟨rfl, b1⟩
  go_wp2
  refine bodyPost_ret (v := .tuple #[.string (cutA s c), .string (cutR s c), .bool (decide (c ∈ s.data.toList))]) ?_ rfl ⟨rfl, b1⟩
  simp [results, Tryd.results25, go_sem]
end Go.Proofs.YtlibncefiibgaaaDoor
