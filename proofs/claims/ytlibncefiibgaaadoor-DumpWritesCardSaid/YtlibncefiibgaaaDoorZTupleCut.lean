import Derived.Test.YtlibncefiibgaaaDoorMga
import Derived.Test.YtlibncefiibgaaaDoorZShelf
import Derived.BigQuiet
import Derived.Deep.QuietTactic
import Derived.Laws.DeepStrings4
import Derived.Lib.IndexLaws
import Derived.Lib.IndexBytes
import Derived.Lib.Split
namespace Go.Proofs.YtlibncefiibgaaaDoor
open Go Go.RowKit

set_option maxRecDepth 100000 in
set_option maxHeartbeats 1000000 in
theorem litecut_any (w : World) (s : ByteArray) (c : UInt8) (hs : s.size ≤ 1000000000) :
    Calls Tryd.prog 40 #[.string s, .string ⟨#[c]⟩] w (CutPost w s c) := by
  have hindex := fun w => Tryd.stringslite_Index_one s c w
  have hge := Lib.indexByte_ge s.data.toList c
  have hn := fun h => Lib.indexByte_none (l := s.data.toList) (c := c) h
  have hsm := fun (o : Nat) (h : Lib.indexByte s.data.toList c = o) => Lib.indexByte_some (l := s.data.toList) (c := c) (o := o) h
  generalize Lib.indexByte s.data.toList c = i at *
  have HI := Lib.hid hindex
  clear hindex
  by_cases h0 : i = -1
  · subst h0
    have hm := cut_miss (hn rfl)
    have ha : cutA s c = s := by unfold cutA cutAL; rw [hm.1]
    have hr : cutR s c = ⟨#[]⟩ := by unfold cutR cutRL; rw [hm.2]; rfl
    have HA := Lib.hid ha
    have HR := Lib.hid hr
    clear hn hsm hm ha hr hge
    go_enter Tryd.func40, Tryd.ntmps40
    go_wp2_with (go_at_call 50; go_must (refine (HI.out _).mono ?_))
    rintro e w1 ⟨rfl, rfl⟩
    go_wp2
    refine bodyPost_ret (v := .tuple #[.string s, .string ⟨#[]⟩, .bool false]) ?_ rfl ⟨false, by rw [HA.out, HR.out], Below.refl _ _⟩
    simp [results, Tryd.results40, go_sem]
  · obtain ⟨k, rfl⟩ : ∃ k : Nat, i = k := ⟨i.toNat, by omega⟩
    have hh := hsm k rfl
    have hk : k < s.data.toList.length := (List.getElem?_eq_some_iff.1 hh.1).1
    have hsl : s.data.toList.length = s.size := Array.length_toList
    rw [hsl] at hk
    have hm := cut_hit hh.1 hh.2
    have ha : s.extract 0 k = cutA s c := by
      unfold cutA cutAL
      rw [hm.1, ← Lib.extract_from_zero]
    have hr : s.extract (k + 1) s.size = cutR s c := by
      unfold cutR cutRL
      rw [hm.2, List.drop_drop, ← Lib.extract_to_end]
    have HA := Lib.hid ha
    have HR := Lib.hid hr
    clear hn hsm hm ha hr hge hh hsl
    go_enter Tryd.func40, Tryd.ntmps40
    go_wp2_with (go_at_call 50; go_must (refine (HI.out _).mono ?_))
    rintro e w1 ⟨rfl, rfl⟩
    go_wp2_with fail
    go_quiet (fail)
    go_wp2
    refine bodyPost_ret (v := .tuple #[.string (s.extract 0 k), .string (s.extract (k + 1) s.size), .bool true]) ?_ rfl ⟨true, by rw [HA.out, HR.out], below_drewN _ _⟩
    simp [results, Tryd.results40, go_sem]

set_option maxRecDepth 100000 in
set_option maxHeartbeats 1000000 in
theorem cut_any (w : World) (s : ByteArray) (c : UInt8) (hs : s.size ≤ 1000000000) :
    Calls Tryd.prog 25 #[.string s, .string ⟨#[c]⟩] w (CutPost w s c) := by
  have hcut := fun w => litecut_any w s c hs
  have HC := Lib.hid hcut
  clear hcut
  go_enter Tryd.func25, Tryd.ntmps25
  go_wp2_with (go_at_call 40; go_must (refine (HC.out _).mono ?_))
  rintro e w1 ⟨b, rfl, b1⟩
  go_wp2
  refine bodyPost_ret (v := .tuple #[.string (cutA s c), .string (cutR s c), .bool b]) ?_ rfl ⟨b, rfl, b1⟩
  simp [results, Tryd.results25, go_sem]
end Go.Proofs.YtlibncefiibgaaaDoor
