import Derived.Test.YtlibncefiibgaaaDoorZTupleRefCheck
import Derived.Test.YtlibncefiibgaaaDoorMga
import Derived.StillTailTactics
import Derived.BigQuiet
import Derived.Deep.QuietTactic
namespace Go.Proofs.YtlibncefiibgaaaDoor
open Go Go.RowKit

def hasB (s : ByteArray) (c : UInt8) : Bool := s.data.toList.contains c

def UpToPost (w : World) (s : ByteArray) (c : UInt8) (e : Ending) (w' : World) : Prop :=
  e = .returned (.tuple #[.string (cutA s c), .string (cutR s c), .bool (hasB s c)]) ∧ Below w.heap.size w w'

def UpRel (s : ByteArray) (c : UInt8) (i : Value) : Prop := ∃ k : Nat, i = .int .i64 (k : Int) ∧ k ≤ s.size ∧ ∀ j, j < k → s.data.toList[j]? ≠ some c

set_option maxRecDepth 100000 in
set_option maxHeartbeats 1000000 in
theorem upto_any (w : World) (s : ByteArray) (c : UInt8) (hs : s.size ≤ 1000000000) :
    Calls Tryd.prog 43 #[.string s, .int .u8 (c.toNat : Int)] w (UpToPost w s c) := by
  have hsl : s.data.toList.length = s.size := Array.length_toList
  have Hsl := Lib.hid hsl
  clear hsl
  go_enter Tryd.func43, Tryd.ntmps43
  go_wp2
  go_loop [7] (fun i => UpRel s c i) (fun i => s.size - (intOf i).toNat)
  case atStart => exact ⟨0, rfl, Nat.zero_le _, fun j hj => by omega⟩
  case round =>
    obtain ⟨k, rfl, hk, hno⟩ := hrel
    by_cases hlt : k < s.size
    · have hgk : s.data.toList[k]? = some s[k] := by
        rw [List.getElem?_eq_getElem (by rw [Hsl.out]; exact hlt)]
        rfl
      by_cases hc : s[k] = c
      · have hm := cut_hit (by rw [hgk, hc]) hno
        have ha : s.extract 0 k = cutA s c := by
          unfold cutA cutAL
          rw [hm.1, ← Lib.extract_from_zero]
        have hr : s.extract (k + 1) s.size = cutR s c := by
          unfold cutR cutRL
          rw [hm.2, List.drop_drop, ← Lib.extract_to_end]
        have hh : hasB s c = true := by
          unfold hasB
          rw [List.contains_iff_mem]
          exact List.mem_of_getElem? (by rw [hgk, hc])
        have he : ((s[k].toNat : Int) == (c.toNat : Int)) = true := by rw [hc]; simp
        have HA := Lib.hid ha
        have HR := Lib.hid hr
        have HH := Lib.hid hh
        clear hm ha hr hh hno hgk hc
        go_wp2_with fail
        go_quiet (fail)
        go_wp2
        refine bodyPost_ret (v := .tuple #[.string (s.extract 0 k), .string (s.extract (k + 1) s.size), .bool true]) ?_ rfl ⟨by rw [HA.out, HR.out, HH.out], below_drewN _ _⟩
        simp [results, Tryd.results43, go_sem]
      · have he : ((s[k].toNat : Int) == (c.toNat : Int)) = false := by
          rw [beq_eq_false_iff_ne]
          intro e
          exact hc (UInt8.toNat_inj.1 (by exact_mod_cast e))
        have hno' : ∀ j, j < k + 1 → s.data.toList[j]? ≠ some c := by
          intro j hj
          by_cases hjk : j < k
          · exact hno j hjk
          · obtain rfl : j = k := by omega
            rw [hgk]
            intro e
            exact hc (Option.some.inj e)
        have HN := Lib.hid hno'
        clear hno hno' hgk hc
        go_wp2
        exact ⟨⟨k + 1, by go_num, by omega, HN.out⟩, by simp [intOf]; omega⟩
    · obtain rfl : k = s.size := by omega
      have hlt' : ¬ ((s.size : Int) < s.size) := by omega
      have hmiss : ∀ k : Nat, s.data.toList[k]? ≠ some c := by
        intro j
        by_cases hj : j < s.size
        · exact hno j hj
        · rw [List.getElem?_eq_none (by rw [Hsl.out]; omega)]
          simp
      have hm := cut_miss hmiss
      have ha : cutA s c = s := by unfold cutA cutAL; rw [hm.1]
      have hr : cutR s c = ⟨#[]⟩ := by unfold cutR cutRL; rw [hm.2]; rfl
      have hh : hasB s c = false := by
        unfold hasB
        cases hb : s.data.toList.contains c with
        | false => rfl
        | true =>
          exfalso
          rw [List.contains_iff_mem] at hb
          obtain ⟨j, hj⟩ := List.mem_iff_getElem?.1 hb
          exact hmiss j hj
      have HA := Lib.hid ha
      have HR := Lib.hid hr
      have HH := Lib.hid hh
      clear hm ha hr hh hno hmiss
      go_wp2
      refine bodyPost_ret (v := .tuple #[.string s, .string ⟨#[]⟩, .bool false]) ?_ rfl ⟨by rw [HA.out, HR.out, HH.out], Below.refl _ _⟩
      simp [results, Tryd.results43, go_sem]

end Go.Proofs.YtlibncefiibgaaaDoor
