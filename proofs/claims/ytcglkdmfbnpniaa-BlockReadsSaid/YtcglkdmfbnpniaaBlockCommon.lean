/- Common. -/
import Derived.Test.YtcglkdmfbnpniaaBlockM
import Derived.BigQuiet
import Derived.Deep.QuietTactic
namespace Go.Proofs.Ytcglkdmfbnpniaa
open Go Go.RowKit

def ComRel (w : World) (a b : List UInt8) (i : Value) (wr : World) : Prop := ∃ n : Nat, i = .int .i64 (n : Int) ∧ upTo a b n ∧ Below w.heap.size w wr

set_option maxRecDepth 100000 in
set_option maxHeartbeats 2000000 in
theorem common_any (w : World) (a b : ByteArray) (hmax : a.size ≤ 1000000000) : Calls Try.prog 18 #[.string a, .string b] w (GivesVal w (.int .i64 (comL a.data.toList b.data.toList : Int))) := by
  have hla : a.data.toList.length = a.size := Array.length_toList
  have hlb : b.data.toList.length = b.size := Array.length_toList
  have HA := Lib.hid hla
  have HB := Lib.hid hlb
  clear hla hlb
  go_enter Try.func18, Try.ntmps18
  go_wp2
  go_loopw [5] (fun i wr => ComRel w a.data.toList b.data.toList i wr) (fun i _ => a.size - (intOf i).toNat)
  case atStart => exact ⟨0, rfl, ⟨Nat.zero_le _, Nat.zero_le _, by simp⟩, Below.refl _ _⟩
  case round =>
    obtain ⟨n, rfl, hu, hb⟩ := hrel
    have hn1 := hu.1
    have hn2 := hu.2.1
    rw [HA.out] at hn1
    rw [HB.out] at hn2
    have HBl := Lib.hid hb
    have HU := Lib.hid hu
    clear hb hu
    by_cases h1 : n < a.size
    · have h1I : (n : Int) < a.size := by omega
      by_cases h2 : n < b.size
      · have h2I : (n : Int) < b.size := by omega
        have hga : a.data.toList[n]? = some (a[n]'h1) := by rw [Array.getElem?_toList, Array.getElem?_eq_getElem h1]; rfl
        have hgb : b.data.toList[n]? = some (b[n]'h2) := by rw [Array.getElem?_toList, Array.getElem?_eq_getElem h2]; rfl
        by_cases hxy : a[n]'h1 = b[n]'h2
        · have heq : (((a[n]'h1).toNat : Int) == ((b[n]'h2).toNat : Int)) = true := by rw [hxy]; simp
          have HStep := Lib.hid (upTo_step HU.out hga (by rw [hxy]; exact hgb))
          clear hxy hga hgb
          go_wp2
          go_quiet (fail)
          go_wp2
          exact ⟨⟨n + 1, by go_num, HStep.out, below_quiet HBl.out nq⟩, by simp [intOf]; omega⟩
        · have heq : (((a[n]'h1).toNat : Int) == ((b[n]'h2).toNat : Int)) = false := by
            rw [beq_eq_false_iff_ne]
            intro e
            exact hxy (UInt8.toNat_inj.1 (by omega))
          have hst : comL a.data.toList b.data.toList = n := comL_stop _ _ _ HU.out (.inr (.inr (by rw [hga, hgb]; simpa using hxy)))
          have HSt := Lib.hid hst
          clear hxy hga hgb hst
          go_wp2
          go_quiet (fail)
          go_wp2
          go_ret
          exact ⟨by rw [HSt.out]; rfl, below_quiet HBl.out nq⟩
      · have h2I : ¬ (n : Int) < b.size := by omega
        have hst : comL a.data.toList b.data.toList = n := comL_stop _ _ _ HU.out (.inr (.inl (by rw [HB.out]; omega)))
        have HSt := Lib.hid hst
        clear hst
        go_wp2
        go_quiet (fail)
        go_wp2
        go_ret
        exact ⟨by rw [HSt.out]; rfl, below_quiet HBl.out nq⟩
    · have h1I : ¬ (n : Int) < a.size := by omega
      have hst : comL a.data.toList b.data.toList = n := comL_stop _ _ _ HU.out (.inl (by rw [HA.out]; omega))
      have HSt := Lib.hid hst
      clear hst
      go_wp2
      go_quiet (fail)
      go_wp2
      go_ret
      exact ⟨by rw [HSt.out]; rfl, below_quiet HBl.out nq⟩

set_option maxRecDepth 100000 in
set_option maxHeartbeats 2000000 in
theorem rcommon_any (w : World) (a b : ByteArray) (hmax : a.size ≤ 1000000000) : Calls Try.prog 19 #[.string a, .string b] w (GivesVal w (.int .i64 (comL a.data.toList b.data.toList : Int))) := by
  have hla : a.data.toList.length = a.size := Array.length_toList
  have hlb : b.data.toList.length = b.size := Array.length_toList
  have HA := Lib.hid hla
  have HB := Lib.hid hlb
  clear hla hlb
  go_enter Try.func19, Try.ntmps19
  go_wp2
  go_loopw [5] (fun i wr => ComRel w a.data.toList b.data.toList i wr) (fun i _ => a.size - (intOf i).toNat)
  case atStart => exact ⟨0, rfl, ⟨Nat.zero_le _, Nat.zero_le _, by simp⟩, Below.refl _ _⟩
  case round =>
    obtain ⟨n, rfl, hu, hb⟩ := hrel
    have hn1 := hu.1
    have hn2 := hu.2.1
    rw [HA.out] at hn1
    rw [HB.out] at hn2
    have HBl := Lib.hid hb
    have HU := Lib.hid hu
    clear hb hu
    by_cases h1 : n < a.size
    · have h1I : (n : Int) < a.size := by omega
      by_cases h2 : n < b.size
      · have h2I : (n : Int) < b.size := by omega
        have hga : a.data.toList[n]? = some (a[n]'h1) := by rw [Array.getElem?_toList, Array.getElem?_eq_getElem h1]; rfl
        have hgb : b.data.toList[n]? = some (b[n]'h2) := by rw [Array.getElem?_toList, Array.getElem?_eq_getElem h2]; rfl
        by_cases hxy : a[n]'h1 = b[n]'h2
        · have heq : (((a[n]'h1).toNat : Int) == ((b[n]'h2).toNat : Int)) = true := by rw [hxy]; simp
          have HStep := Lib.hid (upTo_step HU.out hga (by rw [hxy]; exact hgb))
          clear hxy hga hgb
          go_wp2
          go_quiet (fail)
          go_wp2
          exact ⟨⟨n + 1, by go_num, HStep.out, below_quiet HBl.out nq⟩, by simp [intOf]; omega⟩
        · have heq : (((a[n]'h1).toNat : Int) == ((b[n]'h2).toNat : Int)) = false := by
            rw [beq_eq_false_iff_ne]
            intro e
            exact hxy (UInt8.toNat_inj.1 (by omega))
          have hst : comL a.data.toList b.data.toList = n := comL_stop _ _ _ HU.out (.inr (.inr (by rw [hga, hgb]; simpa using hxy)))
          have HSt := Lib.hid hst
          clear hxy hga hgb hst
          go_wp2
          go_quiet (fail)
          go_wp2
          go_ret
          exact ⟨by rw [HSt.out]; rfl, below_quiet HBl.out nq⟩
      · have h2I : ¬ (n : Int) < b.size := by omega
        have hst : comL a.data.toList b.data.toList = n := comL_stop _ _ _ HU.out (.inr (.inl (by rw [HB.out]; omega)))
        have HSt := Lib.hid hst
        clear hst
        go_wp2
        go_quiet (fail)
        go_wp2
        go_ret
        exact ⟨by rw [HSt.out]; rfl, below_quiet HBl.out nq⟩
    · have h1I : ¬ (n : Int) < a.size := by omega
      have hst : comL a.data.toList b.data.toList = n := comL_stop _ _ _ HU.out (.inl (by rw [HA.out]; omega))
      have HSt := Lib.hid hst
      clear hst
      go_wp2
      go_quiet (fail)
      go_wp2
      go_ret
      exact ⟨by rw [HSt.out]; rfl, below_quiet HBl.out nq⟩
end Go.Proofs.Ytcglkdmfbnpniaa
