/- sentryref01.IsName. -/
import Derived.Test.YtbhapbioibhalaaDiskFixed
namespace Go.Proofs.Ytbhapbioibhalaa
open Go Go.RowKit

/-- A truth is told; the world is as it was. -/
def SameBool (w : World) (b : Bool) (e : Ending) (w' : World) : Prop := e = .returned (.bool b) ∧ w' = w

set_option maxRecDepth 100000 in
set_option maxHeartbeats 2000000 in
theorem refName_any (w : World) (s : ByteArray) (hs : s.size ≤ 1000000000) :
    Calls Try.prog 55 #[.string s] w (SameBool w (nameOk s)) := by
  have hsl : s.data.toList.length = s.size := Array.length_toList
  have Hsl := Lib.hid hsl
  clear hsl
  go_enter Try.func55, Try.ntmps55
  go_wp2
  go_loop [3] (fun i => NameRel s.data.toList i) (fun i => s.size - (intOf i).toNat)
  case atStart => exact ⟨0, rfl, Nat.zero_le _, rfl⟩
  case round =>
    obtain ⟨k, rfl, hk, hall⟩ := hrel
    rw [Hsl.out] at hk
    have Hall := Lib.hid hall
    clear hall
    by_cases hlt : k < s.size
    · have hsucc := take_succ_all s.data.toList k (by rw [Hsl.out]; exact hlt)
      have hfalse := all_false s k (by rw [Hsl.out]; exact hlt)
      have hgk : s.data.toList.getD k 0 = s[k] := by
        rw [List.getD_eq_getElem?_getD, List.getElem?_eq_getElem (by rw [Hsl.out]; exact hlt)]
        rfl
      rw [hgk] at hsucc hfalse
      have hways := nameB_ways s[k]
      have Hsucc := Lib.hid hsucc
      have Hfalse := Lib.hid hfalse
      clear hsucc hfalse hgk
      rcases hways with ⟨hok, hw⟩ | ⟨hok, hw⟩
      · have Hok := Lib.hid hok
        clear hok
        rcases hw with hw | hw | hw | hw
        · have e97 : decide ((97 : Int) ≤ (s[k].toNat : Int)) = true := by simp; omega
          have e122 : decide ((s[k].toNat : Int) ≤ 122) = true := by simp; omega
          have e48 : decide ((48 : Int) ≤ (s[k].toNat : Int)) = true := by simp; omega
          have e57 : decide ((s[k].toNat : Int) ≤ 57) = false := by simp; omega
          have e46 : ((s[k].toNat : Int) == 46) = false := by simp; omega
          have e45 : ((s[k].toNat : Int) == 45) = false := by simp; omega
          clear hw
          go_wp2
          refine ⟨⟨k + 1, by go_num, by rw [Hsl.out]; omega, ?_⟩, by simp [intOf]; omega⟩
          rw [Hsucc.out, Hall.out, Hok.out]; rfl
        · have e97 : decide ((97 : Int) ≤ (s[k].toNat : Int)) = false := by simp; omega
          have e122 : decide ((s[k].toNat : Int) ≤ 122) = true := by simp; omega
          have e48 : decide ((48 : Int) ≤ (s[k].toNat : Int)) = true := by simp; omega
          have e57 : decide ((s[k].toNat : Int) ≤ 57) = true := by simp; omega
          have e46 : ((s[k].toNat : Int) == 46) = false := by simp; omega
          have e45 : ((s[k].toNat : Int) == 45) = false := by simp; omega
          clear hw
          go_wp2
          refine ⟨⟨k + 1, by go_num, by rw [Hsl.out]; omega, ?_⟩, by simp [intOf]; omega⟩
          rw [Hsucc.out, Hall.out, Hok.out]; rfl
        · have e97 : decide ((97 : Int) ≤ (s[k].toNat : Int)) = false := by simp; omega
          have e122 : decide ((s[k].toNat : Int) ≤ 122) = true := by simp; omega
          have e48 : decide ((48 : Int) ≤ (s[k].toNat : Int)) = false := by simp; omega
          have e57 : decide ((s[k].toNat : Int) ≤ 57) = true := by simp; omega
          have e46 : ((s[k].toNat : Int) == 46) = true := by simp; omega
          have e45 : ((s[k].toNat : Int) == 45) = false := by simp; omega
          clear hw
          go_wp2
          refine ⟨⟨k + 1, by go_num, by rw [Hsl.out]; omega, ?_⟩, by simp [intOf]; omega⟩
          rw [Hsucc.out, Hall.out, Hok.out]; rfl
        · have e97 : decide ((97 : Int) ≤ (s[k].toNat : Int)) = false := by simp; omega
          have e122 : decide ((s[k].toNat : Int) ≤ 122) = true := by simp; omega
          have e48 : decide ((48 : Int) ≤ (s[k].toNat : Int)) = false := by simp; omega
          have e57 : decide ((s[k].toNat : Int) ≤ 57) = true := by simp; omega
          have e46 : ((s[k].toNat : Int) == 46) = false := by simp; omega
          have e45 : ((s[k].toNat : Int) == 45) = true := by simp; omega
          clear hw
          go_wp2
          refine ⟨⟨k + 1, by go_num, by rw [Hsl.out]; omega, ?_⟩, by simp [intOf]; omega⟩
          rw [Hsucc.out, Hall.out, Hok.out]; rfl
      · have Hok := Lib.hid hok
        clear hok
        rcases hw with hw | hw | hw | hw
        · have e97 : decide ((97 : Int) ≤ (s[k].toNat : Int)) = false := by simp; omega
          have e122 : decide ((s[k].toNat : Int) ≤ 122) = true := by simp; omega
          have e48 : decide ((48 : Int) ≤ (s[k].toNat : Int)) = false := by simp; omega
          have e57 : decide ((s[k].toNat : Int) ≤ 57) = true := by simp; omega
          have e46 : ((s[k].toNat : Int) == 46) = false := by simp; omega
          have e45 : ((s[k].toNat : Int) == 45) = false := by simp; omega
          clear hw
          go_wp2
          go_ret
          rw [Hfalse.out Hok.out]
          exact ⟨rfl, rfl⟩
        · have e97 : decide ((97 : Int) ≤ (s[k].toNat : Int)) = false := by simp; omega
          have e122 : decide ((s[k].toNat : Int) ≤ 122) = true := by simp; omega
          have e48 : decide ((48 : Int) ≤ (s[k].toNat : Int)) = false := by simp; omega
          have e57 : decide ((s[k].toNat : Int) ≤ 57) = true := by simp; omega
          have e46 : ((s[k].toNat : Int) == 46) = false := by simp; omega
          have e45 : ((s[k].toNat : Int) == 45) = false := by simp; omega
          clear hw
          go_wp2
          go_ret
          rw [Hfalse.out Hok.out]
          exact ⟨rfl, rfl⟩
        · have e97 : decide ((97 : Int) ≤ (s[k].toNat : Int)) = false := by simp; omega
          have e122 : decide ((s[k].toNat : Int) ≤ 122) = true := by simp; omega
          have e48 : decide ((48 : Int) ≤ (s[k].toNat : Int)) = true := by simp; omega
          have e57 : decide ((s[k].toNat : Int) ≤ 57) = false := by simp; omega
          have e46 : ((s[k].toNat : Int) == 46) = false := by simp; omega
          have e45 : ((s[k].toNat : Int) == 45) = false := by simp; omega
          clear hw
          go_wp2
          go_ret
          rw [Hfalse.out Hok.out]
          exact ⟨rfl, rfl⟩
        · have e97 : decide ((97 : Int) ≤ (s[k].toNat : Int)) = true := by simp; omega
          have e122 : decide ((s[k].toNat : Int) ≤ 122) = false := by simp; omega
          have e48 : decide ((48 : Int) ≤ (s[k].toNat : Int)) = true := by simp; omega
          have e57 : decide ((s[k].toNat : Int) ≤ 57) = false := by simp; omega
          have e46 : ((s[k].toNat : Int) == 46) = false := by simp; omega
          have e45 : ((s[k].toNat : Int) == 45) = false := by simp; omega
          clear hw
          go_wp2
          go_ret
          rw [Hfalse.out Hok.out]
          exact ⟨rfl, rfl⟩
    · have e : List.take k s.data.toList = s.data.toList := List.take_of_length_le (by rw [Hsl.out]; omega)
      have hn : nameOk s = (decide (1 ≤ s.size) && decide (s.size ≤ 32)) := by
        have h := Hall.out
        rw [e] at h
        unfold nameOk
        rw [h]; rfl
      have Hn := Lib.hid hn
      clear hn e
      obtain rfl : k = s.size := by omega
      by_cases h1 : 1 ≤ s.size
      · have hn : nameOk s = decide ((s.size : Int) ≤ 32) := by
          rw [Hn.out, decide_eq_true h1, Bool.true_and]
          simp
          omega
        have Hn' := Lib.hid hn
        clear hn
        go_wp2
        go_ret
        rw [Hn'.out]
        exact ⟨rfl, rfl⟩
      · have hn : nameOk s = false := by
          rw [Hn.out, decide_eq_false h1]
          rfl
        have Hn' := Lib.hid hn
        clear hn
        go_wp2
        go_ret
        rw [Hn'.out]
        exact ⟨rfl, rfl⟩
end Go.Proofs.Ytbhapbioibhalaa
