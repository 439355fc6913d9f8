/- disk.isName. -/
import Derived.Test.YtbhapbioibhalaaDiskM
namespace Go.Proofs.Ytbhapbioibhalaa
open Go Go.RowKit

theorem nameB_ways (c : UInt8) : (nameB c = true ∧ ((97 ≤ c.toNat ∧ c.toNat ≤ 122) ∨ (48 ≤ c.toNat ∧ c.toNat ≤ 57) ∨ (c.toNat = 46) ∨ (c.toNat = 45))) ∨ (nameB c = false ∧ ((c.toNat < 45) ∨ (c.toNat = 47) ∨ (57 < c.toNat ∧ c.toNat < 97) ∨ (122 < c.toNat))) := by
  cases h : nameB c with
  | true =>
    left
    simp [nameB] at h
    refine ⟨rfl, ?_⟩
    omega
  | false =>
    right
    simp [nameB] at h
    refine ⟨rfl, ?_⟩
    omega

def NameRel (l : List UInt8) (i : Value) : Prop := ∃ k : Nat, i = .int .i64 (k : Int) ∧ k ≤ l.length ∧ (l.take k).all nameB = true

theorem take_succ_all (l : List UInt8) (k : Nat) (h : k < l.length) : (l.take (k + 1)).all nameB = ((l.take k).all nameB && nameB (l.getD k 0)) := by
  rw [List.take_add_one, List.getElem?_eq_getElem h, List.all_append]; simp [List.getD, h]

theorem all_false (s : ByteArray) (k : Nat) (h : k < s.data.toList.length) (hc : nameB (s.data.toList.getD k 0) = false) : nameOk s = false := by
  have : s.data.toList.all nameB = false := by
    rw [List.all_eq_false]
    exact ⟨s.data.toList.getD k 0, by simp only [List.getD, List.getElem?_eq_getElem h, Option.getD_some]; exact List.getElem_mem h, by rw [hc]; decide⟩
  unfold nameOk
  rw [this]; rfl

set_option maxRecDepth 100000 in
set_option maxHeartbeats 2000000 in
theorem isName_any (w : World) (s : ByteArray) (hs : s.size ≤ 1000000000) :
    Calls Try.prog 51 #[.string s] w (GivesBool w (nameOk s)) := by
  have hsl : s.data.toList.length = s.size := Array.length_toList
  have Hsl := Lib.hid hsl
  clear hsl
  go_enter Try.func51, Try.ntmps51
  go_wp2_with (refine wpList_bytes rfl _ 9 29 5 rfl Try.underlying9 Try.underlying29 Try.underlying5 s rfl ?_ ?_)
  · unfold maxLen; omega
  intro cap w1 r1 g1 b1 lt1
  go_wp2
  go_loop [10] (fun i => NameRel s.data.toList i) (fun i => s.size - (intOf i).toNat)
  case atStart => exact ⟨0, rfl, Nat.zero_le _, rfl⟩
  case round =>
    obtain ⟨k, rfl, hk, hall⟩ := hrel
    rw [Hsl.out] at hk
    have Hall := Lib.hid hall
    clear hall
    by_cases hlt : k < s.size
    · have hsucc := take_succ_all s.data.toList k (by rw [Hsl.out]; exact hlt)
      have hfalse := all_false s k (by rw [Hsl.out]; exact hlt)
      have c1 := r1.bcell k hlt
      simp only [Nat.zero_add] at c1
      generalize s.data.toList.getD k 0 = c at c1 hsucc hfalse
      have Hsucc := Lib.hid hsucc
      have Hfalse := Lib.hid hfalse
      clear hsucc hfalse
      rcases nameB_ways c with ⟨hok, hw⟩ | ⟨hok, hw⟩
      · have Hok := Lib.hid hok
        clear hok
        rcases hw with hw | hw | hw | hw
        · have e97 : decide ((97 : Int) ≤ (c.toNat : Int)) = true := by simp; omega
          have e122 : decide ((c.toNat : Int) ≤ 122) = true := by simp; omega
          have e48 : decide ((48 : Int) ≤ (c.toNat : Int)) = true := by simp; omega
          have e57 : decide ((c.toNat : Int) ≤ 57) = false := by simp; omega
          have e46 : ((c.toNat : Int) != 46) = true := by simp; omega
          have e45 : ((c.toNat : Int) != 45) = true := by simp; omega
          clear hw
          go_wp2
          refine ⟨⟨k + 1, by go_num, by rw [Hsl.out]; omega, ?_⟩, by simp [intOf]; omega⟩
          rw [Hsucc.out, Hall.out, Hok.out]; rfl
        · have e97 : decide ((97 : Int) ≤ (c.toNat : Int)) = false := by simp; omega
          have e122 : decide ((c.toNat : Int) ≤ 122) = true := by simp; omega
          have e48 : decide ((48 : Int) ≤ (c.toNat : Int)) = true := by simp; omega
          have e57 : decide ((c.toNat : Int) ≤ 57) = true := by simp; omega
          have e46 : ((c.toNat : Int) != 46) = true := by simp; omega
          have e45 : ((c.toNat : Int) != 45) = true := by simp; omega
          clear hw
          go_wp2
          refine ⟨⟨k + 1, by go_num, by rw [Hsl.out]; omega, ?_⟩, by simp [intOf]; omega⟩
          rw [Hsucc.out, Hall.out, Hok.out]; rfl
        · have e97 : decide ((97 : Int) ≤ (c.toNat : Int)) = false := by simp; omega
          have e122 : decide ((c.toNat : Int) ≤ 122) = true := by simp; omega
          have e48 : decide ((48 : Int) ≤ (c.toNat : Int)) = false := by simp; omega
          have e57 : decide ((c.toNat : Int) ≤ 57) = true := by simp; omega
          have e46 : ((c.toNat : Int) != 46) = false := by simp; omega
          have e45 : ((c.toNat : Int) != 45) = true := by simp; omega
          clear hw
          go_wp2
          refine ⟨⟨k + 1, by go_num, by rw [Hsl.out]; omega, ?_⟩, by simp [intOf]; omega⟩
          rw [Hsucc.out, Hall.out, Hok.out]; rfl
        · have e97 : decide ((97 : Int) ≤ (c.toNat : Int)) = false := by simp; omega
          have e122 : decide ((c.toNat : Int) ≤ 122) = true := by simp; omega
          have e48 : decide ((48 : Int) ≤ (c.toNat : Int)) = false := by simp; omega
          have e57 : decide ((c.toNat : Int) ≤ 57) = true := by simp; omega
          have e46 : ((c.toNat : Int) != 46) = true := by simp; omega
          have e45 : ((c.toNat : Int) != 45) = false := by simp; omega
          clear hw
          go_wp2
          refine ⟨⟨k + 1, by go_num, by rw [Hsl.out]; omega, ?_⟩, by simp [intOf]; omega⟩
          rw [Hsucc.out, Hall.out, Hok.out]; rfl
      · have Hok := Lib.hid hok
        clear hok
        rcases hw with hw | hw | hw | hw
        · have e97 : decide ((97 : Int) ≤ (c.toNat : Int)) = false := by simp; omega
          have e122 : decide ((c.toNat : Int) ≤ 122) = true := by simp; omega
          have e48 : decide ((48 : Int) ≤ (c.toNat : Int)) = false := by simp; omega
          have e57 : decide ((c.toNat : Int) ≤ 57) = true := by simp; omega
          have e46 : ((c.toNat : Int) != 46) = true := by simp; omega
          have e45 : ((c.toNat : Int) != 45) = true := by simp; omega
          clear hw
          go_wp2
          go_ret
          rw [Hfalse.out Hok.out]
          exact ⟨rfl, b1⟩
        · have e97 : decide ((97 : Int) ≤ (c.toNat : Int)) = false := by simp; omega
          have e122 : decide ((c.toNat : Int) ≤ 122) = true := by simp; omega
          have e48 : decide ((48 : Int) ≤ (c.toNat : Int)) = false := by simp; omega
          have e57 : decide ((c.toNat : Int) ≤ 57) = true := by simp; omega
          have e46 : ((c.toNat : Int) != 46) = true := by simp; omega
          have e45 : ((c.toNat : Int) != 45) = true := by simp; omega
          clear hw
          go_wp2
          go_ret
          rw [Hfalse.out Hok.out]
          exact ⟨rfl, b1⟩
        · have e97 : decide ((97 : Int) ≤ (c.toNat : Int)) = false := by simp; omega
          have e122 : decide ((c.toNat : Int) ≤ 122) = true := by simp; omega
          have e48 : decide ((48 : Int) ≤ (c.toNat : Int)) = true := by simp; omega
          have e57 : decide ((c.toNat : Int) ≤ 57) = false := by simp; omega
          have e46 : ((c.toNat : Int) != 46) = true := by simp; omega
          have e45 : ((c.toNat : Int) != 45) = true := by simp; omega
          clear hw
          go_wp2
          go_ret
          rw [Hfalse.out Hok.out]
          exact ⟨rfl, b1⟩
        · have e97 : decide ((97 : Int) ≤ (c.toNat : Int)) = true := by simp; omega
          have e122 : decide ((c.toNat : Int) ≤ 122) = false := by simp; omega
          have e48 : decide ((48 : Int) ≤ (c.toNat : Int)) = true := by simp; omega
          have e57 : decide ((c.toNat : Int) ≤ 57) = false := by simp; omega
          have e46 : ((c.toNat : Int) != 46) = true := by simp; omega
          have e45 : ((c.toNat : Int) != 45) = true := by simp; omega
          clear hw
          go_wp2
          go_ret
          rw [Hfalse.out Hok.out]
          exact ⟨rfl, b1⟩
    · have e : List.take k s.data.toList = s.data.toList := List.take_of_length_le (by rw [Hsl.out]; omega)
      have hn : nameOk s = (decide (1 ≤ s.size) && decide (s.size ≤ 32)) := by
        have h := Hall.out
        rw [e] at h
        unfold nameOk
        rw [h]; rfl
      have Hn := Lib.hid hn
      clear hn e
      obtain rfl : k = s.size := by omega
      by_cases h1 : 1 ≤ s.size
      · have hn : nameOk s = decide ((s.size : Int) ≤ 32) := by
          rw [Hn.out, decide_eq_true h1, Bool.true_and]
          simp
          omega
        have Hn' := Lib.hid hn
        clear hn
        go_wp2
        go_ret
        rw [Hn'.out]
        exact ⟨rfl, b1⟩
      · have hn : nameOk s = false := by
          rw [Hn.out, decide_eq_false h1]
          rfl
        have Hn' := Lib.hid hn
        clear hn
        go_wp2
        go_ret
        rw [Hn'.out]
        exact ⟨rfl, b1⟩
end Go.Proofs.Ytbhapbioibhalaa
