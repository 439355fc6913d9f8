import Derived.Test.YtopnldebekhelaaDoorZTupleMath
namespace Go.Proofs.YtopnldebekhelaaDoor
open Go Go.RowKit

def NameRel (l : List UInt8) (i : Value) : Prop := ∃ k : Nat, i = .int .i64 (k : Int) ∧ k ≤ l.length ∧ (l.take k).all okB = true

theorem take_succ_all (l : List UInt8) (k : Nat) (h : k < l.length) : (l.take (k + 1)).all okB = ((l.take k).all okB && okB (l.getD k 0)) := by
  rw [List.take_add_one, List.getElem?_eq_getElem h, List.all_append]; simp [List.getD, h]

theorem all_false (l : List UInt8) (k : Nat) (h : k < l.length) (hc : okB (l.getD k 0) = false) : nameL l = false := by
  have : l.all okB = false := by
    rw [List.all_eq_false]
    refine ⟨l.getD k 0, ?_, by rw [hc]; decide⟩
    simp [List.getD, h]
  unfold nameL
  rw [this]; rfl

set_option maxRecDepth 100000 in
set_option maxHeartbeats 1000000 in
theorem name_any (w : World) (s : ByteArray) (hs : s.size ≤ 1000000000) :
    Calls Tryd.prog 47 #[.string s] w (GivesBool w (nameB s)) := by
  have hsl : s.data.toList.length = s.size := Array.length_toList
  have Hsl := Lib.hid hsl
  clear hsl
  go_enter Tryd.func47, Tryd.ntmps47
  go_wp2_with (refine wpList_bytes rfl _ 9 34 5 rfl Tryd.underlying9 Tryd.underlying34 Tryd.underlying5 s rfl ?_ ?_)
  · unfold maxLen; omega
  intro cap w1 r1 g1 b1 lt1
  go_wp2
  go_loop [10] (fun i => NameRel s.data.toList i) (fun i => s.size - (intOf i).toNat)
  case atStart => exact ⟨0, rfl, Nat.zero_le _, rfl⟩
  case round =>
    obtain ⟨k, rfl, hk, hall⟩ := hrel
    rw [Hsl.out] at hk
    have Hall := Lib.hid hall
    clear hall
    by_cases hlt : k < s.size
    · have hsucc := take_succ_all s.data.toList k (by rw [Hsl.out]; exact hlt)
      have hfalse := all_false s.data.toList k (by rw [Hsl.out]; exact hlt)
      have c1 := r1.bcell k hlt
      simp only [Nat.zero_add] at c1
      generalize s.data.toList.getD k 0 = c at c1 hsucc hfalse
      have Hsucc := Lib.hid hsucc
      have Hfalse := Lib.hid hfalse
      clear hsucc hfalse
      rcases okB_ways c with ⟨hok, hw⟩ | ⟨hok, hw⟩
      · have Hok := Lib.hid hok
        clear hok
        rcases hw with hw | hw | hw | hw
        all_goals
          go_wp2
          refine ⟨⟨k + 1, by go_num, by rw [Hsl.out]; omega, ?_⟩, by simp [intOf]; omega⟩
          rw [Hsucc.out, Hall.out, Hok.out]; rfl
      · have Hok := Lib.hid hok
        clear hok
        have e95 : ((c.toNat : Int) != 95) = true := by simp; omega
        have e45 : ((c.toNat : Int) != 45) = true := by simp; omega
        have k57 : 57 < c.toNat → decide ((c.toNat : Int) ≤ 57) = false := fun h => by simp; omega
        have k122 : 122 < c.toNat → decide ((c.toNat : Int) ≤ 122) = false := fun h => by simp; omega
        rcases hw with hw | hw | hw
        · clear k57 k122
          go_wp2
          go_ret
          rw [nameB, Hfalse.out Hok.out]
          exact ⟨rfl, b1⟩
        · replace k57 := k57 (by omega)
          clear k122
          go_wp2
          go_ret
          rw [nameB, Hfalse.out Hok.out]
          exact ⟨rfl, b1⟩
        · replace k57 := k57 (by omega)
          replace k122 := k122 (by omega)
          go_wp2
          go_ret
          rw [nameB, Hfalse.out Hok.out]
          exact ⟨rfl, b1⟩
    · have e : List.take k s.data.toList = s.data.toList := List.take_of_length_le (by rw [Hsl.out]; omega)
      have hn : nameB s = (decide (1 ≤ s.size) && decide (s.size ≤ 32)) := by
        have h := Hall.out
        rw [e] at h
        unfold nameB nameL
        rw [h, Hsl.out]; rfl
      have Hn := Lib.hid hn
      clear hn e
      obtain rfl : k = s.size := by omega
      by_cases h1 : 1 ≤ s.size
      · have hn : nameB s = decide ((s.size : Int) ≤ 32) := by
          rw [Hn.out, decide_eq_true h1, Bool.true_and]
          simp
          omega
        have Hn' := Lib.hid hn
        clear hn
        go_wp2
        go_ret
        rw [Hn'.out]
        exact ⟨rfl, b1⟩
      · have hn : nameB s = false := by
          rw [Hn.out, decide_eq_false h1]
          rfl
        have Hn' := Lib.hid hn
        clear hn
        go_wp2
        go_ret
        rw [Hn'.out]
        exact ⟨rfl, b1⟩
end Go.Proofs.YtopnldebekhelaaDoor
