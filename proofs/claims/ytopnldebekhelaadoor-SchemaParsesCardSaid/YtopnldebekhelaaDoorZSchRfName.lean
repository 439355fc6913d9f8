/- sentryref04.IsName, sentryref05.own: they tell as the program does. -/
import Derived.Test.YtopnldebekhelaaDoorZSchRef
import Derived.BigQuiet
namespace Go.Proofs.YtopnldebekhelaaDoor
open Go Go.RowKit

/-- A truth is told; the world is as it was. -/
def SameBool (w : World) (b : Bool) (e : Ending) (w' : World) : Prop := e = .returned (.bool b) ∧ w = w'

set_option maxRecDepth 100000 in
set_option maxHeartbeats 1000000 in
theorem refname_any (w : World) (s : ByteArray) (hs : s.size ≤ 1000000000) :
    Calls Tryd.prog 21 #[.string s] w (SameBool w (nameB s)) := by
  have hsl : s.data.toList.length = s.size := Array.length_toList
  have Hsl := Lib.hid hsl
  clear hsl
  go_enter Tryd.func21, Tryd.ntmps21
  go_wp2
  go_loop [3] (fun i => NameRel s.data.toList i) (fun i => s.size - (intOf i).toNat)
  case atStart => exact ⟨0, rfl, Nat.zero_le _, rfl⟩
  case round =>
    obtain ⟨k, rfl, hk, hall⟩ := hrel
    rw [Hsl.out] at hk
    have Hall := Lib.hid hall
    clear hall
    by_cases hlt : k < s.size
    · have hsucc := take_succ_all s.data.toList k (by rw [Hsl.out]; exact hlt)
      have hfalse := all_false s.data.toList k (by rw [Hsl.out]; exact hlt)
      have hgk : s.data.toList.getD k 0 = s[k] := by
        rw [List.getD_eq_getElem?_getD, List.getElem?_eq_getElem (by rw [Hsl.out]; exact hlt)]
        rfl
      rw [hgk] at hsucc hfalse
      have hways := okB_ways s[k]
      have Hsucc := Lib.hid hsucc
      have Hfalse := Lib.hid hfalse
      clear hsucc hfalse hgk
      rcases hways with ⟨hok, hw⟩ | ⟨hok, hw⟩
      · have Hok := Lib.hid hok
        clear hok
        have i1 : 97 ≤ s[k].toNat → decide (97 ≤ (s[k].toNat : Int)) = true := fun h => by simp; omega
        have i2 : s[k].toNat ≤ 122 → decide ((s[k].toNat : Int) ≤ 122) = true := fun h => by simp; omega
        have i3 : s[k].toNat < 97 → decide (97 ≤ (s[k].toNat : Int)) = false := fun h => by simp; omega
        have i4 : 48 ≤ s[k].toNat → decide (48 ≤ (s[k].toNat : Int)) = true := fun h => by simp; omega
        have i5 : s[k].toNat ≤ 57 → decide ((s[k].toNat : Int) ≤ 57) = true := fun h => by simp; omega
        have i6 : 57 < s[k].toNat → decide ((s[k].toNat : Int) ≤ 57) = false := fun h => by simp; omega
        have i7 : s[k].toNat < 48 → decide (48 ≤ (s[k].toNat : Int)) = false := fun h => by simp; omega
        rcases hw with hw | hw | hw | hw
        · replace i1 := i1 (by omega)
          replace i2 := i2 (by omega)
          clear i3 i4 i5 i6 i7
          go_wp2
          refine ⟨⟨k + 1, by go_num, by rw [Hsl.out]; omega, ?_⟩, by simp [intOf]; omega⟩
          rw [Hsucc.out, Hall.out, Hok.out]; rfl
        · replace i3 := i3 (by omega)
          replace i4 := i4 (by omega)
          replace i5 := i5 (by omega)
          clear i1 i2 i6 i7
          go_wp2
          refine ⟨⟨k + 1, by go_num, by rw [Hsl.out]; omega, ?_⟩, by simp [intOf]; omega⟩
          rw [Hsucc.out, Hall.out, Hok.out]; rfl
        · replace i3 := i3 (by omega)
          replace i4 := i4 (by omega)
          replace i6 := i6 (by omega)
          have e95 : ((s[k].toNat : Int) == 95) = true := by simp; omega
          clear i1 i2 i5 i7
          go_wp2
          refine ⟨⟨k + 1, by go_num, by rw [Hsl.out]; omega, ?_⟩, by simp [intOf]; omega⟩
          rw [Hsucc.out, Hall.out, Hok.out]; rfl
        · replace i3 := i3 (by omega)
          replace i7 := i7 (by omega)
          have e95 : ((s[k].toNat : Int) == 95) = false := by simp; omega
          have e45 : ((s[k].toNat : Int) == 45) = true := by simp; omega
          clear i1 i2 i4 i5 i6
          go_wp2
          refine ⟨⟨k + 1, by go_num, by rw [Hsl.out]; omega, ?_⟩, by simp [intOf]; omega⟩
          rw [Hsucc.out, Hall.out, Hok.out]; rfl
      · have Hok := Lib.hid hok
        clear hok
        have e95 : ((s[k].toNat : Int) == 95) = false := by simp; omega
        have e45 : ((s[k].toNat : Int) == 45) = false := by simp; omega
        have k57 : 57 < s[k].toNat → decide ((s[k].toNat : Int) ≤ 57) = false := fun h => by simp; omega
        have k122 : 122 < s[k].toNat → decide ((s[k].toNat : Int) ≤ 122) = false := fun h => by simp; omega
        have k48 : s[k].toNat < 48 → decide (48 ≤ (s[k].toNat : Int)) = false := fun h => by simp; omega
        have k97 : s[k].toNat < 97 → decide (97 ≤ (s[k].toNat : Int)) = false := fun h => by simp; omega
        rcases hw with hw | hw | hw
        · replace k48 := k48 (by omega)
          replace k97 := k97 (by omega)
          clear k57 k122
          go_wp2
          go_ret
          rw [nameB, Hfalse.out Hok.out]
          exact ⟨rfl, rfl⟩
        · replace k57 := k57 (by omega)
          replace k97 := k97 (by omega)
          clear k48 k122
          go_wp2
          go_ret
          rw [nameB, Hfalse.out Hok.out]
          exact ⟨rfl, rfl⟩
        · replace k57 := k57 (by omega)
          replace k122 := k122 (by omega)
          clear k48 k97
          go_wp2
          go_ret
          rw [nameB, Hfalse.out Hok.out]
          exact ⟨rfl, rfl⟩
    · have e : List.take k s.data.toList = s.data.toList := List.take_of_length_le (by rw [Hsl.out]; omega)
      have hn : nameB s = (decide (1 ≤ s.size) && decide (s.size ≤ 32)) := by
        have h := Hall.out
        rw [e] at h
        unfold nameB nameL
        rw [h, Hsl.out]; rfl
      have Hn := Lib.hid hn
      clear hn e
      obtain rfl : k = s.size := by omega
      have hlt' : ¬ ((s.size : Int) < s.size) := by omega
      by_cases h1 : 1 ≤ s.size
      · have hn : nameB s = decide ((s.size : Int) ≤ 32) := by
          rw [Hn.out, decide_eq_true h1, Bool.true_and]
          simp
          omega
        have Hn' := Lib.hid hn
        clear hn
        go_wp2
        go_ret
        rw [Hn'.out]
        exact ⟨rfl, rfl⟩
      · have hn : nameB s = false := by
          rw [Hn.out, decide_eq_false h1]
          rfl
        have Hn' := Lib.hid hn
        clear hn
        go_wp2
        go_ret
        rw [Hn'.out]
        exact ⟨rfl, rfl⟩

set_option maxRecDepth 100000 in
set_option maxHeartbeats 1000000 in
theorem refown_any (w : World) (s : ByteArray) (hs : s.size ≤ 1000000000) : Calls Tryd.prog 30 #[.string s] w (SameBool w (isRefB s)) := by
  have hP := Lib.hid (refname_any w s hs)
  cases hn : nameB s with
  | false =>
    have hv : isRefB s = false := by unfold isRefB; rw [hn]; rfl
    rw [hv]
    rw [hn] at hP
    go_enter Tryd.func30, Tryd.ntmps30
    go_wp2_with (go_at_call 21; go_must (refine hP.out.mono ?_))
    rintro e w1 ⟨rfl, rfl⟩
    go_wp2
    go_ret
    exact ⟨rfl, rfl⟩
  | true =>
    have hv : isRefB s = !(s.toList == [116, 104, 105, 115]) := by unfold isRefB; rw [hn, streq]; rfl
    rw [hv]
    rw [hn] at hP
    go_enter Tryd.func30, Tryd.ntmps30
    go_wp2_with (go_at_call 21; go_must (refine hP.out.mono ?_))
    rintro e w1 ⟨rfl, rfl⟩
    go_wp2
    go_ret
    exact ⟨rfl, rfl⟩

theorem own_quiet {w : World} {k : Nat} {s : ByteArray} (hs : s.size ≤ 1000000000) : Calls Tryd.prog 30 #[.string s] (w.drewN k) (fun e w' => e = .returned (.bool (isRefB s)) ∧ ∃ m, w' = w.drewN m) :=
  Calls.quiet_of_same ((refown_any (w.drewN k) s hs).mono fun _ _ ⟨h, k⟩ => ⟨h, k.symm⟩)
end Go.Proofs.YtopnldebekhelaaDoor
