import Derived.Test.YtepibaoniafolaaDoorTokenRefRead
namespace Go.Proofs.YtepibaoniafolaaDoor
open Go Go.RowKit

set_option maxRecDepth 100000 in
set_option maxHeartbeats 1000000 in
theorem refchoose_any (w : World) (s : ByteArray) (id : Nat) (how : Int) (floor head : Nat) :
    Calls Tryd.prog 13 #[.int .u32 (id : Int), .string s, .int .i64 how, .int .u64 (floor : Int), .int .u64 (head : Int)] w (GivesVal w (chooseV s.data.toList id how floor head)) := by
  have hr := refread_any w s
  unfold readV at hr
  have hv : chooseV s.data.toList id how floor head = .tuple #[.int .u64 ((chooseR (readR s.data.toList) id how floor head).1 : Int), .int .i64 ((chooseR (readR s.data.toList) id how floor head).2 : Int)] := rfl
  generalize chooseV s.data.toList id how floor head = V at *
  generalize readR s.data.toList = r at *
  obtain ⟨I, R, e⟩ := r
  try simp only at hr
  have HR := Lib.hid hr
  clear hr
  unfold chooseR at hv
  try simp only at hv
  by_cases h1 : how = 1
  · subst h1
    rw [if_pos rfl] at hv
    have HV := Lib.hid hv
    clear hv
    go_enter Tryd.func13, Tryd.ntmps13
    go_wp2
    go_ret2
    rw [HV.out]
    exact ⟨rfl, Below.refl _ _⟩
  · rw [if_neg h1] at hv
    by_cases h23 : how = 2 ∨ how = 3
    · rw [if_pos h23] at hv
      have hb1 : (how == (1 : Int)) = false := by simpa using h1
      have hb2 : (how == (2 : Int)) = true ∨ (how == (2 : Int)) = false ∧ (how == (3 : Int)) = true := by
        rcases h23 with rfl | rfl
        · exact Or.inl rfl
        · exact Or.inr ⟨rfl, rfl⟩
      by_cases he : e = 0
      · subst he
        rw [if_pos rfl] at hv
        by_cases hi : I = id
        · subst hi
          rw [if_pos rfl] at hv
          by_cases hh : head < R
          · rw [if_pos (Or.inl hh)] at hv
            have HV := Lib.hid hv
            clear hv
            have hg : decide ((R : Int) > (head : Int)) = true := by simpa using hh
            rcases h23 with rfl | rfl
            all_goals
              go_enter Tryd.func13, Tryd.ntmps13
              go_wp2_with (go_at_call 11; go_must (refine HR.out.mono ?_))
              rintro e w1 ⟨rfl, b1⟩
              have HB := Lib.hid b1
              clear b1
              go_wp2
              all_goals
                go_ret2
                rw [HV.out]
                exact ⟨rfl, HB.out⟩
          · have hh' : (R : Int) ≤ (head : Int) := by omega
            rcases h23 with rfl | rfl
            · rw [if_neg (by omega), if_pos rfl] at hv
              have HV := Lib.hid hv
              clear hv hh
              go_enter Tryd.func13, Tryd.ntmps13
              go_wp2_with (go_at_call 11; go_must (refine HR.out.mono ?_))
              rintro e w1 ⟨rfl, b1⟩
              have HB := Lib.hid b1
              clear b1
              go_wp2
              go_ret2
              rw [HV.out]
              exact ⟨rfl, HB.out⟩
            · by_cases hf : R < floor
              · rw [if_pos (Or.inr ⟨rfl, hf⟩)] at hv
                have HV := Lib.hid hv
                clear hv hh
                have hf' : (R : Int) < (floor : Int) := by omega
                go_enter Tryd.func13, Tryd.ntmps13
                go_wp2_with (go_at_call 11; go_must (refine HR.out.mono ?_))
                rintro e w1 ⟨rfl, b1⟩
                have HB := Lib.hid b1
                clear b1
                go_wp2
                go_ret2
                rw [HV.out]
                exact ⟨rfl, HB.out⟩
              · rw [if_neg (by omega), if_neg (by decide)] at hv
                have HV := Lib.hid hv
                clear hv hh
                have hf' : (floor : Int) ≤ (R : Int) := by omega
                go_enter Tryd.func13, Tryd.ntmps13
                go_wp2_with (go_at_call 11; go_must (refine HR.out.mono ?_))
                rintro e w1 ⟨rfl, b1⟩
                have HB := Lib.hid b1
                clear b1
                go_wp2
                go_ret2
                rw [HV.out]
                exact ⟨rfl, HB.out⟩
        · rw [if_neg hi] at hv
          have HV := Lib.hid hv
          clear hv
          have hi' : ((I : Int) == (id : Int)) = false := by
            have : ¬ (I : Int) = id := by omega
            simpa using this
          rcases h23 with rfl | rfl
          all_goals
            go_enter Tryd.func13, Tryd.ntmps13
            go_wp2_with (go_at_call 11; go_must (refine HR.out.mono ?_))
            rintro e w1 ⟨rfl, b1⟩
            have HB := Lib.hid b1
            clear b1
            go_wp2
            go_ret2
            rw [HV.out]
            exact ⟨rfl, HB.out⟩
      · rw [if_neg he] at hv
        have HV := Lib.hid hv
        clear hv
        have he' : ((e : Int) == 0) = false := by
          have : ¬ (e : Int) = 0 := by omega
          simpa using this
        rcases h23 with rfl | rfl
        all_goals
          go_enter Tryd.func13, Tryd.ntmps13
          go_wp2_with (go_at_call 11; go_must (refine HR.out.mono ?_))
          rintro e w1 ⟨rfl, b1⟩
          have HB := Lib.hid b1
          clear b1
          go_wp2
          go_ret2
          rw [HV.out]
          exact ⟨rfl, HB.out⟩
    · rw [if_neg h23] at hv
      have hb1 : (how == (1 : Int)) = false := by simpa using h1
      have hb2 : (how == (2 : Int)) = false := by simpa using fun h => h23 (Or.inl h)
      have hb3 : (how == (3 : Int)) = false := by simpa using fun h => h23 (Or.inr h)
      have hn2 : (how != (2 : Int)) = true := by rw [bne, hb2]; rfl
      have hn3 : (how != (3 : Int)) = true := by rw [bne, hb3]; rfl
      have HV := Lib.hid hv
      clear hv h1 h23
      go_enter Tryd.func13, Tryd.ntmps13
      go_wp2
      go_ret2
      rw [HV.out]
      exact ⟨rfl, Below.refl _ _⟩
end Go.Proofs.YtepibaoniafolaaDoor
