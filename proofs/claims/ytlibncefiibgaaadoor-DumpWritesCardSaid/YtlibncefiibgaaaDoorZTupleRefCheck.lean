import Derived.Test.YtlibncefiibgaaaDoorZTupleRefName
namespace Go.Proofs.YtlibncefiibgaaaDoor
open Go Go.RowKit

def RchkRel (w : World) (t : Six) (i : Value) (wr : World) : Prop :=
  ∃ k : Nat, i = .int .i64 (k : Int) ∧ k ≤ 6 ∧ (t.five.take k).all nameB = true ∧ (k = 6 → t.ok = true) ∧ w = wr

theorem not_name_empty : nameB ⟨#[]⟩ = false := by decide

set_option maxRecDepth 100000 in
set_option maxHeartbeats 1000000 in
theorem refcheck_any (w : World) (t : Six) (hs : t.short 1000000000) : Calls Tryd.prog 29 #[t.val] w (GivesVal w (checkV t.ok)) := by
  have hparts := fun w => refparts_any w t
  have hfive := t.five_ok
  have hpart : ∀ (k : Nat) (s : ByteArray), t.list[k]? = some s → s.size ≤ 1000000000 := by
    obtain ⟨h1, h2, h3, h4, h5, h6⟩ := hs
    intro k s h
    have := List.mem_of_getElem? h
    simp [Six.list] at this
    rcases this with rfl | rfl | rfl | rfl | rfl | rfl <;> assumption
  have HP := Lib.hid hparts
  have HF := Lib.hid hfive
  have HS := Lib.hid hpart
  clear hparts hfive hs hpart
  have hv : t.val = .agg #[.string t.a, .string t.b, .string t.c, .string t.d, .string t.e, .string t.f] := rfl
  rw [hv]
  clear hv
  go_enter Tryd.func29, Tryd.ntmps29
  go_wp2_with (go_at_call 13; go_must (refine (HP.out _).mono ?_))
  rintro e w1 ⟨b, rfl, r1, b1⟩
  have b0 : Below w.heap.size w w1 := ((Below.refl _ w).alloc (Nat.le_refl _) _).trans (b1.mono (by simp))
  have B0 := Lib.hid b0
  have HR := Lib.hid r1
  clear b1 b0 r1
  go_wp2
  go_loopw [8] (fun c wr => RchkRel w1 t c wr) (fun c _ => 6 - (intOf c).toNat)
  case atStart => exact ⟨0, rfl, by decide, rfl, (fun h => absurd h (by decide)), rfl⟩
  case round =>
    obtain ⟨k, rfl, hk, hall, hfull, rfl⟩ := hrel
    by_cases hlt : k < 6
    · obtain ⟨b', off, x, hbe, hx, _, c1⟩ := HR.out.scell k hlt
      cases hbe
      rw [Nat.zero_add] at c1
      have hxm := HS.out k x hx
      by_cases h5 : k < 5
      · have hx5 : t.five[k]? = some x := by
          have : k = 0 ∨ k = 1 ∨ k = 2 ∨ k = 3 ∨ k = 4 := by omega
          rcases this with rfl | rfl | rfl | rfl | rfl <;> exact hx
        have hsucc : (t.five.take (k + 1)).all nameB = ((t.five.take k).all nameB && nameB x) := by
          rw [List.take_add_one, List.all_append, hx5]; simp
        rw [hall] at hsucc
        have hfalse : nameB x = false → t.ok = false := by
          intro h
          rw [HF.out]
          have : t.five.all nameB = false := by
            rw [List.all_eq_false]
            exact ⟨x, List.mem_of_getElem? hx5, by rw [h]; decide⟩
          rw [this]; rfl
        have HSu := Lib.hid hsucc
        have HFa := Lib.hid hfalse
        have h5' : (k : Int) < 5 := by omega
        clear hsucc hfalse hall hx hx5 hfull
        go_wp2_with (go_at_call 42; go_must (refine (refname_any _ x hxm).mono ?_))
        rintro e w2 ⟨rfl, rfl⟩
        cases hn : nameB x with
        | true =>
          have Hn := Lib.hid hn
          clear hn
          go_wp2
          refine ⟨⟨k + 1, by go_num, by omega, ?_, fun h => by omega, rfl⟩, by simp [intOf]; omega⟩
          rw [HSu.out, Hn.out]; rfl
        | false =>
          have Hn := Lib.hid hn
          clear hn
          go_wp2
          go_ret
          rw [HFa.out Hn.out]
          exact ⟨rfl, B0.out⟩
      · obtain rfl : k = 5 := by omega
        have hxf : t.f = x := by simpa [Six.list] using hx
        have hok : t.ok = (decide (t.f.size = 0) || nameB t.f) := by
          rw [HF.out]
          have : t.five.all nameB = true := by simpa [Six.five] using hall
          rw [this]; rfl
        rw [hxf] at hok
        have hall6 : (t.five.take 6).all nameB = true := by simpa [Six.five] using hall
        have HO := Lib.hid hok
        have HA6 := Lib.hid hall6
        clear hall hx hok hall6 hfull hxf
        go_wp2_with (go_at_call 42; go_must (refine (refname_any _ x hxm).mono ?_))
        rintro e w2 ⟨rfl, rfl⟩
        by_cases h0 : x = ⟨#[]⟩
        · subst h0
          rw [not_name_empty]
          go_wp2
          refine ⟨⟨6, by go_num, by omega, HA6.out, fun _ => HO.out, rfl⟩, by simp [intOf]⟩
        · have h00 := not_empty h0
          have hok : t.ok = nameB x := by
            rw [HO.out, decide_eq_false (fun h => h0 (size_empty.1 h))]; rfl
          have HO' := Lib.hid hok
          clear hok HO h0
          cases hn : nameB x with
          | true =>
            rw [hn] at HO'
            go_wp2
            refine ⟨⟨6, by go_num, by omega, HA6.out, fun _ => HO'.out, rfl⟩, by simp [intOf]⟩
          | false =>
            rw [hn] at HO'
            go_wp2
            go_ret
            rw [HO'.out]
            exact ⟨rfl, B0.out⟩
    · obtain rfl : k = 6 := by omega
      have HO := Lib.hid (hfull rfl)
      clear hfull hall
      go_wp2
      go_ret
      rw [HO.out]
      exact ⟨rfl, B0.out⟩

end Go.Proofs.YtlibncefiibgaaaDoor
