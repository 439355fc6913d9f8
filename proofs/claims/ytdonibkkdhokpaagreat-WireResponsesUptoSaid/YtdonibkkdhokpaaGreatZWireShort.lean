/- sentrylaw37.short. -/
import Derived.Test.YtdonibkkdhokpaaGreatZWireV
namespace Go.Proofs.YtdonibkkdhokpaaGreat
open Go Go.RowKit

def shortL (l : List ByteArray) : Bool := l.all fun s => decide (s.size ≤ 100)

def PartsPost (w : World) (t : T6) (e : Ending) (w' : World) : Prop :=
  ∃ b, e = .returned (.slice (some ⟨b, 0, none⟩) 6 6) ∧ Reads w' 1 (.slice (some ⟨b, 0, none⟩) 6 6) 6 (scells t.list) ∧ Below w.heap.size w w'

set_option maxRecDepth 100000 in
theorem parts_any (w : World) (t : T6) : Calls Tryz.prog 83 #[.agg #[.string t.a, .string t.b, .string t.c, .string t.d, .string t.e, .string t.f]] w (PartsPost w t) := by
  obtain ⟨a, b, c, d, e, f⟩ := t
  go_enter Tryz.func83, Tryz.ntmps83
  go_wp2
  go_ret
  refine ⟨w.heap.size + 1, by simp, reads_lit rfl ?_ (by decide), (Below.refl _ _).alloc (Nat.le_refl _) _ |>.alloc (by simp) _⟩
  have := heap_alloc_new (w.alloc (.cells #[.string a, .string b, .string c, .string d, .string e, .string f] 62)) (.cells #[.string a, .string b, .string c, .string d, .string e, .string f] 9)
  simpa [T6.list, scells] using this

def ShortIn (t : T6) (i : Value) : Prop := ∃ k : Nat, i = .int .i64 (k : Int) ∧ k ≤ 6 ∧ shortL (t.list.take k) = true

set_option maxRecDepth 100000 in
set_option maxHeartbeats 1000000 in
theorem short_any (w : World) (t : T6) : Calls Tryz.prog 15 #[.agg #[.string t.a, .string t.b, .string t.c, .string t.d, .string t.e, .string t.f]] w (GivesBool w (shortL t.list)) := by
  have HP := Lib.hid (fun w => parts_any w t)
  obtain ⟨A, B, C, D, E, F, hA⟩ : ∃ A B C D E F, A = t.a ∧ B = t.b ∧ C = t.c ∧ D = t.d ∧ E = t.e ∧ F = t.f := ⟨_, _, _, _, _, _, rfl, rfl, rfl, rfl, rfl, rfl⟩
  obtain ⟨hA, hB, hC, hD, hE, hF⟩ := hA
  rw [← hA, ← hB, ← hC, ← hD, ← hE, ← hF] at HP ⊢
  clear hA hB hC hD hE hF
  have hb0 : Below w.heap.size w (w.alloc (.cells #[.string A, .string B, .string C, .string D, .string E, .string F] 62)) := (Below.refl _ _).alloc (Nat.le_refl _) _
  have HB := Lib.hid hb0
  clear hb0
  go_enter Tryz.func15, Tryz.ntmps15
  go_wp2_with (go_at_call 83; go_must (refine (HP.out _).mono ?_))
  rintro e w2 ⟨b, rfl, r2, b2⟩
  have HB2 := Lib.hid (HB.out.trans (b2.mono HB.out.size))
  have HR := Lib.hid r2
  clear b2 r2 HP HB
  go_wp2
  go_loop [8] (fun i => ShortIn t i) (fun i => 6 - (intOf i).toNat)
  case atStart => exact ⟨0, rfl, Nat.zero_le _, rfl⟩
  case round =>
    obtain ⟨m, rfl, hm, hin⟩ := hrel
    have Hin := Lib.hid hin
    clear hin
    by_cases hml : m < 6
    · obtain ⟨b', off, s, hbe, hs, hbs, hcs⟩ := HR.out.scell m hml
      cases hbe
      rw [Nat.zero_add] at hcs
      have hsu : shortL (t.list.take (m + 1)) = (shortL (t.list.take m) && decide (s.size ≤ 100)) := by
        unfold shortL
        rw [List.take_add_one, List.all_append, hs]; simp
      rw [Hin.out] at hsu
      by_cases h100 : s.size ≤ 100
      · have HSs := Lib.hid hsu
        have h2 : ¬ (100 : Int) < s.size := by omega
        clear hsu hs
        go_wp2
        refine ⟨⟨m + 1, by go_num, by omega, ?_⟩, by simp [intOf]; omega⟩
        rw [HSs.out]
        simpa using h100
      · have hft : shortL t.list = false := by
          unfold shortL
          rw [List.all_eq_false]
          exact ⟨s, List.mem_of_getElem? hs, by simpa using h100⟩
        have HFf := Lib.hid hft
        have h2 : (100 : Int) < s.size := by omega
        clear hsu hs hft
        go_wp2
        go_ret
        rw [HFf.out]
        exact ⟨rfl, HB2.out⟩
    · obtain rfl : m = 6 := by omega
      have HTi := Lib.hid (show shortL t.list = true from Hin.out)
      clear Hin
      go_wp2
      go_ret
      rw [HTi.out]
      exact ⟨rfl, HB2.out⟩
end Go.Proofs.YtdonibkkdhokpaaGreat
