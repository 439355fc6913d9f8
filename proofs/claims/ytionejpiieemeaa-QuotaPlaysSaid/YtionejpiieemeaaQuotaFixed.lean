import Derived.Test.YtionejpiieemeaaQuotaClients
namespace Go.Proofs.Ytionejpiieemeaa
open Go Go.RowKit

def QS.new (rate most : Nat) : QS := ⟨min rate 4294967296, min most 4294967296, 0, fun _ => none⟩

theorem QS.new_ok (rate most : Nat) : (QS.new rate most).ok := by
  refine ⟨Nat.min_le_right _ _, Nat.min_le_right _ _, by show 0 ≤ _; omega, fun c h a hc => ?_⟩
  cases hc

/-- A new quota. -/
def NewPost (w : World) (S : QS) (e : Ending) (w' : World) : Prop :=
  ∃ b m, e = .returned (.pointer (some ⟨b, 0, none⟩)) ∧ w.heap.size ≤ b ∧ w.heap.size ≤ m ∧ QAt w' b m S 0 ∧ Below w.heap.size w w'

theorem look_empty : Look (.map []) (fun _ => none) := fun _ => ⟨rfl, fun p h => by cases h⟩

set_option maxRecDepth 100000 in
set_option maxHeartbeats 1000000 in
theorem new_any (w : World) (rate most : Nat) : Calls Try.prog 9 #[.int .u64 (rate : Int), .int .u64 (most : Int)] w (NewPost w (QS.new rate most)) := by
  have h1 : (min (rate : Int) 4294967296) = ((min rate 4294967296 : Nat) : Int) := by omega
  have h2 : (min (most : Int) 4294967296) = ((min most 4294967296 : Nat) : Int) := by omega
  have hmm := @run_makeMap Try.prog
  have hr : (QS.new rate most).rate = min rate 4294967296 := rfl
  have hm : (QS.new rate most).most = min most 4294967296 := rfl
  have HR := Lib.hid hr
  have HM := Lib.hid hm
  clear hr hm
  generalize min rate 4294967296 = r at *
  generalize min most 4294967296 = t at *
  go_enter Try.func9, Try.ntmps9
  go_wp2
  go_ret
  refine ⟨w.heap.size + 1, w.heap.size, rfl, by omega, Nat.le_refl _, ⟨?_, by omega, .map [], ?_, look_empty⟩, ((Below.refl _ _).alloc (Nat.le_refl _) _).alloc (by simp) _⟩
  · have := heap_alloc_new (w.alloc (.map #[] 0)) (.cells #[.int .u64 (r : Int), .int .u64 (t : Int), .int .u64 0, .map (some w.heap.size)] 47)
    rw [HR.out, HM.out, show (QS.new rate most).last = 0 from rfl]
    simpa using this
  · exact (World.ownsMap_made w _ _ _).alloc _

theorem pa : (⟨#[97]⟩ : ByteArray).size ≤ maxLen := by decide
theorem pb : (⟨#[98]⟩ : ByteArray).size ≤ maxLen := by decide

def f0 : QS := QS.new 1 3
def f1 : QS := f0.take ⟨#[97]⟩ 3 5
def f2 : QS := f1.take ⟨#[97]⟩ 1 5
def f3 : QS := f2.take ⟨#[97]⟩ 1 6

theorem f_ok : f0.ok ∧ f1.ok ∧ f2.ok ∧ f3.ok := by
  have h0 : f0.ok := QS.new_ok 1 3
  have h1 : f1.ok := QS.take_ok h0 _ _ (by decide)
  have h2 : f2.ok := QS.take_ok h1 _ _ (by decide)
  exact ⟨h0, h1, h2, QS.take_ok h2 _ _ (by decide)⟩

theorem f_says : f0.gives ⟨#[97]⟩ 3 5 = true ∧ f1.gives ⟨#[97]⟩ 1 5 = false ∧ f2.gives ⟨#[97]⟩ 1 6 = true ∧ (f3.tick 6).has ⟨#[98]⟩ = 3 := by decide

theorem f_keys (c : ByteArray) : ((f3.tick 6).g c).isSome = true ↔ c = ⟨#[97]⟩ := by
  show ((if c = ⟨#[97]⟩ then _ else (if c = ⟨#[97]⟩ then _ else (if c = ⟨#[97]⟩ then _ else (none : Option (Nat × Nat)))))).isSome = true ↔ _
  by_cases h : c = ⟨#[97]⟩ <;> simp [h]

theorem one_name {ss : List (List UInt8)} (hn : ss.Nodup) (hm : ∀ c : ByteArray, c.data.toList ∈ ss ↔ ((f3.tick 6).g c).isSome = true) : ss.length = 1 := by
  have h1 : ∀ x ∈ ss, x = [97] := by
    intro x hx
    have := (hm ⟨x.toArray⟩).1 (by simpa using hx)
    have := (f_keys _).1 this
    injection this with this
    have := congrArg Array.toList this
    simpa using this
  have h2 : [97] ∈ ss := (hm ⟨#[97]⟩).2 ((f_keys _).2 rfl)
  match ss, hn, h1, h2 with
  | [], _, _, h2 => cases h2
  | [_], _, _, _ => rfl
  | a :: b :: r, hn, h1, _ =>
    have ha := h1 a (by simp)
    have hb := h1 b (by simp)
    subst ha
    subst hb
    simp at hn

set_option maxRecDepth 100000 in
set_option maxHeartbeats 1000000 in
theorem fixed_any (w : World) : Calls Try.prog 7 #[] w (SaysTrue w) := by
  obtain ⟨k0, k1, k2, k3⟩ := f_ok
  obtain ⟨s0, s1, s2, s3⟩ := f_says
  have hnew := new_any w 1 3
  have t0 := fun w b m (h : QAt w b m f0 0) => take_walk w b m 0 3 5 f0 ⟨#[97]⟩ h k0 pa (by decide) (by decide) (by decide)
  have t1 := fun w b m (h : QAt w b m f1 1) => take_walk w b m 1 1 5 f1 ⟨#[97]⟩ h k1 pa (by decide) (by decide) (by decide)
  have t2 := fun w b m (h : QAt w b m f2 2) => take_walk w b m 2 1 6 f2 ⟨#[97]⟩ h k2 pa (by decide) (by decide) (by decide)
  have t3 := fun w b m (h : QAt w b m f3 3) => left_walk w b m 3 6 f3 ⟨#[98]⟩ h k3 pb (by decide)
  rw [s0] at t0
  rw [s1] at t1
  rw [s2] at t2
  rw [s3] at t3
  have H0 := Lib.hid t0
  have H1 := Lib.hid t1
  have H2 := Lib.hid t2
  have H3 := Lib.hid t3
  have HN := Lib.hid hnew
  clear k0 k1 k2 k3 s0 s1 s2 s3 t0 t1 t2 t3 hnew
  go_enter Try.func7, Try.ntmps7
  go_wp2_with (go_at_call 9; go_must (refine HN.out.mono ?_))
  rintro e w1 ⟨b, m, rfl, hb, hm, q1, b1⟩
  have Q1 := Lib.hid q1
  have B1 := Lib.hid b1
  clear q1 b1
  have bel : ∀ W W' l, Below w.heap.size w W → Touch W W' l → (∀ x, x ∈ l → x = b ∨ x = m) → Below w.heap.size w W' := fun W W' l h1 h2 h3 => h1.trans (h2.below h1.size (fun x hx => by rcases h3 x hx with rfl | rfl <;> assumption))
  have BL := Lib.hid bel
  clear bel
  go_wp2_with (go_at_call 13; go_must (refine (H0.out _ b m ?_).mono ?_))
  · exact Q1.out
  rintro e w2 ⟨rfl, q2, u2⟩
  have Q2 := Lib.hid q2
  have B2 := Lib.hid (BL.out _ _ _ B1.out u2 (by simp))
  clear q2 u2 Q1 B1
  go_wp2_with (go_at_call 13; go_must (refine (H1.out _ b m ?_).mono ?_))
  · exact Q2.out
  rintro e w3 ⟨rfl, q3, u3⟩
  have Q3 := Lib.hid q3
  have B3 := Lib.hid (BL.out _ _ _ B2.out u3 (by simp))
  clear q3 u3 Q2 B2
  go_wp2_with (go_at_call 13; go_must (refine (H2.out _ b m ?_).mono ?_))
  · exact Q3.out
  rintro e w4 ⟨rfl, q4, u4⟩
  have Q4 := Lib.hid q4
  have B4 := Lib.hid (BL.out _ _ _ B3.out u4 (by simp))
  clear q4 u4 Q3 B3
  go_wp2_with (go_at_call 11; go_must (refine (H3.out _ b m ?_).mono ?_))
  · exact Q4.out
  rintro e w5 ⟨rfl, q5, u5⟩
  have Q5 := Lib.hid q5
  have B5 := Lib.hid (BL.out _ _ _ B4.out u5 (by simp))
  clear q5 u5 Q4 B4
  go_wp2_with (go_at_call 15; go_must (refine (clients_any _ b m 3 (f3.tick 6) Q5.out (by decide)).mono ?_))
  rintro e w6 ⟨v, ss, rfl, n1, n2, _, n4, b6⟩
  have hl := one_name n1 n2
  rw [hl] at n4
  obtain ⟨_, a, cap, rfl, _⟩ := ownsRow.reads n4
  have B6 := Lib.hid (B5.out.trans (b6.mono B5.out.size))
  clear n1 n2 hl n4 b6
  go_wp2
  go_ret
  exact ⟨rfl, B6.out⟩
end Go.Proofs.Ytionejpiieemeaa
