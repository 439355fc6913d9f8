import Derived.Test.YtidnalihgihnaaaTupleFew
namespace Go.Proofs.Ytidnalihgihnaaa
open Go Go.RowKit

def meantB (p s : ByteArray) : Bool := p.toList.isEmpty || p.toList == s.toList
def matchB (f0 f1 f2 : ByteArray) (t : Six) : Bool := meantB f0 t.a && meantB f1 t.b && meantB f2 t.c

/-- A truth is told; the world is as it was. -/
def KeepsBool (w : World) (b : Bool) (e : Ending) (w' : World) : Prop := e = .returned (.bool b) ∧ w = w'

set_option maxRecDepth 100000 in
set_option maxHeartbeats 1000000 in
theorem meant_any (w : World) (p s : ByteArray) : Calls Try.prog 15 #[.string p, .string s] w (KeepsBool w (meantB p s)) := by
  have hm : meantB p s = (p.toList.isEmpty || p.toList == s.toList) := rfl
  have HM := Lib.hid hm
  clear hm
  cases h : p.toList.isEmpty with
  | true =>
    rw [h, Bool.true_or] at HM
    go_enter Try.func15, Try.ntmps15
    go_wp2
    go_ret
    rw [HM.out]
    exact ⟨rfl, rfl⟩
  | false =>
    rw [h, Bool.false_or] at HM
    go_enter Try.func15, Try.ntmps15
    go_wp2
    go_ret
    rw [HM.out]
    exact ⟨rfl, rfl⟩

def filterV (f0 f1 f2 : ByteArray) : Value := .agg #[.string f0, .string f1, .string f2]

set_option maxRecDepth 100000 in
set_option maxHeartbeats 1000000 in
theorem match_any (w : World) (f0 f1 f2 : ByteArray) (t : Six) : Calls Try.prog 7 #[filterV f0 f1 f2, t.val] w (GivesBool w (matchB f0 f1 f2 t)) := by
  obtain ⟨a, b, c, d, e, f⟩ := t
  have hm : matchB f0 f1 f2 ⟨a, b, c, d, e, f⟩ = (meantB f0 a && meantB f1 b && meantB f2 c) := rfl
  rw [hm]
  have h0 := fun w => meant_any w f0 a
  have h1 := fun w => meant_any w f1 b
  have h2 := fun w => meant_any w f2 c
  generalize meantB f0 a = m0 at *
  generalize meantB f1 b = m1 at *
  generalize meantB f2 c = m2 at *
  have H0 := Lib.hid h0
  have H1 := Lib.hid h1
  have H2 := Lib.hid h2
  clear h0 h1 h2 hm
  unfold Six.val filterV
  go_enter Try.func7, Try.ntmps7
  have hb : ∀ o1 o2, Below w.heap.size w ((w.alloc o1).alloc o2) := fun o1 o2 => (Below.refl _ _).alloc (Nat.le_refl _) _ |>.alloc (by simp) _
  have HB := Lib.hid hb
  clear hb
  go_wp2_with (go_at_call 15; go_must (refine (H0.out _).mono ?_))
  rintro e1 w1 ⟨rfl, rfl⟩
  cases m0 with
  | false =>
    go_wp2
    go_ret
    exact ⟨rfl, HB.out _ _⟩
  | true =>
    go_wp2_with (go_at_call 15; go_must (refine (H1.out _).mono ?_))
    rintro e2 w2 ⟨rfl, rfl⟩
    cases m1 with
    | false =>
      go_wp2
      go_ret
      exact ⟨rfl, HB.out _ _⟩
    | true =>
      go_wp2_with (go_at_call 15; go_must (refine (H2.out _).mono ?_))
      rintro e3 w3 ⟨rfl, rfl⟩
      cases m2 with
      | false =>
        go_wp2
        go_ret
        exact ⟨rfl, HB.out _ _⟩
      | true =>
        go_wp2
        go_ret
        exact ⟨rfl, HB.out _ _⟩

set_option maxRecDepth 100000 in
set_option maxHeartbeats 1000000 in
theorem refmatch_any (w : World) (f0 f1 f2 : ByteArray) (t : Six) : Calls Try.prog 8 #[filterV f0 f1 f2, t.val] w (GivesBool w (matchB f0 f1 f2 t)) := by
  obtain ⟨a, b, c, d, e, f⟩ := t
  have hm : matchB f0 f1 f2 ⟨a, b, c, d, e, f⟩ = ((f0.toList.isEmpty || f0.toList == a.toList) && (f1.toList.isEmpty || f1.toList == b.toList) && (f2.toList.isEmpty || f2.toList == c.toList)) := rfl
  have HM := Lib.hid hm
  clear hm
  unfold Six.val filterV
  have hb : ∀ o1 o2, Below w.heap.size w ((w.alloc o1).alloc o2) := fun o1 o2 => (Below.refl _ _).alloc (Nat.le_refl _) _ |>.alloc (by simp) _
  have HB := Lib.hid hb
  clear hb
  cases h0 : f0.toList.isEmpty <;> cases k0 : (f0.toList == a.toList) <;> cases h1 : f1.toList.isEmpty <;> cases k1 : (f1.toList == b.toList) <;> cases h2 : f2.toList.isEmpty <;> cases k2 : (f2.toList == c.toList)
  all_goals
    rw [h0, k0, h1, k1, h2, k2] at HM
    go_enter Try.func8, Try.ntmps8
    go_wp2
    go_ret
    rw [HM.out]
    exact ⟨rfl, HB.out _ _⟩
end Go.Proofs.Ytidnalihgihnaaa
