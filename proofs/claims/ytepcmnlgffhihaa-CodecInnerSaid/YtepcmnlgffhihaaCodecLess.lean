import Derived.Test.YtepcmnlgffhihaaCodecFixed
import Derived.Test.YtepcmnlgffhihaaCodecOrderMath
import Derived.Deep.QuietTactic
import Derived.BigQuiet
import Derived.Deep.RegionHeld3
namespace Go.Proofs.Ytepcmnlgffhihaa
open Go.RowKit

/-- A truth is told; nothing old is changed. -/
def GivesBool (w : World) (b : Bool) (e : Ending) (w' : World) : Prop := e = .returned (.bool b) ∧ Below w.heap.size w w'

theorem bytes_ne {p q : ByteArray} (h : ¬ p = q) : (p.toList == q.toList) = false := by
  rw [beq_eq_false_iff_ne, ByteArray.toList_eq, ByteArray.toList_eq]
  exact fun e => h (Go.WideShapes.bytes_inj e)

theorem bytes_ne' {p q : ByteArray} (h : ¬ p = q) : (p.data.toList == q.data.toList) = false := by
  rw [beq_eq_false_iff_ne]
  exact fun e => h (Go.WideShapes.bytes_inj e)

set_option maxRecDepth 100000 in
set_option maxHeartbeats 1000000 in
theorem less_any (w : World) (p q : ByteArray) (a b : Nat) (x y : Bool) :
    Calls Try.prog 66 #[.agg #[.string p, .int .u64 a, .bool x], .agg #[.string q, .int .u64 b, .bool y]] w (GivesBool w (lessE p.data.toList q.data.toList a b x y)) := by
  by_cases hpq : p = q
  · subst hpq
    by_cases hab : a = b
    · subst hab
      cases x <;> cases y
      all_goals
        go_enter Try.func66, Try.ntmps66
        go_wp2
        go_ret
        exact ⟨by simp [lessE], ((Below.refl _ _).alloc (Nat.le_refl _) _).alloc (by simp) _⟩
    · have hne : ((a : Int) == b) = false := by simp; omega
      have hab' : Lib.hid hab = Lib.hid hab := rfl
      have Hab := Lib.hid hab
      clear hab' hab
      go_enter Try.func66, Try.ntmps66
      go_wp2
      go_ret
      exact ⟨by simp [lessE, Hab.out], ((Below.refl _ _).alloc (Nat.le_refl _) _).alloc (by simp) _⟩
  · have hne := bytes_ne hpq
    have hne' := Lib.hid (bytes_ne' hpq)
    go_enter Try.func66, Try.ntmps66
    go_wp2
    go_ret
    exact ⟨by simp [lessE, hne'.out, ByteArray.toList_eq], ((Below.refl _ _).alloc (Nat.le_refl _) _).alloc (by simp) _⟩

/-- The two entries' variables. -/
structure Two (w w' : World) (p q : ByteArray) (a b : Nat) (x y : Bool) : Prop where
  c0 : w'.cell? ⟨w.heap.size, 0, none⟩ = some (.string p)
  c1 : w'.cell? ⟨w.heap.size, 1, none⟩ = some (.int .u64 (a : Int))
  c2 : w'.cell? ⟨w.heap.size, 2, none⟩ = some (.bool x)
  d0 : w'.cell? ⟨w.heap.size + 1, 0, none⟩ = some (.string q)
  d1 : w'.cell? ⟨w.heap.size + 1, 1, none⟩ = some (.int .u64 (b : Int))
  d2 : w'.cell? ⟨w.heap.size + 1, 2, none⟩ = some (.bool y)

theorem Two.below {w w1 w2 : World} {p q : ByteArray} {a b : Nat} {x y : Bool} (h : Two w w1 p q a b x y) (hb : Below w1.heap.size w1 w2) (hs : w.heap.size + 1 < w1.heap.size) : Two w w2 p q a b x y :=
  ⟨(hb.cell (by show w.heap.size < _; omega)).trans h.c0, (hb.cell (by show w.heap.size < _; omega)).trans h.c1, (hb.cell (by show w.heap.size < _; omega)).trans h.c2,
   (hb.cell hs).trans h.d0, (hb.cell hs).trans h.d1, (hb.cell hs).trans h.d2⟩

theorem Two.all {w w1 : World} {p q : ByteArray} {a b : Nat} {x y : Bool} (h : Two w w1 p q a b x y) :
    w1.cell? ⟨w.heap.size, 0, none⟩ = some (.string p) ∧ w1.cell? ⟨w.heap.size, 1, none⟩ = some (.int .u64 (a : Int)) ∧ w1.cell? ⟨w.heap.size, 2, none⟩ = some (.bool x) ∧ w1.cell? ⟨w.heap.size + 1, 0, none⟩ = some (.string q) ∧ w1.cell? ⟨w.heap.size + 1, 1, none⟩ = some (.int .u64 (b : Int)) ∧ w1.cell? ⟨w.heap.size + 1, 2, none⟩ = some (.bool y) :=
  ⟨h.c0, h.c1, h.c2, h.d0, h.d1, h.d2⟩

theorem two_start (w : World) (p q : ByteArray) (a b : Nat) (x y : Bool) : Two w ((w.alloc (.cells #[.string p, .int .u64 (a : Int), .bool x] 79)).alloc (.cells #[.string q, .int .u64 (b : Int), .bool y] 79)) p q a b x y := by
  have hs : (w.alloc (.cells #[.string p, .int .u64 (a : Int), .bool x] 79)).heap.size = w.heap.size + 1 := by simp
  have hb : Below (w.heap.size + 1) (w.alloc (.cells #[.string p, .int .u64 (a : Int), .bool x] 79)) ((w.alloc (.cells #[.string p, .int .u64 (a : Int), .bool x] 79)).alloc (.cells #[.string q, .int .u64 (b : Int), .bool y] 79)) := (Below.refl _ _).alloc (by rw [hs]; exact Nat.le_refl _) _
  have hn := fun j => World.cell?_alloc_new (w.alloc (.cells #[.string p, .int .u64 (a : Int), .bool x] 79)) #[.string q, .int .u64 (b : Int), .bool y] 79 j
  rw [hs] at hn
  exact ⟨(hb.cell (Nat.lt_succ_self _)).trans (World.cell?_alloc_new w _ _ 0), (hb.cell (Nat.lt_succ_self _)).trans (World.cell?_alloc_new w _ _ 1), (hb.cell (Nat.lt_succ_self _)).trans (World.cell?_alloc_new w _ _ 2), hn 0, hn 1, hn 2⟩

set_option maxRecDepth 100000 in
set_option maxHeartbeats 1000000 in
theorem codecOrder_walk (w : World) (p q : ByteArray) (a b : Nat) (x y : Bool) (ha : a < 18446744073709551616) (hb : b < 18446744073709551616) :
    Calls Try.prog 13 #[.agg #[.string p, .int .u64 a, .bool x], .agg #[.string q, .int .u64 b, .bool y]] w (SaysTrue w) := by
  have Ha := Lib.hid ha
  have Hb := Lib.hid hb
  clear ha hb
  have hb0 : Below w.heap.size w ((w.alloc (.cells #[.string p, .int .u64 (a : Int), .bool x] 79)).alloc (.cells #[.string q, .int .u64 (b : Int), .bool y] 79)) := ((Below.refl _ _).alloc (Nat.le_refl _) _).alloc (by simp) _
  by_cases hp : 2000 < p.size
  · have hp' : (2000 : Int) < p.size := by omega
    go_enter Try.func13, Try.ntmps13
    go_wp2_with (go_at_call 55; go_must (refine (codec_fixed _).mono ?_))
    rintro e w1 ⟨rfl, b1⟩
    have hbs := b1.size
    simp at hbs
    have h2 := (two_start w p q a b x y).below b1 (by simp)
    have b2 := hb0.trans (b1.mono (by simp; omega))
    obtain ⟨c0, c1, c2, d0, d1, d2⟩ := h2
    clear b1 hb0
    go_wp2
    go_ret
    exact ⟨rfl, b2⟩
  · have hp' : ¬ (2000 : Int) < p.size := by omega
    by_cases hq : 2000 < q.size
    · have hq' : (2000 : Int) < q.size := by omega
      go_enter Try.func13, Try.ntmps13
      go_wp2_with (go_at_call 55; go_must (refine (codec_fixed _).mono ?_))
      rintro e w1 ⟨rfl, b1⟩
      have hbs := b1.size
      simp at hbs
      have h2 := (two_start w p q a b x y).below b1 (by simp)
      have b2 := hb0.trans (b1.mono (by simp; omega))
      obtain ⟨c0, c1, c2, d0, d1, d2⟩ := h2
      clear b1 hb0
      go_wp2
      go_ret
      exact ⟨rfl, b2⟩
    · have hq' : ¬ (2000 : Int) < q.size := by omega
      go_enter Try.func13, Try.ntmps13
      go_wp2_with (go_at_call 55; go_must (refine (codec_fixed _).mono ?_))
      rintro e w1 ⟨rfl, b1⟩
      have hbs := b1.size
      simp at hbs
      have h2 := (two_start w p q a b x y).below b1 (by simp)
      have b2 := hb0.trans (b1.mono (by simp; omega))
      have H2 := Lib.hid h2
      have hs1 : w.heap.size + 1 < w1.heap.size := by omega
      have B2 := Lib.hid b2
      obtain ⟨c0, c1, c2, d0, d1, d2⟩ := h2
      clear b1 hb0 b2 hbs
      have hpn : p.size ≤ 1000000000 := by omega
      have hqn : q.size ≤ 1000000000 := by omega
      go_wp2_with fail
      go_region_held3 (fun w' => w'.cell? ⟨w.heap.size, 0, none⟩ = some (.string p) ∧ w'.cell? ⟨w.heap.size, 1, none⟩ = some (.int .u64 (a : Int)) ∧ w'.cell? ⟨w.heap.size, 2, none⟩ = some (.bool x) ∧ w'.cell? ⟨w.heap.size + 1, 0, none⟩ = some (.string q) ∧ w'.cell? ⟨w.heap.size + 1, 1, none⟩ = some (.int .u64 (b : Int)) ∧ w'.cell? ⟨w.heap.size + 1, 2, none⟩ = some (.bool y)) (first | exact T6.1.all | exact T5.1.all | exact H2.out.all)
        (first | (go_at_call 62; refine (inner_any _ _ _ _ ?_ ?_).mono ?_; (first | exact hpn | exact hqn); (first | exact Ha.out | exact Hb.out); rintro e w6 ⟨rfl, b6⟩; have T6 : Two w w6 p q a b x y ∧ Below w1.heap.size w1 w6 := ⟨T5.1.below b6 (Nat.lt_of_lt_of_le hs1 T5.2.size), T5.2.trans (b6.mono T5.2.size)⟩; clear b6) | (go_at_call 62; refine (inner_any _ _ _ _ ?_ ?_).mono ?_; (first | exact hpn | exact hqn); (first | exact Ha.out | exact Hb.out); rintro e w5 ⟨rfl, b5⟩; have T5 : Two w w5 p q a b x y ∧ Below w1.heap.size w1 w5 := ⟨H2.out.below (below_undrew b5) hs1, below_undrew b5⟩; clear b5))
      all_goals
        clear c0 c1 c2 d0 d1 d2
        obtain ⟨e0, e1, e2, f0, f1, f2⟩ := T6.1.all
        have hL := less_inner p.data.toList q.data.toList a b x y Ha.out Hb.out
        have hs6 := T6.2.size
        have TT := Lib.hid T6
        clear T6 T5
        go_wp2_with (go_at_call 66; go_must (refine (less_any _ p q a b x y).mono ?_))
        rintro e w7 ⟨rfl, b7⟩
        have T7 := TT.out.1.below b7 (by omega)
        obtain ⟨g0, g1, g2, h0, h1, h2⟩ := T7.all
        have B7 := Lib.hid b7
        clear T7 b7 e0 e1 e2 f0 f1 f2
        have hb9 : Below w.heap.size w w7 := by
          have s1 := B2.out.size
          have s6 := TT.out.2.size
          exact (B2.out.trans (TT.out.2.mono s1)).trans (B7.out.mono (by omega))
        have HB := Lib.hid hb9
        clear hb9
        go_wp2
        all_goals go_ret
        all_goals refine ⟨?_, HB.out⟩
        all_goals simp
        · refine (inner_inj _ _ _ _ _ _ Ha.out Hb.out).2 ⟨?_, by omega, rfl⟩
          rw [← ByteArray.toList_eq, ← ByteArray.toList_eq]
          assumption
        all_goals
          intro h
          obtain ⟨k1, k2, k3⟩ := (inner_inj _ _ _ _ _ _ Ha.out Hb.out).1 h
          have k4 : p.toList = q.toList := by rw [ByteArray.toList_eq, ByteArray.toList_eq, k1]
          first
            | exact absurd k4 ‹¬p.toList = q.toList›
            | exact absurd k3 ‹¬x = y›
            | omega
end Go.Proofs.Ytepcmnlgffhihaa
