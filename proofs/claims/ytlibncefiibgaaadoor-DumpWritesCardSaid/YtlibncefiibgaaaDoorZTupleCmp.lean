import Derived.Test.YtlibncefiibgaaaDoorMga
import Derived.BigQuiet
import Derived.Deep.QuietTactic
namespace Go.Proofs.YtlibncefiibgaaaDoor
open Go Go.RowKit

/-- An order is told; nothing old is changed. -/
def GivesInt (w : World) (n : Int) (e : Ending) (w' : World) : Prop := e = .returned (.int .i64 n) ∧ Below w.heap.size w w'
/-- An order is told; the world is as it was. -/
def KeepsInt (w : World) (n : Int) (e : Ending) (w' : World) : Prop := e = .returned (.int .i64 n) ∧ w = w'

theorem toList_eq' (s : ByteArray) : s.toList = s.data.toList := Go.ByteArray.toList_eq s

def cmpB (x y : ByteArray) : Int := if Op.bytesLess x.toList y.toList then -1 else if x.toList == y.toList then 0 else 1

def cmpBs : List ByteArray → List ByteArray → Int
  | a :: x, b :: y => if cmpB a b = 0 then cmpBs x y else cmpB a b
  | _, _ => 0

theorem cmpBs_eq : ∀ (p q : List ByteArray), cmpBs p q = cmpL (p.map (·.data.toList)) (q.map (·.data.toList))
  | [], _ => by simp [cmpBs, cmpL]
  | _ :: _, [] => by simp [cmpBs, cmpL]
  | a :: x, b :: y => by
    have ih := cmpBs_eq x y
    unfold cmpBs
    rw [ih, List.map_cons, List.map_cons, cmpL]
    unfold cmpB
    rw [toList_eq', toList_eq']
    cases Op.bytesLess a.data.toList b.data.toList with
    | true => simp
    | false => cases (a.data.toList == b.data.toList) <;> simp

/-- A truth is told; the world is as it was. -/
def KeepsBool' (w : World) (b : Bool) (e : Ending) (w' : World) : Prop := e = .returned (.bool b) ∧ w = w'

set_option maxRecDepth 100000 in
set_option maxHeartbeats 1000000 in
theorem isnan_any (w : World) (x : ByteArray) : Calls Tryd.prog 62 #[.string x] w (KeepsBool' w false) := by
  go_enter Tryd.func62, Tryd.ntmps62
  go_wp2
  go_ret
  exact ⟨rfl, rfl⟩

set_option maxRecDepth 100000 in
set_option maxHeartbeats 1000000 in
theorem compare_any (w : World) (x y : ByteArray) : Calls Tryd.prog 48 #[.string x, .string y] w (KeepsInt w (cmpB x y)) := by
  have hc : cmpB x y = if Op.bytesLess x.toList y.toList then -1 else if x.toList == y.toList then 0 else 1 := rfl
  have HC := Lib.hid hc
  clear hc
  cases hl : Op.bytesLess x.toList y.toList with
  | true =>
    rw [hl, if_pos rfl] at HC
    go_enter Tryd.func48, Tryd.ntmps48
    go_wp2_with (go_at_call 62; go_must (refine (isnan_any w x).mono ?_))
    rintro e w1 ⟨rfl, rfl⟩
    go_wp2_with (go_at_call 62; go_must (refine (isnan_any w y).mono ?_))
    rintro e w1 ⟨rfl, rfl⟩
    go_wp2
    go_ret
    rw [HC.out]
    exact ⟨rfl, rfl⟩
  | false =>
    cases he : (x.toList == y.toList) with
    | true =>
      rw [hl, he, if_neg (by decide), if_pos rfl] at HC
      go_enter Tryd.func48, Tryd.ntmps48
      go_wp2_with (go_at_call 62; go_must (refine (isnan_any w x).mono ?_))
      rintro e w1 ⟨rfl, rfl⟩
      go_wp2_with (go_at_call 62; go_must (refine (isnan_any w y).mono ?_))
      rintro e w1 ⟨rfl, rfl⟩
      go_wp2
      go_ret
      rw [HC.out]
      exact ⟨rfl, rfl⟩
    | false =>
      rw [hl, he, if_neg (by decide), if_neg (by decide)] at HC
      go_enter Tryd.func48, Tryd.ntmps48
      go_wp2_with (go_at_call 62; go_must (refine (isnan_any w x).mono ?_))
      rintro e w1 ⟨rfl, rfl⟩
      go_wp2_with (go_at_call 62; go_must (refine (isnan_any w y).mono ?_))
      rintro e w1 ⟨rfl, rfl⟩
      go_wp2
      go_ret
      rw [HC.out]
      exact ⟨rfl, rfl⟩

def SlcRel (p q : List ByteArray) (i : Value) : Prop := ∃ k : Nat, i = .int .i64 (k : Int) ∧ k ≤ p.length ∧ cmpBs p q = cmpBs (p.drop k) (q.drop k)

set_option maxRecDepth 100000 in
set_option maxHeartbeats 1000000 in
theorem slices_any (w : World) (b1 b2 n : Nat) (p q : List ByteArray) (hp : Reads w 1 (.slice (some ⟨b1, 0, none⟩) n n) n (scells p)) (hq : Reads w 1 (.slice (some ⟨b2, 0, none⟩) n n) n (scells q)) (hn : n ≤ 1000) :
    Calls Tryd.prog 38 #[.slice (some ⟨b1, 0, none⟩) n n, .slice (some ⟨b2, 0, none⟩) n n] w (KeepsInt w (cmpBs p q)) := by
  have hlp : p.length = n := by have := hp.1; simpa [scells] using this
  have hlq : q.length = n := by have := hq.1; simpa [scells] using this
  have HP := Lib.hid hp
  have HQ := Lib.hid hq
  have HLp := Lib.hid hlp
  have HLq := Lib.hid hlq
  clear hp hq hlp hlq
  go_enter Tryd.func38, Tryd.ntmps38
  go_wp2
  go_loop [11] (fun i => SlcRel p q i) (fun i => n - (intOf i).toNat)
  case atStart => exact ⟨0, rfl, Nat.zero_le _, by simp⟩
  case round =>
    obtain ⟨k, rfl, hk, heq⟩ := hrel
    rw [HLp.out] at hk
    by_cases hlt : k < n
    · obtain ⟨c1, o1, x, e1, hx, _, cx⟩ := HP.out.scell k hlt
      obtain ⟨c2, o2, y, e2, hy, _, cy⟩ := HQ.out.scell k hlt
      cases e1
      cases e2
      rw [Nat.zero_add] at cx cy
      have hstep : cmpBs (p.drop k) (q.drop k) = if cmpB x y = 0 then cmpBs (p.drop (k + 1)) (q.drop (k + 1)) else cmpB x y := by
        have kp : k < p.length := (List.getElem?_eq_some_iff.1 hx).1
        have kq : k < q.length := (List.getElem?_eq_some_iff.1 hy).1
        rw [List.drop_eq_getElem_cons kp, List.drop_eq_getElem_cons kq, cmpBs]
        rw [List.getElem?_eq_getElem kp] at hx
        rw [List.getElem?_eq_getElem kq] at hy
        cases hx
        cases hy
        rfl
      rw [hstep] at heq
      have HEq := Lib.hid heq
      have hcmp := fun w => compare_any w x y
      clear hx hy hstep heq
      have hways : cmpB x y = -1 ∨ cmpB x y = 0 ∨ cmpB x y = 1 := by unfold cmpB; split; exact .inl rfl; split; exact .inr (.inl rfl); exact .inr (.inr rfl)
      generalize cmpB x y = c at *
      have HCm := Lib.hid hcmp
      clear hcmp
      go_wp2_with (go_at_call 48; go_must (refine (HCm.out _).mono ?_))
      rintro e w1 ⟨rfl, rfl⟩
      rcases hways with rfl | rfl | rfl
      · rw [if_neg (by decide)] at HEq
        go_wp2
        go_ret
        rw [HEq.out]
        exact ⟨rfl, rfl⟩
      · rw [if_pos rfl] at HEq
        go_wp2
        exact ⟨⟨k + 1, by go_num, by rw [HLp.out]; omega, HEq.out⟩, by simp [intOf]; omega⟩
      · rw [if_neg (by decide)] at HEq
        go_wp2
        go_ret
        rw [HEq.out]
        exact ⟨rfl, rfl⟩
    · obtain rfl : k = n := by omega
      have hlt' : ¬ ((k : Int) < k) := by omega
      have h0 : cmpBs p q = 0 := by
        rw [heq, List.drop_of_length_le (by rw [HLp.out]; exact Nat.le_refl _)]
        simp [cmpBs]
      have H0 := Lib.hid h0
      clear heq h0
      go_wp2
      go_ret
      rw [H0.out]
      exact ⟨rfl, rfl⟩
end Go.Proofs.YtlibncefiibgaaaDoor
