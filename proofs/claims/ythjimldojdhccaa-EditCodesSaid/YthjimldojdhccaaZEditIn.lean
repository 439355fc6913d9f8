/- Numbers within the bound. -/
import Derived.Test.YthjimldojdhccaaZEditCmp
namespace Go.Proofs.Ythjimldojdhccaa
open Go Go.RowKit Go.Lib Go.Shelf

/-- May an edit have the number? -/
def inB (n : Int) : Bool := decide (0 ≤ n) && decide (n < 4611686018427387904)

set_option maxRecDepth 100000 in
set_option maxHeartbeats 1000000 in
theorem outB_any (w : World) (n : Int) : Calls Try.prog 52 #[.int .i64 n] w fun e w' => e = .returned (.bool (!inB n)) ∧ w' = w := by
  have hb : inB n = (decide (0 ≤ n) && decide (n < 4611686018427387904)) := rfl
  have HB := Lib.hid hb
  clear hb
  go_enter Try.func52, Try.ntmps52
  by_cases h1 : n < 0
  · have E1 := Lib.hid (HB.out.trans (by simp; omega : _ = false))
    go_wp2
    go_ret
    exact ⟨by rw [E1.out]; rfl, rfl⟩
  · by_cases h2 : n < 4611686018427387904
    · have h3 : ¬ (4611686018427387904 : Int) ≤ n := by omega
      have E1 := Lib.hid (HB.out.trans (by simp; omega : _ = true))
      go_wp2
      go_ret
      exact ⟨by rw [E1.out]; rfl, rfl⟩
    · have h3 : (4611686018427387904 : Int) ≤ n := by omega
      have E1 := Lib.hid (HB.out.trans (by simp; omega : _ = false))
      go_wp2
      go_ret
      exact ⟨by rw [E1.out]; rfl, rfl⟩

def ncells (l : List Int) : List Value := l.map (Value.int .i64)

def NumPost (w : World) (b : Bool) (e : Ending) (w' : World) : Prop := e = .returned (.bool b) ∧ ∃ q, w' = w.drewN q

set_option maxRecDepth 100000 in
theorem contains_any (w : World) (a : Option Addr) (n cap : Nat) (l : List Int) (h : Reads w 1 (.slice a n cap) n (ncells l)) :
    Calls Try.prog 51 #[.slice a n cap, .func (.func 52) #[] #[]] w (NumPost w (l.any fun x => !inB x)) := by
  obtain ⟨hl, a', cap', hv, h1, h2, h3⟩ := h
  cases hv
  have hll : l.length = n := by simpa [ncells] using hl
  unfold maxLen at h2
  by_cases h0 : n = 0
  · subst h0
    have : l = [] := List.length_eq_zero_iff.1 hll
    subst this
    refine (Try.slices_ContainsFunc_empty (α := Int) a cap _ w).mono ?_
    rintro e w' ⟨rfl, rfl⟩
    exact ⟨rfl, 0, rfl⟩
  · have hz : (ncells l)[0]? = some ((ncells l)[0]'(by rw [hl]; omega)) := List.getElem?_eq_getElem _
    obtain ⟨b, off, rfl, _, _⟩ := h3 0 _ hz
    refine (Try.slices_ContainsFunc (Value.int .i64) (fun x => !inB x) 52 #[] (enters_of Try.func52 (by kernel_rfl) rfl) b off n cap l w ?_ (by omega) (by omega) ?_).mono ?_
    · intro W x _
      refine (outB_any W x).mono ?_
      rintro e w' ⟨rfl, rfl⟩
      exact ⟨rfl, 0, rfl⟩
    · intro j hj
      have h4 : (ncells l)[j]? = some (.int .i64 l[j]!) := by simp [ncells, hj]
      obtain ⟨b', off', e, _, h5⟩ := h3 j _ h4
      cases e
      exact h5
    · rintro e w' ⟨rfl, q, rfl⟩
      exact ⟨by rw [List.take_of_length_le (by omega)], q, rfl⟩

set_option maxRecDepth 100000 in
set_option maxHeartbeats 1000000 in
theorem within_any (w : World) (a : Option Addr) (n cap : Nat) (l : List Int) (h : Reads w 1 (.slice a n cap) n (ncells l)) :
    Calls Try.prog 39 #[.slice a n cap] w (NumPost w (l.all inB)) := by
  have hc := contains_any w a n cap l h
  have he : (l.all inB) = !(l.any fun x => !inB x) := by
    rw [List.not_any_eq_all_not]
    simp
  rw [he]
  clear he h
  generalize (l.any fun x => !inB x) = r at *
  go_enter Try.func39, Try.ntmps39
  go_wp2_with (go_at_call 51; go_must (refine hc.mono ?_))
  rintro e w1 ⟨rfl, q, rfl⟩
  go_wp2
  go_ret
  exact ⟨rfl, q, rfl⟩
end Go.Proofs.Ythjimldojdhccaa
