import Derived.Test.YthjimldojdhccaaZGetMath
namespace Go.Proofs.Ythjimldojdhccaa
open Go.RowKit

def GetTextAny (w : World) (r : List UInt8 × Nat × Nat) (e : Ending) (w' : World) : Prop :=
  e = .returned (.tuple #[.string ⟨r.1.toArray⟩, .int .i64 (r.2.1 : Int), .int .i64 (r.2.2 : Int)]) ∧ w = w'

set_option maxRecDepth 100000 in
set_option maxHeartbeats 400000 in
theorem gettext_any (w : World) (v : Value) (n : Nat) (l : List UInt8) (h : Reads w 1 v n (bcells l)) :
    Calls Try.prog 54 #[v] w (GetTextAny w (getText l)) := by
  have hll : l.length = n := by have := h.1; simpa [bcells_length] using this
  obtain ⟨a0, cap0, hv0, h1, h2⟩ := h.le
  unfold maxLen at h2
  have hget := get_any w _ n _ h
  unfold getText
  have hok := getGo_ok l 0 0
  generalize getGo 0 0 l = r at hget hok
  obtain ⟨m, k, er⟩ := r
  simp only
  by_cases he : er = 0
  · subst he
    obtain ⟨hk0, hkl, hk10, hm⟩ := hok m k (by decide) rfl
    rw [if_pos rfl]
    have Hget := Lib.hid hget
    clear hget hok
    by_cases hs : l.length - k < m
    · rw [if_pos hs]
      have e1 : ((n : Int) - k) < m := by omega
      have e3 : (k : Int) ≤ n := by omega
      have Hll := Lib.hid hll
      clear hll hkl hs
      subst hv0
      go_enter Try.func54, Try.ntmps54
      go_wp2_with (go_at_call 43; go_must (refine Hget.out.mono ?_))
      rintro e w1 ⟨rfl, rfl⟩
      go_wp2
      go_ret3
      exact ⟨rfl, rfl⟩
    · rw [if_neg hs]
      obtain ⟨b, off, cap, rfl, _, _, _, _⟩ := h.head (by omega)
      cases hv0
      have hsk := h.skip k (by omega)
      obtain ⟨a', cap', hv', _, _, ht⟩ := hsk.take m (by omega)
      cases hv'
      have hcv := Reads.conv (P := Try.prog) (src := 29) (e := 5) (dst := 9) Try.underlying29 Try.underlying5 Try.underlying9 ht
      generalize hT : (l.drop k).take m = T at *
      clear hsk ht h
      have e1 : ¬ (n : Int) - k < m := by omega
      have e2 : (k : Int) + m ≤ n := by omega
      have e3 : (k : Int) ≤ n := by omega
      by_cases hck : cap0 = k
      · have hm0 : m = 0 := by omega
        have hnk : n = k := by omega
        have hT0 : T = [] := by rw [← hT, hm0]; rfl
        subst hm0
        subst hT0
        subst hnk
        subst hck
        have hr0 : Reads w 1 (.slice (some ⟨b, off, none⟩) 0 0) 0 (bcells []) := ⟨rfl, _, 0, rfl, Nat.le_refl _, Nat.zero_le _, fun j u h => by simp [bcells] at h⟩
        have hcv0 := Reads.conv (P := Try.prog) (src := 29) (e := 5) (dst := 9) Try.underlying29 Try.underlying5 Try.underlying9 hr0
        clear hcv hT hll hs
        go_enter Try.func54, Try.ntmps54
        go_wp2_with (go_at_call 43; go_must (refine Hget.out.mono ?_))
        rintro e w1 ⟨rfl, rfl⟩
        go_wp2
        go_ret3
        exact ⟨by simp, rfl⟩
      · have hck' : ¬ ((cap0 : Int) = k) := by omega
        clear hT hll hs
        go_enter Try.func54, Try.ntmps54
        go_wp2_with (go_at_call 43; go_must (refine Hget.out.mono ?_))
        rintro e w1 ⟨rfl, rfl⟩
        go_wp2
        go_ret3
        exact ⟨by simp, rfl⟩
  · rw [if_neg he]
    have e1 : (((er : Int)) == 0) = false := by simp; omega
    have Hget := Lib.hid hget
    clear hget hok hll h1 h2 h
    subst hv0
    go_enter Try.func54, Try.ntmps54
    go_wp2_with (go_at_call 43; go_must (refine Hget.out.mono ?_))
    rintro e w1 ⟨rfl, rfl⟩
    go_wp2
    go_ret3
    exact ⟨rfl, rfl⟩
end Go.Proofs.Ythjimldojdhccaa
