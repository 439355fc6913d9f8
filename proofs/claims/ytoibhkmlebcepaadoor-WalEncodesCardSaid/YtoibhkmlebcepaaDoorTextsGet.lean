import Derived.Test.YtoibhkmlebcepaaDoorTexts
namespace Go.Proofs.YtoibhkmlebcepaaDoor
open Go.RowKit

def GetTextPost (w : World) (S : List UInt8) (k : Nat) (e : Ending) (w' : World) : Prop :=
  e = .returned (.tuple #[.string ⟨S.toArray⟩, .int .i64 ((k + S.length : Nat) : Int), .int .i64 0]) ∧ w = w'

set_option maxRecDepth 100000 in
set_option maxHeartbeats 400000 in
theorem gettext_good (w : World) (v : Value) (n : Nat) (S r : List UInt8) (h : Reads w 1 v n (bcells (enc S.length ++ S ++ r))) (hS : S.length ≤ 1000000000) :
    Calls Tryd.prog 40 #[v] w (GetTextPost w S (enc S.length).length) := by
  have hep := enc_pos S.length
  have hel := enc_length_le 9 S.length (by omega)
  have hn : (enc S.length).length + S.length + r.length = n := by have := h.1; simp [bcells_length] at this; omega
  have hg : getGo 0 0 (enc S.length ++ S ++ r) = (S.length, (enc S.length).length, 0) := by
    have := getGo_enc_go 9 0 S.length 0 (S ++ r) (by omega) (by omega) (.inl rfl) (by omega)
    rw [List.append_assoc]
    simpa using this
  obtain ⟨b, off, cap, rfl, h1, h2, hl, hcell⟩ := h.head (by omega)
  clear hcell hl
  unfold maxLen at h2
  have hs := h.skip (enc S.length).length (by omega)
  rw [show (enc S.length ++ S ++ r).drop (enc S.length).length = S ++ r from by rw [List.append_assoc, List.drop_left]] at hs
  obtain ⟨a', cap', hv', _, _, ht⟩ := hs.take S.length (by omega)
  rw [List.take_left] at ht
  cases hv'
  have hcv := Reads.conv (P := Tryd.prog) (src := 28) (e := 5) (dst := 9) Tryd.underlying28 Tryd.underlying5 Tryd.underlying9 ht
  clear hs ht
  have Hget := Lib.hid (get_any w _ n _ h)
  rw [hg] at Hget
  clear h hg
  generalize hk : (enc S.length).length = k at *
  generalize hm : S.length = m at *
  clear hk
  have e1 : ¬ (n : Int) - k < m := by omega
  have e2 : (k : Int) + m ≤ n := by omega
  have e3 : (k : Int) ≤ n := by omega
  by_cases hck : cap = k
  · have hm0 : m = 0 := by omega
    have hS0 : S = [] := List.eq_nil_of_length_eq_zero (by omega)
    have hnk : n = k := by omega
    subst hm0
    subst hS0
    subst hnk
    subst hck
    have hr0 : Reads w 1 (.slice (some ⟨b, off, none⟩) 0 0) 0 (bcells []) := ⟨rfl, _, 0, rfl, Nat.le_refl _, Nat.zero_le _, fun j u h => by simp [bcells] at h⟩
    have hcv0 := Reads.conv (P := Tryd.prog) (src := 28) (e := 5) (dst := 9) Tryd.underlying28 Tryd.underlying5 Tryd.underlying9 hr0
    clear hcv
    go_enter Tryd.func40, Tryd.ntmps40
    go_wp2_with (go_at_call 38; go_must (refine Hget.out.mono ?_))
    rintro e w1 ⟨rfl, rfl⟩
    go_wp2
    go_ret3
    exact ⟨by simp, rfl⟩
  · have hck' : ¬ ((cap : Int) = k) := by omega
    go_enter Tryd.func40, Tryd.ntmps40
    go_wp2_with (go_at_call 38; go_must (refine Hget.out.mono ?_))
    rintro e w1 ⟨rfl, rfl⟩
    go_wp2
    go_ret3
    refine ⟨?_, rfl⟩
    subst hm
    rfl
end Go.Proofs.YtoibhkmlebcepaaDoor
