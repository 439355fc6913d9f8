/- Slices of bytes that came in, and what is cut of them. -/
import Derived.Test.YtcglkdmfbnpniaaTouch
namespace Go.Proofs.Ytcglkdmfbnpniaa
open Go Go.RowKit

/-- v reads l, and lies in a block below B (or is nil). -/
def Sl (B : Nat) (w : World) (v : Value) (l : List UInt8) : Prop :=
  ((∃ a, v = .slice a 0 0) ∧ l = []) ∨ ∃ b off cap, v = .slice (some ⟨b, off, none⟩) l.length cap ∧ (l ≠ [] → b < B) ∧ (l ≠ [] → b < w.heap.size) ∧ Reads w 1 v l.length (bcells l)

theorem reads_none {w w' : World} {v : Value} {n : Nat} (h : Reads w 1 v n (bcells [])) : Reads w' 1 v n (bcells []) := by
  obtain ⟨hl, a, cap, rfl, h1, h2, h3⟩ := h
  exact ⟨hl, a, cap, rfl, h1, h2, fun j u hj => by simp [bcells] at hj⟩

theorem Sl.reads {B : Nat} {w : World} {v : Value} {l : List UInt8} (h : Sl B w v l) : Reads w 1 v l.length (bcells l) := by
  rcases h with ⟨⟨ax, rfl⟩, rfl⟩ | ⟨b, off, cap, rfl, _, _, h⟩
  · exact ⟨by simp [bcells], ax, 0, rfl, Nat.le_refl _, Nat.zero_le _, fun j u hj => by simp [bcells] at hj⟩
  · exact h

theorem Sl.below {B : Nat} {w w' : World} {v : Value} {l : List UInt8} (h : Sl B w v l) (hb : Below B w w') : Sl B w' v l := by
  rcases h with h | ⟨b, off, cap, rfl, h1, h2, h3⟩
  · exact .inl h
  · refine .inr ⟨b, off, cap, rfl, h1, fun hl => Nat.lt_of_lt_of_le (h2 hl) hb.size, ?_⟩
    by_cases hl : l = []
    · subst hl
      exact reads_none h3
    · have := h1 hl
      exact h3.below hb (fun b' hb' => by simp [Value.ownBlock] at hb'; omega)

/-- v[k:] -/
def cutV : Value → Nat → Value
  | .slice (some ⟨b, off, none⟩) n cap, k => if cap = k then .slice (some ⟨b, off, none⟩) (n - k) (cap - k) else .slice (some ⟨b, off + k, none⟩) (n - k) (cap - k)
  | v, _ => v

theorem cutV_zero (a : Option Addr) : cutV (.slice a 0 0) 0 = .slice a 0 0 := by
  rcases a with _ | ⟨b, o, _ | s⟩
  · rfl
  · simp [cutV]
  · rfl

theorem cutV_some (b off n cap k : Nat) : cutV (.slice (some ⟨b, off, none⟩) n cap) k = if cap = k then .slice (some ⟨b, off, none⟩) (n - k) (cap - k) else .slice (some ⟨b, off + k, none⟩) (n - k) (cap - k) := rfl

theorem Sl.cut {B : Nat} {w : World} {v : Value} {l : List UInt8} (h : Sl B w v l) {k : Nat} (hk : k ≤ l.length) : Sl B w (cutV v k) (l.drop k) := by
  rcases h with ⟨⟨ax, rfl⟩, rfl⟩ | ⟨b, off, cap, rfl, h1, h2, h3⟩
  · left
    obtain rfl : k = 0 := by simpa using hk
    exact ⟨⟨ax, cutV_zero ax⟩, rfl⟩
  · right
    have hs := h3.skip k hk
    obtain ⟨_, _, hv, hc1, hc2⟩ := h3.le
    cases hv
    rw [cutV_some]
    by_cases hck : cap = k
    · have hz : l.length - k = 0 := by omega
      have hd : l.drop k = [] := List.eq_nil_of_length_eq_zero (by rw [List.length_drop]; omega)
      have hcz : cap - k = 0 := by omega
      rw [if_pos hck, hd, hz, hcz]
      exact ⟨b, off, 0, rfl, fun h => absurd rfl h, fun h => absurd rfl h, by simp [bcells], _, 0, rfl, Nat.le_refl _, Nat.zero_le _, fun j u hj => by simp [bcells] at hj⟩
    · rw [if_neg hck]
      have hld : (l.drop k).length = l.length - k := List.length_drop
      refine ⟨b, off + k, cap - k, by rw [hld], fun hd => h1 (fun e => hd (by rw [e]; simp)), fun hd => h2 (fun e => hd (by rw [e]; simp)), ?_⟩
      rw [hld]
      exact hs

theorem Touch.sl {B g : Nat} {w w' : World} {v : Value} {l : List UInt8} (h : Sl B w v l) (ht : Touch w w' [g]) (hB : B ≤ g) : Sl B w' v l := by
  rcases h with h | ⟨b, off, cap, rfl, h1, h2, h3⟩
  · exact .inl h
  · refine .inr ⟨b, off, cap, rfl, h1, fun hl => Nat.lt_of_lt_of_le (h2 hl) ht.size, ?_⟩
    by_cases hl : l = []
    · subst hl
      exact reads_none h3
    · have := h1 hl
      exact ht.reads h3 (fun b' hb' => by simp [Value.ownBlock] at hb' ⊢; omega)
end Go.Proofs.Ytcglkdmfbnpniaa
