import Derived.Test.YtoibhkmlebcepaaDoorWalDecM
namespace Go.Proofs.YtoibhkmlebcepaaDoor
open Go Go.RowKit

theorem get_enc {N : Nat} (h : N < 18446744073709551616) (r : List UInt8) : getGo 0 0 (enc N ++ r) = (N, (enc N).length, 0) := by
  have := getGo_enc_go 9 0 N 0 r (by omega) (by decide) (.inl rfl) (by omega)
  simpa using this

theorem text_enc (s r : List UInt8) (hs : s.length ≤ 65536) : getText (enc s.length ++ s ++ r) = (s, (enc s.length).length + s.length, 0) := by
  have e : (enc s.length ++ (s ++ r)).length - (enc s.length).length = s.length + r.length := by simp
  unfold getText
  rw [List.append_assoc, get_enc (by omega)]
  dsimp only
  rw [if_pos rfl, e, if_neg (by omega)]
  simp

theorem key_size (x : Ent) : x.key.data.toList.length = x.key.size := Array.length_toList

theorem entB_len (x : Ent) : (entB x).length = 1 + ((enc x.key.size).length + x.key.size) := by
  have h := key_size x
  unfold entB
  rw [List.length_cons, List.length_append, h]
  omega

theorem truth_bit (d : Bool) (r : List UInt8) : truthL ((if d then 1 else 0) :: r) = (d, 1, false) := by
  cases d <;> rfl

theorem entGo_entB (x : Ent) (r : List UInt8) (hx : x.key.size ≤ 65536) : entGo (entB x ++ r) = some (x.key, x.del, (entB x).length) := by
  have h := key_size x
  have e : entB x ++ r = (if x.del then 1 else 0) :: (enc x.key.size ++ x.key.data.toList ++ r) := by
    unfold entB
    rw [List.cons_append]
  have ht := text_enc x.key.data.toList r (by omega)
  rw [h] at ht
  rw [entB_len, e]
  unfold entGo
  rw [truth_bit]
  dsimp only
  rw [if_neg (by decide), List.drop_succ_cons, List.drop_zero, ht]
  dsimp only
  rw [if_pos rfl, Array.toArray_toList]

theorem entsGo_all (rev : Nat) (r : List UInt8) : ∀ l : List Ent, (∀ x ∈ l, x.key.size ≤ 65536) → (∀ x ∈ l, x.rev = rev) → entsGo rev l.length (l.flatMap entB ++ r) = some (l, r)
  | [], _, _ => rfl
  | x :: l, h1, h2 => by
    have ih := entsGo_all rev r l (fun y hy => h1 y (by simp [hy])) (fun y hy => h2 y (by simp [hy]))
    have hr := h2 x (by simp)
    rw [List.length_cons, entsGo, List.flatMap_cons, List.append_assoc, entGo_entB x _ (h1 x (by simp))]
    dsimp only
    rw [List.drop_left, ih]
    dsimp only
    subst hr
    rfl

theorem dec_rec {rev : Nat} {l : List Ent} (h : rightB rev l = true) (hr : rev < 18446744073709551616) : decL (recL rev l) = some (rev, l) := by
  obtain ⟨h1, h2, _, _, h3⟩ := right_keys h
  have ha := entsGo_all rev [] l h1 h2
  rw [List.append_nil] at ha
  unfold decL recL recTo
  rw [List.append_assoc, get_enc hr]
  dsimp only
  rw [if_pos rfl, List.drop_left, get_enc (by omega)]
  dsimp only
  rw [if_pos rfl, List.drop_left, ha]
  simp [finL, h]
end Go.Proofs.YtoibhkmlebcepaaDoor
