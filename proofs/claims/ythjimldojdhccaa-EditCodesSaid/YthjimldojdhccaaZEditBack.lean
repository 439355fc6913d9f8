/- What was written of an edit is read as it was. -/
import Derived.Test.YthjimldojdhccaaZEditDec
import Derived.Test.YthjimldojdhccaaZEditEnc
namespace Go.Proofs.Ythjimldojdhccaa
open Go Go.RowKit

theorem getGo_encE {N : Nat} (h : N < 18446744073709551616) (r : List UInt8) : getGo 0 0 (enc N ++ r) = (N, (enc N).length, 0) := by
  have := getGo_enc_go 9 0 N 0 r (Nat.lt_of_lt_of_le h (by decide)) (by decide) (.inl rfl) (by simpa using h)
  simpa using this
theorem getText_encE {S : List UInt8} (h : S.length < 18446744073709551616) (r : List UInt8) : getText (enc S.length ++ (S ++ r)) = (S, (enc S.length).length + S.length, 0) := by
  unfold getText
  rw [getGo_encE h]
  simp only [if_true]
  have h1 : (enc S.length ++ (S ++ r)).length - (enc S.length).length = (S ++ r).length := by rw [List.length_append]; omega
  rw [h1, if_neg (by rw [List.length_append]; omega)]
  rw [List.drop_left, List.take_left]

theorem ernum_enc {N : Nat} (h : N < 18446744073709551616) (r : List UInt8) : ernum (enc N ++ r) 0 = (N, r, 0) := by
  unfold ernum
  rw [if_neg (by simp), getGo_encE h]
  dsimp only
  rw [List.drop_left]
theorem erwh_enc {n : Int} (h : inB n = true) (r : List UInt8) : erwh (enc n.toNat ++ r) 0 = (n, r, 0) := by
  unfold inB at h
  simp only [Bool.and_eq_true, decide_eq_true_eq] at h
  unfold erwh
  rw [ernum_enc (by omega)]
  dsimp only
  rw [if_neg (by omega), Int.toNat_of_nonneg (by omega)]
theorem ertxt_enc {s : ByteArray} (h : s.size < 18446744073709551616) (r : List UInt8) : ertxt (txt s ++ r) 0 = (s, r, 0) := by
  have hl : s.data.toList.length = s.size := by simp
  unfold ertxt txt
  rw [if_neg (by simp), List.append_assoc, ← hl, getText_encE (by omega)]
  dsimp only
  rw [← List.append_assoc, ← List.length_append, List.drop_left]

theorem ertab_enc {t : Tb} (h : inT t = true) (h1 : t.first.size < 18446744073709551616) (h2 : t.last.size < 18446744073709551616) (r : List UInt8) : ertab (tabB t ++ r) 0 = (t, r, 0) := by
  unfold inT at h
  rw [Bool.and_eq_true, Bool.and_eq_true] at h
  have e : tabB t ++ r = enc t.num.toNat ++ (enc t.lev.toNat ++ (enc t.size.toNat ++ (txt t.first ++ (txt t.last ++ r)))) := by
    simp [tabB, nums, txts]
  simp only [ertab, er5, eseq]
  rw [e, erwh_enc h.1.1]
  dsimp only
  rw [erwh_enc h.1.2]
  dsimp only
  rw [erwh_enc h.2]
  dsimp only
  rw [ertxt_enc h1]
  dsimp only
  rw [ertxt_enc h2]

theorem emany_B {α : Type} {f : List UInt8 → Nat → α × List UInt8 × Nat} {g : α → List UInt8} : ∀ (xs : List α), (∀ x ∈ xs, ∀ r, f (g x ++ r) 0 = (x, r, 0)) → ∀ r, emany f xs.length (xs.flatMap g ++ r) 0 = (xs, r, 0)
  | [], _, r => rfl
  | x :: xs, h, r => by
    rw [List.length_cons, emany_next, List.flatMap_cons, List.append_assoc, h x (by simp)]
    dsimp only
    rw [emany_B xs (fun y hy => h y (by simp [hy]))]
theorem elist_B {α : Type} {f : List UInt8 → Nat → α × List UInt8 × Nat} {g : α → List UInt8} (xs : List α) (hn : xs.length < 18446744073709551616) (h : ∀ x ∈ xs, ∀ r, f (g x ++ r) 0 = (x, r, 0)) (r : List UInt8) : elist f (enc xs.length ++ (xs.flatMap g ++ r)) 0 = (xs, r, 0) := by
  unfold elist
  rw [ernum_enc hn]
  exact emany_B xs h r

theorem readE_enc {x : Ed} (h : right x = true) (ha : x.add.length ≤ 1000000) (hd : x.drop.length ≤ 1000000) (hs : ∀ t ∈ x.add, t.first.size < 18446744073709551616 ∧ t.last.size < 18446744073709551616) (hf : x.floor < 18446744073709551616) (hh : x.head < 18446744073709551616) :
    readE (encB x) = (x, 0) := by
  unfold right at h
  simp only [Bool.and_eq_true] at h
  obtain ⟨⟨⟨h1, h2⟩, h3⟩, h4⟩ := h
  rw [List.all_eq_true] at h3 h4
  have e : encB x = enc x.add.length ++ (x.add.flatMap tabB ++ (enc x.drop.length ++ (x.drop.flatMap (fun n => enc n.toNat) ++ (enc x.floor ++ (enc x.head ++ (enc x.log.toNat ++ (enc x.next.toNat ++ []))))))) := by
    simp [encB, nums, List.flatMap_map]
  unfold readE decR
  rw [e]
  simp only
  rw [elist_B x.add (by omega) (fun t ht r => ertab_enc (h4 t ht) (hs t ht).1 (hs t ht).2 r)]
  simp only
  rw [elist_B x.drop (by omega) (fun n hn r => erwh_enc (h3 n hn) r)]
  simp only
  rw [ernum_enc hf]
  simp only
  rw [ernum_enc hh]
  simp only
  rw [erwh_enc h1]
  simp only
  rw [erwh_enc h2]
  exact endE_ok x
end Go.Proofs.Ythjimldojdhccaa
