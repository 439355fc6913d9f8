/- A text cut at its zeros. -/
import Derived.Test.YtlibncefiibgaaaDoorTupleKeyM
import Derived.Test.YtlibncefiibgaaaDoorTupleCutM
import Derived.Lib.CountLaws
import Derived.Lib.CutLaws
namespace Go.Proofs.YtlibncefiibgaaaDoor
open Go Go.RowKit

def zrest (s : ByteArray) : Nat → ByteArray
  | 0 => s
  | k + 1 => zrest (cutR s 0) k

def zpart (s : ByteArray) (k : Nat) : ByteArray := cutA (zrest s k) 0

theorem zrest_succ : ∀ (k : Nat) (s : ByteArray), zrest s (k + 1) = cutR (zrest s k) 0
  | 0, _ => rfl
  | k + 1, s => by
    show zrest (cutR s 0) (k + 1) = cutR (zrest (cutR s 0) k) 0
    exact zrest_succ k (cutR s 0)

theorem zpart_succ (s : ByteArray) (k : Nat) : zpart s (k + 1) = zpart (cutR s 0) k := rfl

def Six.unk (s : ByteArray) : Six := ⟨zpart s 0, zpart s 1, zpart s 2, zpart s 3, zpart s 4, zpart s 5⟩

def zB : ByteArray := ⟨#[0]⟩

theorem index_zB (s : ByteArray) : Lib.indexB s zB = Lib.indexByte s.data.toList 0 := Lib.index_one s.data.toList 0

theorem zcut_cases (s : ByteArray) : (Lib.indexB s zB = -1 ∧ ∀ k : Nat, s.data.toList[k]? ≠ some 0) ∨
    ∃ i : Nat, Lib.indexB s zB = i ∧ s.extract 0 i = cutA s 0 ∧ s.extract (i + 1) s.size = cutR s 0 ∧ s.data.toList = (cutA s 0).data.toList ++ 0 :: (cutR s 0).data.toList := by
  rw [index_zB]
  have hge := Lib.indexByte_ge s.data.toList 0
  by_cases h0 : Lib.indexByte s.data.toList 0 = -1
  · exact .inl ⟨h0, fun k => Lib.indexByte_none h0 k⟩
  · obtain ⟨k, hk⟩ : ∃ k : Nat, Lib.indexByte s.data.toList 0 = k := ⟨(Lib.indexByte s.data.toList 0).toNat, by omega⟩
    have hh := Lib.indexByte_some hk
    have hm := cut_hit hh.1 hh.2
    have ha : s.extract 0 k = cutA s 0 := by
      unfold cutA cutAL
      rw [hm.1, ← Lib.extract_from_zero]
    have hr : s.extract (k + 1) s.size = cutR s 0 := by
      unfold cutR cutRL
      rw [hm.2, List.drop_drop, ← Lib.extract_to_end]
    refine .inr ⟨k, hk, ha, hr, ?_⟩
    rw [← ha, ← hr, Lib.extract_from_zero, Lib.extract_to_end]
    have hlt : k < s.data.toList.length := (List.getElem?_eq_some_iff.1 hh.1).1
    have hg : s.data.toList[k] = 0 := (List.getElem?_eq_some_iff.1 hh.1).2
    have := List.take_append_drop k s.data.toList
    rw [List.drop_eq_getElem_cons hlt, hg] at this
    exact this.symm

theorem split_of_count : ∀ (k : Nat) (s : ByteArray), Lib.countB s zB = k →
    Lib.splitB zB 0 k s = (List.range k).map (zpart s) ++ [zrest s k] ∧ s.data.toList = keyL (lists ((List.range k).map (zpart s))) ++ (zrest s k).data.toList
  | 0, s, _ => by
    rw [Lib.splitB_zero]
    exact ⟨rfl, rfl⟩
  | k + 1, s, h => by
    rcases zcut_cases s with ⟨hm, _⟩ | ⟨i, hi, ha, hr, hs⟩
    · rw [Lib.countB_miss s zB hm] at h
      cases h
    · rw [Lib.countB_hit s zB i (by decide) hi, show i + zB.size = i + 1 from rfl, hr] at h
      have ih := split_of_count k (cutR s 0) (by omega)
      rw [Lib.splitB_hit zB 0 k s i hi, Nat.add_zero, ha, show i + zB.size = i + 1 from rfl, hr, ih.1]
      have hmap : (List.range (k + 1)).map (zpart s) = cutA s 0 :: (List.range k).map (zpart (cutR s 0)) := by
        rw [List.range_succ_eq_map, List.map_cons, List.map_map]
        rfl
      rw [hmap]
      refine ⟨rfl, ?_⟩
      rw [hs]
      show (cutA s 0).data.toList ++ 0 :: (cutR s 0).data.toList = (keyL ((cutA s 0).data.toList :: lists ((List.range k).map (zpart (cutR s 0))))) ++ (zrest (cutR s 0) k).data.toList
      rw [keyL]
      conv => lhs; rw [ih.2]
      simp

theorem takeWhile_nz : ∀ (x r : List UInt8), NZ x → (x ++ 0 :: r).takeWhile (· != 0) = x ∧ (x ++ 0 :: r).dropWhile (· != 0) = 0 :: r
  | [], r, _ => by simp
  | a :: x, r, h => by
    have ha : (a != 0) = true := by simpa using (nz_cons h).1
    have ih := takeWhile_nz x r (nz_cons h).2
    rw [List.cons_append, List.takeWhile_cons, List.dropWhile_cons, ha]
    simp [ih.1, ih.2]

theorem key_count : ∀ (p : List ByteArray) (s : ByteArray), (∀ x ∈ p, NZ x.data.toList) → s.data.toList = keyL (lists p) →
    Lib.countB s zB = p.length ∧ zrest s p.length = ⟨#[]⟩ ∧ ∀ (i : Nat) (x : ByteArray), p[i]? = some x → zpart s i = x
  | [], s, _, h => by
    have hs : s = ⟨#[]⟩ := by
      apply size_empty.1
      rw [← size_data, h]
      rfl
    subst hs
    refine ⟨?_, rfl, fun i x hi => by simp at hi⟩
    exact Lib.countB_miss _ _ (by decide)
  | x :: p, s, hn, h => by
    have hx := hn x (List.mem_cons_self ..)
    have hk : s.data.toList = x.data.toList ++ 0 :: keyL (lists p) := h
    have htw := takeWhile_nz x.data.toList (keyL (lists p)) hx
    have ha : cutA s 0 = x := by
      unfold cutA cutAL
      rw [hk, htw.1]
    have hr : (cutR s 0).data.toList = keyL (lists p) := by
      unfold cutR cutRL
      rw [hk, htw.2]
      simp
    have ih := key_count p (cutR s 0) (fun y hy => hn y (List.mem_cons_of_mem _ hy)) hr
    rcases zcut_cases s with ⟨_, hno⟩ | ⟨i, hi, _, hr', _⟩
    · exfalso
      refine hno x.data.toList.length ?_
      rw [hk, List.getElem?_append_right (Nat.le_refl _)]
      simp
    · refine ⟨?_, ih.2.1, fun j y hj => ?_⟩
      · rw [Lib.countB_hit s zB i (by decide) hi, show i + zB.size = i + 1 from rfl, hr', ih.1, List.length_cons]
        omega
      · cases j with
        | zero =>
          simp at hj
          subst hj
          exact ha
        | succ j => exact ih.2.2 j y (by simpa using hj)

theorem six_list_eq {p q : Six} (h : p.list = q.list) : p = q := by
  cases p; cases q
  simp [Six.list] at h
  obtain ⟨rfl, rfl, rfl, rfl, rfl, rfl⟩ := h
  rfl

theorem unk_list (s : ByteArray) : (Six.unk s).list = (List.range 6).map (zpart s) := rfl

def keyB' (t : Six) : ByteArray := ⟨(keyL t.bytes).toArray⟩

theorem nz_list {t : Six} (h : t.ok = true) : ∀ x ∈ t.list, NZ x.data.toList := fun x hx => nz_six h _ (by rw [← six_lists]; exact List.mem_map.2 ⟨x, hx, rfl⟩)

/-- What the key of a tuple that may be tells. -/
theorem unk_key {t : Six} (h : t.ok = true) : Six.unk (keyB' t) = t ∧ Lib.countB (keyB' t) zB = 6 ∧ zrest (keyB' t) 6 = ⟨#[]⟩ := by
  obtain ⟨h1, h2, h3⟩ := key_count t.list (keyB' t) (nz_list h) rfl
  refine ⟨six_list_eq ?_, h1, h2⟩
  simp only [Six.unk, Six.list]
  rw [h3 0 t.a rfl, h3 1 t.b rfl, h3 2 t.c rfl, h3 3 t.d rfl, h3 4 t.e rfl, h3 5 t.f rfl]

/-- Is the text a tuple's key? -/
def isKey (s : ByteArray) : Bool := (Six.unk s).ok && decide (keyB' (Six.unk s) = s)

theorem isKey_of {s : ByteArray} (hc : Lib.countB s zB = 6) (hz : zrest s 6 = ⟨#[]⟩) : keyB' (Six.unk s) = s := by
  have h := (split_of_count 6 s hc).2
  rw [hz, ← unk_list, six_lists] at h
  unfold keyB'
  apply ByteArray.ext
  rw [← Array.toList_inj]
  simp at h ⊢
  exact h.symm

theorem isKey_eq (s : ByteArray) : isKey s = (decide (Lib.countB s zB = 6) && decide (zrest s 6 = ⟨#[]⟩) && (Six.unk s).ok) := by
  unfold isKey
  cases hok : (Six.unk s).ok with
  | false => simp
  | true =>
    by_cases hk : keyB' (Six.unk s) = s
    · obtain ⟨_, h2, h3⟩ := unk_key hok
      rw [hk] at h2 h3
      simp [hk, h2, h3]
    · by_cases hc : Lib.countB s zB = 6
      · by_cases hz : zrest s 6 = ⟨#[]⟩
        · exact absurd (isKey_of hc hz) hk
        · simp [hk, hz]
      · simp [hk, hc]
end Go.Proofs.YtlibncefiibgaaaDoor
