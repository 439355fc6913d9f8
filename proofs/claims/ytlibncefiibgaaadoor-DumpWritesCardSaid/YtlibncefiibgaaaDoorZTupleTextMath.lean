/- A tuple's text tells the tuple. -/
import Derived.Test.YtlibncefiibgaaaDoorMga
import Derived.Test.YtlibncefiibgaaaDoorZTupleParse
namespace Go.Proofs.YtlibncefiibgaaaDoor
open Go Go.RowKit

def Free (c : UInt8) (l : List UInt8) : Prop := ∀ b ∈ l, b ≠ c

theorem free_cons {c a : UInt8} {l : List UInt8} (h : Free c (a :: l)) : a ≠ c ∧ Free c l := ⟨h a (List.mem_cons_self ..), fun b hb => h b (List.mem_cons_of_mem _ hb)⟩

theorem free_name {c : UInt8} {l : List UInt8} (h : nameL l = true) (hc : okB c = false) : Free c l := by
  intro b hb e
  subst e
  simp only [nameL, Bool.and_eq_true] at h
  have := List.all_eq_true.1 h.1.1 b hb
  rw [hc] at this
  cases this

theorem takeWhile_free (c : UInt8) : ∀ (x r : List UInt8), Free c x → (x ++ c :: r).takeWhile (· != c) = x ∧ (x ++ c :: r).dropWhile (· != c) = c :: r
  | [], r, _ => by simp
  | a :: x, r, h => by
    have ha : (a != c) = true := by simpa using (free_cons h).1
    have ih := takeWhile_free c x r (free_cons h).2
    rw [List.cons_append, List.takeWhile_cons, List.dropWhile_cons, ha]
    simp [ih.1, ih.2]

theorem takeWhile_all (c : UInt8) : ∀ (x : List UInt8), Free c x → x.takeWhile (· != c) = x ∧ x.dropWhile (· != c) = []
  | [], _ => by simp
  | a :: x, h => by
    have ha : (a != c) = true := by simpa using (free_cons h).1
    have ih := takeWhile_all c x (free_cons h).2
    rw [List.takeWhile_cons, List.dropWhile_cons, ha]
    simp [ih.1, ih.2]

theorem cut_bytes {s : ByteArray} {c : UInt8} {x r : List UInt8} (h : s.data.toList = x ++ c :: r) (hf : Free c x) : (cutA s c).data.toList = x ∧ (cutR s c).data.toList = r := by
  have := takeWhile_free c x r hf
  unfold cutA cutR cutAL cutRL
  rw [h, this.1, this.2]
  exact ⟨rfl, rfl⟩

theorem cut_bytes_miss {s : ByteArray} {c : UInt8} {x : List UInt8} (h : s.data.toList = x) (hf : Free c x) : (cutA s c).data.toList = x ∧ (cutR s c).data.toList = [] := by
  have := takeWhile_all c x hf
  unfold cutA cutR cutAL cutRL
  rw [h, this.1, this.2]
  exact ⟨rfl, rfl⟩

theorem ba_ext {a b : ByteArray} (h : a.data.toList = b.data.toList) : a = b := by
  apply ByteArray.ext
  rw [← Array.toList_inj]
  exact h

def Six.tail (t : Six) : List UInt8 := if t.f.size = 0 then [] else 35 :: t.f.data.toList

theorem text_bytes (t : Six) : t.text.data.toList = t.a.data.toList ++ 58 :: (t.b.data.toList ++ 35 :: (t.c.data.toList ++ 64 :: (t.d.data.toList ++ 58 :: (t.e.data.toList ++ t.tail)))) := by
  unfold Six.text Six.base Six.tail
  split <;> simp

theorem of_text {t : Six} (h : t.ok = true) : Six.of t.text = t := by
  have h0 := h
  simp only [Six.ok, nameB, Bool.and_eq_true, Bool.or_eq_true, decide_eq_true_eq] at h
  obtain ⟨⟨⟨⟨⟨h1, h2⟩, h3⟩, h4⟩, h5⟩, h6⟩ := h
  have hb := text_bytes t
  have r0 := cut_bytes (s := restAt t.text 0) (c := 58) hb (free_name h1 (by decide))
  have r1 := cut_bytes (s := restAt t.text 1) (c := 35) r0.2 (free_name h2 (by decide))
  have r2 := cut_bytes (s := restAt t.text 2) (c := 64) r1.2 (free_name h3 (by decide))
  have r3 := cut_bytes (s := restAt t.text 3) (c := 58) r2.2 (free_name h4 (by decide))
  have hlast : (cutA (restAt t.text 4) 35).data.toList = t.e.data.toList ∧ (cutR (restAt t.text 4) 35).data.toList = t.f.data.toList := by
    by_cases hf : t.f.size = 0
    · have ht : t.tail = [] := by unfold Six.tail; rw [if_pos hf]
      have r3' := r3.2
      rw [ht, List.append_nil] at r3'
      have r4 := cut_bytes_miss (s := restAt t.text 4) (c := 35) r3' (free_name h5 (by decide))
      refine ⟨r4.1, r4.2.trans ?_⟩
      rw [size_empty.1 hf]
    · have ht : t.tail = 35 :: t.f.data.toList := by unfold Six.tail; rw [if_neg hf]
      have r3' := r3.2
      rw [ht] at r3'
      exact cut_bytes (s := restAt t.text 4) (c := 35) r3' (free_name h5 (by decide))
  have e0 : partAt t.text 0 = t.a := ba_ext r0.1
  have e1 : partAt t.text 1 = t.b := ba_ext r1.1
  have e2 : partAt t.text 2 = t.c := ba_ext r2.1
  have e3 : partAt t.text 3 = t.d := ba_ext r3.1
  have e4 : partAt t.text 4 = t.e := ba_ext hlast.1
  have e5 : restAt t.text 5 = t.f := ba_ext hlast.2
  unfold Six.of
  rw [e0, e1, e2, e3, e4, e5]

theorem parse_text {t : Six} (h : t.ok = true) : parseV t.text = .tuple #[t.val, .int .i64 0] := by
  unfold parseV isText
  rw [of_text h, h]
  simp

theorem text_size {t : Six} (h : t.short 200) : t.text.size ≤ 2000 := by
  obtain ⟨h1, h2, h3, h4, h5, h6⟩ := h
  rw [← size_data, text_bytes]
  have : t.tail.length ≤ 201 := by
    unfold Six.tail
    split
    · simp
    · simp; omega
  simp only [List.length_append, List.length_cons, size_data]
  omega

theorem key_size {t : Six} (h : t.short 200) : (keyB' t).size ≤ 2000 := by
  obtain ⟨h1, h2, h3, h4, h5, h6⟩ := h
  show (keyL t.bytes).length ≤ 2000
  simp [Six.bytes, keyL]
  omega
end Go.Proofs.YtlibncefiibgaaaDoor
