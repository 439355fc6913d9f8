/- The cache: items in a ring, as numbers. -/
import Derived.Test.YtdooedlapoknbaaTouch
import Derived.Test.YtdooedlapoknbaaOwns
import Derived.Test.YtdooedlapoknbaaStrRows
import Derived.DeepKeys4
import Derived.WideKeyArgs
namespace Go.Proofs.Ytdooedlapoknbaa
open Go Go.RowKit

structure It where
  (f b : Int)
  keys : List ByteArray
  kv : Value
  sz : Nat

def ndCells (i : It) (p q : Nat) : Array Value := #[.int .i64 i.f, .int .i64 i.b, i.kv, .int .i64 (i.sz : Int), .pointer (some ⟨p, 0, none⟩), .pointer (some ⟨q, 0, none⟩)]

/-- The items of S lie in their blocks. -/
def Nodes (W : World) (it : Nat → It) (pv nx : Nat → Nat) (S : List Nat) : Prop := ∀ x ∈ S, W.heap[x]? = some (.cells (ndCells (it x) (pv x) (nx x)) 50 (0, 0))

def upd (g : Nat → Nat) (p q : Nat) (x : Nat) : Nat := if x = p then q else g x

theorem Nodes.set5 {W : World} {it : Nat → It} {pv nx : Nat → Nat} {S : List Nat} (h : Nodes W it pv nx S) (p q : Nat) : Nodes (W.setCell ⟨p, 5, none⟩ (.pointer (some ⟨q, 0, none⟩))) it pv (upd nx p q) S := by
  intro x hx
  by_cases hp : x = p
  · subst hp
    rw [heap_setCell_same _ x 5 _ _ _ (h x hx)]
    simp [ndCells, upd]
  · rw [Below.heap_setCell _ _ _ _ hp, h x hx]
    simp [upd, hp]

theorem Nodes.set4 {W : World} {it : Nat → It} {pv nx : Nat → Nat} {S : List Nat} (h : Nodes W it pv nx S) (p q : Nat) : Nodes (W.setCell ⟨p, 4, none⟩ (.pointer (some ⟨q, 0, none⟩))) it (upd pv p q) nx S := by
  intro x hx
  by_cases hp : x = p
  · subst hp
    rw [heap_setCell_same _ x 4 _ _ _ (h x hx)]
    simp [ndCells, upd]
  · rw [Below.heap_setCell _ _ _ _ hp, h x hx]
    simp [upd, hp]

/-- Each is followed by the one behind it. -/
def Links (pv nx : Nat → Nat) : List Nat → Prop
  | x :: y :: l => nx x = y ∧ pv y = x ∧ Links pv nx (y :: l)
  | _ => True

theorem links_mid {pv nx : Nat → Nat} : ∀ (A : List Nat) (x : Nat) (B : List Nat), Links pv nx (A ++ x :: B) ↔ Links pv nx (A ++ [x]) ∧ Links pv nx (x :: B)
  | [], x, B => by simp [Links]
  | [a], x, B => by simp [Links, and_assoc]
  | a :: b :: A, x, B => by
    have := links_mid (pv := pv) (nx := nx) (b :: A) x B
    simp only [List.cons_append, Links] at this ⊢
    rw [this]
    simp only [and_assoc]

/-- Links say nothing of the last one's next and the first one's prev. -/
theorem links_same {pv nx pv' nx' : Nat → Nat} : ∀ (l : List Nat), (∀ x ∈ l.dropLast, nx' x = nx x) → (∀ x ∈ l.tail, pv' x = pv x) → Links pv nx l → Links pv' nx' l
  | [], _, _, _ => trivial
  | [_], _, _, _ => trivial
  | x :: y :: l, h1, h2, ⟨a, b, c⟩ => by
    refine ⟨by rw [h1 x (by simp)]; exact a, by rw [h2 y (by simp)]; exact b, links_same (y :: l) (fun z hz => h1 z ?_) (fun z hz => h2 z ?_) c⟩
    · simp [List.dropLast] at hz ⊢
      exact .inr hz
    · simp at hz ⊢
      exact .inr hz

/-- The ring: its root r and what hangs on it. -/
def Ring (pv nx : Nat → Nat) (r : Nat) (xs : List Nat) : Prop := (r :: xs).Nodup ∧ Links pv nx (r :: xs ++ [r])

/-- A ring around one item: what is ahead of it and what is behind it. -/
theorem ring_split {pv nx : Nat → Nat} {r : Nat} {A B : List Nat} {n : Nat} (h : Ring pv nx r (A ++ n :: B)) :
    ∃ (A0 B0 : List Nat) (p q : Nat), r :: A = A0 ++ [p] ∧ B ++ [r] = q :: B0 ∧ pv n = p ∧ nx n = q ∧ p ≠ n ∧ q ≠ n ∧ Links pv nx (A0 ++ [p]) ∧ Links pv nx (q :: B0) := by
  obtain ⟨hn, hl⟩ := h
  obtain ⟨A0, p, hA⟩ : ∃ A0 p, r :: A = A0 ++ [p] := ⟨(r :: A).dropLast, (r :: A).getLast (by simp), (List.dropLast_concat_getLast (by simp)).symm⟩
  obtain ⟨q, B0, hB⟩ : ∃ q B0, B ++ [r] = q :: B0 := by
    cases B with
    | nil => exact ⟨r, [], rfl⟩
    | cons b B => exact ⟨b, B ++ [r], rfl⟩
  have he : r :: (A ++ n :: B) ++ [r] = A0 ++ p :: n :: q :: B0 := by
    have : r :: (A ++ n :: B) ++ [r] = (r :: A) ++ n :: (B ++ [r]) := by simp
    rw [this, hA, hB]
    simp
  rw [he] at hl
  have h1 := (links_mid A0 p (n :: q :: B0)).1 hl
  have h2 : nx p = n ∧ pv n = p ∧ Links pv nx (n :: q :: B0) := h1.2
  have h3 : nx n = q ∧ pv q = n ∧ Links pv nx (q :: B0) := h2.2.2
  have hpm : p ∈ r :: A := by rw [hA]; simp
  have hqm : q ∈ B ++ [r] := by rw [hB]; simp
  have hnn : n ∉ r :: A ∧ n ∉ B := by
    have hn' : ((r :: A) ++ n :: B).Nodup := by simpa using hn
    obtain ⟨_, hb, hd⟩ := List.nodup_append.1 hn'
    exact ⟨fun hm => hd n hm n (by simp) rfl, (List.nodup_cons.1 hb).1⟩
  refine ⟨A0, B0, p, q, hA, hB, h2.2.1, h3.1, fun e => hnn.1 (e ▸ hpm), fun e => ?_, h1.1, h3.2.2⟩
  rcases List.mem_append.1 hqm with hm | hm
  · exact hnn.2 (e ▸ hm)
  · simp at hm
    exact hnn.1 (by rw [← e, hm]; simp)

/-- An item leaves. -/
theorem Ring.leave {pv nx : Nat → Nat} {r : Nat} {A B : List Nat} {n : Nat} (h : Ring pv nx r (A ++ n :: B)) : Ring (upd pv (nx n) (pv n)) (upd nx (pv n) (nx n)) r (A ++ B) := by
  obtain ⟨A0, B0, p, q, hA, hB, hp, hq, _, _, l1, l2⟩ := ring_split h
  rw [hp, hq]
  have hn : ((r :: A) ++ n :: B).Nodup := by simpa using h.1
  have hnd : ((r :: A) ++ B).Nodup := hn.sublist (List.Sublist.append_left (List.sublist_cons_self n B) _)
  refine ⟨by simpa using hnd, ?_⟩
  have he : r :: (A ++ B) ++ [r] = A0 ++ p :: q :: B0 := by
    have : r :: (A ++ B) ++ [r] = (r :: A) ++ (B ++ [r]) := by simp
    rw [this, hA, hB]
    simp
  rw [he, links_mid]
  have hndA : (A0 ++ [p]).Nodup := by rw [← hA]; exact (List.nodup_append.1 hnd).1
  refine ⟨links_same _ (fun x hx => ?_) (fun x hx => ?_) l1, ?_, ?_, links_same _ (fun x hx => ?_) (fun x hx => ?_) l2⟩
  · -- next of those ahead of p
    rw [List.dropLast_concat] at hx
    have : x ≠ p := fun e => by
      obtain ⟨_, _, hd⟩ := List.nodup_append.1 hndA
      exact hd x hx p (by simp) e
    simp [upd, this]
  · have hxA : x ∈ A := by
      rw [← hA] at hx
      simpa using hx
    have : x ≠ q := fun e => by
      subst e
      have hqm : x ∈ B ++ [r] := by rw [hB]; simp
      rcases List.mem_append.1 hqm with hm | hm
      · obtain ⟨_, _, hd⟩ := List.nodup_append.1 hnd
        exact hd x (by simp [hxA]) x hm rfl
      · simp at hm
        subst hm
        have := (List.nodup_append.1 hnd).1
        exact (List.nodup_cons.1 this).1 hxA
    simp [upd, this]
  · simp [upd]
  · simp [upd]
  · -- next of those behind q but the last
    have hx' : x ∈ B := by
      rw [← hB, List.dropLast_concat] at hx
      exact hx
    have : x ≠ p := fun e => by
      obtain ⟨_, _, hd⟩ := List.nodup_append.1 hnd
      have hpm : p ∈ r :: A := by rw [hA]; simp
      exact hd p hpm x hx' e.symm
    simp [upd, this]
  · have hx' : x ∈ B0 := by simpa using hx
    have hnq : q ∉ B0 := by
      have hb : (B ++ [r]).Nodup := by
        have h2 := hnd
        rw [List.nodup_append] at h2
        refine List.nodup_append.2 ⟨h2.2.1, by simp, fun a ha b hb => ?_⟩
        simp at hb
        subst hb
        exact fun e => h2.2.2 b (by simp) a ha e.symm
      rw [hB] at hb
      exact (List.nodup_cons.1 hb).1
    have : x ≠ q := fun e => hnq (e ▸ hx')
    simp [upd, this]

/-- An item enters ahead of the root. -/
theorem Ring.enter {pv nx : Nat → Nat} {r : Nat} {xs : List Nat} {n : Nat} (h : Ring pv nx r xs) (hn : n ∉ r :: xs) :
    Ring (upd (upd pv n (pv r)) r n) (upd (upd nx n r) (pv r) n) r (xs ++ [n]) := by
  obtain ⟨hnd, hl⟩ := h
  obtain ⟨A0, p, hA⟩ : ∃ A0 p, r :: xs = A0 ++ [p] := ⟨(r :: xs).dropLast, (r :: xs).getLast (by simp), (List.dropLast_concat_getLast (by simp)).symm⟩
  have he : r :: xs ++ [r] = A0 ++ p :: [r] := by rw [hA]; simp
  rw [he, links_mid] at hl
  obtain ⟨l1, l2, l3, _⟩ := hl
  rw [l3]
  have hpm : p ∈ r :: xs := by rw [hA]; simp
  have hpn : p ≠ n := fun e => hn (e ▸ hpm)
  have hrn : r ≠ n := fun e => hn (by rw [← e]; simp)
  refine ⟨?_, ?_⟩
  · have : (r :: xs ++ [n]).Nodup := List.nodup_append.2 ⟨hnd, by simp, fun a ha b hb => by
      simp at hb
      subst hb
      exact fun e => hn (e ▸ ha)⟩
    simpa using this
  · have he2 : r :: (xs ++ [n]) ++ [r] = A0 ++ p :: [n, r] := by
      have : r :: (xs ++ [n]) ++ [r] = (r :: xs) ++ [n, r] := by simp
      rw [this, hA]
      simp
    rw [he2, links_mid]
    have hndA : (A0 ++ [p]).Nodup := by rw [← hA]; exact hnd
    refine ⟨links_same _ (fun x hx => ?_) (fun x hx => ?_) l1, ?_, ?_, ?_, ?_, trivial⟩
    · rw [List.dropLast_concat] at hx
      have h1 : x ≠ p := fun e => by
        obtain ⟨_, _, hd⟩ := List.nodup_append.1 hndA
        exact hd x hx p (by simp) e
      have h2 : x ≠ n := fun e => hn (by rw [hA, ← e]; simp [hx])
      simp [upd, h1, h2]
    · have hxs : x ∈ xs := by
        rw [← hA] at hx
        simpa using hx
      have h1 : x ≠ r := fun e => (List.nodup_cons.1 hnd).1 (e ▸ hxs)
      have h2 : x ≠ n := fun e => hn (by rw [← e]; simp [hxs])
      simp [upd, h1, h2]
    · simp [upd]
    · simp [upd, hrn.symm]
    · simp [upd, hpn.symm]
    · simp [upd]
end Go.Proofs.Ytdooedlapoknbaa
