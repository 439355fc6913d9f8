/- Towards Put. -/
import Derived.Test.YtdooedlapoknbaaCacheGet
namespace Go.Proofs.Ytdooedlapoknbaa
open Go Go.RowKit Go.Maps

variable {G : Nat → Prop}

def trimE (room : Nat) : List (Int × Int × List ByteArray) → List (Int × Int × List ByteArray)
  | [] => []
  | e :: t => if room < usedE (e :: t) then trimE room t else e :: t

/-- What Put leaves. -/
def putE (room : Nat) (E : List (Int × Int × List ByteArray)) (f b : Int) (ks : List ByteArray) : List (Int × Int × List ByteArray) := trimE room (others E f b ++ [(f, b, ks)])

theorem CAt.congr {W : World} {B c room r m : Nat} {it it' : Nat → It} {pv nx : Nat → Nat} {xs : List Nat} (h : CAt G W B c room r m it pv nx xs) (he : ∀ y ∈ r :: xs, it' y = it y) : CAt G W B c room r m it' pv nx xs := by
  have hx : ∀ y ∈ xs, it' y = it y := fun y hy => he y (List.mem_cons_of_mem _ hy)
  have hs : sumI it' xs = sumI it xs := by
    unfold sumI
    rw [List.map_congr_left (fun y hy => by rw [hx y hy])]
  obtain ⟨D, h1, h2, h3⟩ := h.map
  refine ⟨h.lo, by rw [hs]; exact h.cell, fun y hy => by rw [he y hy]; exact h.nodes y hy, h.ring, ⟨D, h1, fun f b hf hb => ?_, h3⟩, fun y hy => by rw [hx y hy]; exact h.okI y hy, ?_, by rw [hs]; exact h.small⟩
  · obtain ⟨g1, g2⟩ := h2 f b hf hb
    exact ⟨fun y hy => by rw [hx y hy]; exact g1 y hy, fun hall => g2 fun y hy => by have := hall y hy; rwa [hx y hy] at this⟩
  · rw [List.map_congr_left (fun y hy => by rw [hx y hy])]
    exact h.dist

theorem CAt.weak {G' : Nat → Prop} {W : World} {B c room r m : Nat} {it : Nat → It} {pv nx : Nat → Nat} {xs : List Nat} (h : CAt G W B c room r m it pv nx xs) (hG : ∀ g, G g → G' g) : CAt G' W B c room r m it pv nx xs := by
  refine ⟨h.lo, h.cell, h.nodes, h.ring, h.map, fun y hy => ?_, h.dist, h.small⟩
  obtain ⟨k1, k2, k3, a, cap, k4, k5, k6⟩ := h.okI y hy
  exact ⟨k1, k2, k3, a, cap, k4, k5, fun g hg => ⟨hG g (k6 g hg).1, (k6 g hg).2⟩⟩

/-- An item is put at the end: the map, what is used, the ring. -/
theorem CAt.added {W W5 W6 W7 : World} {B c room r m : Nat} {it : Nat → It} {pv nx pv' nx' : Nat → Nat} {xs : List Nat} {n : Nat} (h : CAt G W B c room r m it pv nx xs)
    (hn : n ∉ r :: xs) (hnB : B ≤ n) (hf : InI (it n).f) (hb : InI (it n).b) (hsz : (it n).sz = 1 + ksz (it n).keys) (hkv : KvOk G W (it n)) (hno : ∀ x ∈ xs, ¬ ((it x).f = (it n).f ∧ (it x).b = (it n).b)) (hfew : sumI it xs + (it n).sz ≤ 1000000000)
    {D : DataW Unit} (hD : W.ownsMap Try.prog 47 nodeR m xs.length D) (hl : LookN D it xs) (hs : size D = xs.length)
    (h5 : W5.ownsMap Try.prog 47 nodeR m (xs.length + 1) (D.put (keyL (it n).f (it n).b) (nodeD n)))
    (h6 : W6.heap[m]? = W5.heap[m]?) (h7 : W7.heap[m]? = W6.heap[m]?) (hc7 : W7.heap[c]? = some (.cells #[.map (some m), .pointer (some ⟨r, 0, none⟩), .int .i64 (room : Int), .int .i64 ((sumI it xs + (it n).sz : Nat) : Int)] 54 (0, 0)))
    (hn7 : Nodes W7 it pv' nx' (n :: r :: xs)) (hr7 : Ring pv' nx' r (xs ++ [n])) (hcf : CF B W W7) : CAt G W7 B c room r m it pv' nx' (xs ++ [n]) := by
  have hsum : sumI it (xs ++ [n]) = sumI it xs + (it n).sz := by
    unfold sumI
    simp
  have hhas : has D (keyL (it n).f (it n).b) = false := (hl _ _ hf hb).2 hno
  have hsz' : size (D.put (keyL (it n).f (it n).b) (nodeD n)) = (xs ++ [n]).length := by
    rw [size_put (hD.tidy placeLaw), hhas, hs]
    simp
  obtain ⟨es, clock, e1, F, e2, e3⟩ := h5
  refine ⟨⟨h.lo.1, h.lo.2.1, fun y hy => ?_⟩, by rw [hsum]; exact hc7, fun y hy => hn7 y ?_, hr7, ⟨_, ⟨es, clock, h7.trans (h6.trans e1), F, by simpa using e2, e3⟩, hl.put hD.isMap hf hb hno, hsz'⟩, fun y hy => ?_, ?_, by rw [hsum]; exact hfew⟩
  · simp at hy
    rcases hy with e | e | e
    · exact h.lo.2.2 y (by simp [e])
    · exact h.lo.2.2 y (by simp [e])
    · rw [e]; exact hnB
  · simp at hy ⊢
    rcases hy with e | e | e <;> simp [e]
  · rcases List.mem_append.1 hy with hy | hy
    · obtain ⟨k1, k2, k3, k4⟩ := h.okI y hy
      exact ⟨k1, k2, k3, k4.cf hcf⟩
    · simp at hy
      subst hy
      exact ⟨hf, hb, hsz, hkv.cf hcf⟩
  · rw [List.map_append, List.nodup_append]
    refine ⟨h.dist, by simp, fun a ha d hd e => ?_⟩
    simp at hd
    obtain ⟨x, hx, rfl⟩ := List.mem_map.1 ha
    rw [hd] at e
    injection e with e1 e2
    exact hno x hx ⟨e1, e2⟩

theorem head_next {pv nx : Nat → Nat} {r x : Nat} {xs : List Nat} (h : Ring pv nx r (x :: xs)) : nx r = x := h.2.1

def PutLoop1 (W W2 : World) (B n : Nat) (f b : Int) (ks : List ByteArray) (kv : Value) (i : Value) (wr : World) : Prop :=
  ∃ k : Nat, i = .int .i64 (k : Int) ∧ k ≤ ks.length ∧ Below W.heap.size W wr ∧ CF B W2 wr ∧ wr.heap[n]? = some (.cells #[.int .i64 f, .int .i64 b, kv, .int .i64 ((1 + ksz (ks.take k) : Nat) : Int), .pointer none, .pointer none] 50 (0, 0))

def PutLoop2 (G : Nat → Prop) (W : World) (B c room r m : Nat) (L : List (Int × Int × List ByteArray)) (wr : World) : Prop :=
  ∃ it pv nx xs, CAt G wr B c room r m it pv nx xs ∧ trimE room (xs.map (ent it)) = L ∧ CF B W wr

def PutPost (G : Nat → Prop) (W : World) (B c room : Nat) (E : List (Int × Int × List ByteArray)) (f b : Int) (ks : List ByteArray) (e : Ending) (W' : World) : Prop :=
  e = .returned (.tuple #[]) ∧ CA (fun g => G g ∨ W.heap.size ≤ g) W' B c room (putE room E f b ks) ∧ CF B W W'

/-- What is used, as the cache tells it. -/
def usedAt (c : Nat) (wr : World) : Nat := match wr.cell? ⟨c, 3, none⟩ with | some v => (intOf v).toNat | none => 0

theorem ksz_take {ks : List ByteArray} {k : Nat} {x : ByteArray} (h : ks[k]? = some x) : ksz (ks.take (k + 1)) = ksz (ks.take k) + x.size := by
  have hk := (List.getElem?_eq_some_iff.1 h).1
  rw [← List.take_append_getElem hk, (List.getElem?_eq_some_iff.1 h).2]
  unfold ksz
  simp

theorem ksz_le {ks : List ByteArray} (k : Nat) : ksz (ks.take k) ≤ ksz ks := by
  conv => rhs; rw [← List.take_append_drop k ks]
  unfold ksz
  rw [List.map_append, List.sum_append]
  omega
end Go.Proofs.Ytdooedlapoknbaa
