/- A node more: the floors' chains, one after the other. -/
import Derived.Test.YthficboolhellaaSkipHeight
namespace Go.Proofs.Ythficboolhellaa
open Go Go.RowKit

def ChainL (w : World) (f L : Nat) (l : List Nat) : Prop := ∀ (i x : Nat), (L :: l)[i]? = some x → w.cell? ⟨x, 1 + f, none⟩ = some (ptrO l[i]?)

structure PutMid (w : World) (L nb : Nat) (kk : ByteArray) (A B : List Nat) (key : Nat → ByteArray) (ht : Nat → Nat) (k : Nat) : Prop where
  nodup : (L :: nb :: (A ++ B)).Nodup
  head : ∃ cs, w.heap[L]? = some (Obj.cells cs 48 (0, 0)) ∧ cs.size = 12
  node : ∀ b ∈ nb :: (A ++ B), ∃ cs, w.heap[b]? = some (Obj.cells cs 46 (0, 0)) ∧ cs.size = 9
  key : ∀ b ∈ A ++ B, w.cell? ⟨b, 0, none⟩ = some (.string (key b))
  keyN : w.cell? ⟨nb, 0, none⟩ = some (.string kk)
  old : ∀ f, k ≤ f → f < 8 → ChainL w f L (fl (A ++ B) ht f)
  new : ∀ f, f < k → f < 8 → ChainL w f L (fl A ht f ++ nb :: fl B ht f)
  tall : ∀ b ∈ A ++ B, 1 ≤ ht b

theorem PutMid.lt {w : World} {L nb : Nat} {kk : ByteArray} {A B : List Nat} {key : Nat → ByteArray} {ht : Nat → Nat} {k : Nat} (h : PutMid w L nb kk A B key ht k) {x : Nat} (hx : x ∈ L :: nb :: (A ++ B)) : x < w.heap.size ∧ ∀ j, w.frozen? ⟨x, j, none⟩ = false := by
  rcases List.mem_cons.1 hx with rfl | hx
  · obtain ⟨cs, hc, _⟩ := h.head
    exact ⟨(Array.getElem?_eq_some_iff.1 hc).1, fun j => Lib.frozen_of_heap hc j⟩
  · obtain ⟨cs, hc, _⟩ := h.node x hx
    exact ⟨(Array.getElem?_eq_some_iff.1 hc).1, fun j => Lib.frozen_of_heap hc j⟩

theorem block_set {w : World} {b n : Nat} {t : TypeId} (h : ∃ cs, w.heap[b]? = some (Obj.cells cs t (0, 0)) ∧ cs.size = n) (x j : Nat) (v : Value) : ∃ cs, (w.setCell ⟨x, j, none⟩ v).heap[b]? = some (Obj.cells cs t (0, 0)) ∧ cs.size = n := by
  obtain ⟨cs, hc, hs⟩ := h
  by_cases hb : b = x
  · subst hb
    exact ⟨_, heap_setCell_same _ _ j _ _ _ hc, by simpa using hs⟩
  · exact ⟨cs, (heap_setCell_other _ ⟨x, j, none⟩ b _ hb).trans hc, hs⟩

theorem cell_other {w : World} {x j y i : Nat} {v : Value} (h : x ≠ y ∨ j ≠ i) : (w.setCell ⟨x, j, none⟩ v).cell? ⟨y, i, none⟩ = w.cell? ⟨y, i, none⟩ :=
  World.cell?_setCell_other _ _ _ _ (fun e => by
    injection e with h1 h2
    rcases h with h | h
    · exact h h1
    · exact h h2)

theorem nodup_at {l : List Nat} (h : l.Nodup) {i j x : Nat} (hi : l[i]? = some x) (hj : l[j]? = some x) : i = j := by
  obtain ⟨h1, e1⟩ := List.getElem?_eq_some_iff.1 hi
  obtain ⟨h2, e2⟩ := List.getElem?_eq_some_iff.1 hj
  have k1 := List.Nodup.idxOf_getElem h i h1
  have k2 := List.Nodup.idxOf_getElem h j h2
  rw [e1] at k1
  rw [e2] at k2
  omega

/-- One floor more. -/
theorem chain_put {w : World} {f L nb : Nat} {a b : List Nat} (hn : (L :: nb :: (a ++ b)).Nodup) (h : ChainL w f L (a ++ b)) (h0 : (w.cell? ⟨nb, 1 + f, none⟩).isSome = true) :
    ChainL ((w.setCell ⟨nb, 1 + f, none⟩ (ptrO b.head?)).setCell ⟨lastP L a, 1 + f, none⟩ (.pointer (some ⟨nb, 0, none⟩))) f L (a ++ nb :: b) := by
  have hp := lastP_at L a b
  have hn2 : (L :: (a ++ b)).Nodup := by
    have := List.nodup_cons.1 hn
    exact List.nodup_cons.2 ⟨fun hm => this.1 (List.mem_cons_of_mem _ hm), (List.nodup_cons.1 this.2).2⟩
  have hnb : ∀ x ∈ L :: (a ++ b), x ≠ nb := by
    intro x hx e
    subst e
    rcases List.mem_cons.1 hx with rfl | hx
    · exact (List.nodup_cons.1 hn).1 (by simp)
    · exact (List.nodup_cons.1 (List.nodup_cons.1 hn).2).1 hx
  have hpm : lastP L a ∈ L :: (a ++ b) := List.mem_of_getElem? hp
  intro i x hx
  by_cases h1 : i < a.length
  · have hx' : (L :: (a ++ b))[i]? = some x := by
      rw [← List.cons_append, List.getElem?_append_left (by simp; omega)] at hx ⊢
      exact hx
    have hne : lastP L a ≠ x := fun e => by
      have := nodup_at hn2 hp (e ▸ hx')
      omega
    have hxn := hnb x (List.mem_of_getElem? hx')
    rw [cell_other (.inl hne), cell_other (.inl (fun e => hxn e.symm)), h i x hx', List.getElem?_append_left h1, List.getElem?_append_left h1]
  · by_cases h2 : i = a.length
    · subst h2
      have hxe : x = lastP L a := by
        have := lastP_at L a (nb :: b)
        rw [this] at hx
        injection hx with hx
        exact hx.symm
      subst hxe
      have hc : (w.setCell ⟨nb, 1 + f, none⟩ (ptrO b.head?)).cell? ⟨lastP L a, 1 + f, none⟩ = some (ptrO (a ++ b)[a.length]?) := by
        rw [cell_other (.inl (fun e => hnb _ hpm e.symm))]
        exact h _ _ hp
      rw [World.cell?_setCell_same _ _ _ hc, List.getElem?_append_right (Nat.le_refl _), Nat.sub_self]
      rfl
    · by_cases h3 : i = a.length + 1
      · subst h3
        have hxe : x = nb := by
          rw [List.getElem?_cons_succ, List.getElem?_append_right (Nat.le_refl _), Nat.sub_self] at hx
          injection hx with hx
          exact hx.symm
        subst hxe
        obtain ⟨v0, hv0⟩ := Option.isSome_iff_exists.1 h0
        rw [cell_other (.inl (hnb _ hpm)), World.cell?_setCell_same _ _ _ hv0, List.getElem?_append_right (by omega), show a.length + 1 - a.length = 1 by omega]
        cases b <;> rfl
      · obtain ⟨j, rfl⟩ : ∃ j, i = a.length + 2 + j := ⟨i - a.length - 2, by omega⟩
        have hx' : (L :: (a ++ b))[a.length + 1 + j]? = some x := by
          rw [show a.length + 2 + j = (a.length + 1 + j) + 1 by omega, List.getElem?_cons_succ, List.getElem?_append_right (by omega), show a.length + 1 + j - a.length = j + 1 by omega, List.getElem?_cons_succ] at hx
          rw [show a.length + 1 + j = (a.length + j) + 1 by omega, List.getElem?_cons_succ, List.getElem?_append_right (by omega), show a.length + j - a.length = j by omega]
          exact hx
        have hne : lastP L a ≠ x := fun e => by
          have := nodup_at hn2 hp (e ▸ hx')
          omega
        have hxn := hnb x (List.mem_of_getElem? hx')
        rw [cell_other (.inl hne), cell_other (.inl (fun e => hxn e.symm)), h _ x hx', List.getElem?_append_right (by omega), List.getElem?_append_right (by omega), show a.length + 1 + j - a.length = j + 1 by omega, show a.length + 2 + j - a.length = (j + 1) + 1 by omega, List.getElem?_cons_succ]

theorem chain_other {w : World} {f g L x : Nat} {l : List Nat} {v : Value} (h : ChainL w f L l) (hfg : g ≠ f) : ChainL (w.setCell ⟨x, 1 + g, none⟩ v) f L l := fun i y hy => by
  rw [cell_other (.inr (by omega))]
  exact h i y hy

theorem fl_nodup3 {L nb : Nat} {A B : List Nat} {ht : Nat → Nat} (h : (L :: nb :: (A ++ B)).Nodup) (f : Nat) : (L :: nb :: (fl A ht f ++ fl B ht f)).Nodup := by
  rw [← fl_append]
  have h1 := List.nodup_cons.1 h
  have h2 := List.nodup_cons.1 h1.2
  refine List.nodup_cons.2 ⟨fun hm => h1.1 ?_, List.nodup_cons.2 ⟨fun hm => h2.1 (fl_mem.1 hm).1, List.Nodup.sublist (List.filter_sublist ..) h2.2⟩⟩
  rcases List.mem_cons.1 hm with rfl | hm
  · simp
  · exact List.mem_cons_of_mem _ (fl_mem.1 hm).1

theorem PutMid.step {w : World} {L nb : Nat} {kk : ByteArray} {A B : List Nat} {key : Nat → ByteArray} {ht : Nat → Nat} {k : Nat} (h : PutMid w L nb kk A B key ht k) (hk : k < 8) :
    PutMid ((w.setCell ⟨nb, 1 + k, none⟩ (ptrO (fl B ht k).head?)).setCell ⟨lastP L (fl A ht k), 1 + k, none⟩ (.pointer (some ⟨nb, 0, none⟩))) L nb kk A B key ht (k + 1) where
  nodup := h.nodup
  head := block_set (block_set h.head _ _ _) _ _ _
  node := fun b hb => block_set (block_set (h.node b hb) _ _ _) _ _ _
  key := fun b hb => by
    rw [cell_other (.inr (by omega)), cell_other (.inr (by omega))]
    exact h.key b hb
  keyN := by
    rw [cell_other (.inr (by omega)), cell_other (.inr (by omega))]
    exact h.keyN
  old := fun f hf h8 => chain_other (chain_other (h.old f (by omega) h8) (by omega)) (by omega)
  new := fun f hf h8 => by
    by_cases he : f = k
    · subst he
      have ho := h.old f (Nat.le_refl _) h8
      rw [fl_append] at ho
      refine chain_put (fl_nodup3 h.nodup f) ho ?_
      obtain ⟨cs, hc, hs⟩ := h.node nb (by simp)
      rw [Lib.cell_of_heap hc (1 + f), Array.getElem?_eq_getElem (by omega)]
      rfl
    · exact chain_other (chain_other (h.new f (by omega) h8) (by omega)) (by omega)
  tall := h.tall

theorem PutMid.kept {w w' : World} {L nb : Nat} {kk : ByteArray} {A B : List Nat} {key : Nat → ByteArray} {ht : Nat → Nat} {k : Nat} (h : PutMid w L nb kk A B key ht k) (hk : ∀ x ∈ L :: nb :: (A ++ B), w'.heap[x]? = w.heap[x]?) : PutMid w' L nb kk A B key ht k where
  nodup := h.nodup
  head := by
    obtain ⟨cs, hc, hs⟩ := h.head
    exact ⟨cs, (hk L (by simp)).trans hc, hs⟩
  node := fun b hb => by
    obtain ⟨cs, hc, hs⟩ := h.node b hb
    exact ⟨cs, (hk b (List.mem_cons_of_mem _ hb)).trans hc, hs⟩
  key := fun b hb => (cell_same (hk b (by simp at hb ⊢; right; right; exact hb))).trans (h.key b hb)
  keyN := (cell_same (hk nb (by simp))).trans h.keyN
  old := fun f hf h8 i x hx => (cell_same (hk x (by
    rcases List.mem_cons.1 (fl_sub (List.mem_of_getElem? hx)) with rfl | hm
    · simp
    · exact List.mem_cons_of_mem _ (List.mem_cons_of_mem _ hm)))).trans (h.old f hf h8 i x hx)
  new := fun f hf h8 i x hx => (cell_same (hk x (by
    have hm := List.mem_of_getElem? hx
    rcases List.mem_cons.1 hm with rfl | hm
    · simp
    · rcases List.mem_append.1 hm with hm | hm
      · have := (fl_mem.1 hm).1
        simp [this]
      · rcases List.mem_cons.1 hm with rfl | hm
        · simp
        · have := (fl_mem.1 hm).1
          simp [this]))).trans (h.new f hf h8 i x hx)
  tall := h.tall

/-- The nodes then. -/
theorem PutMid.done {w : World} {L nb : Nat} {kk : ByteArray} {A B : List Nat} {key : Nat → ByteArray} {ht : Nat → Nat} {h : Nat} (m : PutMid w L nb kk A B key ht h) (h1 : 1 ≤ h) :
    SkN w L (A ++ nb :: B) (fun x => if x = nb then kk else key x) (fun x => if x = nb then h else ht x) := by
  have hnb : nb ∉ A ++ B := (List.nodup_cons.1 (List.nodup_cons.1 m.nodup).2).1
  have hnA : ∀ x ∈ A, x ≠ nb := fun x hx e => hnb (by rw [← e]; simp [hx])
  have hnB : ∀ x ∈ B, x ≠ nb := fun x hx e => hnb (by rw [← e]; simp [hx])
  have hfl : ∀ (l : List Nat) (f : Nat), (∀ x ∈ l, x ≠ nb) → fl l (fun x => if x = nb then h else ht x) f = fl l ht f := fun l f hl => by
    unfold fl
    refine List.filter_congr fun x hx => ?_
    show decide (f < if x = nb then h else ht x) = _
    rw [if_neg (hl x hx)]
  refine ⟨?_, m.head, fun b hb => m.node b ?_, fun b hb => ?_, fun f hf => ?_, fun b hb => ?_⟩
  · have hp := List.nodup_cons.1 m.nodup
    refine List.nodup_cons.2 ⟨fun hm => hp.1 ?_, ?_⟩
    · simp at hm ⊢
      rcases hm with h | h | h <;> simp [h]
    · exact (List.perm_middle.nodup_iff).2 hp.2
  · simp at hb ⊢
    rcases hb with h | h | h <;> simp [h]
  · by_cases he : b = nb
    · subst he
      rw [if_pos rfl]
      exact m.keyN
    · rw [if_neg he]
      refine m.key b ?_
      simp at hb ⊢
      rcases hb with h | h | h
      · simp [h]
      · exact absurd h he
      · simp [h]
  · have e : fl (A ++ nb :: B) (fun x => if x = nb then h else ht x) f = if f < h then fl A ht f ++ nb :: fl B ht f else fl (A ++ B) ht f := by
      rw [fl_append, hfl A f hnA, fl_append]
      have hc : fl (nb :: B) (fun x => if x = nb then h else ht x) f = if f < h then nb :: fl B ht f else fl B ht f := by
        have := hfl B f hnB
        unfold fl at this ⊢
        rw [List.filter_cons, this]
        have e1 : decide (f < (fun x => if x = nb then h else ht x) nb) = decide (f < h) := by
          show decide (f < if nb = nb then h else ht nb) = _
          rw [if_pos rfl]
        rw [e1]
        by_cases hlt : f < h
        · rw [decide_eq_true hlt, if_pos rfl, if_pos hlt]
        · rw [decide_eq_false hlt, if_neg (by decide), if_neg hlt]
      rw [hc]
      split <;> rfl
    rw [e]
    split
    · rename_i hlt
      exact m.new f hlt hf
    · exact m.old f (by omega) hf
  · by_cases he : b = nb
    · rw [if_pos he]; exact h1
    · rw [if_neg he]
      refine m.tall b ?_
      simp at hb ⊢
      rcases hb with h | h | h
      · simp [h]
      · exact absurd h he
      · simp [h]

theorem SkN.setHi {w : World} {L : Nat} {ns : List Nat} {key : Nat → ByteArray} {ht : Nat → Nat} (h : SkN w L ns key ht) {j : Nat} (hj : 9 ≤ j) (v : Value) : SkN (w.setCell ⟨L, j, none⟩ v) L ns key ht where
  nodup := h.nodup
  head := block_set h.head _ _ _
  node := fun b hb => block_set (h.node b hb) _ _ _
  key := fun b hb => by
    rw [cell_other (.inr (by omega))]
    exact h.key b hb
  chain := fun f hf i x hx => by
    rw [cell_other (.inr (by omega))]
    exact h.chain f hf i x hx
  tall := h.tall

theorem PutMid.start {w : World} {L nb : Nat} {kk : ByteArray} {A B : List Nat} {key : Nat → ByteArray} {ht : Nat → Nat} (h : SkN w L (A ++ B) key ht) (hn : nb ∉ L :: (A ++ B)) (hb : ∃ cs, w.heap[nb]? = some (Obj.cells cs 46 (0, 0)) ∧ cs.size = 9) (hk : w.cell? ⟨nb, 0, none⟩ = some (.string kk)) : PutMid w L nb kk A B key ht 0 where
  nodup := by
    have hp := List.nodup_cons.1 h.nodup
    simp at hn
    refine List.nodup_cons.2 ⟨?_, List.nodup_cons.2 ⟨by simp; exact hn.2, hp.2⟩⟩
    simp
    have h1 := hp.1
    simp at h1
    exact ⟨fun e => hn.1 e.symm, h1⟩
  head := h.head
  node := fun b hb' => by
    rcases List.mem_cons.1 hb' with rfl | hb'
    · exact hb
    · exact h.node b hb'
  key := h.key
  keyN := hk
  old := fun f _ h8 => h.chain f h8
  new := fun f hf _ => absurd hf (Nat.not_lt_zero f)
  tall := h.tall

/-- Nodes and heads are no rows of bytes. -/
theorem Draws.touch {w w' : World} {v : Value} {l : List Nat} (h : Draws w v) (ht : Touch w w' l) (hl : ∀ x ∈ l, ∃ cs t fz, t ≠ 5 ∧ w.heap[x]? = some (Obj.cells cs t fz)) : Draws w' v :=
  bytes_of_draws h (fun g cs fz hg => ht.keep hg (fun hm => by
    obtain ⟨cs', t, fz', hne, hx⟩ := hl g hm
    rw [hg] at hx
    injection hx with hx
    injection hx with _ hx _
    exact hne hx.symm)) ht.size

theorem PutMid.types {w : World} {L nb : Nat} {kk : ByteArray} {A B : List Nat} {key : Nat → ByteArray} {ht : Nat → Nat} {k : Nat} (h : PutMid w L nb kk A B key ht k) : ∀ x ∈ L :: nb :: (A ++ B), ∃ cs t fz, t ≠ 5 ∧ w.heap[x]? = some (Obj.cells cs t fz) := by
  intro x hx
  rcases List.mem_cons.1 hx with rfl | hx
  · obtain ⟨cs, hc, _⟩ := h.head
    exact ⟨cs, _, _, by decide, hc⟩
  · obtain ⟨cs, hc, _⟩ := h.node x hx
    exact ⟨cs, _, _, by decide, hc⟩

theorem sumSz_put {A B : List Nat} {nb : Nat} {kk : ByteArray} {kf : Nat → ByteArray} {K : List ByteArray} (hk : (A ++ B).map kf = K) (hn : nb ∉ A ++ B) (hp : putAt K kk = A.length) (hne : ¬ K[A.length]? = some kk) :
    (A ++ nb :: B).map (fun x => if x = nb then kk else kf x) = putK K kk ∧ (putK K kk).length = K.length + 1 ∧ sumSz (putK K kk) = sumSz K + kk.size := by
  have hA : A.map (fun x => if x = nb then kk else kf x) = A.map kf := List.map_congr_left fun x hx => if_neg (fun e => hn (by rw [← e]; simp [hx]))
  have hB : B.map (fun x => if x = nb then kk else kf x) = B.map kf := List.map_congr_left fun x hx => if_neg (fun e => hn (by rw [← e]; simp [hx]))
  have e : putK K kk = A.map kf ++ kk :: B.map kf := by
    unfold putK
    rw [hp, if_neg hne, ← hk, List.map_append, List.take_left' (by simp), List.drop_left' (by simp)]
  refine ⟨?_, ?_, ?_⟩
  · rw [e, List.map_append, hA, List.map_cons, if_pos rfl, hB]
  · rw [e, ← hk]
    simp
    omega
  · rw [e, ← hk]
    unfold sumSz
    simp
    omega

theorem put_done {wr : World} {L nb : Nat} {kk : ByteArray} {A B : List Nat} {kf : Nat → ByteArray} {ht : Nat → Nat} {h : Nat} {K : List ByteArray} {v : Value} (m : PutMid wr L nb kk A B kf ht h) (h1 : 1 ≤ h) (hk : (A ++ B).map kf = K) (hu : rises K) (hp : putAt K kk = A.length) (hne : ¬ K[A.length]? = some kk)
    (h9 : wr.cell? ⟨L, 9, none⟩ = some v) (hd : Draws wr v) (h10 : wr.cell? ⟨L, 10, none⟩ = some (.int .i64 (K.length : Int))) (h11 : wr.cell? ⟨L, 11, none⟩ = some (.int .i64 (sumSz K : Int))) :
    SkL (((wr.setCell ⟨L, 10, none⟩ (.int .i64 ((K.length : Int) + 1))).setCell ⟨L, 11, none⟩ (.int .i64 ((sumSz K + kk.size : Nat) : Int))).drew) L (A ++ nb :: B) (fun x => if x = nb then kk else kf x) (fun x => if x = nb then h else ht x) (putK K kk) := by
  have hnb : nb ∉ A ++ B := (List.nodup_cons.1 (List.nodup_cons.1 m.nodup).2).1
  obtain ⟨k1, k2, k3⟩ := sumSz_put hk hnb hp hne
  have ht1 : Touch wr (((wr.setCell ⟨L, 10, none⟩ (.int .i64 ((K.length : Int) + 1))).setCell ⟨L, 11, none⟩ (.int .i64 ((sumSz K + kk.size : Nat) : Int))).drew) [L] := (((Touch.refl _ _).setCell (.inl (by simp)) _).setCell (.inl (by simp)) _).drew
  refine ⟨(((m.done h1).setHi (by omega) _).setHi (by omega) _).kept (fun _ _ => rfl), k1, putK_rises hu, ⟨v, ?_, hd.touch ht1 (fun x hx => ?_)⟩, ?_, ?_⟩
  · refine (cell_same (w := (wr.setCell ⟨L, 10, none⟩ (.int .i64 ((K.length : Int) + 1))).setCell ⟨L, 11, none⟩ (.int .i64 ((sumSz K + kk.size : Nat) : Int))) rfl).trans ?_
    rw [cell_other (.inr (by omega)), cell_other (.inr (by omega))]
    exact h9
  · simp at hx
    subst hx
    exact m.types x (by simp)
  · refine (cell_same (w := (wr.setCell ⟨L, 10, none⟩ (.int .i64 ((K.length : Int) + 1))).setCell ⟨L, 11, none⟩ (.int .i64 ((sumSz K + kk.size : Nat) : Int))) rfl).trans ?_
    rw [cell_other (.inr (by omega)), World.cell?_setCell_same _ _ _ h10, k2]
    rfl
  · refine (cell_same (w := (wr.setCell ⟨L, 10, none⟩ (.int .i64 ((K.length : Int) + 1))).setCell ⟨L, 11, none⟩ (.int .i64 ((sumSz K + kk.size : Nat) : Int))) rfl).trans ?_
    have : (wr.setCell ⟨L, 10, none⟩ (.int .i64 ((K.length : Int) + 1))).cell? ⟨L, 11, none⟩ = some (.int .i64 (sumSz K : Int)) := by
      rw [cell_other (.inr (by omega))]
      exact h11
    rw [World.cell?_setCell_same _ _ _ this, k3]
end Go.Proofs.Ythficboolhellaa
