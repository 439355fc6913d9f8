/- leave and enter on the ring. -/
import Derived.Test.YtdooedlapoknbaaCacheState
namespace Go.Proofs.Ytdooedlapoknbaa
open Go Go.RowKit Go.Maps

/-- What leave and enter leave: the nodes linked anew, all other blocks as they were. -/
def RingPost (B : Nat) (W : World) (it : Nat → It) (pv nx : Nat → Nat) (r : Nat) (xs S : List Nat) (e : Ending) (W' : World) : Prop :=
  e = .returned (.tuple #[]) ∧ Nodes W' it pv nx S ∧ Ring pv nx r xs ∧ (∀ k, k ∉ S → W'.heap[k]? = W.heap[k]?) ∧ CF B W W'

theorem leave_ring (B : Nat) (W : World) (it : Nat → It) (pv nx : Nat → Nat) (r : Nat) (A : List Nat) (x : Nat) (Bs : List Nat) (hn : Nodes W it pv nx (r :: (A ++ x :: Bs))) (hr : Ring pv nx r (A ++ x :: Bs)) (hB : ∀ y ∈ r :: (A ++ x :: Bs), B ≤ y) :
    Calls Try.prog 23 #[.pointer (some ⟨x, 0, none⟩)] W (RingPost B W it (upd pv (nx x) (pv x)) (upd nx (pv x) (nx x)) r (A ++ Bs) (r :: (A ++ x :: Bs))) := by
  obtain ⟨A0, B0, p, q, hA, hB0, hpx, hqx, hpn, hqn, _, _⟩ := ring_split hr
  have hpm : p ∈ r :: (A ++ x :: Bs) := by
    have : p ∈ r :: A := by rw [hA]; simp
    simp at this ⊢
    rcases this with e | e <;> simp [e]
  have hqm : q ∈ r :: (A ++ x :: Bs) := by
    have : q ∈ Bs ++ [r] := by rw [hB0]; simp
    simp at this ⊢
    rcases this with e | e <;> simp [e]
  have nx0 := hn x (by simp)
  rw [hpx, hqx] at nx0
  refine (leave_any W x p q (it x) (it p) (it q) (pv p) (nx p) (pv q) (nx q) nx0 (hn p hpm) (hn q hqm)).mono fun e w' ⟨he, k, hw⟩ => ?_
  subst hw
  refine ⟨he, ?_, hr.leave, fun y hy => ?_, ?_⟩
  · rw [hpx, hqx]
    exact (hn.set5 p q).set4 q p
  · have h1 : y ≠ q := fun e => hy (e ▸ hqm)
    have h2 : y ≠ p := fun e => hy (e ▸ hpm)
    exact (Below.heap_setCell _ _ _ _ h1).trans (Below.heap_setCell _ _ _ _ h2)
  · exact CF.drewN (CF.set (p := ⟨q, 4, none⟩) (CF.set (p := ⟨p, 5, none⟩) (CF.refl B W) (hB p hpm) ⟨_, _, _, hn p hpm, .inr rfl⟩ _) (hB q hqm) ⟨_, _, _, hn.set5 p q q hqm, .inr rfl⟩ _) k

theorem ring_last {pv nx : Nat → Nat} {r : Nat} {xs : List Nat} (h : Ring pv nx r xs) : pv r ∈ r :: xs ∧ nx (pv r) = r := by
  obtain ⟨A0, p, hA⟩ : ∃ A0 p, r :: xs = A0 ++ [p] := ⟨(r :: xs).dropLast, (r :: xs).getLast (by simp), (List.dropLast_concat_getLast (by simp)).symm⟩
  have hl := h.2
  have he : r :: xs ++ [r] = A0 ++ p :: [r] := by rw [hA]; simp
  rw [he, links_mid] at hl
  obtain ⟨_, l2, l3, _⟩ := hl
  rw [l3]
  exact ⟨by rw [hA]; simp, l2⟩

theorem enter_ring (B : Nat) (W : World) (c n r : Nat) (m : Option Nat) (room used : Int) (it : Nat → It) (P Q : Value) (pv nx : Nat → Nat) (xs : List Nat)
    (hc : W.heap[c]? = some (.cells #[.map m, .pointer (some ⟨r, 0, none⟩), .int .i64 room, .int .i64 used] 54 (0, 0)))
    (hn : Nodes W it pv nx (r :: xs)) (hr : Ring pv nx r xs) (hx : n ∉ r :: xs) (hP : P.oneCell' = true) (hQ : Q.oneCell' = true)
    (hnn : W.heap[n]? = some (.cells #[.int .i64 (it n).f, .int .i64 (it n).b, (it n).kv, .int .i64 ((it n).sz : Int), P, Q] 50 (0, 0))) (hB : ∀ y ∈ n :: r :: xs, B ≤ y) :
    Calls Try.prog 22 #[.pointer (some ⟨c, 0, none⟩), .pointer (some ⟨n, 0, none⟩)] W (RingPost B W it (upd (upd pv n (pv r)) r n) (upd (upd nx n r) (pv r) n) r (xs ++ [n]) (n :: r :: xs)) := by
  obtain ⟨hlm, hlr⟩ := ring_last hr
  have hl := hn _ hlm
  rw [hlr] at hl
  have hnr : n ≠ r := fun e => hx (by rw [e]; simp)
  have hnl : n ≠ pv r := fun e => hx (e ▸ hlm)
  refine (enter_any W c n r (pv r) (it n) (it r) (it (pv r)) P Q hP hQ (nx r) (pv (pv r)) m room used hc hnn (hn r (by simp)) hl hnr hnl).mono fun e w' ⟨he, k, hw⟩ => ?_
  subst hw
  have n2 : Nodes ((W.setCell ⟨n, 4, none⟩ (.pointer (some ⟨pv r, 0, none⟩))).setCell ⟨n, 5, none⟩ (.pointer (some ⟨r, 0, none⟩))) it (upd pv n (pv r)) (upd nx n r) (n :: r :: xs) := by
    intro y hy
    by_cases hyn : y = n
    · subst hyn
      rw [heap_setCell_same _ y 5 _ _ _ (heap_setCell_same _ y 4 _ _ _ hnn)]
      simp [ndCells, upd]
    · have hyx : y ∈ r :: xs := by
        rcases List.mem_cons.1 hy with e | e
        · exact absurd e hyn
        · exact e
      rw [Below.heap_setCell _ _ _ _ hyn, Below.heap_setCell _ _ _ _ hyn, hn y hyx]
      simp [upd, hyn]
  have n3 := n2.set5 (pv r) n
  have n4 := n3.set4 r n
  have hlS : pv r ∈ n :: r :: xs := List.mem_cons_of_mem _ hlm
  refine ⟨he, n4, hr.enter hx, fun y hy => ?_, ?_⟩
  · have h1 : y ≠ n := fun e => hy (by rw [e]; simp)
    have h2 : y ≠ r := fun e => hy (by rw [e]; simp)
    have h3 : y ≠ pv r := fun e => hy (e ▸ hlS)
    exact (Below.heap_setCell _ _ _ _ h2).trans ((Below.heap_setCell _ _ _ _ h3).trans ((Below.heap_setCell _ _ _ _ h1).trans (Below.heap_setCell _ _ _ _ h1)))
  · refine CF.drewN (CF.set (p := ⟨r, 4, none⟩) (CF.set (p := ⟨pv r, 5, none⟩) (CF.set (p := ⟨n, 5, none⟩) (CF.set (p := ⟨n, 4, none⟩) (CF.refl B W) (hB n (by simp)) ⟨_, _, _, hnn, .inr rfl⟩ _) (hB n (by simp)) ⟨_, _, _, heap_setCell_same _ n 4 _ _ _ hnn, .inr rfl⟩ _) (hB _ hlS) ⟨_, _, _, n2 _ hlS, .inr rfl⟩ _) (hB r (by simp)) ⟨_, _, _, n3 r (by simp), .inr rfl⟩ _) k
end Go.Proofs.Ytdooedlapoknbaa
