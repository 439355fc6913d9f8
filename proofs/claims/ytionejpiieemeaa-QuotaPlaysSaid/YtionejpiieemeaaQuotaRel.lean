/- The quota and the reference's, side by side. -/
import Derived.Test.YtionejpiieemeaaQuotaRefTake
import Derived.Test.YtionejpiieemeaaQuotaFixed
import Derived.Test.YtionejpiieemeaaStrPuts
namespace Go.Proofs.Ytionejpiieemeaa
open Go Go.RowKit

structure Rel (S : QS) (R : RQ) : Prop where
  rate : S.rate = R.rate
  most : S.most = R.most
  last : S.last = R.now
  rise : rises (R.cs.map (·.1))
  mem : ∀ c, (S.g c).isSome = true ↔ Has R.cs c
  val : ∀ c h, (c, h) ∈ R.cs → h = S.has c

theorem has_mem {l : List (ByteArray × Nat)} {c : ByteArray} : Has l c ↔ ∃ h, (c, h) ∈ l := by
  constructor
  · rintro ⟨k, h, hk⟩
    exact ⟨h, List.mem_of_getElem? hk⟩
  · rintro ⟨h, hm⟩
    obtain ⟨k, hk⟩ := List.getElem?_of_mem hm
    exact ⟨k, h, hk⟩

theorem has_names {l : List (ByteArray × Nat)} {c : ByteArray} : Has l c ↔ c ∈ l.map (·.1) := by
  rw [has_mem, List.mem_map]
  constructor
  · rintro ⟨h, hm⟩
    exact ⟨_, hm, rfl⟩
  · rintro ⟨⟨x, h⟩, hm, rfl⟩
    exact ⟨h, hm⟩

/-- What time gives, in two steps. -/
theorem two_ticks (m x a g r : Nat) (more : Nat) (hm : more =  if r = 0 then 0 else if g ≤ m / r then g * r else m) : min m (x + (a + g) * r) = min m (min m (x + a * r) + more) := by
  rw [Nat.add_mul]
  by_cases h0 : r = 0
  · subst h0
    rw [if_pos rfl] at hm
    subst hm
    simp
  · rw [if_neg h0] at hm
    by_cases hg : g ≤ m / r
    · rw [if_pos hg] at hm
      subst hm
      omega
    · rw [if_neg hg] at hm
      have := (much_iff g m r (Nat.pos_of_ne_zero h0)).1 (Nat.lt_of_not_le hg)
      omega

theorem Rel.tick {S : QS} {R : RQ} (h : Rel S R) (hs : S.ok) (now : Nat) : Rel (S.tick now) (R.tick now) := by
  by_cases hle : now ≤ R.now
  · have h1 : S.tick now = S := by
      unfold QS.tick
      have := h.last
      rw [Nat.max_eq_left (by omega)]
    have h2 : R.tick now = R := by unfold RQ.tick; rw [if_pos hle]
    rw [h1, h2]
    exact h
  · have h2 : R.tick now = { R with now := now, cs := R.cs.map (R.up now) } := by unfold RQ.tick; rw [if_neg hle]
    have h3 : (S.tick now).last = now := by
      have := h.last
      show max S.last now = now
      omega
    rw [h2]
    have hmap : (R.cs.map (R.up now)).map (·.1) = R.cs.map (·.1) := by
      rw [List.map_map]
      rfl
    refine ⟨h.rate, h.most, h3, ?_, fun c => ?_, fun c x hx => ?_⟩
    · show rises ((R.cs.map (R.up now)).map (·.1))
      rw [hmap]
      exact h.rise
    · rw [show ((S.tick now).g c) = S.g c from rfl, h.mem c]
      show _ ↔ Has (R.cs.map (R.up now)) c
      rw [has_names, has_names, hmap]
    · have hx : (c, x) ∈ R.cs.map (R.up now) := hx
      obtain ⟨⟨c', y⟩, hy, he⟩ := List.mem_map.1 hx
      have he1 : c' = c := congrArg Prod.fst he
      have he2 : min R.most (y + R.more now) = x := congrArg Prod.snd he
      subst he1
      have hv := h.val c' y hy
      have hg : (S.g c').isSome = true := (h.mem c').2 (has_mem.2 ⟨y, hy⟩)
      obtain ⟨⟨h0, a0⟩, hg⟩ := Option.isSome_iff_exists.1 hg
      have ha := (hs.2.2.2 c' h0 a0 hg).2
      have e1 : S.has c' = min S.most (h0 + (S.last - a0) * S.rate) := by unfold QS.has; rw [hg]
      have e2 : (S.tick now).has c' = min S.most (h0 + ((S.tick now).last - a0) * S.rate) := by
        unfold QS.has
        rw [show (S.tick now).g c' = S.g c' from rfl, hg]
        rfl
      rw [e2, ← he2, hv, e1, h3]
      have hl := h.last
      rw [show now - a0 = (S.last - a0) + (now - R.now) by omega, h.most, h.rate]
      exact (two_ticks R.most h0 (S.last - a0) (now - R.now) R.rate (R.more now) rfl).symm

theorem has_set (S : QS) (c : ByteArray) {x : Nat} (hx : x ≤ S.most) (d : ByteArray) : (S.set c x).has d = if d = c then x else S.has d := by
  unfold QS.has QS.set
  simp only
  by_cases h : d = c
  · rw [if_pos h, if_pos h]
    simp
    omega
  · rw [if_neg h, if_neg h]

/-- One client's purse is set, here and there. -/
theorem Rel.put {S : QS} {R : RQ} (h : Rel S R) (c : ByteArray) {k x : Nat} (y : Nat) (hk : R.cs[k]? = some (c, x)) (hy : y ≤ S.most) : Rel (S.set c y) { R with cs := R.cs.set k (c, y) } := by
  have hnames : (R.cs.set k (c, y)).map (·.1) = R.cs.map (·.1) := by
    rw [List.map_set]
    apply List.ext_getElem?
    intro j
    rw [List.getElem?_set]
    split
    · rename_i hj
      subst hj
      have hkl := (List.getElem?_eq_some_iff.1 hk).1
      rw [List.getElem?_map, hk, List.length_map, if_pos hkl]
      rfl
    · rfl
  refine ⟨h.rate, h.most, h.last, ?_, fun d => ?_, fun d z hz => ?_⟩
  · show rises ((R.cs.set k (c, y)).map (·.1))
    rw [hnames]
    exact h.rise
  · show _ ↔ Has (R.cs.set k (c, y)) d
    rw [has_names, hnames, ← has_names, ← h.mem d]
    show ((if d = c then some (y, S.last) else S.g d)).isSome = true ↔ _
    by_cases hd : d = c
    · rw [if_pos hd, hd]
      have := (h.mem c).2 ⟨k, x, hk⟩
      simp [this]
    · rw [if_neg hd]
  · rw [has_set S c hy]
    have hz : (d, z) ∈ R.cs.set k (c, y) := hz
    obtain ⟨j, hj⟩ := List.getElem?_of_mem hz
    rw [List.getElem?_set] at hj
    have hp : ∀ (i j u v : Nat), R.cs[i]? = some (c, u) → R.cs[j]? = some (c, v) → i = j := by
      intro i j u v hi hj
      have h1 : (R.cs.map (·.1))[i]? = some c := by rw [List.getElem?_map, hi]; rfl
      have h2 : (R.cs.map (·.1))[j]? = some c := by rw [List.getElem?_map, hj]; rfl
      rcases Nat.lt_trichotomy i j with hlt | rfl | hlt
      · have := List.pairwise_iff_getElem.1 h.rise i j (List.getElem?_eq_some_iff.1 h1).1 (List.getElem?_eq_some_iff.1 h2).1 hlt
        rw [(List.getElem?_eq_some_iff.1 h1).2, (List.getElem?_eq_some_iff.1 h2).2, bl_irrefl] at this
        cases this
      · rfl
      · have := List.pairwise_iff_getElem.1 h.rise j i (List.getElem?_eq_some_iff.1 h2).1 (List.getElem?_eq_some_iff.1 h1).1 hlt
        rw [(List.getElem?_eq_some_iff.1 h1).2, (List.getElem?_eq_some_iff.1 h2).2, bl_irrefl] at this
        cases this
    by_cases hjk : k = j
    · rw [if_pos hjk, if_pos ((List.getElem?_eq_some_iff.1 hk).1)] at hj
      cases hj
      rw [if_pos rfl]
    · rw [if_neg hjk] at hj
      have hdc : d ≠ c := by
        intro e
        subst e
        exact hjk (hp k j x z hk hj)
      rw [if_neg hdc]
      exact h.val d z (List.mem_of_getElem? hj)

/-- A client is put in. -/
theorem Rel.enter {S : QS} {R : RQ} (h : Rel S R) (c : ByteArray) {j : Nat} (hno : ¬ Has R.cs c) (hl : Lands R.cs c j) :
    S.has c = R.most ∧ Rel (S.set c R.most) { R with cs := R.cs.take j ++ (c, R.most) :: R.cs.drop j } := by
  have hg : S.g c = none := by
    cases hg : S.g c with
    | none => rfl
    | some p => exact absurd ((h.mem c).1 (by rw [hg]; rfl)) hno
  have hat : putAt (R.cs.map (·.1)) c = j := by
    refine putAt_eq (fun i x hi hx => ?_) (by rw [List.length_map]; exact hl.1) (fun x hx => ?_)
    · rw [List.getElem?_map] at hx
      obtain ⟨p, hp, rfl⟩ := Option.map_eq_some_iff.1 hx
      exact hl.2.1 i p hi hp
    · rw [List.getElem?_map] at hx
      obtain ⟨p, hp, rfl⟩ := Option.map_eq_some_iff.1 hx
      exact hl.2.2 p hp
  have hput : putK (R.cs.map (·.1)) c = (R.cs.take j ++ (c, R.most) :: R.cs.drop j).map (·.1) := by
    unfold putK
    rw [hat, if_neg (fun e => hno (has_names.2 (List.mem_of_getElem? e)))]
    simp
  have hmem : ∀ p : ByteArray × Nat, p ∈ R.cs.take j ++ (c, R.most) :: R.cs.drop j ↔ p = (c, R.most) ∨ p ∈ R.cs := by
    intro p
    conv => rhs; rw [← List.take_append_drop j R.cs]
    simp only [List.mem_append, List.mem_cons]
    constructor
    · rintro (h | h | h)
      · exact .inr (.inl h)
      · exact .inl h
      · exact .inr (.inr h)
    · rintro (h | h | h)
      · exact .inr (.inl h)
      · exact .inl h
      · exact .inr (.inr h)
  have hm : R.most ≤ S.most := by rw [h.most]; exact Nat.le_refl _
  refine ⟨by unfold QS.has; rw [hg]; exact h.most, h.rate, h.most, h.last, ?_, fun d => ?_, fun d z hz => ?_⟩
  · show rises ((R.cs.take j ++ (c, R.most) :: R.cs.drop j).map (·.1))
    rw [← hput]
    exact putK_rises h.rise
  · show ((if d = c then some (R.most, S.last) else S.g d)).isSome = true ↔ Has (R.cs.take j ++ (c, R.most) :: R.cs.drop j) d
    rw [has_mem]
    by_cases hd : d = c
    · rw [if_pos hd]
      exact ⟨fun _ => ⟨R.most, (hmem _).2 (.inl (by rw [hd]))⟩, fun _ => rfl⟩
    · rw [if_neg hd, h.mem d, has_mem]
      constructor
      · rintro ⟨x, hx⟩
        exact ⟨x, (hmem _).2 (.inr hx)⟩
      · rintro ⟨x, hx⟩
        rcases (hmem _).1 hx with e | e
        · exact absurd (congrArg Prod.fst e) hd
        · exact ⟨x, e⟩
  · rw [has_set S c hm]
    rcases (hmem _).1 hz with e | e
    · cases e
      rw [if_pos rfl]
    · have hdc : d ≠ c := fun hd => hno (has_mem.2 ⟨z, hd ▸ e⟩)
      rw [if_neg hdc]
      exact h.val d z e

theorem set_set (S : QS) (c : ByteArray) (x y : Nat) : (S.set c x).set c y = S.set c y := by
  unfold QS.set
  simp only
  congr 1
  funext d
  split <;> rfl

/-- What Take leaves on both sides. -/
theorem Rel.take {S : QS} {R R' : RQ} (h : Rel S R) (hs : S.ok) (c : ByteArray) (n now : Nat) {k x : Nat} (hR : R' = R.tick now ∨ (¬ Has (R.tick now).cs c ∧ ∃ j, Lands (R.tick now).cs c j ∧ k = j ∧ R' = { R.tick now with cs := (R.tick now).cs.take j ++ (c, R.most) :: (R.tick now).cs.drop j }))
    (hk : R'.cs[k]? = some (c, x)) : x = (S.tick now).has c ∧ Rel (S.take c n now) (if n ≤ x then { R' with cs := R'.cs.set k (c, x - n) } else R') := by
  have ht := h.tick hs now
  have hmost := (R.tick_few now).2.1
  have key : x = (S.tick now).has c ∧ ∀ y, y ≤ (S.tick now).most → Rel ((S.tick now).set c y) { R' with cs := R'.cs.set k (c, y) } := by
    rcases hR with rfl | ⟨hno, j, hl, rfl, rfl⟩
    · exact ⟨ht.val c x (List.mem_of_getElem? hk), fun y hy => ht.put c y hk hy⟩
    · rw [← hmost] at hk ⊢
      obtain ⟨e1, e2⟩ := ht.enter c hno hl
      have hx : x = (R.tick now).most := by
        have h1 : ((R.tick now).cs.take k ++ (c, (R.tick now).most) :: (R.tick now).cs.drop k)[k]? = some (c, (R.tick now).most) := by
          have := hl.1
          rw [List.getElem?_append_right (by simp; omega)]
          simp [List.length_take, Nat.min_eq_left this]
        have h2 : some (c, x) = some (c, (R.tick now).most) := hk.symm.trans h1
        cases h2
        rfl
      refine ⟨by rw [hx, e1], fun y hy => ?_⟩
      have := e2.put c y hk hy
      rw [set_set] at this
      exact this
  refine ⟨key.1, ?_⟩
  have htk : S.take c n now = (S.tick now).set c ((S.tick now).left c n) := rfl
  have hlf : (S.tick now).left c n = if n ≤ x then x - n else x := by
    unfold QS.left
    rw [← key.1]
  have hle : x ≤ (S.tick now).most := by rw [key.1]; exact QS.has_le _ _
  rw [htk, hlf]
  by_cases hn : n ≤ x
  · rw [if_pos hn, if_pos hn]
    exact key.2 _ (by omega)
  · rw [if_neg hn, if_neg hn]
    have := key.2 x hle
    have hset : R'.cs.set k (c, x) = R'.cs := by
      apply List.ext_getElem?
      intro j
      rw [List.getElem?_set]
      split
      · rename_i hj
        subst hj
        rw [hk, if_pos (List.getElem?_eq_some_iff.1 hk).1]
      · rfl
    rw [hset] at this
    exact this

theorem Rel.ok {S : QS} {R : RQ} (h : Rel S R) (hs : S.ok) : R.ok := by
  obtain ⟨h1, h2, h3, _⟩ := hs
  refine ⟨by rw [← h.rate]; exact h1, by rw [← h.most]; exact h2, by rw [← h.last]; exact h3, fun p hp => ?_⟩
  have := h.val p.1 p.2 hp
  rw [this, ← h.most]
  exact QS.has_le _ _
end Go.Proofs.Ytionejpiieemeaa
