/- What the proof stands on, part 15. -/
import Derived.Test.YtfhdonidgegebaaDoorMg14
/- Which versions are needed. -/
namespace Go.Proofs.YtfhdonidgegebaaDoor
open Go Go.RowKit

abbrev KE := ByteArray × Ent

instance (x : ByteArray) (S : List ByteArray) : Decidable (x ∈ S) := decidable_of_iff ((S.any fun q => decide (q = x)) = true) (by simp)

/-- The entry of an inner key. -/
def dec (k : ByteArray) : Option Ent := (outer k.data.toList).map fun p => ⟨⟨p.1.toArray⟩, p.2.1, p.2.2⟩

def decs : List ByteArray → Option (List Ent)
  | [] => some []
  | k :: r => match dec k with
    | none => none
    | some e => (decs r).map (e :: ·)

theorem decs_cons (k : ByteArray) (r : List ByteArray) : decs (k :: r) = match dec k with
    | none => none
    | some e => (decs r).map (e :: ·) := rfl

theorem decs_some {ks : List ByteArray} {es : List Ent} (h : decs ks = some es) : es.length = ks.length ∧ ∀ (i : Nat) (k : ByteArray), ks[i]? = some k → ∃ e, es[i]? = some e ∧ dec k = some e := by
  induction ks generalizing es with
  | nil =>
    cases h
    exact ⟨rfl, fun i k hk => by simp at hk⟩
  | cons a r ih =>
    rw [decs_cons] at h
    cases hd : dec a with
    | none => rw [hd] at h; cases h
    | some e =>
      rw [hd] at h
      obtain ⟨es', h1, rfl⟩ := Option.map_eq_some_iff.1 h
      obtain ⟨i1, i2⟩ := ih h1
      refine ⟨by simp [i1], fun i k hk => ?_⟩
      cases i with
      | zero =>
        simp at hk
        subst hk
        exact ⟨e, rfl, hd⟩
      | succ i => simpa using i2 i k (by simpa using hk)

theorem decs_of {ks : List ByteArray} {es : List Ent} (hl : es.length = ks.length) (h : ∀ (i : Nat) (k : ByteArray), ks[i]? = some k → ∃ e, es[i]? = some e ∧ dec k = some e) : decs ks = some es := by
  induction ks generalizing es with
  | nil => rw [List.eq_nil_of_length_eq_zero hl]; rfl
  | cons a r ih =>
    obtain ⟨e, h1, h2⟩ := h 0 a rfl
    cases es with
    | nil => simp at hl
    | cons e' es =>
      simp at h1
      subst h1
      rw [decs_cons, h2, ih (by simpa using hl) (fun i k hk => by simpa using h (i + 1) k (by simpa using hk))]
      rfl

theorem decs_none {ks : List ByteArray} {i : Nat} {k : ByteArray} (hk : ks[i]? = some k) (h : dec k = none) : decs ks = none := by
  cases hd : decs ks with
  | none => rfl
  | some es =>
    obtain ⟨e, _, he⟩ := (decs_some hd).2 i k hk
    rw [h] at he
    cases he

theorem decs_snoc {ks : List ByteArray} {es : List Ent} {k : ByteArray} {e : Ent} (h : decs ks = some es) (hk : dec k = some e) : decs (ks ++ [k]) = some (es ++ [e]) := by
  induction ks generalizing es with
  | nil =>
    cases h
    rw [List.nil_append, decs_cons, hk]
    rfl
  | cons a r ih =>
    rw [decs_cons] at h
    rw [List.cons_append, decs_cons]
    cases hd : dec a with
    | none => rw [hd] at h; cases h
    | some x =>
      rw [hd] at h
      obtain ⟨es', h1, rfl⟩ := Option.map_eq_some_iff.1 h
      rw [ih h1]
      rfl

/-- What is answered, as an error. -/
def errOf (ks : List ByteArray) : Nat := match decs ks with
  | none => 9
  | some _ => if rises ks then 0 else 11

theorem errOf_none {ks : List ByteArray} (h : decs ks = none) : errOf ks = 9 := by unfold errOf; rw [h]
theorem errOf_some {ks : List ByteArray} {es : List Ent} (h : decs ks = some es) : errOf ks = if rises ks then 0 else 11 := by unfold errOf; rw [h]

/-- What is kept, by the Keys that were seen at such revisions: 'ab': newer ones are told; 'b': what takes away isn't. -/
def gS (ab b : Bool) (r : Nat) : List ByteArray → List KE → List KE
  | _, [] => []
  | S, x :: t => if r < x.2.rev then (if ab then x :: gS ab b r S t else gS ab b r S t) else if x.2.key ∈ S then gS ab b r S t else if x.2.del && b then gS ab b r (x.2.key :: S) t else x :: gS ab b r (x.2.key :: S) t

theorem gS_cons (ab b : Bool) (r : Nat) (S : List ByteArray) (x : KE) (t : List KE) : gS ab b r S (x :: t) =
    if r < x.2.rev then (if ab then x :: gS ab b r S t else gS ab b r S t) else if x.2.key ∈ S then gS ab b r S t else if x.2.del && b then gS ab b r (x.2.key :: S) t else x :: gS ab b r (x.2.key :: S) t := rfl

theorem gS_sub (ab b : Bool) (r : Nat) (S : List ByteArray) (xs : List KE) : (gS ab b r S xs).Sublist xs := by
  induction xs generalizing S with
  | nil => exact List.Sublist.refl _
  | cons x t ih =>
    rw [gS_cons]
    split
    · split
      · exact (ih S).cons_cons x
      · exact (ih S).cons x
    · split
      · exact (ih S).cons x
      · split
        · exact (ih _).cons x
        · exact (ih _).cons_cons x

/-- The same, told one by one, by the last Key alone. -/
def gStep (ab b : Bool) (r : Nat) (s : List KE × Option ByteArray) (x : KE) : List KE × Option ByteArray :=
  if r < x.2.rev then (if ab then s.1 ++ [x] else s.1, s.2) else if s.2 = some x.2.key then s else (if x.2.del && b then s.1 else s.1 ++ [x], some x.2.key)

def gF (ab b : Bool) (r : Nat) (xs : List KE) : List KE × Option ByteArray := xs.foldl (gStep ab b r) ([], none)

theorem gF_snoc (ab b : Bool) (r : Nat) (xs : List KE) (x : KE) : gF ab b r (xs ++ [x]) = gStep ab b r (gF ab b r xs) x := by simp [gF]

/-- Keys rise, and of each Key revisions fall. -/
def mono (xs : List KE) : Prop := xs.Pairwise fun x y => bl y.2.key x.2.key = false ∧ (x.2.key = y.2.key → y.2.rev ≤ x.2.rev)

def LastOk (last : Option ByteArray) (S : List ByteArray) (xs : List KE) : Prop :=
  match last with
  | none => S = []
  | some p => p ∈ S ∧ (∀ x ∈ xs, bl x.2.key p = false) ∧ ∀ q ∈ S, q = p ∨ ∀ x ∈ xs, x.2.key ≠ q

theorem LastOk.mem {last : Option ByteArray} {S : List ByteArray} {x : KE} {t : List KE} (h : LastOk last S (x :: t)) : x.2.key ∈ S ↔ last = some x.2.key := by
  cases last with
  | none =>
    have h : S = [] := h
    subst h
    simp
  | some p =>
    obtain ⟨h1, _, h2⟩ := h
    constructor
    · intro hm
      rcases h2 _ hm with rfl | h
      · rfl
      · exact absurd rfl (h x (by simp))
    · intro he
      cases he
      exact h1

theorem LastOk.tail {last : Option ByteArray} {S : List ByteArray} {x : KE} {t : List KE} (h : LastOk last S (x :: t)) : LastOk last S t := by
  cases last with
  | none => exact h
  | some p => exact ⟨h.1, fun y hy => h.2.1 y (by simp [hy]), fun q hq => (h.2.2 q hq).imp id fun k y hy => k y (by simp [hy])⟩

theorem LastOk.push {last : Option ByteArray} {S : List ByteArray} {x : KE} {t : List KE} (h : LastOk last S (x :: t)) (hm : mono (x :: t)) (hx : x.2.key ∉ S) : LastOk (some x.2.key) (x.2.key :: S) t := by
  have hr : ∀ y ∈ t, bl y.2.key x.2.key = false := fun y hy => (List.rel_of_pairwise_cons hm hy).1
  refine ⟨by simp, hr, fun q hq => ?_⟩
  rcases List.mem_cons.1 hq with rfl | hq
  · exact .inl rfl
  · right
    cases last with
    | none =>
      have h : S = [] := h
      subst h
      cases hq
    | some p =>
      obtain ⟨h1, h2, h3⟩ := h
      have hpx : p ≠ x.2.key := fun e => hx (e ▸ h1)
      have hlt : bl p x.2.key = true := bl_ge (h2 x (by simp)) (Ne.symm hpx)
      rcases h3 q hq with rfl | h
      · intro y hy e
        have := hr y hy
        rw [e, hlt] at this
        cases this
      · exact fun y hy => h y (by simp [hy])

theorem gF_go (ab b : Bool) (r : Nat) (xs : List KE) : ∀ (out : List KE) (last : Option ByteArray) (S : List ByteArray), mono xs → LastOk last S xs → (xs.foldl (gStep ab b r) (out, last)).1 = out ++ gS ab b r S xs := by
  induction xs with
  | nil => intro out last S _ _; simp [gS]
  | cons x t ih =>
    intro out last S hm hl
    have hm' : mono t := (List.pairwise_cons.1 hm).2
    rw [List.foldl_cons, gS_cons]
    by_cases h1 : r < x.2.rev
    · rw [if_pos h1]
      have e : gStep ab b r (out, last) x = (if ab then out ++ [x] else out, last) := by unfold gStep; rw [if_pos h1]
      rw [e, ih _ _ _ hm' hl.tail]
      cases ab <;> simp
    · rw [if_neg h1]
      by_cases h2 : x.2.key ∈ S
      · rw [if_pos h2]
        have e : gStep ab b r (out, last) x = (out, last) := by unfold gStep; rw [if_neg h1, if_pos (hl.mem.1 h2)]
        rw [e, ih _ _ _ hm' hl.tail]
      · rw [if_neg h2]
        have e : gStep ab b r (out, last) x = (if x.2.del && b then out else out ++ [x], some x.2.key) := by unfold gStep; rw [if_neg h1, if_neg (fun h => h2 (hl.mem.2 h))]
        rw [e, ih _ _ _ hm' (hl.push hm h2)]
        cases x.2.del && b <;> simp

theorem gF_eq (ab b : Bool) (r : Nat) (xs : List KE) (h : mono xs) : (gF ab b r xs).1 = gS ab b r [] xs := by
  have := gF_go ab b r xs [] none [] h rfl
  rw [List.nil_append] at this
  exact this

/-- The document's: by all that stands ahead. -/
def firstB (pre : List KE) (x : KE) (r : Nat) : Bool := decide (x.2.rev ≤ r) && pre.all fun y => !(decide (y.2.key = x.2.key) && decide (y.2.rev ≤ r))
def gCond (ab b : Bool) (r : Nat) (pre : List KE) (x : KE) : Bool := (ab && decide (r < x.2.rev)) || (firstB pre x r && !(x.2.del && b))
def gRef (ab b : Bool) (r : Nat) : List KE → List KE → List KE
  | _, [] => []
  | pre, x :: t => (if gCond ab b r pre x then [x] else []) ++ gRef ab b r (pre ++ [x]) t

theorem gRef_snoc (ab b : Bool) (r : Nat) (xs : List KE) : ∀ (pre : List KE) (x : KE), gRef ab b r pre (xs ++ [x]) = gRef ab b r pre xs ++ if gCond ab b r (pre ++ xs) x then [x] else [] := by
  induction xs with
  | nil => intro pre x; simp [gRef]
  | cons y t ih =>
    intro pre x
    rw [List.cons_append, gRef, gRef, ih]
    simp [List.append_assoc]

theorem gRef_go (ab b : Bool) (r : Nat) (xs : List KE) : ∀ (pre : List KE) (S : List ByteArray), (∀ q, q ∈ S ↔ ∃ y ∈ pre, y.2.key = q ∧ y.2.rev ≤ r) → gRef ab b r pre xs = gS ab b r S xs := by
  induction xs with
  | nil => intro pre S _; rfl
  | cons x t ih =>
    intro pre S hS
    rw [gRef, gS_cons]
    by_cases h1 : r < x.2.rev
    · have hS' : ∀ q, q ∈ S ↔ ∃ y ∈ pre ++ [x], y.2.key = q ∧ y.2.rev ≤ r := fun q => by
        rw [hS q]
        constructor
        · rintro ⟨y, hy, h⟩
          exact ⟨y, by simp [hy], h⟩
        · rintro ⟨y, hy, h⟩
          rcases List.mem_append.1 hy with hy | hy
          · exact ⟨y, hy, h⟩
          · simp at hy
            subst hy
            omega
      have e : gCond ab b r pre x = ab := by
        unfold gCond firstB
        simp [h1]
        omega
      rw [if_pos h1, e, ih _ _ hS']
      cases ab <;> simp
    · have hf : firstB pre x r = !decide (x.2.key ∈ S) := by
        unfold firstB
        have h2 : x.2.rev ≤ r := by omega
        by_cases hm : x.2.key ∈ S
        · obtain ⟨y, hy, h3, h4⟩ := (hS _).1 hm
          have : (pre.all fun y => !(decide (y.2.key = x.2.key) && decide (y.2.rev ≤ r))) = false := by
            rw [List.all_eq_false]
            exact ⟨y, hy, by simp [h3, h4]⟩
          rw [this, decide_eq_true h2, decide_eq_true hm]
          rfl
        · have : (pre.all fun y => !(decide (y.2.key = x.2.key) && decide (y.2.rev ≤ r))) = true := by
            rw [List.all_eq_true]
            intro y hy
            cases hd : decide (y.2.key = x.2.key) && decide (y.2.rev ≤ r) with
            | false => rfl
            | true =>
              simp at hd
              exact absurd ((hS _).2 ⟨y, hy, hd.1, hd.2⟩) hm
          rw [this, decide_eq_true h2, decide_eq_false hm]
          rfl
      have e : gCond ab b r pre x = (!decide (x.2.key ∈ S) && !(x.2.del && b)) := by
        unfold gCond
        rw [hf]
        simp [h1]
      rw [if_neg h1, e]
      have hSx : ∀ q, q ∈ x.2.key :: S ↔ ∃ y ∈ pre ++ [x], y.2.key = q ∧ y.2.rev ≤ r := fun q => by
        rw [List.mem_cons, hS q]
        constructor
        · rintro (rfl | ⟨y, hy, h⟩)
          · exact ⟨x, by simp, rfl, by omega⟩
          · exact ⟨y, by simp [hy], h⟩
        · rintro ⟨y, hy, h⟩
          rcases List.mem_append.1 hy with hy | hy
          · exact .inr ⟨y, hy, h⟩
          · simp at hy
            subst hy
            exact .inl h.1.symm
      by_cases hm : x.2.key ∈ S
      · rw [if_pos hm]
        have hS' : ∀ q, q ∈ S ↔ ∃ y ∈ pre ++ [x], y.2.key = q ∧ y.2.rev ≤ r := fun q => by
          rw [← hSx q, List.mem_cons]
          constructor
          · exact .inr
          · rintro (rfl | h)
            · exact hm
            · exact h
        rw [ih _ _ hS']
        simp [hm]
      · rw [if_neg hm, ih _ _ hSx]
        cases x.2.del && b <;> simp [hm]

theorem gRef_eq (ab b : Bool) (r : Nat) (xs : List KE) : gRef ab b r [] xs = gS ab b r [] xs := gRef_go ab b r xs [] [] (fun q => by simp)

/-- What is dropped is never told. -/
theorem g_keep (ab b b' : Bool) (f r : Nat) (hfr : f ≤ r) (hb : b = true → b' = true) (xs : List KE) : ∀ (S T T' : List ByteArray), mono xs → (∀ p ∈ T, p ∈ T') → (∀ p ∈ S, p ∈ T') → (∀ p ∈ T', p ∉ T → p ∈ S ∧ ∀ x ∈ xs, x.2.key = p → x.2.rev ≤ f) →
    gS ab b' r T (gS true b f S xs) = gS ab b' r T' xs := by
  induction xs with
  | nil => intro S T T' _ _ _ _; rfl
  | cons x t ih =>
    intro S T T' hm h1 h2 h3
    have hm' : mono t := (List.pairwise_cons.1 hm).2
    have h3t : ∀ p ∈ T', p ∉ T → p ∈ S ∧ ∀ y ∈ t, y.2.key = p → y.2.rev ≤ f := fun p hp hn => ⟨(h3 p hp hn).1, fun y hy => (h3 p hp hn).2 y (by simp [hy])⟩
    have hex : ∀ p, p ∈ x.2.key :: T → p ∈ x.2.key :: T' := fun p hp => by
      rcases List.mem_cons.1 hp with rfl | hp
      · simp
      · simp [h1 p hp]
    have h3x : ∀ p ∈ x.2.key :: T', p ∉ x.2.key :: T → p ∈ T' ∧ p ∉ T := fun p hp hn => by
      simp at hp hn
      rcases hp with rfl | hp
      · exact absurd rfl hn.1
      · exact ⟨hp, hn.2⟩
    by_cases hf : f < x.2.rev
    · rw [gS_cons true b f, if_pos hf, if_pos rfl, gS_cons ab b' r T, gS_cons ab b' r T']
      by_cases hr : r < x.2.rev
      · rw [if_pos hr, if_pos hr, ih S T T' hm' h1 h2 h3t]
      · rw [if_neg hr, if_neg hr]
        have hTT : x.2.key ∈ T ↔ x.2.key ∈ T' := ⟨h1 _, fun h => by
          by_cases hn : x.2.key ∈ T
          · exact hn
          · have := (h3 _ h hn).2 x (by simp) rfl
            omega⟩
        by_cases hT : x.2.key ∈ T
        · rw [if_pos hT, if_pos (hTT.1 hT), ih S T T' hm' h1 h2 h3t]
        · have hT' : x.2.key ∉ T' := fun h => hT (hTT.2 h)
          have := ih S (x.2.key :: T) (x.2.key :: T') hm' hex (fun p hp => by simp [h2 p hp]) (fun p hp hn => h3t p (h3x p hp hn).1 (h3x p hp hn).2)
          rw [if_neg hT, if_neg hT', this]
    · have hr : ¬ r < x.2.rev := by omega
      rw [gS_cons true b f, if_neg hf, gS_cons ab b' r T', if_neg hr]
      by_cases hS : x.2.key ∈ S
      · rw [if_pos hS, if_pos (h2 _ hS), ih S T T' hm' h1 h2 h3t]
      · rw [if_neg hS]
        by_cases hd : (x.2.del && b) = true
        · rw [if_pos hd]
          simp at hd
          by_cases hT' : x.2.key ∈ T'
          · rw [if_pos hT']
            exact ih (x.2.key :: S) T T' hm' h1 (fun p hp => by
              rcases List.mem_cons.1 hp with rfl | hp
              · exact hT'
              · exact h2 p hp) (fun p hp hn => ⟨by simp [(h3t p hp hn).1], (h3t p hp hn).2⟩)
          · rw [if_neg hT', if_pos (by simp [hd.1, hb hd.2])]
            refine ih (x.2.key :: S) T (x.2.key :: T') hm' (fun p hp => by simp [h1 p hp]) (fun p hp => ?_) (fun p hp hn => ?_)
            · rcases List.mem_cons.1 hp with rfl | hp
              · simp
              · simp [h2 p hp]
            · rcases List.mem_cons.1 hp with rfl | hp
              · exact ⟨by simp, fun y hy he => by
                  have := (List.rel_of_pairwise_cons hm hy).2 he.symm
                  omega⟩
              · exact ⟨by simp [(h3t p hp hn).1], (h3t p hp hn).2⟩
        · rw [if_neg hd, gS_cons ab b' r T, if_neg hr]
          have hTT : x.2.key ∈ T ↔ x.2.key ∈ T' := ⟨h1 _, fun h => by
            by_cases hn : x.2.key ∈ T
            · exact hn
            · exact absurd (h3 _ h hn).1 hS⟩
          have hS2 : ∀ {U : List ByteArray}, (∀ p ∈ T', p ∈ U) → x.2.key ∈ U → ∀ p ∈ x.2.key :: S, p ∈ U := fun hU hx p hp => by
            rcases List.mem_cons.1 hp with rfl | hp
            · exact hx
            · exact hU _ (h2 p hp)
          by_cases hT : x.2.key ∈ T
          · rw [if_pos hT, if_pos (hTT.1 hT)]
            exact ih (x.2.key :: S) T T' hm' h1 (hS2 (fun _ h => h) (hTT.1 hT)) (fun p hp hn => ⟨by simp [(h3t p hp hn).1], (h3t p hp hn).2⟩)
          · have hT' : x.2.key ∉ T' := fun h => hT (hTT.2 h)
            have := ih (x.2.key :: S) (x.2.key :: T) (x.2.key :: T') hm' hex (hS2 (fun _ h => by simp [h]) (by simp)) (fun p hp hn => ⟨by simp [(h3t p (h3x p hp hn).1 (h3x p hp hn).2).1], (h3t p (h3x p hp hn).1 (h3x p hp hn).2).2⟩)
            rw [if_neg hT, if_neg hT', this]

theorem dec_inn {x : Ent} (h : x.rev < 18446744073709551616) : dec (innB x) = some x := by
  unfold dec innB
  rw [show (ByteArray.mk (inner x.key.data.toList x.rev x.del).toArray).data.toList = inner x.key.data.toList x.rev x.del by simp, outer_inner _ _ _ h]
  rfl

/-- Rising inner keys are told, and their entries stand in order. -/
theorem inn_mono {es : List Ent} (hr : rises (es.map innB)) (hv : ∀ x ∈ es, x.rev < 18446744073709551616) : decs (es.map innB) = some es ∧ mono ((es.map innB).zip es) := by
  constructor
  · refine decs_of (by simp) (fun i k hk => ?_)
    rw [List.getElem?_map] at hk
    obtain ⟨x, hx, rfl⟩ := Option.map_eq_some_iff.1 hk
    exact ⟨x, hx, dec_inn (hv x (List.mem_of_getElem? hx))⟩
  · induction es with
    | nil => exact List.Pairwise.nil
    | cons x t ih =>
      rw [List.map_cons] at hr
      have hp := List.pairwise_cons.1 hr
      rw [List.map_cons, List.zip_cons_cons]
      refine List.Pairwise.cons (fun y hy => ?_) (ih hp.2 (fun z hz => hv z (by simp [hz])))
      have hyt : y.2 ∈ t := (List.of_mem_zip hy).2
      have hlt := hp.1 (innB y.2) (List.mem_map.2 ⟨y.2, hyt, rfl⟩)
      unfold bl innB at hlt
      simp only at hlt
      rw [less_inner _ _ _ _ _ _ (hv x (by simp)) (hv y.2 (by simp [hyt])), lessE] at hlt
      show bl y.2.key x.key = false ∧ (x.key = y.2.key → y.2.rev ≤ x.rev)
      by_cases he : x.key = y.2.key
      · rw [he] at hlt ⊢
        simp at hlt
        refine ⟨bl_irrefl _, fun _ => ?_⟩
        split at hlt <;> omega
      · have hne : (x.key.data.toList == y.2.key.data.toList) = false := by
          rw [beq_eq_false_iff_ne]
          exact fun e => he (Go.WideShapes.bytes_inj e)
        rw [hne] at hlt
        exact ⟨bl_asymm hlt, fun e => absurd e he⟩
end Go.Proofs.YtfhdonidgegebaaDoor

/- What is there, out of many rows. -/
namespace Go.Proofs.YtfhdonidgegebaaDoor
open Go Go.RowKit

theorem less_past (p q r : List UInt8) : Op.bytesLess (esc p ++ ([0, 1] ++ r)) (esc q ++ [0, 2]) = (Op.bytesLess p q || (p == q)) := by
  induction p generalizing q with
  | nil =>
    cases q with
    | nil => simp [esc, Op.bytesLess]
    | cons d q =>
      by_cases hd : d = 0
      · subst hd
        simp [esc, Op.bytesLess]
      · have h0 : (0 : UInt8) < d := by
          rw [UInt8.lt_iff_toNat_lt]
          have : d.toNat ≠ 0 := fun e => hd (UInt8.toNat_inj.1 (by simpa using e))
          simp; omega
        simp [esc, hd, Op.bytesLess, h0]
  | cons c p ih =>
    cases q with
    | nil =>
      by_cases hc : c = 0
      · subst hc
        simp [esc, Op.bytesLess]
      · have h0 : ¬ c < 0 := by
          rw [UInt8.lt_iff_toNat_lt]; simp
        simp [esc, hc, Op.bytesLess]
    | cons d q =>
      by_cases hcd : c = d
      · subst hcd
        have hlt : ¬ c < c := fun h => Nat.lt_irrefl _ (UInt8.lt_iff_toNat_lt.1 h)
        have ih' : Op.bytesLess (esc p ++ 0 :: 1 :: r) (esc q ++ [0, 2]) = (Op.bytesLess p q || (p == q)) := by simpa using ih q
        by_cases hc : c = 0
        · subst hc
          simp [esc, Op.bytesLess, ih']
        · simp [esc, hc, Op.bytesLess, ih', hlt]
      · have hne : (c == d) = false := by simpa using hcd
        by_cases hc : c = 0
        · subst hc
          have hd : ¬ d = 0 := fun e => hcd e.symm
          have h0 : (0 : UInt8) < d := by
            rw [UInt8.lt_iff_toNat_lt]
            have : d.toNat ≠ 0 := fun e => hd (UInt8.toNat_inj.1 (by simpa using e))
            simp; omega
          simp [esc, hd, Op.bytesLess, h0]
        · by_cases hd : d = 0
          · subst hd
            simp [esc, hc, Op.bytesLess, hne]
          · simp [esc, hc, hd, Op.bytesLess, hne]

/-- Just behind a Key's inner keys. -/
def pastB (key : ByteArray) : ByteArray := ⟨(esc key.data.toList ++ [0, 2]).toArray⟩

theorem bl_past (x : Ent) (key : ByteArray) : bl (innB x) (pastB key) = (bl x.key key || decide (x.key = key)) := by
  unfold bl innB pastB
  have h := less_past x.key.data.toList key.data.toList (revBytes x.rev 8 ++ [if x.del then 0 else 1])
  have e : inner x.key.data.toList x.rev x.del = esc x.key.data.toList ++ ([0, 1] ++ (revBytes x.rev 8 ++ [if x.del then 0 else 1])) := by
    simp [inner, innTo]
  show Op.bytesLess (inner x.key.data.toList x.rev x.del).toArray.toList (esc key.data.toList ++ [0, 2]).toArray.toList = _
  rw [List.toList_toArray, List.toList_toArray, e, h]
  congr 1
  by_cases hk : x.key = key
  · subst hk; simp
  · rw [decide_eq_false hk, beq_eq_false_iff_ne]
    exact fun e => hk (Go.WideShapes.bytes_inj e)

/-- Ahead of all versions of a Key whose revision isn't greater. -/
def newestB (key : ByteArray) (r : Nat) : ByteArray := innB ⟨key, r, true⟩

theorem bl_newest (x : Ent) (key : ByteArray) (r : Nat) (hx : x.rev < 18446744073709551616) (hr : r < 18446744073709551616) :
    bl (innB x) (newestB key r) = (bl x.key key || (decide (x.key = key) && decide (r < x.rev))) := by
  unfold bl newestB innB
  show Op.bytesLess (inner x.key.data.toList x.rev x.del).toArray.toList (inner key.data.toList r true).toArray.toList = _
  rw [List.toList_toArray, List.toList_toArray, less_inner _ _ _ _ _ _ hx hr, lessE]
  by_cases hk : x.key = key
  · subst hk
    rw [less_irrefl]
    simp
    omega
  · have hne : (x.key.data.toList == key.data.toList) = false := by
      rw [beq_eq_false_iff_ne]
      exact fun e => hk (Go.WideShapes.bytes_inj e)
    rw [hne, decide_eq_false hk]
    simp

/-- The first key of a row that isn't less. -/
def sk (l : List ByteArray) (key : ByteArray) : Option ByteArray := l.find? fun x => !bl x key

def IsLeast (S : ByteArray → Prop) (key : ByteArray) : Option ByteArray → Prop
  | some x => S x ∧ bl x key = false ∧ ∀ y, S y → bl y key = false → bl y x = false
  | none => ∀ y, S y → bl y key = true

theorem least_unique {S : ByteArray → Prop} {key : ByteArray} {a b : Option ByteArray} (h : IsLeast S key a) (k : IsLeast S key b) : a = b := by
  cases a with
  | none =>
    cases b with
    | none => rfl
    | some y =>
      have := h y k.1
      rw [k.2.1] at this
      cases this
  | some x =>
    cases b with
    | none =>
      have := k x h.1
      rw [h.2.1] at this
      cases this
    | some y =>
      rw [bl_total (k.2.2 x h.1 h.2.1) (h.2.2 y k.1 k.2.1)]

theorem sk_least {l : List ByteArray} (h : rises l) (key : ByteArray) : IsLeast (· ∈ l) key (sk l key) := by
  induction l with
  | nil => exact fun y hy => by cases hy
  | cons a r ih =>
    have hp := List.pairwise_cons.1 h
    unfold sk
    rw [List.find?_cons]
    cases ha : bl a key with
    | false =>
      refine ⟨by simp, ha, fun y hy hk => ?_⟩
      rcases List.mem_cons.1 hy with rfl | hy
      · exact bl_irrefl _
      · exact bl_asymm (hp.1 y hy)
    | true =>
      have := ih hp.2
      unfold sk at this
      show IsLeast _ _ (r.find? fun x => !bl x key)
      cases hf : r.find? (fun x => !bl x key) with
      | none =>
        rw [hf] at this
        intro y hy
        rcases List.mem_cons.1 hy with rfl | hy
        · exact ha
        · exact this y hy
      | some x =>
        rw [hf] at this
        obtain ⟨t1, t2, t3⟩ := this
        refine ⟨List.mem_cons_of_mem _ t1, t2, fun y hy hk => ?_⟩
        rcases List.mem_cons.1 hy with rfl | hy
        · rw [ha] at hk; cases hk
        · exact t3 y hy hk

/-- All rows as one. -/
def allK (rows : List (List ByteArray)) : List ByteArray := rows.foldl (fun out l => l.foldl putK out) []

theorem putAll_ok (l : List ByteArray) : ∀ out, rises out → rises (l.foldl putK out) ∧ (∀ x, x ∈ l.foldl putK out ↔ x ∈ out ∨ x ∈ l) ∧ (l.foldl putK out).length ≤ out.length + l.length := by
  induction l with
  | nil => intro out h; simpa using h
  | cons k t ih =>
    intro out h
    obtain ⟨h1, h2, h3⟩ := ih (putK out k) (putK_rises h)
    refine ⟨h1, fun x => ?_, ?_⟩
    · rw [List.foldl_cons, h2, List.mem_cons]
      constructor
      · rintro (h | h)
        · rcases putK_mem h with h | h
          · exact .inr (.inl h)
          · exact .inl h
        · exact .inr (.inr h)
      · rintro (h | h | h)
        · exact .inl (mem_putK (.inr h))
        · exact .inl (mem_putK (.inl h))
        · exact .inr h
    · have := putK_length out k
      rw [List.foldl_cons, List.length_cons]
      omega

def total (rows : List (List ByteArray)) : Nat := (rows.map List.length).sum

theorem allK_go (rows : List (List ByteArray)) : ∀ out, rises out → rises (rows.foldl (fun out l => l.foldl putK out) out) ∧ (∀ x, x ∈ rows.foldl (fun out l => l.foldl putK out) out ↔ x ∈ out ∨ ∃ l ∈ rows, x ∈ l) ∧ (rows.foldl (fun out l => l.foldl putK out) out).length ≤ out.length + total rows := by
  induction rows with
  | nil => intro out h; simpa [total] using h
  | cons l t ih =>
    intro out h
    obtain ⟨p1, p2, p3⟩ := putAll_ok l out h
    obtain ⟨h1, h2, h3⟩ := ih (l.foldl putK out) p1
    refine ⟨h1, fun x => ?_, ?_⟩
    · rw [List.foldl_cons, h2, p2]
      simp only [List.mem_cons]
      constructor
      · rintro ((h | h) | ⟨m, hm, hx⟩)
        · exact .inl h
        · exact .inr ⟨l, .inl rfl, h⟩
        · exact .inr ⟨m, .inr hm, hx⟩
      · rintro (h | ⟨m, rfl | hm, hx⟩)
        · exact .inl (.inl h)
        · exact .inl (.inr hx)
        · exact .inr ⟨m, hm, hx⟩
    · have e : total (l :: t) = l.length + total t := by simp [total]
      rw [List.foldl_cons, e]
      omega

theorem allK_ok (rows : List (List ByteArray)) : rises (allK rows) ∧ (∀ x, x ∈ allK rows ↔ ∃ l ∈ rows, x ∈ l) ∧ (allK rows).length ≤ total rows := by
  obtain ⟨h1, h2, h3⟩ := allK_go rows [] rises_nil
  exact ⟨h1, fun x => by rw [show (x ∈ allK rows) = (x ∈ rows.foldl (fun out l => l.foldl putK out) []) from rfl, h2]; simp, by simp only [List.length_nil, Nat.zero_add] at h3; exact h3⟩

/-- The least of what the rows tell. -/
def fstStep (key : ByteArray) (o : Option ByteArray) (l : List ByteArray) : Option ByteArray := match sk l key with
  | none => o
  | some k => match o with
    | none => some k
    | some m => if bl k m then some k else some m
def firstL (rows : List (List ByteArray)) (key : ByteArray) : Option ByteArray := rows.foldl (fstStep key) none

theorem firstL_snoc (rows : List (List ByteArray)) (l : List ByteArray) (key : ByteArray) : firstL (rows ++ [l]) key = fstStep key (firstL rows key) l := by simp [firstL]

theorem fst_go (key : ByteArray) (rows : List (List ByteArray)) : ∀ (o : Option ByteArray) (S : ByteArray → Prop), (∀ l ∈ rows, rises l) → IsLeast S key o → IsLeast (fun x => S x ∨ ∃ l ∈ rows, x ∈ l) key (rows.foldl (fstStep key) o) := by
  induction rows with
  | nil =>
    intro o S _ h
    cases o with
    | none => exact fun y hy => h y (by simpa using hy)
    | some x => exact ⟨.inl h.1, h.2.1, fun y hy => h.2.2 y (by simpa using hy)⟩
  | cons l t ih =>
    intro o S hr h
    have hl := sk_least (hr l (by simp)) key
    have hstep : IsLeast (fun x => S x ∨ x ∈ l) key (fstStep key o l) := by
      unfold fstStep
      cases hs : sk l key with
      | none =>
        rw [hs] at hl
        cases o with
        | none => exact fun y hy => hy.elim (h y) (hl y)
        | some x => exact ⟨.inl h.1, h.2.1, fun y hy hk => hy.elim (fun hy => h.2.2 y hy hk) (fun hy => by rw [hl y hy] at hk; cases hk)⟩
      | some k =>
        rw [hs] at hl
        cases o with
        | none => exact ⟨.inr hl.1, hl.2.1, fun y hy hk => hy.elim (fun hy => by rw [h y hy] at hk; cases hk) (fun hy => hl.2.2 y hy hk)⟩
        | some m =>
          show IsLeast _ _ (if bl k m then some k else some m)
          cases hb : bl k m with
          | true =>
            rw [if_pos rfl]
            refine ⟨.inr hl.1, hl.2.1, fun y hy hk => hy.elim (fun hy => ?_) (fun hy => hl.2.2 y hy hk)⟩
            cases hyk : bl y k with
            | false => rfl
            | true =>
              have := h.2.2 y hy hk
              rw [bl_trans hyk hb] at this
              cases this
          | false =>
            rw [if_neg (by decide)]
            refine ⟨.inl h.1, h.2.1, fun y hy hk => hy.elim (fun hy => h.2.2 y hy hk) (fun hy => ?_)⟩
            cases hym : bl y m with
            | false => rfl
            | true =>
              have h1 := hl.2.2 y hy hk
              by_cases he : k = m
              · subst he
                rw [h1] at hym
                cases hym
              · have h2 := bl_trans hym (bl_ge hb he)
                rw [h1] at h2
                cases h2
    have := ih (fstStep key o l) _ (fun m hm => hr m (by simp [hm])) hstep
    rw [List.foldl_cons]
    have e : (fun x => (S x ∨ x ∈ l) ∨ ∃ m ∈ t, x ∈ m) = fun x => S x ∨ ∃ m ∈ l :: t, x ∈ m := by
      funext x
      simp only [List.mem_cons, eq_iff_iff]
      constructor
      · rintro ((h | h) | ⟨m, hm, hx⟩)
        · exact .inl h
        · exact .inr ⟨l, .inl rfl, h⟩
        · exact .inr ⟨m, .inr hm, hx⟩
      · rintro (h | ⟨m, rfl | hm, hx⟩)
        · exact .inl (.inl h)
        · exact .inl (.inr hx)
        · exact .inr ⟨m, hm, hx⟩
    rw [← e]
    exact this

theorem firstL_eq {rows : List (List ByteArray)} (hr : ∀ l ∈ rows, rises l) (key : ByteArray) : firstL rows key = sk (allK rows) key := by
  obtain ⟨h1, h2, _⟩ := allK_ok rows
  have ha := fst_go key rows none (fun _ => False) hr (fun y hy => hy.elim)
  have hb := sk_least h1 key
  have e : (fun x => x ∈ allK rows) = fun x => False ∨ ∃ l ∈ rows, x ∈ l := by
    funext x
    rw [eq_iff_iff, h2]
    simp
  rw [e] at hb
  exact least_unique ha hb
end Go.Proofs.YtfhdonidgegebaaDoor

/- What tells an entry is its inner key. -/
namespace Go.Proofs.YtfhdonidgegebaaDoor
open Go Go.RowKit

theorem beVal_inj : ∀ (k : Nat) (l m : List UInt8), l.length = k → m.length = k → beVal l = beVal m → l = m
  | 0, l, m, hl, hm, _ => by rw [List.length_eq_zero_iff.1 hl, List.length_eq_zero_iff.1 hm]
  | k + 1, l, m, hl, hm, h => by
    obtain ⟨l', c, rfl⟩ : ∃ l' c, l = l' ++ [c] := ⟨l.dropLast, l.getLast (by intro e; simp [e] at hl), (List.dropLast_concat_getLast _).symm⟩
    obtain ⟨m', d, rfl⟩ : ∃ m' d, m = m' ++ [d] := ⟨m.dropLast, m.getLast (by intro e; simp [e] at hm), (List.dropLast_concat_getLast _).symm⟩
    rw [beVal_snoc, beVal_snoc] at h
    have hc := c.toNat_lt
    have hd := d.toNat_lt
    have h1 : beVal l' = beVal m' := by omega
    have h2 : c = d := UInt8.toNat_inj.1 (by omega)
    rw [beVal_inj k l' m' (by simpa using hl) (by simpa using hm) h1, h2]

theorem unesc_back : ∀ (n : Nat) (l p r : List UInt8), l.length ≤ n → unesc l = some (p, r) → l = esc p ++ ([0, 1] ++ r)
  | 0, [], p, r, _, h => by cases h
  | n + 1, [], p, r, _, h => by cases h
  | n + 1, [_], p, r, _, h => by cases h
  | n + 1, c :: d :: t, p, r, hl, h => by
    rw [unesc] at h
    by_cases hc : c = 0
    · rw [if_pos hc] at h
      by_cases hd : d = 1
      · rw [if_pos hd] at h
        cases h
        rw [hc, hd]
        rfl
      · rw [if_neg hd] at h
        by_cases hf : d = 255
        · rw [if_pos hf] at h
          obtain ⟨⟨p', r'⟩, h1, h2⟩ := Option.map_eq_some_iff.1 h
          cases h2
          have := unesc_back n t p' r' (by simp at hl; omega) h1
          rw [hc, hf, esc, if_pos rfl, this]
          rfl
        · rw [if_neg hf] at h
          cases h
    · rw [if_neg hc] at h
      obtain ⟨⟨p', r'⟩, h1, h2⟩ := Option.map_eq_some_iff.1 h
      cases h2
      have := unesc_back n (d :: t) p' r' (by simp at hl ⊢; omega) h1
      rw [esc, if_neg hc, this]
      rfl

theorem nine_parts {r : List UInt8} (h : r.length = 9) : r = r.take 8 ++ [r.getD 8 0] := by
  obtain ⟨r', c, rfl⟩ : ∃ r' c, r = r' ++ [c] := ⟨r.dropLast, r.getLast (by intro e; simp [e] at h), (List.dropLast_concat_getLast _).symm⟩
  have h8 : r'.length = 8 := by simpa using h
  rw [List.take_left' h8, List.getD_eq_getElem?_getD, List.getElem?_append_right (by omega), h8]
  rfl

theorem outer_back {l p : List UInt8} {a : Nat} {x : Bool} (h : outer l = some (p, a, x)) : l = inner p a x ∧ a < 18446744073709551616 := by
  unfold outer at h
  cases hu : unesc l with
  | none => rw [hu] at h; cases h
  | some q =>
    obtain ⟨k, r⟩ := q
    rw [hu] at h
    simp only at h
    split at h
    · rename_i hr
      obtain ⟨h9, h1⟩ := hr
      cases h
      have hb := beVal_lt (r.take 8)
      have h8 : (r.take 8).length = 8 := by rw [List.length_take, h9]; rfl
      rw [h8] at hb
      have hb' : beVal (r.take 8) < 18446744073709551616 := hb
      have ha : 18446744073709551615 - beVal (r.take 8) < 18446744073709551616 := by omega
      refine ⟨?_, ha⟩
      have e1 : revBytes (18446744073709551615 - beVal (r.take 8)) 8 = r.take 8 := by
        refine beVal_inj 8 _ _ (revBytes_length _ _) h8 ?_
        rw [beVal_rev _ 8 (by omega) ha, show top (18446744073709551615 - beVal (r.take 8)) 8 = 18446744073709551615 - (18446744073709551615 - beVal (r.take 8)) by simp [top]]
        omega
      have e2 : (if decide ((r.getD 8 0).toNat = 0) = true then (0 : UInt8) else 1) = r.getD 8 0 := by
        rw [← UInt8.toNat_inj]
        by_cases h0 : (r.getD 8 0).toNat = 0
        · rw [decide_eq_true h0, if_pos rfl, h0]
          rfl
        · rw [decide_eq_false h0, if_neg (by decide)]
          show 1 = _
          omega
      rw [inner, innTo, e1, e2, List.append_assoc, ← nine_parts h9, List.append_assoc]
      exact unesc_back _ _ _ _ (Nat.le_refl _) hu
    · cases h

theorem dec_back {k : ByteArray} {x : Ent} (h : dec k = some x) : k = innB x ∧ x.rev < 18446744073709551616 := by
  unfold dec at h
  obtain ⟨⟨p, a, d⟩, h1, h2⟩ := Option.map_eq_some_iff.1 h
  cases h2
  obtain ⟨h3, h4⟩ := outer_back h1
  refine ⟨?_, h4⟩
  apply Go.WideShapes.bytes_inj
  rw [h3]
  unfold innB
  simp
end Go.Proofs.YtfhdonidgegebaaDoor

/- The stems of rising keys, each once: the reference puts them one by one. -/
namespace Go.Proofs.YtfhdonidgegebaaDoor
open Go Go.RowKit

theorem comp_rises {α : Type} [Inhabited α] [DecidableEq α] (lt : α → α → Prop) (tr : ∀ {a b c}, lt a b → lt b c → lt a c) (d : Array α) (h : ∀ j, 0 < j → j < d.size → d[j]! = d[j - 1]! ∨ lt d[j - 1]! d[j]!) :
    ∀ m, m ≤ d.size → (Lib.compactUpTo d m).Pairwise lt ∧ ∀ x ∈ Lib.compactUpTo d m, x = d[m - 1]! ∨ lt x d[m - 1]!
  | 0, _ => by
    unfold Lib.compactUpTo
    simp
  | m + 1, hm => by
    obtain ⟨i1, i2⟩ := comp_rises lt tr d h m (by omega)
    rw [Lib.compactUpTo_succ, Nat.add_sub_cancel]
    by_cases h0 : m = 0
    · subst h0
      have e : Lib.compactUpTo d 0 = [] := by unfold Lib.compactUpTo; simp
      rw [e]
      split
      · simp
      · simp
    · have hs := h m (by omega) (by omega)
      by_cases hk : Lib.keeps d m = true
      · rw [if_pos hk]
        unfold Lib.keeps at hk
        rw [decide_eq_true_eq] at hk
        have hlt : lt d[m - 1]! d[m]! := hs.resolve_left (hk.resolve_left h0)
        have hall : ∀ x ∈ Lib.compactUpTo d m, lt x d[m]! := fun x hx => by
          rcases i2 x hx with e | e
          · rw [e]; exact hlt
          · exact tr e hlt
        refine ⟨List.pairwise_append.2 ⟨i1, List.pairwise_singleton _ _, fun x hx y hy => ?_⟩, fun x hx => ?_⟩
        · rw [List.mem_singleton] at hy
          rw [hy]
          exact hall x hx
        · rcases List.mem_append.1 hx with hx | hx
          · exact .inr (hall x hx)
          · exact .inl (List.mem_singleton.1 hx)
      · rw [if_neg hk, List.append_nil]
        refine ⟨i1, fun x hx => ?_⟩
        rcases i2 x hx with e | e
        · rcases hs with k | k
          · exact .inl (by rw [e, k])
          · exact .inr (by rw [e]; exact k)
        · rcases hs with k | k
          · exact .inr (by rw [k]; exact e)
          · exact .inr (tr e k)

theorem stem_inn {k : ByteArray} {p : List UInt8} {a : Nat} {x : Bool} (h : k.data.toList = inner p a x) : (stemB k).data.toList = esc p ++ [0, 1] := by
  have hl : k.size = (esc p).length + 2 + 8 + 1 := by
    have h1 : k.data.toList.length = k.size := Array.length_toList
    rw [← h1, h, inner, List.length_append, innTo_length, List.length_singleton]
  have e : (stemB k).data.toList = k.data.toList.take (k.size - 9) := by
    unfold stemB
    simp
  rw [e, h, hl, inner, innTo]
  rw [show (esc p).length + 2 + 8 + 1 - 9 = (esc p ++ [0, 1]).length by simp]
  rw [show esc p ++ [0, 1] ++ revBytes a 8 ++ [if x = true then 0 else 1] = (esc p ++ [0, 1]) ++ (revBytes a 8 ++ [if x = true then 0 else 1]) by simp]
  exact List.take_left' rfl

theorem stem_mono {k l : ByteArray} {p q : List UInt8} {a b : Nat} {x y : Bool} (hk : k.data.toList = inner p a x) (hl : l.data.toList = inner q b y) (ha : a < 18446744073709551616) (hb : b < 18446744073709551616) (h : bl k l = true) : stemB l = stemB k ∨ bl (stemB k) (stemB l) = true := by
  unfold bl at h
  rw [hk, hl, less_inner _ _ _ _ _ _ ha hb, lessE] at h
  by_cases hpq : p = q
  · left
    subst hpq
    exact Go.WideShapes.bytes_inj (by rw [stem_inn hk, stem_inn hl])
  · right
    rw [if_neg (by simpa using hpq)] at h
    unfold bl
    rw [stem_inn hk, stem_inn hl]
    have := less_esc p q [] []
    simp only [List.append_nil] at this
    rw [this, h]
    rfl

theorem stems_put {ks : List ByteArray} (hr : rises ks) (ho : ∀ k ∈ ks, ∃ x, outer k.data.toList = some x) : stemsB ks = (ks.map stemB).foldl putK [] := by
  obtain ⟨f1, f2, _⟩ := putsAll_ok (ks.map stemB) [] rises_nil
  refine rises_uniq ?_ f1 fun x => ?_
  · have hc := (comp_rises (fun a b : List UInt8 => Op.bytesLess a b = true) (fun h k => less_trans h k) (ks.map fun k => (stemB k).data.toList).toArray (fun j hj0 hj => by
      have hjl : j < ks.length := by simpa using hj
      have e1 : (ks.map fun k => (stemB k).data.toList).toArray[j]! = (stemB ks[j]).data.toList := by simp [hjl]
      have e2 : (ks.map fun k => (stemB k).data.toList).toArray[j - 1]! = (stemB (ks[j - 1]'(by omega))).data.toList := by simp [show j - 1 < ks.length by omega]
      rw [e1, e2]
      have hlt := steps_of_rises hr j hj0 hjl _ _ (List.getElem?_eq_getElem (show j - 1 < ks.length by omega)) (List.getElem?_eq_getElem hjl)
      obtain ⟨⟨p, a, x⟩, hp⟩ := ho _ (List.getElem_mem (show j - 1 < ks.length by omega))
      obtain ⟨⟨q, b, y⟩, hq⟩ := ho _ (List.getElem_mem hjl)
      obtain ⟨k1, k2⟩ := outer_back hp
      obtain ⟨k3, k4⟩ := outer_back hq
      rcases stem_mono k1 k3 k2 k4 hlt with e | e
      · exact .inl (by rw [e])
      · exact .inr e) (ks.map fun k => (stemB k).data.toList).length (Nat.le_of_eq (by simp))).1
    unfold stemsB rises
    rw [List.pairwise_map]
    exact hc
  · rw [f2 x]
    constructor
    · intro hx
      right
      unfold stemsB at hx
      obtain ⟨l, hl, rfl⟩ := List.mem_map.1 hx
      obtain ⟨k, hk, rfl⟩ := List.mem_map.1 (comp_mem hl)
      exact List.mem_map.2 ⟨k, hk, rfl⟩
    · intro hx
      rcases hx with hx | hx
      · cases hx
      · obtain ⟨k, hk, rfl⟩ := List.mem_map.1 hx
        exact stemsB_mem hk
end Go.Proofs.YtfhdonidgegebaaDoor

/- The reference's Put, PutText and four: rows of one's own. -/
namespace Go.Proofs.YtfhdonidgegebaaDoor
open Go Go.RowKit

def GivesOwn (w : World) (l : List UInt8) (e : Ending) (w' : World) : Prop :=
  ∃ v', e = .returned v' ∧ w'.ownsRow w.heap.size 5 1 v' l.length (bcells l) ∧ Below w.heap.size w w'

def PutORel (w : World) (xs : List UInt8) (N : Nat) (s m : Value) (wr : World) : Prop :=
  ∃ (ys : List UInt8) (M : Nat), m = .int .u64 (M : Int) ∧ M ≤ N ∧ ys.length + (enc M).length ≤ xs.length + 10 ∧ xs ++ enc N = ys ++ enc M ∧ wr.ownsRow w.heap.size 5 1 s ys.length (bcells ys) ∧ Below w.heap.size w wr

set_option maxRecDepth 100000 in
set_option maxHeartbeats 400000 in
theorem refputo_any (w : World) (v : Value) (xs : List UInt8) (N : Nat) (h : Reads w 1 v xs.length (bcells xs)) (hn : xs.length ≤ 10000000000) (hN : N < 18446744073709551616) :
    Calls Tryd.prog 34 #[v, .int .u64 N] w (GivesOwn w (xs ++ enc N)) := by
  obtain ⟨i0, hi, hz0, hz1, hz2⟩ := info_parts info5
  have hel := enc_length_le 9 N (by omega)
  have HN := Lib.hid hN
  have hsrc := Reads.src (P := Tryd.prog) (tx := 24) Tryd.underlying24 (h.alloc (.cells #[] 5)) (bcells_one xs)
  have hb0 : Below w.heap.size w (w.alloc (.cells #[] 5)) := (Below.refl _ _).alloc (Nat.le_refl _) _
  have hf0 : (w.alloc (.cells #[] 5)).ownsRow w.heap.size 5 1 (.slice (some ⟨w.heap.size, 0, none⟩) 0 0) 0 [] := World.ownsRow_lit w #[] 0 (Nat.le_refl _) (Nat.zero_le _) rfl
  clear hN
  go_enter Tryd.func34, Tryd.ntmps34
  go_wp2_with (at_builtin; go_must (refine wpList_append_owns rfl _ _ 24 24 rfl w.heap.size 5 i0 (.int .u8 0) 1 1 Tryd.underlying24 hi hz0 hz1 hz2 rfl _ _ _ rfl hf0 _ _ _ rfl hsrc ?_ ?_ ?_ ?_))
  · unfold maxLen; omega
  · omega
  · simp
  intro v1 w1 f1 _ b1 _
  have b2 := hb0.trans b1
  go_wp2
  clear hf0 hb0 b1 hsrc h
  go_loopw [5, 1] (fun s m wr => PutORel w xs N s m wr) (fun _ m _ => (intOf m).toNat)
  case atStart => exact ⟨xs, N, rfl, Nat.le_refl _, by omega, rfl, f1, b2⟩
  case round =>
    obtain ⟨ys, M, rfl, hM, hk, heq, hfr, hb⟩ := hrel
    have hbs := hb.size
    have Heq := Lib.hid heq
    clear heq f1 b2 hel
    by_cases hc : M < 128
    · rw [enc_lt hc] at hk
      simp at hk
      have e1 : (M : Int) < 128 := by omega
      go_wp2_with (at_builtin; go_must (refine wpList_append_owns_lits (w0 := wr) rfl _ _ 24 rfl w.heap.size 5 i0 (.int .u8 0) 1 Tryd.underlying24 hi hz0 hz1 hz2 rfl [_] 1 rfl hfr rfl rfl (fun u hu => by simp at hu; subst hu; rfl) ?_ ?_ hbs ?_))
      · unfold maxLen; omega
      · omega
      intro v' w1 f1 g1 b1 m1
      rw [bcells_snoc ys (UInt8.ofNat M) (by simp; omega)] at f1
      go_wp2
      go_ret
      rw [← enc_lt hc, ← Heq.out] at f1
      refine ⟨_, rfl, ?_, hb.trans b1⟩
      have e2 : (xs ++ enc N).length = ys.length + 1 := by rw [Heq.out, enc_lt hc]; simp
      rw [e2]
      exact f1
    · have e1 : (128 : Int) ≤ M := by omega
      have ew : IntKind.u64.wrap ((M : Int) / 128) = (M : Int) / 128 := by
        rw [IntKind.wrap_u64]
        have := HN.out
        omega
      go_wp2_with (at_builtin; go_must (refine wpList_append_owns_lits (w0 := wr) rfl _ _ 24 rfl w.heap.size 5 i0 (.int .u8 0) 1 Tryd.underlying24 hi hz0 hz1 hz2 rfl [_] 1 rfl hfr rfl rfl (fun u hu => by simp at hu; subst hu; rfl) ?_ ?_ hbs ?_))
      · unfold maxLen; omega
      · omega
      intro v' w1 f1 g1 b1 m1
      rw [bcells_snoc ys (UInt8.ofNat (M % 128 + 128)) (by simp; omega)] at f1
      rw [enc_ge hc] at hk
      simp at hk
      go_wp2
      refine ⟨⟨ys ++ [UInt8.ofNat (M % 128 + 128)], M / 128, by simp, by omega, by simp; omega, ?_, by simpa using f1, hb.trans b1⟩, by simp [intOf]; omega⟩
      rw [Heq.out, enc_ge hc]
      simp

set_option maxRecDepth 100000 in
set_option maxHeartbeats 400000 in
theorem refputtexto_any (w : World) (v : Value) (xs : List UInt8) (s : ByteArray) (h : Reads w 1 v xs.length (bcells xs)) (hn : xs.length ≤ 10000000000) (hs : s.size ≤ 10000000000) :
    Calls Tryd.prog 37 #[v, .string s] w (GivesOwn w (xs ++ enc s.size ++ s.data.toList)) := by
  obtain ⟨i0, hi, hz0, hz1, hz2⟩ := info_parts info5
  have hel := enc_length_le 9 s.size (by omega)
  have hsl : s.data.toList.length = s.size := Array.length_toList
  have Hsl := Lib.hid hsl
  clear hsl
  go_enter Tryd.func37, Tryd.ntmps37
  go_wp2_with (go_at_call 34; go_must (refine (refputo_any w v xs s.size h hn (by omega)).mono ?_))
  rintro e w1 ⟨v1, rfl, f1, b1⟩
  have bs1 := b1.size
  have hl1 : (xs ++ enc s.size).length = xs.length + (enc s.size).length := List.length_append
  generalize hL : xs ++ enc s.size = L at f1 hl1
  have HL := Lib.hid hL
  clear hL
  have hsrc := Src.ofString (P := Tryd.prog) (w := w1) (tx := 9) Tryd.underlying9 s
  go_wp2_with (at_builtin; go_must (refine wpList_append_owns rfl _ _ 24 9 rfl w.heap.size 5 i0 (.int .u8 0) 1 1 Tryd.underlying24 hi hz0 hz1 hz2 rfl _ _ _ rfl f1 _ _ _ rfl hsrc ?_ ?_ ?_ ?_))
  · unfold maxLen; omega
  · omega
  · exact bs1
  intro v2 w2 f2 _ b2 _
  rw [bcells_byteCells, ← bcells_append] at f2
  go_wp2
  go_ret
  refine ⟨_, rfl, ?_, b1.trans b2⟩
  rw [HL.out, show (L ++ s.data.toList).length = xs.length + (enc s.size).length + s.size from by rw [List.length_append, Hsl.out, hl1]]
  exact f2

set_option maxRecDepth 100000 in
set_option maxHeartbeats 1000000 in
theorem four13_any (w : World) (N : Nat) (hN : N < 4294967296) : Calls Tryd.prog 62 #[.int .i64 (N : Int)] w (GivesOwn w (be4 N)) := by
  go_enter Tryd.func62, Tryd.ntmps62
  go_wp2
  go_ret
  have e4 : bcells (be4 N) = [Value.int .u8 ((N : Int) / 16777216), .int .u8 ((N : Int) / 65536 % 256), .int .u8 ((N : Int) / 256 % 256), .int .u8 ((N : Int) % 256)] := by
    simp [bcells, be4]
    omega
  refine ⟨_, rfl, ?_, (Below.refl _ _).alloc (Nat.le_refl _) _⟩
  rw [e4]
  exact World.ownsRow_lit w _ 4 (Nat.le_refl _) (by unfold maxLen; decide) rfl
end Go.Proofs.YtfhdonidgegebaaDoor
