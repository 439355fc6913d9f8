/- Which versions are needed. -/
import Derived.Test.YtekdcjbjjakhcaaStrOrd
import Derived.Test.YtekdcjbjjakhcaaWalMath
import Derived.Test.YtekdcjbjjakhcaaOuterInner
namespace Go.Proofs.Ytekdcjbjjakhcaa
open Go Go.RowKit

abbrev KE := ByteArray × Ent

instance (x : ByteArray) (S : List ByteArray) : Decidable (x ∈ S) := decidable_of_iff ((S.any fun q => decide (q = x)) = true) (by simp)

/-- The entry of an inner key. -/
def dec (k : ByteArray) : Option Ent := (outer k.data.toList).map fun p => ⟨⟨p.1.toArray⟩, p.2.1, p.2.2⟩

def decs : List ByteArray → Option (List Ent)
  | [] => some []
  | k :: r => match dec k with
    | none => none
    | some e => (decs r).map (e :: ·)

theorem decs_cons (k : ByteArray) (r : List ByteArray) : decs (k :: r) = match dec k with
    | none => none
    | some e => (decs r).map (e :: ·) := rfl

theorem decs_some {ks : List ByteArray} {es : List Ent} (h : decs ks = some es) : es.length = ks.length ∧ ∀ (i : Nat) (k : ByteArray), ks[i]? = some k → ∃ e, es[i]? = some e ∧ dec k = some e := by
  induction ks generalizing es with
  | nil =>
    cases h
    exact ⟨rfl, fun i k hk => by simp at hk⟩
  | cons a r ih =>
    rw [decs_cons] at h
    cases hd : dec a with
    | none => rw [hd] at h; cases h
    | some e =>
      rw [hd] at h
      obtain ⟨es', h1, rfl⟩ := Option.map_eq_some_iff.1 h
      obtain ⟨i1, i2⟩ := ih h1
      refine ⟨by simp [i1], fun i k hk => ?_⟩
      cases i with
      | zero =>
        simp at hk
        subst hk
        exact ⟨e, rfl, hd⟩
      | succ i => simpa using i2 i k (by simpa using hk)

theorem decs_of {ks : List ByteArray} {es : List Ent} (hl : es.length = ks.length) (h : ∀ (i : Nat) (k : ByteArray), ks[i]? = some k → ∃ e, es[i]? = some e ∧ dec k = some e) : decs ks = some es := by
  induction ks generalizing es with
  | nil => rw [List.eq_nil_of_length_eq_zero hl]; rfl
  | cons a r ih =>
    obtain ⟨e, h1, h2⟩ := h 0 a rfl
    cases es with
    | nil => simp at hl
    | cons e' es =>
      simp at h1
      subst h1
      rw [decs_cons, h2, ih (by simpa using hl) (fun i k hk => by simpa using h (i + 1) k (by simpa using hk))]
      rfl

theorem decs_none {ks : List ByteArray} {i : Nat} {k : ByteArray} (hk : ks[i]? = some k) (h : dec k = none) : decs ks = none := by
  cases hd : decs ks with
  | none => rfl
  | some es =>
    obtain ⟨e, _, he⟩ := (decs_some hd).2 i k hk
    rw [h] at he
    cases he

theorem decs_snoc {ks : List ByteArray} {es : List Ent} {k : ByteArray} {e : Ent} (h : decs ks = some es) (hk : dec k = some e) : decs (ks ++ [k]) = some (es ++ [e]) := by
  induction ks generalizing es with
  | nil =>
    cases h
    rw [List.nil_append, decs_cons, hk]
    rfl
  | cons a r ih =>
    rw [decs_cons] at h
    rw [List.cons_append, decs_cons]
    cases hd : dec a with
    | none => rw [hd] at h; cases h
    | some x =>
      rw [hd] at h
      obtain ⟨es', h1, rfl⟩ := Option.map_eq_some_iff.1 h
      rw [ih h1]
      rfl

/-- What is answered, as an error. -/
def errOf (ks : List ByteArray) : Nat := match decs ks with
  | none => 9
  | some _ => if rises ks then 0 else 11

theorem errOf_none {ks : List ByteArray} (h : decs ks = none) : errOf ks = 9 := by unfold errOf; rw [h]
theorem errOf_some {ks : List ByteArray} {es : List Ent} (h : decs ks = some es) : errOf ks = if rises ks then 0 else 11 := by unfold errOf; rw [h]

/-- What is kept, by the Keys that were seen at such revisions: 'ab': newer ones are told; 'b': what takes away isn't. -/
def gS (ab b : Bool) (r : Nat) : List ByteArray → List KE → List KE
  | _, [] => []
  | S, x :: t => if r < x.2.rev then (if ab then x :: gS ab b r S t else gS ab b r S t) else if x.2.key ∈ S then gS ab b r S t else if x.2.del && b then gS ab b r (x.2.key :: S) t else x :: gS ab b r (x.2.key :: S) t

theorem gS_cons (ab b : Bool) (r : Nat) (S : List ByteArray) (x : KE) (t : List KE) : gS ab b r S (x :: t) =
    if r < x.2.rev then (if ab then x :: gS ab b r S t else gS ab b r S t) else if x.2.key ∈ S then gS ab b r S t else if x.2.del && b then gS ab b r (x.2.key :: S) t else x :: gS ab b r (x.2.key :: S) t := rfl

theorem gS_sub (ab b : Bool) (r : Nat) (S : List ByteArray) (xs : List KE) : (gS ab b r S xs).Sublist xs := by
  induction xs generalizing S with
  | nil => exact List.Sublist.refl _
  | cons x t ih =>
    rw [gS_cons]
    split
    · split
      · exact (ih S).cons_cons x
      · exact (ih S).cons x
    · split
      · exact (ih S).cons x
      · split
        · exact (ih _).cons x
        · exact (ih _).cons_cons x

/-- The same, told one by one, by the last Key alone. -/
def gStep (ab b : Bool) (r : Nat) (s : List KE × Option ByteArray) (x : KE) : List KE × Option ByteArray :=
  if r < x.2.rev then (if ab then s.1 ++ [x] else s.1, s.2) else if s.2 = some x.2.key then s else (if x.2.del && b then s.1 else s.1 ++ [x], some x.2.key)

def gF (ab b : Bool) (r : Nat) (xs : List KE) : List KE × Option ByteArray := xs.foldl (gStep ab b r) ([], none)

theorem gF_snoc (ab b : Bool) (r : Nat) (xs : List KE) (x : KE) : gF ab b r (xs ++ [x]) = gStep ab b r (gF ab b r xs) x := by simp [gF]

/-- Keys rise, and of each Key revisions fall. -/
def mono (xs : List KE) : Prop := xs.Pairwise fun x y => bl y.2.key x.2.key = false ∧ (x.2.key = y.2.key → y.2.rev ≤ x.2.rev)

def LastOk (last : Option ByteArray) (S : List ByteArray) (xs : List KE) : Prop :=
  match last with
  | none => S = []
  | some p => p ∈ S ∧ (∀ x ∈ xs, bl x.2.key p = false) ∧ ∀ q ∈ S, q = p ∨ ∀ x ∈ xs, x.2.key ≠ q

theorem LastOk.mem {last : Option ByteArray} {S : List ByteArray} {x : KE} {t : List KE} (h : LastOk last S (x :: t)) : x.2.key ∈ S ↔ last = some x.2.key := by
  cases last with
  | none =>
    have h : S = [] := h
    subst h
    simp
  | some p =>
    obtain ⟨h1, _, h2⟩ := h
    constructor
    · intro hm
      rcases h2 _ hm with rfl | h
      · rfl
      · exact absurd rfl (h x (by simp))
    · intro he
      cases he
      exact h1

theorem LastOk.tail {last : Option ByteArray} {S : List ByteArray} {x : KE} {t : List KE} (h : LastOk last S (x :: t)) : LastOk last S t := by
  cases last with
  | none => exact h
  | some p => exact ⟨h.1, fun y hy => h.2.1 y (by simp [hy]), fun q hq => (h.2.2 q hq).imp id fun k y hy => k y (by simp [hy])⟩

theorem LastOk.push {last : Option ByteArray} {S : List ByteArray} {x : KE} {t : List KE} (h : LastOk last S (x :: t)) (hm : mono (x :: t)) (hx : x.2.key ∉ S) : LastOk (some x.2.key) (x.2.key :: S) t := by
  have hr : ∀ y ∈ t, bl y.2.key x.2.key = false := fun y hy => (List.rel_of_pairwise_cons hm hy).1
  refine ⟨by simp, hr, fun q hq => ?_⟩
  rcases List.mem_cons.1 hq with rfl | hq
  · exact .inl rfl
  · right
    cases last with
    | none =>
      have h : S = [] := h
      subst h
      cases hq
    | some p =>
      obtain ⟨h1, h2, h3⟩ := h
      have hpx : p ≠ x.2.key := fun e => hx (e ▸ h1)
      have hlt : bl p x.2.key = true := bl_ge (h2 x (by simp)) (Ne.symm hpx)
      rcases h3 q hq with rfl | h
      · intro y hy e
        have := hr y hy
        rw [e, hlt] at this
        cases this
      · exact fun y hy => h y (by simp [hy])

theorem gF_go (ab b : Bool) (r : Nat) (xs : List KE) : ∀ (out : List KE) (last : Option ByteArray) (S : List ByteArray), mono xs → LastOk last S xs → (xs.foldl (gStep ab b r) (out, last)).1 = out ++ gS ab b r S xs := by
  induction xs with
  | nil => intro out last S _ _; simp [gS]
  | cons x t ih =>
    intro out last S hm hl
    have hm' : mono t := (List.pairwise_cons.1 hm).2
    rw [List.foldl_cons, gS_cons]
    by_cases h1 : r < x.2.rev
    · rw [if_pos h1]
      have e : gStep ab b r (out, last) x = (if ab then out ++ [x] else out, last) := by unfold gStep; rw [if_pos h1]
      rw [e, ih _ _ _ hm' hl.tail]
      cases ab <;> simp
    · rw [if_neg h1]
      by_cases h2 : x.2.key ∈ S
      · rw [if_pos h2]
        have e : gStep ab b r (out, last) x = (out, last) := by unfold gStep; rw [if_neg h1, if_pos (hl.mem.1 h2)]
        rw [e, ih _ _ _ hm' hl.tail]
      · rw [if_neg h2]
        have e : gStep ab b r (out, last) x = (if x.2.del && b then out else out ++ [x], some x.2.key) := by unfold gStep; rw [if_neg h1, if_neg (fun h => h2 (hl.mem.2 h))]
        rw [e, ih _ _ _ hm' (hl.push hm h2)]
        cases x.2.del && b <;> simp

theorem gF_eq (ab b : Bool) (r : Nat) (xs : List KE) (h : mono xs) : (gF ab b r xs).1 = gS ab b r [] xs := by
  have := gF_go ab b r xs [] none [] h rfl
  rw [List.nil_append] at this
  exact this

/-- The document's: by all that stands ahead. -/
def firstB (pre : List KE) (x : KE) (r : Nat) : Bool := decide (x.2.rev ≤ r) && pre.all fun y => !(decide (y.2.key = x.2.key) && decide (y.2.rev ≤ r))
def gCond (ab b : Bool) (r : Nat) (pre : List KE) (x : KE) : Bool := (ab && decide (r < x.2.rev)) || (firstB pre x r && !(x.2.del && b))
def gRef (ab b : Bool) (r : Nat) : List KE → List KE → List KE
  | _, [] => []
  | pre, x :: t => (if gCond ab b r pre x then [x] else []) ++ gRef ab b r (pre ++ [x]) t

theorem gRef_snoc (ab b : Bool) (r : Nat) (xs : List KE) : ∀ (pre : List KE) (x : KE), gRef ab b r pre (xs ++ [x]) = gRef ab b r pre xs ++ if gCond ab b r (pre ++ xs) x then [x] else [] := by
  induction xs with
  | nil => intro pre x; simp [gRef]
  | cons y t ih =>
    intro pre x
    rw [List.cons_append, gRef, gRef, ih]
    simp [List.append_assoc]

theorem gRef_go (ab b : Bool) (r : Nat) (xs : List KE) : ∀ (pre : List KE) (S : List ByteArray), (∀ q, q ∈ S ↔ ∃ y ∈ pre, y.2.key = q ∧ y.2.rev ≤ r) → gRef ab b r pre xs = gS ab b r S xs := by
  induction xs with
  | nil => intro pre S _; rfl
  | cons x t ih =>
    intro pre S hS
    rw [gRef, gS_cons]
    by_cases h1 : r < x.2.rev
    · have hS' : ∀ q, q ∈ S ↔ ∃ y ∈ pre ++ [x], y.2.key = q ∧ y.2.rev ≤ r := fun q => by
        rw [hS q]
        constructor
        · rintro ⟨y, hy, h⟩
          exact ⟨y, by simp [hy], h⟩
        · rintro ⟨y, hy, h⟩
          rcases List.mem_append.1 hy with hy | hy
          · exact ⟨y, hy, h⟩
          · simp at hy
            subst hy
            omega
      have e : gCond ab b r pre x = ab := by
        unfold gCond firstB
        simp [h1]
        omega
      rw [if_pos h1, e, ih _ _ hS']
      cases ab <;> simp
    · have hf : firstB pre x r = !decide (x.2.key ∈ S) := by
        unfold firstB
        have h2 : x.2.rev ≤ r := by omega
        by_cases hm : x.2.key ∈ S
        · obtain ⟨y, hy, h3, h4⟩ := (hS _).1 hm
          have : (pre.all fun y => !(decide (y.2.key = x.2.key) && decide (y.2.rev ≤ r))) = false := by
            rw [List.all_eq_false]
            exact ⟨y, hy, by simp [h3, h4]⟩
          rw [this, decide_eq_true h2, decide_eq_true hm]
          rfl
        · have : (pre.all fun y => !(decide (y.2.key = x.2.key) && decide (y.2.rev ≤ r))) = true := by
            rw [List.all_eq_true]
            intro y hy
            cases hd : decide (y.2.key = x.2.key) && decide (y.2.rev ≤ r) with
            | false => rfl
            | true =>
              simp at hd
              exact absurd ((hS _).2 ⟨y, hy, hd.1, hd.2⟩) hm
          rw [this, decide_eq_true h2, decide_eq_false hm]
          rfl
      have e : gCond ab b r pre x = (!decide (x.2.key ∈ S) && !(x.2.del && b)) := by
        unfold gCond
        rw [hf]
        simp [h1]
      rw [if_neg h1, e]
      have hSx : ∀ q, q ∈ x.2.key :: S ↔ ∃ y ∈ pre ++ [x], y.2.key = q ∧ y.2.rev ≤ r := fun q => by
        rw [List.mem_cons, hS q]
        constructor
        · rintro (rfl | ⟨y, hy, h⟩)
          · exact ⟨x, by simp, rfl, by omega⟩
          · exact ⟨y, by simp [hy], h⟩
        · rintro ⟨y, hy, h⟩
          rcases List.mem_append.1 hy with hy | hy
          · exact .inr ⟨y, hy, h⟩
          · simp at hy
            subst hy
            exact .inl h.1.symm
      by_cases hm : x.2.key ∈ S
      · rw [if_pos hm]
        have hS' : ∀ q, q ∈ S ↔ ∃ y ∈ pre ++ [x], y.2.key = q ∧ y.2.rev ≤ r := fun q => by
          rw [← hSx q, List.mem_cons]
          constructor
          · exact .inr
          · rintro (rfl | h)
            · exact hm
            · exact h
        rw [ih _ _ hS']
        simp [hm]
      · rw [if_neg hm, ih _ _ hSx]
        cases x.2.del && b <;> simp [hm]

theorem gRef_eq (ab b : Bool) (r : Nat) (xs : List KE) : gRef ab b r [] xs = gS ab b r [] xs := gRef_go ab b r xs [] [] (fun q => by simp)

/-- What is dropped is never told. -/
theorem g_keep (ab b b' : Bool) (f r : Nat) (hfr : f ≤ r) (hb : b = true → b' = true) (xs : List KE) : ∀ (S T T' : List ByteArray), mono xs → (∀ p ∈ T, p ∈ T') → (∀ p ∈ S, p ∈ T') → (∀ p ∈ T', p ∉ T → p ∈ S ∧ ∀ x ∈ xs, x.2.key = p → x.2.rev ≤ f) →
    gS ab b' r T (gS true b f S xs) = gS ab b' r T' xs := by
  induction xs with
  | nil => intro S T T' _ _ _ _; rfl
  | cons x t ih =>
    intro S T T' hm h1 h2 h3
    have hm' : mono t := (List.pairwise_cons.1 hm).2
    have h3t : ∀ p ∈ T', p ∉ T → p ∈ S ∧ ∀ y ∈ t, y.2.key = p → y.2.rev ≤ f := fun p hp hn => ⟨(h3 p hp hn).1, fun y hy => (h3 p hp hn).2 y (by simp [hy])⟩
    have hex : ∀ p, p ∈ x.2.key :: T → p ∈ x.2.key :: T' := fun p hp => by
      rcases List.mem_cons.1 hp with rfl | hp
      · simp
      · simp [h1 p hp]
    have h3x : ∀ p ∈ x.2.key :: T', p ∉ x.2.key :: T → p ∈ T' ∧ p ∉ T := fun p hp hn => by
      simp at hp hn
      rcases hp with rfl | hp
      · exact absurd rfl hn.1
      · exact ⟨hp, hn.2⟩
    by_cases hf : f < x.2.rev
    · rw [gS_cons true b f, if_pos hf, if_pos rfl, gS_cons ab b' r T, gS_cons ab b' r T']
      by_cases hr : r < x.2.rev
      · rw [if_pos hr, if_pos hr, ih S T T' hm' h1 h2 h3t]
      · rw [if_neg hr, if_neg hr]
        have hTT : x.2.key ∈ T ↔ x.2.key ∈ T' := ⟨h1 _, fun h => by
          by_cases hn : x.2.key ∈ T
          · exact hn
          · have := (h3 _ h hn).2 x (by simp) rfl
            omega⟩
        by_cases hT : x.2.key ∈ T
        · rw [if_pos hT, if_pos (hTT.1 hT), ih S T T' hm' h1 h2 h3t]
        · have hT' : x.2.key ∉ T' := fun h => hT (hTT.2 h)
          have := ih S (x.2.key :: T) (x.2.key :: T') hm' hex (fun p hp => by simp [h2 p hp]) (fun p hp hn => h3t p (h3x p hp hn).1 (h3x p hp hn).2)
          rw [if_neg hT, if_neg hT', this]
    · have hr : ¬ r < x.2.rev := by omega
      rw [gS_cons true b f, if_neg hf, gS_cons ab b' r T', if_neg hr]
      by_cases hS : x.2.key ∈ S
      · rw [if_pos hS, if_pos (h2 _ hS), ih S T T' hm' h1 h2 h3t]
      · rw [if_neg hS]
        by_cases hd : (x.2.del && b) = true
        · rw [if_pos hd]
          simp at hd
          by_cases hT' : x.2.key ∈ T'
          · rw [if_pos hT']
            exact ih (x.2.key :: S) T T' hm' h1 (fun p hp => by
              rcases List.mem_cons.1 hp with rfl | hp
              · exact hT'
              · exact h2 p hp) (fun p hp hn => ⟨by simp [(h3t p hp hn).1], (h3t p hp hn).2⟩)
          · rw [if_neg hT', if_pos (by simp [hd.1, hb hd.2])]
            refine ih (x.2.key :: S) T (x.2.key :: T') hm' (fun p hp => by simp [h1 p hp]) (fun p hp => ?_) (fun p hp hn => ?_)
            · rcases List.mem_cons.1 hp with rfl | hp
              · simp
              · simp [h2 p hp]
            · rcases List.mem_cons.1 hp with rfl | hp
              · exact ⟨by simp, fun y hy he => by
                  have := (List.rel_of_pairwise_cons hm hy).2 he.symm
                  omega⟩
              · exact ⟨by simp [(h3t p hp hn).1], (h3t p hp hn).2⟩
        · rw [if_neg hd, gS_cons ab b' r T, if_neg hr]
          have hTT : x.2.key ∈ T ↔ x.2.key ∈ T' := ⟨h1 _, fun h => by
            by_cases hn : x.2.key ∈ T
            · exact hn
            · exact absurd (h3 _ h hn).1 hS⟩
          have hS2 : ∀ {U : List ByteArray}, (∀ p ∈ T', p ∈ U) → x.2.key ∈ U → ∀ p ∈ x.2.key :: S, p ∈ U := fun hU hx p hp => by
            rcases List.mem_cons.1 hp with rfl | hp
            · exact hx
            · exact hU _ (h2 p hp)
          by_cases hT : x.2.key ∈ T
          · rw [if_pos hT, if_pos (hTT.1 hT)]
            exact ih (x.2.key :: S) T T' hm' h1 (hS2 (fun _ h => h) (hTT.1 hT)) (fun p hp hn => ⟨by simp [(h3t p hp hn).1], (h3t p hp hn).2⟩)
          · have hT' : x.2.key ∉ T' := fun h => hT (hTT.2 h)
            have := ih (x.2.key :: S) (x.2.key :: T) (x.2.key :: T') hm' hex (hS2 (fun _ h => by simp [h]) (by simp)) (fun p hp hn => ⟨by simp [(h3t p (h3x p hp hn).1 (h3x p hp hn).2).1], (h3t p (h3x p hp hn).1 (h3x p hp hn).2).2⟩)
            rw [if_neg hT, if_neg hT', this]

/-- Inner keys of entries. -/
def innB (x : Ent) : ByteArray := ⟨(inner x.key.data.toList x.rev x.del).toArray⟩

theorem dec_inn {x : Ent} (h : x.rev < 18446744073709551616) : dec (innB x) = some x := by
  unfold dec innB
  rw [show (ByteArray.mk (inner x.key.data.toList x.rev x.del).toArray).data.toList = inner x.key.data.toList x.rev x.del by simp, outer_inner _ _ _ h]
  rfl

/-- Entries' inner keys, in order, each once. -/
def rowsL (es : List Ent) : List ByteArray := es.foldl (fun out x => putK out (innB x)) []

theorem rowsL_snoc (es : List Ent) (x : Ent) : rowsL (es ++ [x]) = putK (rowsL es) (innB x) := by simp [rowsL]

theorem rows_go (es : List Ent) : ∀ (A : List Ent) (out : List ByteArray), (rises out ∧ out.length ≤ A.length ∧ ∀ k ∈ out, ∃ x ∈ A, k = innB x) →
    rises (es.foldl (fun out x => putK out (innB x)) out) ∧ (es.foldl (fun out x => putK out (innB x)) out).length ≤ (A ++ es).length ∧ ∀ k ∈ es.foldl (fun out x => putK out (innB x)) out, ∃ x ∈ A ++ es, k = innB x := by
  induction es with
  | nil => intro A out h; simpa using h
  | cons x es ih =>
    intro A out ⟨h1, h2, h3⟩
    have := ih (A ++ [x]) (putK out (innB x)) ⟨putK_rises h1, by
      have := putK_length out (innB x)
      simp
      omega, fun k hk => by
        rcases putK_mem hk with rfl | hk
        · exact ⟨x, by simp, rfl⟩
        · obtain ⟨y, hy, rfl⟩ := h3 k hk
          exact ⟨y, by simp [hy], rfl⟩⟩
    rw [List.append_assoc, List.singleton_append] at this
    exact this

theorem rowsL_all (es : List Ent) : rises (rowsL es) ∧ (rowsL es).length ≤ es.length ∧ ∀ k ∈ rowsL es, ∃ x ∈ es, k = innB x := by
  have := rows_go es [] [] ⟨rises_nil, Nat.le_refl _, fun k hk => by cases hk⟩
  rw [List.nil_append] at this
  exact this

/-- Rising inner keys are told, and their entries stand in order. -/
theorem inn_mono {es : List Ent} (hr : rises (es.map innB)) (hv : ∀ x ∈ es, x.rev < 18446744073709551616) : decs (es.map innB) = some es ∧ mono ((es.map innB).zip es) := by
  constructor
  · refine decs_of (by simp) (fun i k hk => ?_)
    rw [List.getElem?_map] at hk
    obtain ⟨x, hx, rfl⟩ := Option.map_eq_some_iff.1 hk
    exact ⟨x, hx, dec_inn (hv x (List.mem_of_getElem? hx))⟩
  · induction es with
    | nil => exact List.Pairwise.nil
    | cons x t ih =>
      rw [List.map_cons] at hr
      have hp := List.pairwise_cons.1 hr
      rw [List.map_cons, List.zip_cons_cons]
      refine List.Pairwise.cons (fun y hy => ?_) (ih hp.2 (fun z hz => hv z (by simp [hz])))
      have hyt : y.2 ∈ t := (List.of_mem_zip hy).2
      have hlt := hp.1 (innB y.2) (List.mem_map.2 ⟨y.2, hyt, rfl⟩)
      unfold bl innB at hlt
      simp only at hlt
      rw [less_inner _ _ _ _ _ _ (hv x (by simp)) (hv y.2 (by simp [hyt])), lessE] at hlt
      show bl y.2.key x.key = false ∧ (x.key = y.2.key → y.2.rev ≤ x.rev)
      by_cases he : x.key = y.2.key
      · rw [he] at hlt ⊢
        simp at hlt
        refine ⟨bl_irrefl _, fun _ => ?_⟩
        split at hlt <;> omega
      · have hne : (x.key.data.toList == y.2.key.data.toList) = false := by
          rw [beq_eq_false_iff_ne]
          exact fun e => he (Go.WideShapes.bytes_inj e)
        rw [hne] at hlt
        exact ⟨bl_asymm hlt, fun e => absurd e he⟩
end Go.Proofs.Ytekdcjbjjakhcaa
