/- What the proof stands on, part 2. -/
import Derived.Test.YtekdcjbjjakhcaaMg1
import Derived.WalkKit
import Derived.Sort.Walk0
import Derived.Lib.IndexLaws
import Derived.Laws.BitsAllLaws
/- Layer 2: inner keys stand in order as entries do. -/
namespace Go.Proofs.Ytekdcjbjjakhcaa
open Go

theorem less_same (p r s : List UInt8) : Op.bytesLess (p ++ r) (p ++ s) = Op.bytesLess r s := by
  induction p with
  | nil => rfl
  | cons c p ih =>
    have h : ¬ c < c := fun h => Nat.lt_irrefl _ (UInt8.lt_iff_toNat_lt.1 h)
    simp [Op.bytesLess, ih, h]

theorem less_cons (c d : UInt8) (r s : List UInt8) : Op.bytesLess (c :: r) (d :: s) = (c < d || (c == d && Op.bytesLess r s)) := rfl

/-- keys, each behind its end mark, and what follows -/
theorem less_esc (p q r s : List UInt8) :
    Op.bytesLess (esc p ++ ([0, 1] ++ r)) (esc q ++ ([0, 1] ++ s)) = (Op.bytesLess p q || (p == q && Op.bytesLess r s)) := by
  induction p generalizing q with
  | nil =>
    cases q with
    | nil => simp [esc, Op.bytesLess]
    | cons d q =>
      by_cases hd : d = 0
      · subst hd
        simp [esc, Op.bytesLess]
      · have h0 : (0 : UInt8) < d := by
          rw [UInt8.lt_iff_toNat_lt]
          have : d.toNat ≠ 0 := fun e => hd (UInt8.toNat_inj.1 (by simpa using e))
          simp; omega
        simp [esc, hd, Op.bytesLess, h0]
  | cons c p ih =>
    cases q with
    | nil =>
      by_cases hc : c = 0
      · subst hc
        simp [esc, Op.bytesLess]
      · have h0 : ¬ c < 0 := by
          rw [UInt8.lt_iff_toNat_lt]; simp
        simp [esc, hc, Op.bytesLess]
    | cons d q =>
      by_cases hcd : c = d
      · subst hcd
        have hlt : ¬ c < c := fun h => Nat.lt_irrefl _ (UInt8.lt_iff_toNat_lt.1 h)
        have ih' : Op.bytesLess (esc p ++ 0 :: 1 :: r) (esc q ++ 0 :: 1 :: s) = (Op.bytesLess p q || (p == q && Op.bytesLess r s)) := by simpa using ih q
        by_cases hc : c = 0
        · subst hc
          simp [esc, Op.bytesLess, ih']
        · simp [esc, hc, Op.bytesLess, ih', hlt]
      · have hne : (c == d) = false := by simpa using hcd
        by_cases hc : c = 0
        · subst hc
          have hd : ¬ d = 0 := fun e => hcd e.symm
          have h0 : (0 : UInt8) < d := by
            rw [UInt8.lt_iff_toNat_lt]
            have : d.toNat ≠ 0 := fun e => hd (UInt8.toNat_inj.1 (by simpa using e))
            simp; omega
          simp [esc, hd, Op.bytesLess, h0]
        · by_cases hd : d = 0
          · subst hd
            simp [esc, hc, Op.bytesLess, hne]
          · simp [esc, hc, hd, Op.bytesLess, hne]

/-- what stands in front, where both have as much of it -/
theorem less_front (p q r s : List UInt8) (h : p.length = q.length) : Op.bytesLess (p ++ r) (q ++ s) = (Op.bytesLess p q || (p == q && Op.bytesLess r s)) := by
  induction p generalizing q with
  | nil =>
    cases q with
    | nil => simp [Op.bytesLess]
    | cons d q => simp at h
  | cons c p ih =>
    cases q with
    | nil => simp at h
    | cons d q =>
      have ih' := ih q (by simpa using h)
      simp only [List.cons_append, less_cons, ih']
      by_cases hcd : c = d
      · subst hcd
        have hlt : ¬ c < c := fun h => Nat.lt_irrefl _ (UInt8.lt_iff_toNat_lt.1 h)
        simp [hlt]
      · have hne : (c == d) = false := by simpa using hcd
        simp [hne]

/-- the number that the first k of the eight bytes make -/
def top (rev k : Nat) : Nat := (18446744073709551615 - rev) / 256 ^ (8 - k)

theorem top_succ (rev k : Nat) (hk : k < 8) (hr : rev < 18446744073709551616) : top rev (k + 1) = top rev k * 256 + (revByte rev (7 - k)).toNat := by
  have h1 := (revByte_up rev (7 - k) hr (by omega)).symm
  have h2 : 256 ^ (8 - k) = 256 ^ (7 - k) * 256 := by rw [← Nat.pow_succ]; congr 1; omega
  unfold top
  rw [h1, h2, ← Nat.div_div_eq_div_mul, show 8 - (k + 1) = 7 - k by omega]
  omega

theorem rev_less (a b : Nat) (ha : a < 18446744073709551616) (hb : b < 18446744073709551616) (k : Nat) (hk : k ≤ 8) :
    Op.bytesLess (revBytes a k) (revBytes b k) = decide (top a k < top b k) ∧ (revBytes a k == revBytes b k) = decide (top a k = top b k) := by
  induction k with
  | zero =>
    have h1 : top a 0 = 0 := by unfold top; rw [Nat.div_eq_zero_iff]; right; show _ < 256 ^ 8; omega
    have h2 : top b 0 = 0 := by unfold top; rw [Nat.div_eq_zero_iff]; right; show _ < 256 ^ 8; omega
    simp [revBytes, Op.bytesLess, h1, h2]
  | succ k ih =>
    obtain ⟨i1, i2⟩ := ih (by omega)
    have t1 := top_succ a k (by omega) ha
    have t2 := top_succ b k (by omega) hb
    have c1 := (revByte a (7 - k)).toNat_lt
    have c2 := (revByte b (7 - k)).toNat_lt
    have hl : (revBytes a k).length = (revBytes b k).length := by rw [revBytes_length, revBytes_length]
    constructor
    · rw [revBytes, revBytes, less_front _ _ _ _ hl, i1, i2]
      rw [Bool.eq_iff_iff]
      simp [Op.bytesLess, UInt8.lt_iff_toNat_lt]
      omega
    · rw [revBytes, revBytes, Bool.eq_iff_iff]
      have i3 : revBytes a k = revBytes b k ↔ top a k = top b k := by
        rw [Bool.eq_iff_iff] at i2; simpa using i2
      have i4 : revByte a (7 - k) = revByte b (7 - k) ↔ (revByte a (7 - k)).toNat = (revByte b (7 - k)).toNat := UInt8.toNat_inj.symm
      have i5 : revBytes a k ++ [revByte a (7 - k)] = revBytes b k ++ [revByte b (7 - k)] ↔ revBytes a k = revBytes b k ∧ revByte a (7 - k) = revByte b (7 - k) := by
        constructor
        · intro h
          obtain ⟨h1, h2⟩ := List.append_inj h hl
          exact ⟨h1, by simpa using h2⟩
        · rintro ⟨h1, h2⟩
          rw [h1, h2]
      simp only [beq_iff_eq, decide_eq_true_eq]
      rw [i5, i3, i4]
      omega

/-- does an entry stand ahead of another one? -/
def lessE (p q : List UInt8) (a b : Nat) (x y : Bool) : Bool := if p == q then (if a = b then x && !y else decide (b < a)) else Op.bytesLess p q

theorem less_inner (p q : List UInt8) (a b : Nat) (x y : Bool) (ha : a < 18446744073709551616) (hb : b < 18446744073709551616) :
    Op.bytesLess (inner p a x) (inner q b y) = lessE p q a b x y := by
  have hl : (revBytes a 8).length = (revBytes b 8).length := by rw [revBytes_length, revBytes_length]
  obtain ⟨h1, h2⟩ := rev_less a b ha hb 8 (by omega)
  have t1 : top a 8 = 18446744073709551615 - a := by simp [top]
  have t2 : top b 8 = 18446744073709551615 - b := by simp [top]
  rw [inner, inner, innTo, innTo]
  simp only [List.append_assoc]
  rw [less_esc, less_front _ _ _ _ hl, h1, h2, t1, t2, lessE]
  by_cases hpq : p = q
  · subst hpq
    have hs : Op.bytesLess p p = false := by
      have := less_same p [] []
      simpa [Op.bytesLess] using this
    simp only [hs, beq_self_eq_true, Bool.true_and, Bool.false_or, if_true]
    by_cases hab : a = b
    · subst hab
      cases x <;> cases y <;> simp [Op.bytesLess]
    · rw [if_neg hab]
      have e1 : decide (18446744073709551615 - a = 18446744073709551615 - b) = false := by simp; omega
      rw [e1, Bool.false_and, Bool.or_false]
      rw [Bool.eq_iff_iff]
      simp
      omega
  · have hne : (p == q) = false := by simpa using hpq
    simp [hne]

theorem less_irrefl (l : List UInt8) : Op.bytesLess l l = false := by
  have := less_same l [] []
  simpa [Op.bytesLess] using this

theorem less_total (p q : List UInt8) (h : Op.bytesLess p q = false) (k : Op.bytesLess q p = false) : p = q := by
  induction p generalizing q with
  | nil => cases q with
    | nil => rfl
    | cons d q => simp [Op.bytesLess] at h
  | cons c p ih =>
    cases q with
    | nil => simp [Op.bytesLess] at k
    | cons d q =>
      simp only [Op.bytesLess, Bool.or_eq_false_iff, decide_eq_false_iff_not, UInt8.lt_iff_toNat_lt] at h k
      have e : c = d := UInt8.toNat_inj.1 (by omega)
      subst e
      simp only [beq_self_eq_true, Bool.true_and] at h k
      rw [ih q h.2 k.2]

theorem inner_inj (p q : List UInt8) (a b : Nat) (x y : Bool) (ha : a < 18446744073709551616) (hb : b < 18446744073709551616) :
    inner p a x = inner q b y ↔ p = q ∧ a = b ∧ x = y := by
  constructor
  · intro h
    have h1 : lessE p q a b x y = false := by rw [← less_inner p q a b x y ha hb, h, less_irrefl]
    have h2 : lessE q p b a y x = false := by rw [← less_inner q p b a y x hb ha, h, less_irrefl]
    by_cases hpq : p = q
    · subst hpq
      by_cases hab : a = b
      · subst hab
        cases x <;> cases y <;> simp [lessE] at h1 h2 ⊢
      · simp [lessE, hab, Ne.symm hab] at h1 h2
        omega
    · exfalso
      simp [lessE, hpq, Ne.symm hpq] at h1 h2
      exact hpq (less_total p q h1 h2)
  · rintro ⟨rfl, rfl, rfl⟩
    rfl
end Go.Proofs.Ytekdcjbjjakhcaa

/- Strings in order; a row of strings, each once. -/
namespace Go.Proofs.Ytekdcjbjjakhcaa
open Go Go.RowKit

theorem less_trans {a b c : List UInt8} (h : Op.bytesLess a b = true) (k : Op.bytesLess b c = true) : Op.bytesLess a c = true := by
  rw [bytesLess_eq, decide_eq_true_eq] at *
  exact List.lt_trans h k

theorem less_asymm {a b : List UInt8} (h : Op.bytesLess a b = true) : Op.bytesLess b a = false := by
  cases k : Op.bytesLess b a with
  | false => rfl
  | true =>
    have := less_trans h k
    rw [less_irrefl] at this
    cases this

def bl (a b : ByteArray) : Bool := Op.bytesLess a.data.toList b.data.toList

theorem bl_trans {a b c : ByteArray} (h : bl a b = true) (k : bl b c = true) : bl a c = true := less_trans h k
theorem bl_irrefl (a : ByteArray) : bl a a = false := less_irrefl _
theorem bl_asymm {a b : ByteArray} (h : bl a b = true) : bl b a = false := less_asymm h
theorem bl_total {a b : ByteArray} (h : bl a b = false) (k : bl b a = false) : a = b := Go.WideShapes.bytes_inj (less_total _ _ h k)
theorem bl_ne {a b : ByteArray} (h : bl a b = true) : a ≠ b := fun e => by subst e; rw [bl_irrefl] at h; cases h
/-- not less: equal, or greater -/
theorem bl_ge {a b : ByteArray} (h : bl a b = false) (hne : a ≠ b) : bl b a = true := by
  cases k : bl b a with
  | true => rfl
  | false => exact absurd (bl_total h k) hne

/-- Each is less than those behind it. -/
def rises (l : List ByteArray) : Prop := l.Pairwise (fun a b => bl a b = true)

theorem rises_nil : rises [] := List.Pairwise.nil
theorem rises_snoc {l : List ByteArray} {x : ByteArray} : rises (l ++ [x]) ↔ rises l ∧ ∀ y ∈ l, bl y x = true := by
  unfold rises
  rw [List.pairwise_append]
  simp

/-- What is asked of neighbours alone. -/
def stepsUp (l : List ByteArray) (n : Nat) : Prop := ∀ i, 0 < i → i < n → ∀ x y, l[i - 1]? = some x → l[i]? = some y → bl x y = true

theorem rises_of_steps (l : List ByteArray) (h : stepsUp l l.length) : rises l := by
  induction l with
  | nil => exact rises_nil
  | cons a r ih =>
    have hr : rises r := ih (fun i h0 hi x y hx hy => h (i + 1) (by omega) (by simp; omega) x y (by
      rw [show i + 1 - 1 = i - 1 + 1 by omega]
      simpa using hx) (by simpa using hy))
    refine List.Pairwise.cons (fun y hy => ?_) hr
    cases r with
    | nil => cases hy
    | cons b r =>
      have hab : bl a b = true := h 1 (by omega) (by simp) a b rfl rfl
      rcases List.mem_cons.1 hy with rfl | hy
      · exact hab
      · exact bl_trans hab (List.rel_of_pairwise_cons hr hy)

theorem steps_of_rises {l : List ByteArray} (h : rises l) : stepsUp l l.length := by
  intro i h0 hi x y hx hy
  obtain ⟨h1, rfl⟩ := List.getElem?_eq_some_iff.1 hx
  obtain ⟨h2, rfl⟩ := List.getElem?_eq_some_iff.1 hy
  exact List.pairwise_iff_getElem.1 h (i - 1) i h1 h2 (by omega)

instance (l : List ByteArray) : Decidable (rises l) := by unfold rises; infer_instance

theorem not_rises {l : List ByteArray} {i : Nat} {x y : ByteArray} (h0 : 0 < i) (hx : l[i - 1]? = some x) (hy : l[i]? = some y) (h : bl x y = false) : ¬ rises l := fun hr => by
  have := steps_of_rises hr i h0 (List.getElem?_eq_some_iff.1 hy).1 x y hx hy
  rw [h] at this
  cases this

/-- Where a key belongs: behind those that are less. -/
def putAt (l : List ByteArray) (k : ByteArray) : Nat := (l.takeWhile fun x => bl x k).length
def putK (l : List ByteArray) (k : ByteArray) : List ByteArray := if l[putAt l k]? = some k then l else l.take (putAt l k) ++ k :: l.drop (putAt l k)

theorem putAt_le (l : List ByteArray) (k : ByteArray) : putAt l k ≤ l.length := (List.takeWhile_sublist _).length_le

theorem putAt_lt {l : List ByteArray} {k x : ByteArray} {i : Nat} (h : i < putAt l k) (hx : l[i]? = some x) : bl x k = true := by
  induction l generalizing i with
  | nil => simp at hx
  | cons a r ih =>
    unfold putAt at h
    rw [List.takeWhile_cons] at h
    split at h
    · rename_i ha
      cases i with
      | zero => simp at hx; subst hx; exact ha
      | succ i => exact ih (by unfold putAt; simpa using h) (by simpa using hx)
    · simp at h

theorem putAt_at {l : List ByteArray} {k x : ByteArray} (hx : l[putAt l k]? = some x) : bl x k = false := by
  induction l with
  | nil => simp at hx
  | cons a r ih =>
    unfold putAt at hx
    rw [List.takeWhile_cons] at hx
    split at hx
    · exact ih (by unfold putAt; simpa using hx)
    · rename_i ha
      simp at hx
      subst hx
      simpa using ha

/-- The place is found one by one. -/
theorem putAt_eq {l : List ByteArray} {k : ByteArray} {i : Nat} (h : ∀ j x, j < i → l[j]? = some x → bl x k = true) (hi : i ≤ l.length) (hat : ∀ x, l[i]? = some x → bl x k = false) : putAt l k = i := by
  rcases Nat.lt_trichotomy (putAt l k) i with hlt | he | hgt
  · have hl : putAt l k < l.length := by omega
    have h1 := putAt_at (List.getElem?_eq_getElem hl)
    rw [h _ _ hlt (List.getElem?_eq_getElem hl)] at h1
    cases h1
  · exact he
  · have hl : i < l.length := Nat.lt_of_lt_of_le hgt (putAt_le l k)
    have h1 := putAt_lt hgt (List.getElem?_eq_getElem hl)
    rw [hat _ (List.getElem?_eq_getElem hl)] at h1
    cases h1

theorem putK_length (l : List ByteArray) (k : ByteArray) : (putK l k).length ≤ l.length + 1 := by
  have := putAt_le l k
  unfold putK
  split
  · omega
  · simp
    omega

theorem putK_mem {l : List ByteArray} {k x : ByteArray} (h : x ∈ putK l k) : x = k ∨ x ∈ l := by
  unfold putK at h
  split at h
  · exact .inr h
  · rcases List.mem_append.1 h with h | h
    · exact .inr (List.mem_of_mem_take h)
    · rcases List.mem_cons.1 h with h | h
      · exact .inl h
      · exact .inr (List.mem_of_mem_drop h)

theorem mem_putK {l : List ByteArray} {k x : ByteArray} (h : x = k ∨ x ∈ l) : x ∈ putK l k := by
  unfold putK
  split
  · rename_i hk
    rcases h with rfl | h
    · exact List.mem_of_getElem? hk
    · exact h
  · rcases h with rfl | h
    · simp
    · rw [← List.take_append_drop (putAt l k) l] at h
      rcases List.mem_append.1 h with h | h
      · exact List.mem_append_left _ h
      · exact List.mem_append_right _ (List.mem_cons_of_mem _ h)

theorem putK_rises {l : List ByteArray} {k : ByteArray} (h : rises l) : rises (putK l k) := by
  unfold putK
  split
  · exact h
  · rename_i hne
    have hp := h
    unfold rises at hp ⊢
    rw [← List.take_append_drop (putAt l k) l, List.pairwise_append] at hp
    rw [List.pairwise_append]
    refine ⟨hp.1, List.Pairwise.cons (fun y hy => ?_) hp.2.1, fun a ha b hb => ?_⟩
    · obtain ⟨i, hi⟩ := List.getElem?_of_mem hy
      rw [List.getElem?_drop] at hi
      have hl : putAt l k < l.length := by have := (List.getElem?_eq_some_iff.1 hi).1; omega
      have h0 := List.getElem?_eq_getElem hl
      have hk : bl k l[putAt l k] = true := bl_ge (putAt_at h0) (fun e => hne (by rw [h0, e]))
      by_cases hi0 : i = 0
      · subst hi0
        rw [Nat.add_zero, h0] at hi
        cases hi
        exact hk
      · obtain ⟨h1, rfl⟩ := List.getElem?_eq_some_iff.1 hi
        exact bl_trans hk (List.pairwise_iff_getElem.1 h _ _ hl h1 (by omega))
    · obtain ⟨i, hi⟩ := List.getElem?_of_mem ha
      rw [List.getElem?_take] at hi
      split at hi
      · rename_i hlt
        have hak := putAt_lt hlt hi
        rcases List.mem_cons.1 hb with rfl | hb
        · exact hak
        · exact hp.2.2 a ha b hb
      · cases hi

end Go.Proofs.Ytekdcjbjjakhcaa

/- Layer 2: inner keys, read. -/
namespace Go.Proofs.Ytekdcjbjjakhcaa
open Go

/-- the key with which an inner key begins, and what stands behind its end mark -/
def unesc : List UInt8 → Option (List UInt8 × List UInt8)
  | [] => none
  | [_] => none
  | c :: d :: r => if c = 0 then (if d = 1 then some ([], r) else if d = 255 then (unesc r).map fun x => (0 :: x.1, x.2) else none) else (unesc (d :: r)).map fun x => (c :: x.1, x.2)

theorem unesc_step {c : UInt8} {l : List UInt8} (hc : ¬ c = 0) : unesc (c :: l) = (unesc l).map fun x => (c :: x.1, x.2) := by
  cases l with
  | nil => rfl
  | cons d r => rw [unesc, if_neg hc]

theorem unesc_none {l : List UInt8} (h : ∀ k : Nat, l[k]? ≠ some 0) : unesc l = none := by
  induction l with
  | nil => rfl
  | cons c l ih =>
    have hc : ¬ c = 0 := fun e => h 0 (by simp [e])
    rw [unesc_step hc, ih fun k => by simpa using h (k + 1)]
    rfl

theorem unesc_at {l : List UInt8} {o : Nat} (h0 : l[o]? = some 0) (h : ∀ k : Nat, k < o → l[k]? ≠ some 0) :
    unesc l = match l[o + 1]? with
      | none => none
      | some d => if d = 1 then some (l.take o, l.drop (o + 2)) else if d = 255 then (unesc (l.drop (o + 2))).map fun x => (l.take o ++ 0 :: x.1, x.2) else none := by
  induction l generalizing o with
  | nil => simp at h0
  | cons c l ih =>
    cases o with
    | zero =>
      simp at h0
      subst h0
      cases l with
      | nil => rfl
      | cons d r =>
        simp [unesc]
    | succ o =>
      have hc : ¬ c = 0 := fun e => h 0 (by omega) (by simp [e])
      rw [unesc_step hc, ih (o := o) (by simpa using h0) fun k hk => by simpa using h (k + 1) (by omega)]
      simp only [List.getElem?_cons_succ]
      cases l[o + 1]? with
      | none => rfl
      | some d =>
        simp only
        split
        · simp
        · split
          · simp [Option.map_map, Function.comp_def]
          · rfl

theorem unesc_esc (p r : List UInt8) : unesc (esc p ++ ([0, 1] ++ r)) = some (p, r) := by
  induction p with
  | nil => simp [esc, unesc]
  | cons c p ih =>
    by_cases hc : c = 0
    · subst hc
      simp [esc, unesc]
      simpa using ih
    · rw [esc, if_neg hc, List.cons_append, unesc_step hc, ih]
      rfl
end Go.Proofs.Ytekdcjbjjakhcaa

/- Layer 2: inner keys, read whole. -/
namespace Go.Proofs.Ytekdcjbjjakhcaa
open Go

/-- the number that bytes make, the first one first -/
def beVal (l : List UInt8) : Nat := l.foldl (fun a c => a * 256 + c.toNat) 0

theorem beVal_snoc (l : List UInt8) (c : UInt8) : beVal (l ++ [c]) = beVal l * 256 + c.toNat := by
  simp [beVal, List.foldl_append]

theorem beVal_lt (l : List UInt8) : beVal l < 256 ^ l.length := by
  have h : ∀ (l : List UInt8) (a : Nat), l.foldl (fun a c => a * 256 + c.toNat) a < (a + 1) * 256 ^ l.length := by
    intro l
    induction l with
    | nil => intro a; simp
    | cons c l ih =>
      intro a
      have h1 := ih (a * 256 + c.toNat)
      have h2 := c.toNat_lt
      have h3 : (a * 256 + c.toNat + 1) * 256 ^ l.length ≤ ((a + 1) * 256) * 256 ^ l.length := Nat.mul_le_mul_right _ (by omega)
      simp only [List.foldl_cons, List.length_cons]
      rw [Nat.pow_succ, Nat.mul_comm (256 ^ l.length) 256, ← Nat.mul_assoc]
      omega
  simpa [beVal] using h l 0

/-- an entry: key, revision, whether it takes away -/
def outer (l : List UInt8) : Option (List UInt8 × Nat × Bool) :=
  match unesc l with
  | none => none
  | some (k, r) => if r.length = 9 ∧ (r.getD 8 0).toNat ≤ 1 then some (k, 18446744073709551615 - beVal (r.take 8), decide ((r.getD 8 0).toNat = 0)) else none
end Go.Proofs.Ytekdcjbjjakhcaa

namespace Go.Proofs.Ytekdcjbjjakhcaa

theorem beVal_rev (a k : Nat) (hk : k ≤ 8) (ha : a < 18446744073709551616) : beVal (revBytes a k) = top a k := by
  induction k with
  | zero =>
    have h1 : top a 0 = 0 := by unfold top; rw [Nat.div_eq_zero_iff]; right; show _ < 256 ^ 8; omega
    rw [h1]; rfl
  | succ k ih => rw [revBytes, beVal_snoc, ih (by omega), top_succ a k (by omega) ha]

theorem outer_inner (p : List UInt8) (a : Nat) (x : Bool) (ha : a < 18446744073709551616) : outer (inner p a x) = some (p, a, x) := by
  have h : unesc (inner p a x) = some (p, revBytes a 8 ++ [if x then 0 else 1]) := by
    rw [inner, innTo]
    simp only [List.append_assoc]
    exact unesc_esc p _
  have hl : (revBytes a 8).length = 8 := revBytes_length a 8
  have ht : top a 8 = 18446744073709551615 - a := by simp [top]
  unfold outer
  rw [h]
  simp only
  have h8 : (revBytes a 8 ++ [if x then 0 else 1]).getD 8 0 = if x then 0 else 1 := by
    rw [List.getD_eq_getElem?_getD, List.getElem?_append_right (by omega), hl]
    rfl
  rw [h8, if_pos ⟨by simp [hl], by cases x <;> decide⟩, List.take_left' hl, beVal_rev a 8 (by omega) ha, ht]
  cases x <;> simp <;> omega
end Go.Proofs.Ytekdcjbjjakhcaa

/- Which versions are needed. -/
namespace Go.Proofs.Ytekdcjbjjakhcaa
open Go Go.RowKit

abbrev KE := ByteArray × Ent

instance (x : ByteArray) (S : List ByteArray) : Decidable (x ∈ S) := decidable_of_iff ((S.any fun q => decide (q = x)) = true) (by simp)

/-- The entry of an inner key. -/
def dec (k : ByteArray) : Option Ent := (outer k.data.toList).map fun p => ⟨⟨p.1.toArray⟩, p.2.1, p.2.2⟩

def decs : List ByteArray → Option (List Ent)
  | [] => some []
  | k :: r => match dec k with
    | none => none
    | some e => (decs r).map (e :: ·)

theorem decs_cons (k : ByteArray) (r : List ByteArray) : decs (k :: r) = match dec k with
    | none => none
    | some e => (decs r).map (e :: ·) := rfl

theorem decs_some {ks : List ByteArray} {es : List Ent} (h : decs ks = some es) : es.length = ks.length ∧ ∀ (i : Nat) (k : ByteArray), ks[i]? = some k → ∃ e, es[i]? = some e ∧ dec k = some e := by
  induction ks generalizing es with
  | nil =>
    cases h
    exact ⟨rfl, fun i k hk => by simp at hk⟩
  | cons a r ih =>
    rw [decs_cons] at h
    cases hd : dec a with
    | none => rw [hd] at h; cases h
    | some e =>
      rw [hd] at h
      obtain ⟨es', h1, rfl⟩ := Option.map_eq_some_iff.1 h
      obtain ⟨i1, i2⟩ := ih h1
      refine ⟨by simp [i1], fun i k hk => ?_⟩
      cases i with
      | zero =>
        simp at hk
        subst hk
        exact ⟨e, rfl, hd⟩
      | succ i => simpa using i2 i k (by simpa using hk)

theorem decs_of {ks : List ByteArray} {es : List Ent} (hl : es.length = ks.length) (h : ∀ (i : Nat) (k : ByteArray), ks[i]? = some k → ∃ e, es[i]? = some e ∧ dec k = some e) : decs ks = some es := by
  induction ks generalizing es with
  | nil => rw [List.eq_nil_of_length_eq_zero hl]; rfl
  | cons a r ih =>
    obtain ⟨e, h1, h2⟩ := h 0 a rfl
    cases es with
    | nil => simp at hl
    | cons e' es =>
      simp at h1
      subst h1
      rw [decs_cons, h2, ih (by simpa using hl) (fun i k hk => by simpa using h (i + 1) k (by simpa using hk))]
      rfl

theorem decs_none {ks : List ByteArray} {i : Nat} {k : ByteArray} (hk : ks[i]? = some k) (h : dec k = none) : decs ks = none := by
  cases hd : decs ks with
  | none => rfl
  | some es =>
    obtain ⟨e, _, he⟩ := (decs_some hd).2 i k hk
    rw [h] at he
    cases he

theorem decs_snoc {ks : List ByteArray} {es : List Ent} {k : ByteArray} {e : Ent} (h : decs ks = some es) (hk : dec k = some e) : decs (ks ++ [k]) = some (es ++ [e]) := by
  induction ks generalizing es with
  | nil =>
    cases h
    rw [List.nil_append, decs_cons, hk]
    rfl
  | cons a r ih =>
    rw [decs_cons] at h
    rw [List.cons_append, decs_cons]
    cases hd : dec a with
    | none => rw [hd] at h; cases h
    | some x =>
      rw [hd] at h
      obtain ⟨es', h1, rfl⟩ := Option.map_eq_some_iff.1 h
      rw [ih h1]
      rfl

/-- What is answered, as an error. -/
def errOf (ks : List ByteArray) : Nat := match decs ks with
  | none => 9
  | some _ => if rises ks then 0 else 11

theorem errOf_none {ks : List ByteArray} (h : decs ks = none) : errOf ks = 9 := by unfold errOf; rw [h]
theorem errOf_some {ks : List ByteArray} {es : List Ent} (h : decs ks = some es) : errOf ks = if rises ks then 0 else 11 := by unfold errOf; rw [h]

/-- What is kept, by the Keys that were seen at such revisions: 'ab': newer ones are told; 'b': what takes away isn't. -/
def gS (ab b : Bool) (r : Nat) : List ByteArray → List KE → List KE
  | _, [] => []
  | S, x :: t => if r < x.2.rev then (if ab then x :: gS ab b r S t else gS ab b r S t) else if x.2.key ∈ S then gS ab b r S t else if x.2.del && b then gS ab b r (x.2.key :: S) t else x :: gS ab b r (x.2.key :: S) t

theorem gS_cons (ab b : Bool) (r : Nat) (S : List ByteArray) (x : KE) (t : List KE) : gS ab b r S (x :: t) =
    if r < x.2.rev then (if ab then x :: gS ab b r S t else gS ab b r S t) else if x.2.key ∈ S then gS ab b r S t else if x.2.del && b then gS ab b r (x.2.key :: S) t else x :: gS ab b r (x.2.key :: S) t := rfl

theorem gS_sub (ab b : Bool) (r : Nat) (S : List ByteArray) (xs : List KE) : (gS ab b r S xs).Sublist xs := by
  induction xs generalizing S with
  | nil => exact List.Sublist.refl _
  | cons x t ih =>
    rw [gS_cons]
    split
    · split
      · exact (ih S).cons_cons x
      · exact (ih S).cons x
    · split
      · exact (ih S).cons x
      · split
        · exact (ih _).cons x
        · exact (ih _).cons_cons x

/-- The same, told one by one, by the last Key alone. -/
def gStep (ab b : Bool) (r : Nat) (s : List KE × Option ByteArray) (x : KE) : List KE × Option ByteArray :=
  if r < x.2.rev then (if ab then s.1 ++ [x] else s.1, s.2) else if s.2 = some x.2.key then s else (if x.2.del && b then s.1 else s.1 ++ [x], some x.2.key)

def gF (ab b : Bool) (r : Nat) (xs : List KE) : List KE × Option ByteArray := xs.foldl (gStep ab b r) ([], none)

theorem gF_snoc (ab b : Bool) (r : Nat) (xs : List KE) (x : KE) : gF ab b r (xs ++ [x]) = gStep ab b r (gF ab b r xs) x := by simp [gF]

/-- Keys rise, and of each Key revisions fall. -/
def mono (xs : List KE) : Prop := xs.Pairwise fun x y => bl y.2.key x.2.key = false ∧ (x.2.key = y.2.key → y.2.rev ≤ x.2.rev)

def LastOk (last : Option ByteArray) (S : List ByteArray) (xs : List KE) : Prop :=
  match last with
  | none => S = []
  | some p => p ∈ S ∧ (∀ x ∈ xs, bl x.2.key p = false) ∧ ∀ q ∈ S, q = p ∨ ∀ x ∈ xs, x.2.key ≠ q

theorem LastOk.mem {last : Option ByteArray} {S : List ByteArray} {x : KE} {t : List KE} (h : LastOk last S (x :: t)) : x.2.key ∈ S ↔ last = some x.2.key := by
  cases last with
  | none =>
    have h : S = [] := h
    subst h
    simp
  | some p =>
    obtain ⟨h1, _, h2⟩ := h
    constructor
    · intro hm
      rcases h2 _ hm with rfl | h
      · rfl
      · exact absurd rfl (h x (by simp))
    · intro he
      cases he
      exact h1

theorem LastOk.tail {last : Option ByteArray} {S : List ByteArray} {x : KE} {t : List KE} (h : LastOk last S (x :: t)) : LastOk last S t := by
  cases last with
  | none => exact h
  | some p => exact ⟨h.1, fun y hy => h.2.1 y (by simp [hy]), fun q hq => (h.2.2 q hq).imp id fun k y hy => k y (by simp [hy])⟩

theorem LastOk.push {last : Option ByteArray} {S : List ByteArray} {x : KE} {t : List KE} (h : LastOk last S (x :: t)) (hm : mono (x :: t)) (hx : x.2.key ∉ S) : LastOk (some x.2.key) (x.2.key :: S) t := by
  have hr : ∀ y ∈ t, bl y.2.key x.2.key = false := fun y hy => (List.rel_of_pairwise_cons hm hy).1
  refine ⟨by simp, hr, fun q hq => ?_⟩
  rcases List.mem_cons.1 hq with rfl | hq
  · exact .inl rfl
  · right
    cases last with
    | none =>
      have h : S = [] := h
      subst h
      cases hq
    | some p =>
      obtain ⟨h1, h2, h3⟩ := h
      have hpx : p ≠ x.2.key := fun e => hx (e ▸ h1)
      have hlt : bl p x.2.key = true := bl_ge (h2 x (by simp)) (Ne.symm hpx)
      rcases h3 q hq with rfl | h
      · intro y hy e
        have := hr y hy
        rw [e, hlt] at this
        cases this
      · exact fun y hy => h y (by simp [hy])

theorem gF_go (ab b : Bool) (r : Nat) (xs : List KE) : ∀ (out : List KE) (last : Option ByteArray) (S : List ByteArray), mono xs → LastOk last S xs → (xs.foldl (gStep ab b r) (out, last)).1 = out ++ gS ab b r S xs := by
  induction xs with
  | nil => intro out last S _ _; simp [gS]
  | cons x t ih =>
    intro out last S hm hl
    have hm' : mono t := (List.pairwise_cons.1 hm).2
    rw [List.foldl_cons, gS_cons]
    by_cases h1 : r < x.2.rev
    · rw [if_pos h1]
      have e : gStep ab b r (out, last) x = (if ab then out ++ [x] else out, last) := by unfold gStep; rw [if_pos h1]
      rw [e, ih _ _ _ hm' hl.tail]
      cases ab <;> simp
    · rw [if_neg h1]
      by_cases h2 : x.2.key ∈ S
      · rw [if_pos h2]
        have e : gStep ab b r (out, last) x = (out, last) := by unfold gStep; rw [if_neg h1, if_pos (hl.mem.1 h2)]
        rw [e, ih _ _ _ hm' hl.tail]
      · rw [if_neg h2]
        have e : gStep ab b r (out, last) x = (if x.2.del && b then out else out ++ [x], some x.2.key) := by unfold gStep; rw [if_neg h1, if_neg (fun h => h2 (hl.mem.2 h))]
        rw [e, ih _ _ _ hm' (hl.push hm h2)]
        cases x.2.del && b <;> simp

theorem gF_eq (ab b : Bool) (r : Nat) (xs : List KE) (h : mono xs) : (gF ab b r xs).1 = gS ab b r [] xs := by
  have := gF_go ab b r xs [] none [] h rfl
  rw [List.nil_append] at this
  exact this

/-- The document's: by all that stands ahead. -/
def firstB (pre : List KE) (x : KE) (r : Nat) : Bool := decide (x.2.rev ≤ r) && pre.all fun y => !(decide (y.2.key = x.2.key) && decide (y.2.rev ≤ r))
def gCond (ab b : Bool) (r : Nat) (pre : List KE) (x : KE) : Bool := (ab && decide (r < x.2.rev)) || (firstB pre x r && !(x.2.del && b))
def gRef (ab b : Bool) (r : Nat) : List KE → List KE → List KE
  | _, [] => []
  | pre, x :: t => (if gCond ab b r pre x then [x] else []) ++ gRef ab b r (pre ++ [x]) t

theorem gRef_snoc (ab b : Bool) (r : Nat) (xs : List KE) : ∀ (pre : List KE) (x : KE), gRef ab b r pre (xs ++ [x]) = gRef ab b r pre xs ++ if gCond ab b r (pre ++ xs) x then [x] else [] := by
  induction xs with
  | nil => intro pre x; simp [gRef]
  | cons y t ih =>
    intro pre x
    rw [List.cons_append, gRef, gRef, ih]
    simp [List.append_assoc]

theorem gRef_go (ab b : Bool) (r : Nat) (xs : List KE) : ∀ (pre : List KE) (S : List ByteArray), (∀ q, q ∈ S ↔ ∃ y ∈ pre, y.2.key = q ∧ y.2.rev ≤ r) → gRef ab b r pre xs = gS ab b r S xs := by
  induction xs with
  | nil => intro pre S _; rfl
  | cons x t ih =>
    intro pre S hS
    rw [gRef, gS_cons]
    by_cases h1 : r < x.2.rev
    · have hS' : ∀ q, q ∈ S ↔ ∃ y ∈ pre ++ [x], y.2.key = q ∧ y.2.rev ≤ r := fun q => by
        rw [hS q]
        constructor
        · rintro ⟨y, hy, h⟩
          exact ⟨y, by simp [hy], h⟩
        · rintro ⟨y, hy, h⟩
          rcases List.mem_append.1 hy with hy | hy
          · exact ⟨y, hy, h⟩
          · simp at hy
            subst hy
            omega
      have e : gCond ab b r pre x = ab := by
        unfold gCond firstB
        simp [h1]
        omega
      rw [if_pos h1, e, ih _ _ hS']
      cases ab <;> simp
    · have hf : firstB pre x r = !decide (x.2.key ∈ S) := by
        unfold firstB
        have h2 : x.2.rev ≤ r := by omega
        by_cases hm : x.2.key ∈ S
        · obtain ⟨y, hy, h3, h4⟩ := (hS _).1 hm
          have : (pre.all fun y => !(decide (y.2.key = x.2.key) && decide (y.2.rev ≤ r))) = false := by
            rw [List.all_eq_false]
            exact ⟨y, hy, by simp [h3, h4]⟩
          rw [this, decide_eq_true h2, decide_eq_true hm]
          rfl
        · have : (pre.all fun y => !(decide (y.2.key = x.2.key) && decide (y.2.rev ≤ r))) = true := by
            rw [List.all_eq_true]
            intro y hy
            cases hd : decide (y.2.key = x.2.key) && decide (y.2.rev ≤ r) with
            | false => rfl
            | true =>
              simp at hd
              exact absurd ((hS _).2 ⟨y, hy, hd.1, hd.2⟩) hm
          rw [this, decide_eq_true h2, decide_eq_false hm]
          rfl
      have e : gCond ab b r pre x = (!decide (x.2.key ∈ S) && !(x.2.del && b)) := by
        unfold gCond
        rw [hf]
        simp [h1]
      rw [if_neg h1, e]
      have hSx : ∀ q, q ∈ x.2.key :: S ↔ ∃ y ∈ pre ++ [x], y.2.key = q ∧ y.2.rev ≤ r := fun q => by
        rw [List.mem_cons, hS q]
        constructor
        · rintro (rfl | ⟨y, hy, h⟩)
          · exact ⟨x, by simp, rfl, by omega⟩
          · exact ⟨y, by simp [hy], h⟩
        · rintro ⟨y, hy, h⟩
          rcases List.mem_append.1 hy with hy | hy
          · exact .inr ⟨y, hy, h⟩
          · simp at hy
            subst hy
            exact .inl h.1.symm
      by_cases hm : x.2.key ∈ S
      · rw [if_pos hm]
        have hS' : ∀ q, q ∈ S ↔ ∃ y ∈ pre ++ [x], y.2.key = q ∧ y.2.rev ≤ r := fun q => by
          rw [← hSx q, List.mem_cons]
          constructor
          · exact .inr
          · rintro (rfl | h)
            · exact hm
            · exact h
        rw [ih _ _ hS']
        simp [hm]
      · rw [if_neg hm, ih _ _ hSx]
        cases x.2.del && b <;> simp [hm]

theorem gRef_eq (ab b : Bool) (r : Nat) (xs : List KE) : gRef ab b r [] xs = gS ab b r [] xs := gRef_go ab b r xs [] [] (fun q => by simp)

/-- What is dropped is never told. -/
theorem g_keep (ab b b' : Bool) (f r : Nat) (hfr : f ≤ r) (hb : b = true → b' = true) (xs : List KE) : ∀ (S T T' : List ByteArray), mono xs → (∀ p ∈ T, p ∈ T') → (∀ p ∈ S, p ∈ T') → (∀ p ∈ T', p ∉ T → p ∈ S ∧ ∀ x ∈ xs, x.2.key = p → x.2.rev ≤ f) →
    gS ab b' r T (gS true b f S xs) = gS ab b' r T' xs := by
  induction xs with
  | nil => intro S T T' _ _ _ _; rfl
  | cons x t ih =>
    intro S T T' hm h1 h2 h3
    have hm' : mono t := (List.pairwise_cons.1 hm).2
    have h3t : ∀ p ∈ T', p ∉ T → p ∈ S ∧ ∀ y ∈ t, y.2.key = p → y.2.rev ≤ f := fun p hp hn => ⟨(h3 p hp hn).1, fun y hy => (h3 p hp hn).2 y (by simp [hy])⟩
    have hex : ∀ p, p ∈ x.2.key :: T → p ∈ x.2.key :: T' := fun p hp => by
      rcases List.mem_cons.1 hp with rfl | hp
      · simp
      · simp [h1 p hp]
    have h3x : ∀ p ∈ x.2.key :: T', p ∉ x.2.key :: T → p ∈ T' ∧ p ∉ T := fun p hp hn => by
      simp at hp hn
      rcases hp with rfl | hp
      · exact absurd rfl hn.1
      · exact ⟨hp, hn.2⟩
    by_cases hf : f < x.2.rev
    · rw [gS_cons true b f, if_pos hf, if_pos rfl, gS_cons ab b' r T, gS_cons ab b' r T']
      by_cases hr : r < x.2.rev
      · rw [if_pos hr, if_pos hr, ih S T T' hm' h1 h2 h3t]
      · rw [if_neg hr, if_neg hr]
        have hTT : x.2.key ∈ T ↔ x.2.key ∈ T' := ⟨h1 _, fun h => by
          by_cases hn : x.2.key ∈ T
          · exact hn
          · have := (h3 _ h hn).2 x (by simp) rfl
            omega⟩
        by_cases hT : x.2.key ∈ T
        · rw [if_pos hT, if_pos (hTT.1 hT), ih S T T' hm' h1 h2 h3t]
        · have hT' : x.2.key ∉ T' := fun h => hT (hTT.2 h)
          have := ih S (x.2.key :: T) (x.2.key :: T') hm' hex (fun p hp => by simp [h2 p hp]) (fun p hp hn => h3t p (h3x p hp hn).1 (h3x p hp hn).2)
          rw [if_neg hT, if_neg hT', this]
    · have hr : ¬ r < x.2.rev := by omega
      rw [gS_cons true b f, if_neg hf, gS_cons ab b' r T', if_neg hr]
      by_cases hS : x.2.key ∈ S
      · rw [if_pos hS, if_pos (h2 _ hS), ih S T T' hm' h1 h2 h3t]
      · rw [if_neg hS]
        by_cases hd : (x.2.del && b) = true
        · rw [if_pos hd]
          simp at hd
          by_cases hT' : x.2.key ∈ T'
          · rw [if_pos hT']
            exact ih (x.2.key :: S) T T' hm' h1 (fun p hp => by
              rcases List.mem_cons.1 hp with rfl | hp
              · exact hT'
              · exact h2 p hp) (fun p hp hn => ⟨by simp [(h3t p hp hn).1], (h3t p hp hn).2⟩)
          · rw [if_neg hT', if_pos (by simp [hd.1, hb hd.2])]
            refine ih (x.2.key :: S) T (x.2.key :: T') hm' (fun p hp => by simp [h1 p hp]) (fun p hp => ?_) (fun p hp hn => ?_)
            · rcases List.mem_cons.1 hp with rfl | hp
              · simp
              · simp [h2 p hp]
            · rcases List.mem_cons.1 hp with rfl | hp
              · exact ⟨by simp, fun y hy he => by
                  have := (List.rel_of_pairwise_cons hm hy).2 he.symm
                  omega⟩
              · exact ⟨by simp [(h3t p hp hn).1], (h3t p hp hn).2⟩
        · rw [if_neg hd, gS_cons ab b' r T, if_neg hr]
          have hTT : x.2.key ∈ T ↔ x.2.key ∈ T' := ⟨h1 _, fun h => by
            by_cases hn : x.2.key ∈ T
            · exact hn
            · exact absurd (h3 _ h hn).1 hS⟩
          have hS2 : ∀ {U : List ByteArray}, (∀ p ∈ T', p ∈ U) → x.2.key ∈ U → ∀ p ∈ x.2.key :: S, p ∈ U := fun hU hx p hp => by
            rcases List.mem_cons.1 hp with rfl | hp
            · exact hx
            · exact hU _ (h2 p hp)
          by_cases hT : x.2.key ∈ T
          · rw [if_pos hT, if_pos (hTT.1 hT)]
            exact ih (x.2.key :: S) T T' hm' h1 (hS2 (fun _ h => h) (hTT.1 hT)) (fun p hp hn => ⟨by simp [(h3t p hp hn).1], (h3t p hp hn).2⟩)
          · have hT' : x.2.key ∉ T' := fun h => hT (hTT.2 h)
            have := ih (x.2.key :: S) (x.2.key :: T) (x.2.key :: T') hm' hex (hS2 (fun _ h => by simp [h]) (by simp)) (fun p hp hn => ⟨by simp [(h3t p (h3x p hp hn).1 (h3x p hp hn).2).1], (h3t p (h3x p hp hn).1 (h3x p hp hn).2).2⟩)
            rw [if_neg hT, if_neg hT', this]

/-- Inner keys of entries. -/
def innB (x : Ent) : ByteArray := ⟨(inner x.key.data.toList x.rev x.del).toArray⟩

theorem dec_inn {x : Ent} (h : x.rev < 18446744073709551616) : dec (innB x) = some x := by
  unfold dec innB
  rw [show (ByteArray.mk (inner x.key.data.toList x.rev x.del).toArray).data.toList = inner x.key.data.toList x.rev x.del by simp, outer_inner _ _ _ h]
  rfl

/-- Entries' inner keys, in order, each once. -/
def rowsL (es : List Ent) : List ByteArray := es.foldl (fun out x => putK out (innB x)) []

theorem rowsL_snoc (es : List Ent) (x : Ent) : rowsL (es ++ [x]) = putK (rowsL es) (innB x) := by simp [rowsL]

theorem rows_go (es : List Ent) : ∀ (A : List Ent) (out : List ByteArray), (rises out ∧ out.length ≤ A.length ∧ ∀ k ∈ out, ∃ x ∈ A, k = innB x) →
    rises (es.foldl (fun out x => putK out (innB x)) out) ∧ (es.foldl (fun out x => putK out (innB x)) out).length ≤ (A ++ es).length ∧ ∀ k ∈ es.foldl (fun out x => putK out (innB x)) out, ∃ x ∈ A ++ es, k = innB x := by
  induction es with
  | nil => intro A out h; simpa using h
  | cons x es ih =>
    intro A out ⟨h1, h2, h3⟩
    have := ih (A ++ [x]) (putK out (innB x)) ⟨putK_rises h1, by
      have := putK_length out (innB x)
      simp
      omega, fun k hk => by
        rcases putK_mem hk with rfl | hk
        · exact ⟨x, by simp, rfl⟩
        · obtain ⟨y, hy, rfl⟩ := h3 k hk
          exact ⟨y, by simp [hy], rfl⟩⟩
    rw [List.append_assoc, List.singleton_append] at this
    exact this

theorem rowsL_all (es : List Ent) : rises (rowsL es) ∧ (rowsL es).length ≤ es.length ∧ ∀ k ∈ rowsL es, ∃ x ∈ es, k = innB x := by
  have := rows_go es [] [] ⟨rises_nil, Nat.le_refl _, fun k hk => by cases hk⟩
  rw [List.nil_append] at this
  exact this

/-- Rising inner keys are told, and their entries stand in order. -/
theorem inn_mono {es : List Ent} (hr : rises (es.map innB)) (hv : ∀ x ∈ es, x.rev < 18446744073709551616) : decs (es.map innB) = some es ∧ mono ((es.map innB).zip es) := by
  constructor
  · refine decs_of (by simp) (fun i k hk => ?_)
    rw [List.getElem?_map] at hk
    obtain ⟨x, hx, rfl⟩ := Option.map_eq_some_iff.1 hk
    exact ⟨x, hx, dec_inn (hv x (List.mem_of_getElem? hx))⟩
  · induction es with
    | nil => exact List.Pairwise.nil
    | cons x t ih =>
      rw [List.map_cons] at hr
      have hp := List.pairwise_cons.1 hr
      rw [List.map_cons, List.zip_cons_cons]
      refine List.Pairwise.cons (fun y hy => ?_) (ih hp.2 (fun z hz => hv z (by simp [hz])))
      have hyt : y.2 ∈ t := (List.of_mem_zip hy).2
      have hlt := hp.1 (innB y.2) (List.mem_map.2 ⟨y.2, hyt, rfl⟩)
      unfold bl innB at hlt
      simp only at hlt
      rw [less_inner _ _ _ _ _ _ (hv x (by simp)) (hv y.2 (by simp [hyt])), lessE] at hlt
      show bl y.2.key x.key = false ∧ (x.key = y.2.key → y.2.rev ≤ x.rev)
      by_cases he : x.key = y.2.key
      · rw [he] at hlt ⊢
        simp at hlt
        refine ⟨bl_irrefl _, fun _ => ?_⟩
        split at hlt <;> omega
      · have hne : (x.key.data.toList == y.2.key.data.toList) = false := by
          rw [beq_eq_false_iff_ne]
          exact fun e => he (Go.WideShapes.bytes_inj e)
        rw [hne] at hlt
        exact ⟨bl_asymm hlt, fun e => absurd e he⟩
end Go.Proofs.Ytekdcjbjjakhcaa

/- What is there, out of many rows. -/
namespace Go.Proofs.Ytekdcjbjjakhcaa
open Go Go.RowKit

theorem less_past (p q r : List UInt8) : Op.bytesLess (esc p ++ ([0, 1] ++ r)) (esc q ++ [0, 2]) = (Op.bytesLess p q || (p == q)) := by
  induction p generalizing q with
  | nil =>
    cases q with
    | nil => simp [esc, Op.bytesLess]
    | cons d q =>
      by_cases hd : d = 0
      · subst hd
        simp [esc, Op.bytesLess]
      · have h0 : (0 : UInt8) < d := by
          rw [UInt8.lt_iff_toNat_lt]
          have : d.toNat ≠ 0 := fun e => hd (UInt8.toNat_inj.1 (by simpa using e))
          simp; omega
        simp [esc, hd, Op.bytesLess, h0]
  | cons c p ih =>
    cases q with
    | nil =>
      by_cases hc : c = 0
      · subst hc
        simp [esc, Op.bytesLess]
      · have h0 : ¬ c < 0 := by
          rw [UInt8.lt_iff_toNat_lt]; simp
        simp [esc, hc, Op.bytesLess]
    | cons d q =>
      by_cases hcd : c = d
      · subst hcd
        have hlt : ¬ c < c := fun h => Nat.lt_irrefl _ (UInt8.lt_iff_toNat_lt.1 h)
        have ih' : Op.bytesLess (esc p ++ 0 :: 1 :: r) (esc q ++ [0, 2]) = (Op.bytesLess p q || (p == q)) := by simpa using ih q
        by_cases hc : c = 0
        · subst hc
          simp [esc, Op.bytesLess, ih']
        · simp [esc, hc, Op.bytesLess, ih', hlt]
      · have hne : (c == d) = false := by simpa using hcd
        by_cases hc : c = 0
        · subst hc
          have hd : ¬ d = 0 := fun e => hcd e.symm
          have h0 : (0 : UInt8) < d := by
            rw [UInt8.lt_iff_toNat_lt]
            have : d.toNat ≠ 0 := fun e => hd (UInt8.toNat_inj.1 (by simpa using e))
            simp; omega
          simp [esc, hd, Op.bytesLess, h0]
        · by_cases hd : d = 0
          · subst hd
            simp [esc, hc, Op.bytesLess, hne]
          · simp [esc, hc, hd, Op.bytesLess, hne]

/-- Just behind a Key's inner keys. -/
def pastB (key : ByteArray) : ByteArray := ⟨(esc key.data.toList ++ [0, 2]).toArray⟩

theorem bl_past (x : Ent) (key : ByteArray) : bl (innB x) (pastB key) = (bl x.key key || decide (x.key = key)) := by
  unfold bl innB pastB
  have h := less_past x.key.data.toList key.data.toList (revBytes x.rev 8 ++ [if x.del then 0 else 1])
  have e : inner x.key.data.toList x.rev x.del = esc x.key.data.toList ++ ([0, 1] ++ (revBytes x.rev 8 ++ [if x.del then 0 else 1])) := by
    simp [inner, innTo]
  show Op.bytesLess (inner x.key.data.toList x.rev x.del).toArray.toList (esc key.data.toList ++ [0, 2]).toArray.toList = _
  rw [List.toList_toArray, List.toList_toArray, e, h]
  congr 1
  by_cases hk : x.key = key
  · subst hk; simp
  · rw [decide_eq_false hk, beq_eq_false_iff_ne]
    exact fun e => hk (Go.WideShapes.bytes_inj e)

/-- Ahead of all versions of a Key whose revision isn't greater. -/
def newestB (key : ByteArray) (r : Nat) : ByteArray := innB ⟨key, r, true⟩

theorem bl_newest (x : Ent) (key : ByteArray) (r : Nat) (hx : x.rev < 18446744073709551616) (hr : r < 18446744073709551616) :
    bl (innB x) (newestB key r) = (bl x.key key || (decide (x.key = key) && decide (r < x.rev))) := by
  unfold bl newestB innB
  show Op.bytesLess (inner x.key.data.toList x.rev x.del).toArray.toList (inner key.data.toList r true).toArray.toList = _
  rw [List.toList_toArray, List.toList_toArray, less_inner _ _ _ _ _ _ hx hr, lessE]
  by_cases hk : x.key = key
  · subst hk
    rw [less_irrefl]
    simp
    omega
  · have hne : (x.key.data.toList == key.data.toList) = false := by
      rw [beq_eq_false_iff_ne]
      exact fun e => hk (Go.WideShapes.bytes_inj e)
    rw [hne, decide_eq_false hk]
    simp

/-- The first key of a row that isn't less. -/
def sk (l : List ByteArray) (key : ByteArray) : Option ByteArray := l.find? fun x => !bl x key

def IsLeast (S : ByteArray → Prop) (key : ByteArray) : Option ByteArray → Prop
  | some x => S x ∧ bl x key = false ∧ ∀ y, S y → bl y key = false → bl y x = false
  | none => ∀ y, S y → bl y key = true

theorem least_unique {S : ByteArray → Prop} {key : ByteArray} {a b : Option ByteArray} (h : IsLeast S key a) (k : IsLeast S key b) : a = b := by
  cases a with
  | none =>
    cases b with
    | none => rfl
    | some y =>
      have := h y k.1
      rw [k.2.1] at this
      cases this
  | some x =>
    cases b with
    | none =>
      have := k x h.1
      rw [h.2.1] at this
      cases this
    | some y =>
      rw [bl_total (k.2.2 x h.1 h.2.1) (h.2.2 y k.1 k.2.1)]

theorem sk_least {l : List ByteArray} (h : rises l) (key : ByteArray) : IsLeast (· ∈ l) key (sk l key) := by
  induction l with
  | nil => exact fun y hy => by cases hy
  | cons a r ih =>
    have hp := List.pairwise_cons.1 h
    unfold sk
    rw [List.find?_cons]
    cases ha : bl a key with
    | false =>
      refine ⟨by simp, ha, fun y hy hk => ?_⟩
      rcases List.mem_cons.1 hy with rfl | hy
      · exact bl_irrefl _
      · exact bl_asymm (hp.1 y hy)
    | true =>
      have := ih hp.2
      unfold sk at this
      show IsLeast _ _ (r.find? fun x => !bl x key)
      cases hf : r.find? (fun x => !bl x key) with
      | none =>
        rw [hf] at this
        intro y hy
        rcases List.mem_cons.1 hy with rfl | hy
        · exact ha
        · exact this y hy
      | some x =>
        rw [hf] at this
        obtain ⟨t1, t2, t3⟩ := this
        refine ⟨List.mem_cons_of_mem _ t1, t2, fun y hy hk => ?_⟩
        rcases List.mem_cons.1 hy with rfl | hy
        · rw [ha] at hk; cases hk
        · exact t3 y hy hk

/-- All rows as one. -/
def allK (rows : List (List ByteArray)) : List ByteArray := rows.foldl (fun out l => l.foldl putK out) []

theorem putAll_ok (l : List ByteArray) : ∀ out, rises out → rises (l.foldl putK out) ∧ (∀ x, x ∈ l.foldl putK out ↔ x ∈ out ∨ x ∈ l) ∧ (l.foldl putK out).length ≤ out.length + l.length := by
  induction l with
  | nil => intro out h; simpa using h
  | cons k t ih =>
    intro out h
    obtain ⟨h1, h2, h3⟩ := ih (putK out k) (putK_rises h)
    refine ⟨h1, fun x => ?_, ?_⟩
    · rw [List.foldl_cons, h2, List.mem_cons]
      constructor
      · rintro (h | h)
        · rcases putK_mem h with h | h
          · exact .inr (.inl h)
          · exact .inl h
        · exact .inr (.inr h)
      · rintro (h | h | h)
        · exact .inl (mem_putK (.inr h))
        · exact .inl (mem_putK (.inl h))
        · exact .inr h
    · have := putK_length out k
      rw [List.foldl_cons, List.length_cons]
      omega

def total (rows : List (List ByteArray)) : Nat := (rows.map List.length).sum

theorem allK_go (rows : List (List ByteArray)) : ∀ out, rises out → rises (rows.foldl (fun out l => l.foldl putK out) out) ∧ (∀ x, x ∈ rows.foldl (fun out l => l.foldl putK out) out ↔ x ∈ out ∨ ∃ l ∈ rows, x ∈ l) ∧ (rows.foldl (fun out l => l.foldl putK out) out).length ≤ out.length + total rows := by
  induction rows with
  | nil => intro out h; simpa [total] using h
  | cons l t ih =>
    intro out h
    obtain ⟨p1, p2, p3⟩ := putAll_ok l out h
    obtain ⟨h1, h2, h3⟩ := ih (l.foldl putK out) p1
    refine ⟨h1, fun x => ?_, ?_⟩
    · rw [List.foldl_cons, h2, p2]
      simp only [List.mem_cons]
      constructor
      · rintro ((h | h) | ⟨m, hm, hx⟩)
        · exact .inl h
        · exact .inr ⟨l, .inl rfl, h⟩
        · exact .inr ⟨m, .inr hm, hx⟩
      · rintro (h | ⟨m, rfl | hm, hx⟩)
        · exact .inl (.inl h)
        · exact .inl (.inr hx)
        · exact .inr ⟨m, hm, hx⟩
    · have e : total (l :: t) = l.length + total t := by simp [total]
      rw [List.foldl_cons, e]
      omega

theorem allK_ok (rows : List (List ByteArray)) : rises (allK rows) ∧ (∀ x, x ∈ allK rows ↔ ∃ l ∈ rows, x ∈ l) ∧ (allK rows).length ≤ total rows := by
  obtain ⟨h1, h2, h3⟩ := allK_go rows [] rises_nil
  exact ⟨h1, fun x => by rw [show (x ∈ allK rows) = (x ∈ rows.foldl (fun out l => l.foldl putK out) []) from rfl, h2]; simp, by simp only [List.length_nil, Nat.zero_add] at h3; exact h3⟩

/-- The least of what the rows tell. -/
def fstStep (key : ByteArray) (o : Option ByteArray) (l : List ByteArray) : Option ByteArray := match sk l key with
  | none => o
  | some k => match o with
    | none => some k
    | some m => if bl k m then some k else some m
def firstL (rows : List (List ByteArray)) (key : ByteArray) : Option ByteArray := rows.foldl (fstStep key) none

theorem firstL_snoc (rows : List (List ByteArray)) (l : List ByteArray) (key : ByteArray) : firstL (rows ++ [l]) key = fstStep key (firstL rows key) l := by simp [firstL]

theorem fst_go (key : ByteArray) (rows : List (List ByteArray)) : ∀ (o : Option ByteArray) (S : ByteArray → Prop), (∀ l ∈ rows, rises l) → IsLeast S key o → IsLeast (fun x => S x ∨ ∃ l ∈ rows, x ∈ l) key (rows.foldl (fstStep key) o) := by
  induction rows with
  | nil =>
    intro o S _ h
    cases o with
    | none => exact fun y hy => h y (by simpa using hy)
    | some x => exact ⟨.inl h.1, h.2.1, fun y hy => h.2.2 y (by simpa using hy)⟩
  | cons l t ih =>
    intro o S hr h
    have hl := sk_least (hr l (by simp)) key
    have hstep : IsLeast (fun x => S x ∨ x ∈ l) key (fstStep key o l) := by
      unfold fstStep
      cases hs : sk l key with
      | none =>
        rw [hs] at hl
        cases o with
        | none => exact fun y hy => hy.elim (h y) (hl y)
        | some x => exact ⟨.inl h.1, h.2.1, fun y hy hk => hy.elim (fun hy => h.2.2 y hy hk) (fun hy => by rw [hl y hy] at hk; cases hk)⟩
      | some k =>
        rw [hs] at hl
        cases o with
        | none => exact ⟨.inr hl.1, hl.2.1, fun y hy hk => hy.elim (fun hy => by rw [h y hy] at hk; cases hk) (fun hy => hl.2.2 y hy hk)⟩
        | some m =>
          show IsLeast _ _ (if bl k m then some k else some m)
          cases hb : bl k m with
          | true =>
            rw [if_pos rfl]
            refine ⟨.inr hl.1, hl.2.1, fun y hy hk => hy.elim (fun hy => ?_) (fun hy => hl.2.2 y hy hk)⟩
            cases hyk : bl y k with
            | false => rfl
            | true =>
              have := h.2.2 y hy hk
              rw [bl_trans hyk hb] at this
              cases this
          | false =>
            rw [if_neg (by decide)]
            refine ⟨.inl h.1, h.2.1, fun y hy hk => hy.elim (fun hy => h.2.2 y hy hk) (fun hy => ?_)⟩
            cases hym : bl y m with
            | false => rfl
            | true =>
              have h1 := hl.2.2 y hy hk
              by_cases he : k = m
              · subst he
                rw [h1] at hym
                cases hym
              · have h2 := bl_trans hym (bl_ge hb he)
                rw [h1] at h2
                cases h2
    have := ih (fstStep key o l) _ (fun m hm => hr m (by simp [hm])) hstep
    rw [List.foldl_cons]
    have e : (fun x => (S x ∨ x ∈ l) ∨ ∃ m ∈ t, x ∈ m) = fun x => S x ∨ ∃ m ∈ l :: t, x ∈ m := by
      funext x
      simp only [List.mem_cons, eq_iff_iff]
      constructor
      · rintro ((h | h) | ⟨m, hm, hx⟩)
        · exact .inl h
        · exact .inr ⟨l, .inl rfl, h⟩
        · exact .inr ⟨m, .inr hm, hx⟩
      · rintro (h | ⟨m, rfl | hm, hx⟩)
        · exact .inl (.inl h)
        · exact .inl (.inr hx)
        · exact .inr ⟨m, hm, hx⟩
    rw [← e]
    exact this

theorem firstL_eq {rows : List (List ByteArray)} (hr : ∀ l ∈ rows, rises l) (key : ByteArray) : firstL rows key = sk (allK rows) key := by
  obtain ⟨h1, h2, _⟩ := allK_ok rows
  have ha := fst_go key rows none (fun _ => False) hr (fun y hy => hy.elim)
  have hb := sk_least h1 key
  have e : (fun x => x ∈ allK rows) = fun x => False ∨ ∃ l ∈ rows, x ∈ l := by
    funext x
    rw [eq_iff_iff, h2]
    simp
  rw [e] at hb
  exact least_unique ha hb
end Go.Proofs.Ytekdcjbjjakhcaa

/- Slices of strings, cut. -/
namespace Go.Proofs.Ytekdcjbjjakhcaa
open Go Go.RowKit

theorem scells_length (l : List ByteArray) : (scells l).length = l.length := List.length_map ..
theorem scells_append (a b : List ByteArray) : scells (a ++ b) = scells a ++ scells b := List.map_append ..
theorem scells_one (l : List ByteArray) : ∀ u ∈ scells l, u.oneCell' = true := by
  intro u hu
  obtain ⟨_, _, rfl⟩ := List.mem_map.1 hu
  rfl

theorem info9 : (Try.prog.info? 9).map (fun i => (i.zero, i.size, i.bytes)) = some (some (.string ⟨#[]⟩), 1, 16) := by kernel_rfl

theorem Reads.stake {w : World} {a : Option Addr} {n cap : Nat} {l : List ByteArray} (h : Reads w 1 (.slice a n cap) n (scells l)) (k : Nat) (hk : k ≤ n) : Reads w 1 (.slice a k cap) k (scells (l.take k)) := by
  obtain ⟨hl, a', cap', hv, h1, h2, h3⟩ := h
  cases hv
  rw [scells_length] at hl
  refine ⟨by rw [scells_length, List.length_take]; omega, a, cap, rfl, by omega, h2, fun j u hj => h3 j u ?_⟩
  simp only [scells, List.map_take] at hj ⊢
  rw [List.getElem?_take] at hj
  split at hj
  · exact hj
  · cases hj

/-- The address behind the first k elements, as the model leaves it. -/
def behind (a : Option Addr) (k cap : Nat) : Option Addr := if cap = k then a else a.map fun x => x.add k

theorem Reads.sdrop {w : World} {a : Option Addr} {n cap : Nat} {l : List ByteArray} (h : Reads w 1 (.slice a n cap) n (scells l)) (k : Nat) (hk : k ≤ n) : Reads w 1 (.slice (behind a k cap) (n - k) (cap - k)) (n - k) (scells (l.drop k)) := by
  obtain ⟨hl, a', cap', hv, h1, h2, h3⟩ := h
  cases hv
  rw [scells_length] at hl
  refine ⟨by rw [scells_length, List.length_drop]; omega, _, _, rfl, by omega, by omega, fun j u hj => ?_⟩
  have hjl := (List.getElem?_eq_some_iff.1 hj).1
  rw [scells_length, List.length_drop] at hjl
  simp only [scells, List.map_drop] at hj h3
  rw [List.getElem?_drop] at hj
  obtain ⟨b, off, rfl, hb, hr⟩ := h3 _ _ hj
  unfold behind
  rw [if_neg (by omega)]
  exact ⟨b, off + k, by simp [Addr.add], hb, by rw [Nat.add_assoc]; exact hr⟩
end Go.Proofs.Ytekdcjbjjakhcaa
