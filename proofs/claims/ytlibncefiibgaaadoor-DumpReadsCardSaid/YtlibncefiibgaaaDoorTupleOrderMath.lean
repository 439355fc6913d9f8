/- Keys of tuples stand in the order of their parts. -/
import Derived.Test.YtlibncefiibgaaaDoorTupleListM
namespace Go.Proofs.YtlibncefiibgaaaDoor
open Go Go.RowKit

/-- no zero stands in it -/
def NZ (l : List UInt8) : Prop := ∀ b ∈ l, b ≠ 0

theorem nz_cons {a : UInt8} {l : List UInt8} (h : NZ (a :: l)) : a ≠ 0 ∧ NZ l := ⟨h a (List.mem_cons_self ..), fun b hb => h b (List.mem_cons_of_mem _ hb)⟩

theorem pos_of_ne {a : UInt8} (h : a ≠ 0) : (0 : UInt8) < a := by
  rw [UInt8.lt_iff_toNat_lt]
  have : a.toNat ≠ 0 := fun e => h (UInt8.toNat_inj.1 e)
  simpa using Nat.pos_of_ne_zero this

theorem not_lt_zero (a : UInt8) : ¬ a < 0 := by
  rw [UInt8.lt_iff_toNat_lt]
  simp

theorem part_less : ∀ (x y r s : List UInt8), NZ x → NZ y → Op.bytesLess (x ++ 0 :: r) (y ++ 0 :: s) = (Op.bytesLess x y || (x == y && Op.bytesLess r s))
  | [], [], r, s, _, _ => by simp [Op.bytesLess]
  | [], b :: y, r, s, _, hy => by simp [Op.bytesLess, pos_of_ne (nz_cons hy).1]
  | a :: x, [], r, s, hx, _ => by
    have h1 := (nz_cons hx).1
    have h2 := not_lt_zero a
    simp [Op.bytesLess, h1, h2]
  | a :: x, b :: y, r, s, hx, hy => by
    have ih := part_less x y r s (nz_cons hx).2 (nz_cons hy).2
    simp only [List.cons_append, Op.bytesLess, ih, List.cons_beq_cons]
    cases decide (a < b) <;> cases (a == b) <;> cases Op.bytesLess x y <;> cases (x == y) <;> cases Op.bytesLess r s <;> rfl

theorem part_eq : ∀ (x y r s : List UInt8), NZ x → NZ y → ((x ++ 0 :: r) == (y ++ 0 :: s)) = (x == y && r == s)
  | [], [], r, s, _, _ => by simp
  | [], b :: y, r, s, _, hy => by
    have := (nz_cons hy).1
    simp [this.symm]
  | a :: x, [], r, s, hx, _ => by
    have := (nz_cons hx).1
    simp [this]
  | a :: x, b :: y, r, s, hx, hy => by
    have ih := part_eq x y r s (nz_cons hx).2 (nz_cons hy).2
    simp only [List.cons_append, List.cons_beq_cons, ih]
    cases (a == b) <;> cases (x == y) <;> cases (r == s) <;> rfl

theorem part_prefix : ∀ (x y r s : List UInt8), NZ x → NZ y → (x ++ 0 :: r) <+: (y ++ 0 :: s) → x = y ∧ r <+: s
  | [], [], r, s, _, _, h => by
    simp only [List.nil_append, List.cons_prefix_cons, true_and] at h
    exact ⟨rfl, h⟩
  | [], b :: y, r, s, _, hy, h => by
    simp only [List.nil_append, List.cons_append, List.cons_prefix_cons] at h
    exact absurd h.1.symm (nz_cons hy).1
  | a :: x, [], r, s, hx, _, h => by
    simp only [List.nil_append, List.cons_append, List.cons_prefix_cons] at h
    exact absurd h.1 (nz_cons hx).1
  | a :: x, b :: y, r, s, hx, hy, h => by
    simp only [List.cons_append, List.cons_prefix_cons] at h
    obtain ⟨rfl, h1⟩ := h
    obtain ⟨rfl, h2⟩ := part_prefix x y r s (nz_cons hx).2 (nz_cons hy).2 h1
    exact ⟨rfl, h2⟩

/-- The key of parts: a zero behind each. -/
def keyL : List (List UInt8) → List UInt8
  | [] => []
  | x :: l => x ++ 0 :: keyL l

/-- The order of parts, one behind the other. -/
def cmpL : List (List UInt8) → List (List UInt8) → Int
  | a :: x, b :: y => if Op.bytesLess a b then -1 else if a == b then cmpL x y else 1
  | _, _ => 0

theorem cmpL_ways (p q : List (List UInt8)) : cmpL p q = -1 ∨ cmpL p q = 0 ∨ cmpL p q = 1 := by
  induction p generalizing q with
  | nil => right; left; rfl
  | cons a x ih =>
    cases q with
    | nil => right; left; rfl
    | cons b y =>
      unfold cmpL
      split
      · left; rfl
      · split
        · exact ih y
        · right; right; rfl

theorem bytesLess_irrefl (l : List UInt8) : Op.bytesLess l l = false := by
  induction l with
  | nil => rfl
  | cons a l ih => simp [Op.bytesLess, ih, UInt8.lt_irrefl]

theorem cmpL_refl (p : List (List UInt8)) : cmpL p p = 0 := by
  induction p with
  | nil => rfl
  | cons a x ih => simp [cmpL, bytesLess_irrefl, ih]

theorem key_less : ∀ (p q : List (List UInt8)), p.length = q.length → (∀ x ∈ p, NZ x) → (∀ x ∈ q, NZ x) → Op.bytesLess (keyL p) (keyL q) = decide (cmpL p q < 0) ∧ (keyL p == keyL q) = decide (cmpL p q = 0)
  | [], [], _, _, _ => by simp [keyL, cmpL, Op.bytesLess]
  | [], _ :: _, h, _, _ => by simp at h
  | _ :: _, [], h, _, _ => by simp at h
  | a :: x, b :: y, h, hp, hq => by
    have ih := key_less x y (by simpa using h) (fun z hz => hp z (List.mem_cons_of_mem _ hz)) (fun z hz => hq z (List.mem_cons_of_mem _ hz))
    have ha := hp a (List.mem_cons_self ..)
    have hb := hq b (List.mem_cons_self ..)
    unfold keyL cmpL
    rw [part_less a b _ _ ha hb, part_eq a b _ _ ha hb, ih.1, ih.2]
    cases hl : Op.bytesLess a b with
    | true =>
      have hne : (a == b) = false := by
        rw [beq_eq_false_iff_ne]
        rintro rfl
        rw [bytesLess_irrefl] at hl
        cases hl
      rw [hne]
      simp
    | false =>
      cases he : (a == b) with
      | true => simp
      | false => simp

theorem key_prefix : ∀ (p q : List (List UInt8)), p.length = q.length → (∀ x ∈ p, NZ x) → (∀ x ∈ q, NZ x) → keyL p <+: keyL q → p = q
  | [], [], _, _, _, _ => rfl
  | [], _ :: _, h, _, _, _ => by simp at h
  | _ :: _, [], h, _, _, _ => by simp at h
  | a :: x, b :: y, h, hp, hq, hk => by
    obtain ⟨rfl, hk1⟩ := part_prefix a b _ _ (hp a (List.mem_cons_self ..)) (hq b (List.mem_cons_self ..)) hk
    rw [key_prefix x y (by simpa using h) (fun z hz => hp z (List.mem_cons_of_mem _ hz)) (fun z hz => hq z (List.mem_cons_of_mem _ hz)) hk1]

def Six.bytes (t : Six) : List (List UInt8) := [t.a.data.toList, t.b.data.toList, t.c.data.toList, t.d.data.toList, t.e.data.toList, t.f.data.toList]

theorem nz_name {l : List UInt8} (h : nameL l = true) : NZ l := by
  intro b hb e
  subst e
  simp only [nameL, Bool.and_eq_true] at h
  have := List.all_eq_true.1 h.1.1 0 hb
  revert this
  decide

theorem nz_six {t : Six} (h : t.ok = true) : ∀ x ∈ t.bytes, NZ x := by
  simp only [Six.ok, nameB, Bool.and_eq_true, Bool.or_eq_true, decide_eq_true_eq] at h
  obtain ⟨⟨⟨⟨⟨h1, h2⟩, h3⟩, h4⟩, h5⟩, h6⟩ := h
  intro x hx
  simp only [Six.bytes, List.mem_cons, List.not_mem_nil, or_false] at hx
  rcases hx with rfl | rfl | rfl | rfl | rfl | rfl
  · exact nz_name h1
  · exact nz_name h2
  · exact nz_name h3
  · exact nz_name h4
  · exact nz_name h5
  · rcases h6 with h6 | h6
    · rw [size_empty.1 h6]
      intro b hb
      simp at hb
    · exact nz_name h6
end Go.Proofs.YtlibncefiibgaaaDoor
