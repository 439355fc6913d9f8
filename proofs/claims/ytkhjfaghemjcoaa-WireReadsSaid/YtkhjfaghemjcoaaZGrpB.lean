/- What the proof stands on, texts of one kind. -/
import Derived.Test.YtkhjfaghemjcoaaMga
import Derived.Test.YtkhjfaghemjcoaaZWireTm
/- Rows of bytes in rows. -/
namespace Go.Proofs.Ytkhjfaghemjcoaa
open Go Go.RowKit

theorem info22 : (Try.prog.info? 33).map (fun i => (i.zero, i.size, i.bytes)) = some (some (.slice none 0 0), 1, 24) := by kernel_rfl

/-- The slice v has n rows of bytes: ps. -/
def RowsOf (w : World) (v : Value) (n : Nat) (ps : List (List UInt8)) : Prop :=
  ∃ vs : List Value, Reads w 1 v n vs ∧ ps.length = n ∧ ∀ (i : Nat) (p : List UInt8), ps[i]? = some p → ∃ u, vs[i]? = some u ∧ Reads w 1 u p.length (bcells p)

theorem RowsOf.below' {w w' : World} {v : Value} {n : Nat} {ps : List (List UInt8)} (h : RowsOf w v n ps) (hb : Below w.heap.size w w') : RowsOf w' v n ps := by
  obtain ⟨vs, h1, h2, h3⟩ := h
  exact ⟨vs, h1.below' hb, h2, fun i p hp => by
    obtain ⟨u, e, hu⟩ := h3 i p hp
    exact ⟨u, e, hu.below' hb⟩⟩

theorem RowsOf.nil (w : World) (v : Value) (hv : v = .slice none 0 0) : RowsOf w v 0 [] := by
  subst hv
  exact ⟨[], ⟨by simp, none, 0, rfl, Nat.le_refl _, Nat.zero_le _, fun j u h => by simp at h⟩, rfl, fun i p h => by simp at h⟩

/-- One row of them. -/
theorem RowsOf.row {w : World} {a : Option Addr} {n cap : Nat} {ps : List (List UInt8)} (h : RowsOf w (.slice a n cap) n ps) {j : Nat} (hj : j < n) :
    ∃ b off p u, a = some ⟨b, off, none⟩ ∧ ps[j]? = some p ∧ b < w.heap.size ∧ w.cell? ⟨b, off + j, none⟩ = some u ∧ Reads w 1 u p.length (bcells p) := by
  obtain ⟨vs, ⟨hl, a', cap', hv, _, _, hc⟩, h2, h3⟩ := h
  cases hv
  have hp : ps[j]? = some (ps[j]'(by omega)) := List.getElem?_eq_getElem (by omega)
  obtain ⟨u, e, hu⟩ := h3 j _ hp
  obtain ⟨b, off, rfl, hb, hcell⟩ := hc j u e
  exact ⟨b, off, _, u, rfl, hp, hb, hcell, hu⟩

/-- The first k rows. -/
theorem RowsOf.take {w : World} {a : Option Addr} {n cap : Nat} {ps : List (List UInt8)} (h : RowsOf w (.slice a n cap) n ps) (k : Nat) (hk : k ≤ n) : RowsOf w (.slice a k cap) k (ps.take k) := by
  obtain ⟨vs, ⟨hl, a', cap', hv, h1, h4, hc⟩, h2, h3⟩ := h
  cases hv
  refine ⟨vs.take k, ⟨by rw [List.length_take]; omega, a, cap, rfl, by omega, h4, fun j u hj => hc j u ?_⟩, by rw [List.length_take]; omega, fun i p hp => ?_⟩
  · rw [List.getElem?_take] at hj
    split at hj
    · exact hj
    · cases hj
  · rw [List.getElem?_take] at hp
    split at hp
    · next hik =>
      obtain ⟨u, e, hu⟩ := h3 i p hp
      exact ⟨u, by rw [List.getElem?_take, if_pos hik]; exact e, hu⟩
    · cases hp

/-- Rows of two types lie in two blocks. -/
theorem rows_apart {w : World} {B1 B2 n1 n2 s1 s2 : Nat} {e1 e2 : TypeId} {v1 v2 : Value} {xs1 xs2 : List Value} (h1 : w.ownsRow B1 e1 s1 v1 n1 xs1) (h2 : w.ownsRow B2 e2 s2 v2 n2 xs2) (hne : e1 ≠ e2) : v1.ownBlock = none ∨ v1.ownBlock ≠ v2.ownBlock := by
  rcases h1.2 with ⟨rfl, _⟩ | ⟨g1, c1, cur1, rfl, _, hg1, _⟩
  · exact .inl rfl
  · rcases h2.2 with ⟨rfl, _⟩ | ⟨g2, c2, cur2, rfl, _, hg2, _⟩
    · exact .inr (by simp [Value.ownBlock])
    · right
      intro e
      simp [Value.ownBlock] at e
      subst e
      rw [hg1] at hg2
      simp at hg2
      exact hne hg2.2

/-- A row of rows that the call makes, and its rows are the call's own, too. -/
def ORows (B : Nat) (w : World) (v : Value) (k : Nat) (ps : List (List UInt8)) : Prop :=
  ∃ vs : List Value, w.ownsRow B 33 1 v k vs ∧ ps.length = k ∧ ∀ (i : Nat) (p : List UInt8), ps[i]? = some p → ∃ u, vs[i]? = some u ∧ w.ownsRow B 5 1 u p.length (bcells p)

theorem ORows.nil (B : Nat) (w : World) : ORows B w (.slice none 0 0) 0 [] :=
  ⟨[], World.ownsRow_nil _ _ _ _, rfl, fun i p h => by simp at h⟩

theorem ORows.below' {B : Nat} {w w' : World} {v : Value} {k : Nat} {ps : List (List UInt8)} (h : ORows B w v k ps) (hb : Below w.heap.size w w') : ORows B w' v k ps := by
  obtain ⟨vs, h1, h2, h3⟩ := h
  refine ⟨vs, owns_below h1 hb, h2, fun i p hp => ?_⟩
  obtain ⟨u, e, hu⟩ := h3 i p hp
  exact ⟨u, e, owns_below hu hb⟩

theorem ORows.rows {B : Nat} {w : World} {v : Value} {k : Nat} {ps : List (List UInt8)} (h : ORows B w v k ps) : RowsOf w v k ps := by
  obtain ⟨vs, h1, h2, h3⟩ := h
  exact ⟨vs, ownsRow.reads h1, h2, fun i p hp => by
    obtain ⟨u, e, hu⟩ := h3 i p hp
    exact ⟨u, e, ownsRow.reads hu⟩⟩

/-- A row more. -/
theorem ORows.snoc {B : Nat} {w w' : World} {v v' u : Value} {k : Nat} {ps : List (List UInt8)} {p : List UInt8} {vs : List Value} (h1 : w.ownsRow B 33 1 v k vs) (h2 : ps.length = k)
    (h3 : ∀ (i : Nat) (p : List UInt8), ps[i]? = some p → ∃ u, vs[i]? = some u ∧ w.ownsRow B 5 1 u p.length (bcells p)) (hu : w.ownsRow B 5 1 u p.length (bcells p))
    (hown : w'.ownsRow B 33 1 v' (k + 1) (vs ++ [u])) (hg : w.grownBy w' v.ownBlock) : ORows B w' v' (k + 1) (ps ++ [p]) := by
  have hvl : vs.length = k := by have := h1.1; simpa using this
  refine ⟨vs ++ [u], hown, by simp [h2], fun i q hq => ?_⟩
  by_cases hi : i < k
  · rw [List.getElem?_append_left (by omega)] at hq
    obtain ⟨x, e, hx⟩ := h3 i q hq
    exact ⟨x, by rw [List.getElem?_append_left (by omega)]; exact e, hx.kept hg (rows_apart hx h1 (by decide))⟩
  · rw [List.getElem?_append_right (by omega)] at hq
    have hi0 : i - ps.length = 0 := by
      have := (List.getElem?_eq_some_iff.1 hq).1
      simp at this
      omega
    rw [hi0] at hq
    obtain rfl : p = q := by simpa using hq
    refine ⟨u, ?_, hu.kept hg (rows_apart hu h1 (by decide))⟩
    rw [List.getElem?_append_right (by omega), show i - vs.length = 0 by omega]
    rfl

/-- A row of rows that the call makes; its rows lie in old memory. -/
def HRows (B : Nat) (w : World) (v : Value) (k : Nat) (ps : List (List UInt8)) : Prop :=
  ∃ vs : List Value, w.ownsRow B 33 1 v k vs ∧ ps.length = k ∧ ∀ (i : Nat) (p : List UInt8), ps[i]? = some p → ∃ u, vs[i]? = some u ∧ Reads w 1 u p.length (bcells p) ∧ (u.ownBlock = none ∨ ∃ b, u.ownBlock = some b ∧ b < B)

theorem HRows.nil (B : Nat) (w : World) : HRows B w (.slice none 0 0) 0 [] :=
  ⟨[], World.ownsRow_nil _ _ _ _, rfl, fun i p h => by simp at h⟩

theorem HRows.below' {B : Nat} {w w' : World} {v : Value} {k : Nat} {ps : List (List UInt8)} (h : HRows B w v k ps) (hb : Below w.heap.size w w') : HRows B w' v k ps := by
  obtain ⟨vs, h1, h2, h3⟩ := h
  refine ⟨vs, owns_below h1 hb, h2, fun i p hp => ?_⟩
  obtain ⟨u, e, hu, ho⟩ := h3 i p hp
  exact ⟨u, e, hu.below' hb, ho⟩

theorem HRows.rows {B : Nat} {w : World} {v : Value} {k : Nat} {ps : List (List UInt8)} (h : HRows B w v k ps) : RowsOf w v k ps := by
  obtain ⟨vs, h1, h2, h3⟩ := h
  exact ⟨vs, ownsRow.reads h1, h2, fun i p hp => by
    obtain ⟨u, e, hu, _⟩ := h3 i p hp
    exact ⟨u, e, hu⟩⟩

/-- A row more, out of old memory. -/
theorem HRows.snoc {B : Nat} {w w' : World} {v v' u : Value} {k : Nat} {ps : List (List UInt8)} {p : List UInt8} {vs : List Value} (h1 : w.ownsRow B 33 1 v k vs) (h2 : ps.length = k)
    (h3 : ∀ (i : Nat) (p : List UInt8), ps[i]? = some p → ∃ u, vs[i]? = some u ∧ Reads w 1 u p.length (bcells p) ∧ (u.ownBlock = none ∨ ∃ b, u.ownBlock = some b ∧ b < B)) (hu : Reads w 1 u p.length (bcells p)) (hub : u.ownBlock = none ∨ ∃ b, u.ownBlock = some b ∧ b < B)
    (hown : w'.ownsRow B 33 1 v' (k + 1) (vs ++ [u])) (hg : w.grownBy w' v.ownBlock) : HRows B w' v' (k + 1) (ps ++ [p]) := by
  have hvl : vs.length = k := by have := h1.1; simpa using this
  have apart : ∀ x : Value, (x.ownBlock = none ∨ ∃ b, x.ownBlock = some b ∧ b < B) → x.ownBlock = none ∨ x.ownBlock ≠ v.ownBlock := by
    rintro x (h | ⟨b, h, hlt⟩)
    · exact .inl h
    · right
      rw [h]
      intro e
      have := (h1.lt b e.symm).1
      omega
  refine ⟨vs ++ [u], hown, by simp [h2], fun i q hq => ?_⟩
  by_cases hi : i < k
  · rw [List.getElem?_append_left (by omega)] at hq
    obtain ⟨x, e, hx, ho⟩ := h3 i q hq
    exact ⟨x, by rw [List.getElem?_append_left (by omega)]; exact e, hx.grown hg (apart x ho), ho⟩
  · rw [List.getElem?_append_right (by omega)] at hq
    have hi0 : i - ps.length = 0 := by
      have := (List.getElem?_eq_some_iff.1 hq).1
      simp at this
      omega
    rw [hi0] at hq
    obtain rfl : p = q := by simpa using hq
    refine ⟨u, ?_, hu.grown hg (apart u hub), hub⟩
    rw [List.getElem?_append_right (by omega), show i - vs.length = 0 by omega]
    rfl
end Go.Proofs.Ytkhjfaghemjcoaa

/- Slices of bytes that came in. -/
namespace Go.Proofs.Ytkhjfaghemjcoaa
open Go Go.RowKit

theorem Sl.of_reads {w : World} {v : Value} {l : List UInt8} (h : Reads w 1 v l.length (bcells l)) (hn : 0 < l.length) : Sl w.heap.size w v l := by
  have h' := h
  obtain ⟨bb, off, cap, rfl, _, _, _, hc⟩ := h.head hn
  exact .inr ⟨bb, off, cap, rfl, fun _ => World.block_lt_of_cell? _ _ (hc 0 hn), fun _ => World.block_lt_of_cell? _ _ (hc 0 hn), h'⟩

/-- A slice of bytes that came in. -/
theorem IsRow.sl {w : World} {a : Option Addr} {len cap : Nat} {zs : List Int} (h : IsRow .u8 w a len cap zs) : ∃ l : List UInt8, l.length = len ∧ Sl w.heap.size w (.slice a len cap) l := by
  obtain ⟨l, hl, hr⟩ := h.reads
  refine ⟨l, hl, ?_⟩
  subst hl
  by_cases hn : 0 < l.length
  · exact Sl.of_reads hr hn
  · obtain rfl : l = [] := List.eq_nil_of_length_eq_zero (by omega)
    rcases h with ⟨rfl, _, rfl, _⟩ | ⟨x, rfl, h1, h2, h3, h4, h5⟩
    · exact .inl ⟨⟨_, rfl⟩, rfl⟩
    · by_cases hc : cap = 0
      · subst hc
        exact .inl ⟨⟨_, rfl⟩, rfl⟩
      · have hc0 := h4 0 (by omega)
        have hlt := World.block_lt_of_cell? _ _ hc0
        obtain ⟨b, o, s⟩ := x
        cases s with
        | none => exact .inr ⟨b, o, cap, rfl, fun _ => hlt, fun _ => hlt, hr⟩
        | some s => exact absurd (World.cell?_spot hc0) (by simp [Addr.add])
end Go.Proofs.Ytkhjfaghemjcoaa

/- What reads as something is what that is written as: numbers, texts, tuples, lists, trees. -/
namespace Go.Proofs.Ytkhjfaghemjcoaa
open Go Go.RowKit

theorem getGo_back : ∀ (l : List UInt8) (i V v n : Nat), getGo i V l = (v, n, 0) → ∃ N r, l = enc N ++ r ∧ n = i + (enc N).length ∧ v = V + N * 128 ^ i ∧ (i = 0 ∨ 0 < N)
  | [], i, V, v, n, h => by
    rw [getGo] at h
    simp only [Prod.mk.injEq] at h
    split at h <;> omega
  | c :: r, i, V, v, n, h => by
    rw [getGo] at h
    split at h
    · simp at h
    · rename_i h10
      have hc8 : c.toNat < 256 := c.toNat_lt
      split at h
      · rename_i hc
        by_cases h9 : i = 9
        · subst h9
          have := @getGo_ten (V + c.toNat % 128 * 128 ^ 9 % 18446744073709551616) (List.replicate 10 0 ++ r)
          rw [List.drop_left' (by simp)] at this
          rw [this] at h
          simp at h
        · obtain ⟨N, r', rfl, rfl, rfl, h0⟩ := getGo_back r (i + 1) _ v n h
          have hN : 0 < N := by omega
          have hp : 128 ^ i ≤ 128 ^ 8 := Nat.pow_le_pow_right (by omega) (by omega)
          have hm : c.toNat % 128 * 128 ^ i ≤ 127 * 128 ^ 8 := Nat.mul_le_mul (by omega) hp
          refine ⟨c.toNat % 128 + N * 128, r', ?_, ?_, ?_, .inr (by omega)⟩
          · rw [enc_ge (v := c.toNat % 128 + N * 128) (by omega), show (c.toNat % 128 + N * 128) / 128 = N by omega, show (c.toNat % 128 + N * 128) % 128 + 128 = c.toNat by omega]
            simp
          · rw [enc_ge (v := c.toNat % 128 + N * 128) (by omega), show (c.toNat % 128 + N * 128) / 128 = N by omega, List.length_cons]
            omega
          · rw [Nat.mod_eq_of_lt (Nat.lt_of_le_of_lt hm (by decide)), Nat.pow_succ, Nat.add_mul, Nat.add_assoc, Nat.mul_comm (128 ^ i) 128, Nat.mul_assoc]
      · split at h
        · simp at h
        · rename_i hc hb
          simp only [Prod.mk.injEq] at h
          obtain ⟨rfl, rfl, _⟩ := h
          have hm : c.toNat % 128 * 128 ^ i < 18446744073709551616 := by
            by_cases h9 : i = 9
            · subst h9
              have : c.toNat % 128 * 128 ^ 9 ≤ 1 * 128 ^ 9 := Nat.mul_le_mul_right _ (by omega)
              exact Nat.lt_of_le_of_lt this (by decide)
            · have hp : 128 ^ i ≤ 128 ^ 8 := Nat.pow_le_pow_right (by omega) (by omega)
              exact Nat.lt_of_le_of_lt (Nat.mul_le_mul (show c.toNat % 128 ≤ 127 by omega) hp) (by decide)
          refine ⟨c.toNat, r, ?_, ?_, ?_, by omega⟩
          · rw [enc_lt (by omega)]
            simp
          · rw [enc_lt (by omega)]
            rfl
          · rw [Nat.mod_eq_of_lt hm, Nat.mod_eq_of_lt (by omega)]

/-- What a reader reads is what it is written as, and is good. -/
def Back {α : Type} (g : List UInt8 → Bool → α × List UInt8 × Bool) (f : α → List UInt8) (q : α → Prop) : Prop :=
  (∀ l, (g l true).2.2 = true) ∧ ∀ l, (g l false).2.2 = false → l = f (g l false).1 ++ (g l false).2.1 ∧ q (g l false).1

theorem Back.use {α : Type} {g : List UInt8 → Bool → α × List UInt8 × Bool} {f : α → List UInt8} {q : α → Prop} (h : Back g f q) {l : List UInt8} {b : Bool} (hr : (g l b).2.2 = false) : b = false ∧ l = f (g l b).1 ++ (g l b).2.1 ∧ q (g l b).1 := by
  cases b with
  | true => rw [h.1] at hr; cases hr
  | false => exact ⟨rfl, h.2 l hr⟩

def seq2 {α β : Type} (g : List UInt8 → Bool → α × List UInt8 × Bool) (k : List UInt8 → Bool → β × List UInt8 × Bool) (l : List UInt8) (b : Bool) : (α × β) × List UInt8 × Bool :=
  (((g l b).1, (k (g l b).2.1 (g l b).2.2).1), (k (g l b).2.1 (g l b).2.2).2)

theorem Back.seq {α β : Type} {g : List UInt8 → Bool → α × List UInt8 × Bool} {k : List UInt8 → Bool → β × List UInt8 × Bool} {f : α → List UInt8} {f' : β → List UInt8} {q : α → Prop} {q' : β → Prop} (h : Back g f q) (h' : Back k f' q') :
    Back (seq2 g k) (fun x => f x.1 ++ f' x.2) (fun x => q x.1 ∧ q' x.2) := by
  refine ⟨fun l => ?_, fun l hl => ?_⟩
  · show (k (g l true).2.1 (g l true).2.2).2.2 = true
    rw [h.1, h'.1]
  · have hk : (k (g l false).2.1 (g l false).2.2).2.2 = false := hl
    obtain ⟨e, h3, h4⟩ := h'.use hk
    obtain ⟨h1, h2⟩ := h.2 l e
    refine ⟨?_, h2, h4⟩
    show l = (f (g l false).1 ++ f' (k (g l false).2.1 (g l false).2.2).1) ++ (k (g l false).2.1 (g l false).2.2).2.1
    rw [List.append_assoc, ← h3]
    exact h1

theorem Back.map {α β : Type} {g : List UInt8 → Bool → α × List UInt8 × Bool} {f : α → List UInt8} {q : α → Prop} (h : Back g f q) (m : α → β) {f' : β → List UInt8} {q' : β → Prop} (hf : ∀ x, f' (m x) = f x) (hq : ∀ x, q x → q' (m x)) :
    Back (fun l b => (m (g l b).1, (g l b).2)) f' q' :=
  ⟨h.1, fun l hl => by
    obtain ⟨h1, h2⟩ := h.2 l hl
    exact ⟨by rw [hf]; exact h1, hq _ h2⟩⟩

theorem back_num : Back rnum enc (· < 18446744073709551616) := by
  refine ⟨fun l => rfl, fun l hl => ?_⟩
  have hl' : decide ((getGo 0 0 l).2.2 ≠ 0) = false := hl
  have h0 : (getGo 0 0 l).2.2 = 0 := by simpa using hl'
  obtain ⟨N, r, h1, h2, h3, _⟩ := getGo_back l 0 0 (getGo 0 0 l).1 (getGo 0 0 l).2.1 (Prod.ext rfl (Prod.ext rfl h0))
  have h4 := getGo_ok l 0 0 (getGo 0 0 l).1 (getGo 0 0 l).2.1 (by decide) (Prod.ext rfl (Prod.ext rfl h0))
  refine ⟨?_, h4.2.2.2⟩
  show l = enc (getGo 0 0 l).1 ++ l.drop (getGo 0 0 l).2.1
  have h5 : (getGo 0 0 l).1 = N := by simpa using h3
  rw [h5, h2, Nat.zero_add]
  conv => rhs; arg 2; rw [h1]
  rw [List.drop_left]
  exact h1

theorem back_long : Back rlong intB in64 := by
  refine ⟨fun l => rfl, fun l hl => ?_⟩
  obtain ⟨h1, h2⟩ := back_num.2 l hl
  refine ⟨?_, unzig_in _ h2⟩
  show l = enc (zig (unzig (rnum l false).1)) ++ (rnum l false).2.1
  rw [zig_unzig _ h2]
  exact h1

theorem back_tru : Back rtru flagB (fun _ => True) := by
  refine ⟨fun l => ?_, fun l hl => ?_⟩
  · show (decide (1 < (rnum l true).1) || (rnum l true).2.2) = true
    rw [show (rnum l true).2.2 = true from rfl, Bool.or_true]
  · have hl' : (decide (1 < (rnum l false).1) || (rnum l false).2.2) = false := hl
    rw [Bool.or_eq_false_iff] at hl'
    obtain ⟨h1, _⟩ := back_num.2 l hl'.2
    refine ⟨?_, trivial⟩
    show l = enc (bitN (decide ((rnum l false).1 = 1))) ++ (rnum l false).2.1
    have hle : ¬ 1 < (rnum l false).1 := of_decide_eq_false hl'.1
    have hb : bitN (decide ((rnum l false).1 = 1)) = (rnum l false).1 := by
      unfold bitN
      by_cases h : (rnum l false).1 = 1
      · rw [h]; rfl
      · rw [decide_eq_false h]
        simp
        omega
    rw [hb]
    exact h1

theorem back_txt : Back rtxt txt Sm := by
  refine ⟨fun l => rfl, fun l hl => ?_⟩
  have hl' : decide ((getText l).2.2 ≠ 0) = false := hl
  have h0 : (getText l).2.2 = 0 := by simpa using hl'
  show l = txt ⟨(getText l).1.toArray⟩ ++ l.drop (getText l).2.1 ∧ Sm ⟨(getText l).1.toArray⟩
  unfold getText at h0 ⊢
  split at h0
  · rename_i hg
    rw [if_pos hg]
    split at h0
    · simp at h0
    · rename_i hle
      rw [if_neg hle]
      have hb := back_num.2 l (by show decide ((getGo 0 0 l).2.2 ≠ 0) = false; simp [hg])
      obtain ⟨h1, h2⟩ := hb
      have h1' : l = enc (getGo 0 0 l).1 ++ l.drop (getGo 0 0 l).2.1 := h1
      have h2' : (getGo 0 0 l).1 < 18446744073709551616 := h2
      have hsz : ((l.drop (getGo 0 0 l).2.1).take (getGo 0 0 l).1).length = (getGo 0 0 l).1 := by
        rw [List.length_take, List.length_drop]
        omega
      refine ⟨?_, ?_⟩
      · show l = (enc ((l.drop (getGo 0 0 l).2.1).take (getGo 0 0 l).1).length ++ ((l.drop (getGo 0 0 l).2.1).take (getGo 0 0 l).1)) ++ l.drop ((getGo 0 0 l).2.1 + (getGo 0 0 l).1)
        rw [hsz, List.append_assoc, ← List.drop_drop, List.take_append_drop]
        exact h1'
      · show ((l.drop (getGo 0 0 l).2.1).take (getGo 0 0 l).1).length < 18446744073709551616
        rw [hsz]
        exact h2'
  · exact absurd h0 (by assumption)

theorem back_obj : Back robj (fun x => txt x.1 ++ txt x.2) (fun x => Sm x.1 ∧ Sm x.2) := back_txt.seq back_txt
theorem back_sub : Back rsub (fun x => (txt x.1.1 ++ txt x.1.2) ++ txt x.2) (fun x => (Sm x.1.1 ∧ Sm x.1.2) ∧ Sm x.2) := back_obj.seq back_txt
theorem back_pnt : Back rpnt (fun x => (txt x.1.1 ++ txt x.1.2) ++ txt x.2) (fun x => (Sm x.1.1 ∧ Sm x.1.2) ∧ Sm x.2) := back_obj.seq back_txt
theorem back_tup : Back rtup t6B T6.Sm :=
  ((back_obj.seq back_txt).seq back_sub).map (fun x => (⟨x.1.1.1, x.1.1.2, x.1.2, x.2.1.1, x.2.1.2, x.2.2⟩ : T6)) (fun x => by simp [t6B, T6.list, txts]) (fun x h => ⟨h.1.1.1, h.1.1.2, h.1.2, h.2.1.1, h.2.1.2, h.2.2⟩)
theorem back_ask : Back rask t6B T6.Sm :=
  (back_pnt.seq back_sub).map (fun x => (⟨x.1.1.1, x.1.1.2, x.1.2, x.2.1.1, x.2.1.2, x.2.2⟩ : T6)) (fun x => by simp [t6B, T6.list, txts]) (fun x h => ⟨h.1.1.1, h.1.1.2, h.1.2, h.2.1.1, h.2.1.2, h.2.2⟩)
theorem back_wri : Back rwri wriB (fun x => x.t.Sm) :=
  (back_tru.seq back_tup).map (fun x => (⟨x.1, x.2⟩ : Wri)) (fun _ => rfl) (fun _ h => h.2)
theorem back_pre : Back rpre wriB (fun x => x.t.Sm) :=
  (back_tru.seq back_tup).map (fun x => (⟨x.1, x.2⟩ : Wri)) (fun _ => rfl) (fun _ h => h.2)
theorem back_arg : Back rarg argB Arg4.Sm :=
  (((back_txt.seq back_long).seq back_long).seq back_txt).map (fun x => (⟨x.1.1.1, x.1.1.2, x.1.2, x.2⟩ : Arg4)) (fun _ => rfl) (fun _ h => ⟨h.1.1.1, h.1.1.2, h.1.2, h.2⟩)
theorem back_obj2 : Back robj2 t2B T2.Sm :=
  back_obj.map (fun x => (⟨x.1, x.2⟩ : T2)) (fun x => by simp [t2B, txts]) (fun _ h => h)
theorem back_sub3 : Back rsub3 t3B T3.Sm :=
  back_sub.map (fun x => (⟨x.1.1, x.1.2, x.2⟩ : T3)) (fun x => by simp [t3B, txts]) (fun _ h => ⟨h.1.1, h.1.2, h.2⟩)
theorem back_pnt3 : Back rpnt3 t3B T3.Sm :=
  back_pnt.map (fun x => (⟨x.1.1, x.1.2, x.2⟩ : T3)) (fun x => by simp [t3B, txts]) (fun _ h => ⟨h.1.1, h.1.2, h.2⟩)
theorem back_evt : Back revt evB (fun y => y.rev < 18446744073709551616 ∧ y.x.t.Sm) :=
  (back_num.seq back_wri).map (fun x => (⟨x.1, x.2⟩ : Evt)) (fun _ => rfl) (fun _ h => h)

theorem back_many {α : Type} {g : List UInt8 → Bool → α × List UInt8 × Bool} {f : α → List UInt8} {q : α → Prop} (h : Back g f q) : ∀ (n : Nat) (l : List UInt8), (rmany g n l false).2.2 = false → (rmany g n l false).1.length = n ∧ l = (rmany g n l false).1.flatMap f ++ (rmany g n l false).2.1 ∧ ∀ x ∈ (rmany g n l false).1, q x
  | 0, l, _ => ⟨rfl, rfl, fun x hx => by cases hx⟩
  | n + 1, l, hl => by
    rw [rmany_next] at hl ⊢
    have hb : (g l false).2.2 = false := by
      cases hb : (g l false).2.2 with
      | false => rfl
      | true =>
        rw [hb, rmany_bad] at hl
        cases hl
    rw [hb] at hl ⊢
    obtain ⟨h1, h2, h3⟩ := back_many h n _ hl
    obtain ⟨h4, h5⟩ := h.2 l hb
    refine ⟨by rw [List.length_cons, h1], ?_, fun x hx => ?_⟩
    · rw [List.flatMap_cons, List.append_assoc, ← h2]
      exact h4
    · rcases List.mem_cons.1 hx with rfl | hx
      · exact h5
      · exact h3 x hx

theorem Back.list {α : Type} {g : List UInt8 → Bool → α × List UInt8 × Bool} {f : α → List UInt8} {q : α → Prop} (h : Back g f q) : Back (rlist g) (listB f) (fun xs => xs.length < 18446744073709551616 ∧ ∀ x ∈ xs, q x) := by
  refine ⟨fun l => ?_, fun l hl => ?_⟩
  · show (rmany g (rnum l true).1 (rnum l true).2.1 true).2.2 = true
    rw [rmany_bad]
  · have hl' : (rmany g (rnum l false).1 (rnum l false).2.1 (rnum l false).2.2).2.2 = false := hl
    have hb : (rnum l false).2.2 = false := by
      cases hb : (rnum l false).2.2 with
      | false => rfl
      | true =>
        rw [hb, rmany_bad] at hl'
        cases hl'
    show l = listB f (rmany g (rnum l false).1 (rnum l false).2.1 (rnum l false).2.2).1 ++ (rmany g (rnum l false).1 (rnum l false).2.1 (rnum l false).2.2).2.1 ∧ _ ∧ _
    rw [show rlist g l false = rmany g (rnum l false).1 (rnum l false).2.1 (rnum l false).2.2 from rfl]
    rw [hb] at hl' ⊢
    obtain ⟨h1, h2, h3⟩ := back_many h _ _ hl'
    obtain ⟨h4, h5⟩ := back_num.2 l hb
    refine ⟨?_, by rw [h1]; exact h5, h3⟩
    unfold listB
    rw [h1, List.append_assoc, ← h2]
    exact h4

theorem back_tree {α : Type} {rh : List UInt8 → Bool → α × List UInt8 × Bool} (z : α) {f : α → List UInt8} {q : α → Prop} (h : Back rh f q) : ∀ D : Nat, Back (rtree rh z D) (Tr.bytes f) (fun t => t.all q ∧ t.depth ≤ D)
  | 0 => ⟨fun _ => rfl, fun _ hl => by cases hl⟩
  | D + 1 => by
    refine ⟨fun _ => rfl, fun l hl => ?_⟩
    exact ((h.seq (back_tree z h D).list).map (fun x => Tr.mk x.1 x.2) (f' := Tr.bytes f) (q' := fun t => t.all q ∧ t.depth ≤ D + 1) (fun x => Tr.bytes_mk f x.1 x.2) (fun x hx => ⟨(Tr.all_mk _ _ _).2 ⟨hx.1, fun p hp => (hx.2.2 p hp).1⟩, by
      rw [Tr.depth_mk]
      exact Nat.succ_le_succ ((Tr.depthL_le _).2 fun p hp => (hx.2.2 p hp).2)⟩)).2 l hl
end Go.Proofs.Ytkhjfaghemjcoaa

/- What reads as a request, or a response, is what it is written as; no beginning of a request is read, and nothing that goes on (written by gen_wireback.py). -/
namespace Go.Proofs.Ytkhjfaghemjcoaa
open Go Go.RowKit

set_option maxRecDepth 100000 in
theorem back_req : Back getReq (fun q => (reqB q).drop 2) (fun q => ReqIn q ∧ ReqSm q) :=
  (((((((((((((back_txt.seq back_num).seq back_long).seq back_long).seq back_txt).seq back_num).seq back_txt).seq back_txt).seq back_txt).seq back_txt).seq back_wri.list).seq back_pre.list).seq back_ask.list).seq back_arg.list).map (fun x => (⟨x.1.1.1.1.1.1.1.1.1.1.1.1.1, x.1.1.1.1.1.1.1.1.1.1.1.1.2, x.1.1.1.1.1.1.1.1.1.1.1.2, x.1.1.1.1.1.1.1.1.1.1.2, x.1.1.1.1.1.1.1.1.1.2, x.1.1.1.1.1.1.1.1.2, x.1.1.1.1.1.1.1.2, x.1.1.1.1.1.1.2, x.1.1.1.1.1.2, x.1.1.1.1.2, x.1.1.1.2, x.1.1.2, x.1.2, x.2⟩ : Req)) (fun x => by simp [reqB, txts, intB, List.append_assoc]) (fun x h => ⟨⟨⟨h.1.1.1.1.1.1.1.1.1.1.1.2, h.1.1.1.1.1.1.1.1.1.1.2⟩, h.1.1.1.1.1.1.1.1.1.1.1.1.2, h.1.1.1.1.1.1.1.1.2, fun y hy => ⟨(h.2.2 y hy).2.1, (h.2.2 y hy).2.2.1⟩⟩, ⟨h.1.1.1.1.1.1.1.1.1.1.1.1.1, h.1.1.1.1.1.1.1.1.1.2, h.1.1.1.1.1.1.1.2, h.1.1.1.1.1.1.2, h.1.1.1.1.1.2, h.1.1.1.1.2, h.1.1.1.2, h.1.1.2, h.1.2, h.2⟩⟩)

theorem readReq_back {l : List UInt8} {q : Req} (h : readReq l = some q) : reqB q = l ∧ ReqIn q ∧ ReqSm q := by
  unfold readReq at h
  split at h
  · rename_i hc
    obtain ⟨h1, h2⟩ := hc
    obtain ⟨hb, h3, h4⟩ := back_req.use h1
    have hs : starts2 [113, 49] l = true := by
      cases hs : starts2 [113, 49] l with
      | true => rfl
      | false => rw [hs] at hb; cases hb
    obtain rfl := Option.some.inj h
    refine ⟨?_, h4⟩
    rw [h2, List.append_nil] at h3
    have hd : startL l = l.drop 2 := by unfold startL; rw [if_pos hs]
    have ht : l.take 2 = [113, 49] := of_decide_eq_true hs
    generalize (getReq (startL l) (!starts2 [113, 49] l)).1 = q at h3 ⊢
    have e : reqB q = [113, 49] ++ (reqB q).drop 2 := by unfold reqB; simp
    have h3' : (reqB q).drop 2 = l.drop 2 := by rw [← hd]; exact h3.symm
    rw [e, h3', ← ht, List.take_append_drop]
  · cases h

theorem getReq_more (q : Req) (hi : ReqIn q) (hs : ReqSm q) (r : List UInt8) : getReq ((reqB q).drop 2 ++ r) false = (q, r, false) := by
  have e : (reqB q).drop 2 ++ r = txt q.client ++ (enc q.id ++ (enc (zig q.kind) ++ (enc (zig q.how) ++ (txt q.token ++ (enc q.n ++ (txt q.typ ++ (txt q.f1 ++ (txt q.f2 ++ (txt q.f3 ++ (listB wriB q.writes ++ (listB wriB q.pres ++ (listB t6B q.asks ++ (listB argB q.args ++ r))))))))))))) := by
    simp [reqB, txts]
  rw [e]
  unfold getReq
  simp only [rtxt_txt hs.client, rtxt_txt hs.token, rtxt_txt hs.typ, rtxt_txt hs.f1, rtxt_txt hs.f2, rtxt_txt hs.f3, rnum_enc hi.id, rnum_enc hi.n, rlong_zig hi.ints.1, rlong_zig hi.ints.2,
    rlist_B q.writes hs.writes.1 (fun x hx r => rwri_B (hs.writes.2 x hx) r), rlist_B q.pres hs.pres.1 (fun x hx r => rpre_B (hs.pres.2 x hx) r), rlist_B q.asks hs.asks.1 (fun x hx r => rask_t6 (hs.asks.2 x hx) r), rlist_B q.args hs.args.1 (fun x hx r => rarg_B (hs.args.2 x hx) r)]

theorem reqB_more {q q' : Req} (hi : ReqIn q) (hs : ReqSm q) (hi' : ReqIn q') (hs' : ReqSm q') {r : List UInt8} (h : reqB q' = reqB q ++ r) : r = [] := by
  have h1 := getReq_more q hi hs r
  have h2 := getReq_more q' hi' hs' []
  have e : (reqB q').drop 2 = (reqB q).drop 2 ++ r := by
    rw [h, List.drop_append_of_le_length (by unfold reqB; simp)]
  rw [List.append_nil, e, h1] at h2
  exact congrArg (fun x => x.2.1) h2

theorem readReq_cut {q : Req} (hi : ReqIn q) (hs : ReqSm q) (k : Nat) (hk : k < (reqB q).length) : readReq ((reqB q).take k) = none := by
  cases h : readReq ((reqB q).take k) with
  | none => rfl
  | some q' =>
    obtain ⟨h1, h2, h3⟩ := readReq_back h
    have := reqB_more h2 h3 hi hs (r := (reqB q).drop k) (by rw [h1, List.take_append_drop])
    have hl := congrArg List.length this
    rw [List.length_drop] at hl
    simp at hl
    omega

theorem readReq_long {q : Req} (hi : ReqIn q) (hs : ReqSm q) (x : UInt8) : readReq (reqB q ++ [x]) = none := by
  cases h : readReq (reqB q ++ [x]) with
  | none => rfl
  | some q' =>
    obtain ⟨h1, h2, h3⟩ := readReq_back h
    have := reqB_more hi hs h2 h3 (r := [x]) h1
    cases this

theorem reqB_pos (q : Req) : 0 < (reqB q).length := by unfold reqB; simp

theorem back_ru : Back rru ruB ruSm :=
  ((back_long.seq back_txt).seq back_txt).map (fun x => (⟨x.1.1, x.1.2, x.2⟩ : RuH)) (fun x => by simp [ruB, txts, intB]) (fun _ h => ⟨h.1.1, h.1.2, h.2⟩)
theorem back_no : Back rno noB noSm :=
  (((back_long.seq back_obj2).seq back_txt).seq back_sub3.list).map (fun x => (⟨x.1.1.1, x.1.1.2.a, x.1.1.2.b, x.1.2, x.2⟩ : NoH)) (fun x => by simp [noB, txts, intB, t2B]) (fun _ h => ⟨h.1.1.1, h.1.1.2.1, h.1.1.2.2, h.1.2, h.2.1, h.2.2⟩)

theorem Tr.ht {α : Type} (t : Tr α) : Tr.mk t.head t.parts = t := by cases t; rfl
theorem fit_64 {α : Type} (t : Tr α) (h : t.depth ≤ 64) : fit 0 t = true := by unfold fit; rw [Int.zero_add]; exact decide_eq_true (by omega)

theorem back_stp : Back rstp stB (fun y => stSm y ∧ stFit 0 y = true) :=
  (((back_pnt3.seq (back_tree ruZero back_ru 64)).seq back_sub3).seq back_long.list).map (fun x => (⟨x.1.1.1, x.1.1.2.head, x.1.1.2.parts, x.1.2, x.2⟩ : Stp)) (fun x => by simp [stB, Tr.ht]) (fun x h => ⟨⟨h.1.1.1, by rw [Tr.ht]; exact h.1.1.2.1, h.1.2, h.2.1, h.2.2⟩, by unfold stFit; rw [Tr.ht]; exact fit_64 _ h.1.1.2.2⟩)

structure RespBk (p : Resp) : Prop where
  id : p.id < 18446744073709551616
  err : in64 p.err
  rev : p.rev < 18446744073709551616
  evs : ∀ x ∈ p.events, x.rev < 18446744073709551616
  sts : ∀ y ∈ p.steps, stSm y
  tree : (Tr.mk p.th p.tps).all noSm

set_option maxRecDepth 100000 in
set_option maxHeartbeats 1000000 in
theorem back_resp_of (T : List UInt8 → Bool → Tr NoH × List UInt8 × Bool) (hT : Back T (Tr.bytes noB) (fun t => t.all noSm ∧ t.depth ≤ 64)) :
    Back (fun l0 b0 =>
      let r1 := rnum l0 b0
      let r2 := rlong r1.2.1 r1.2.2
      let r3 := rnum r2.2.1 r2.2.2
      let r4 := rtxt r3.2.1 r3.2.2
      let r5 := rlist rtru r4.2.1 r4.2.2
      let r6 := rlist rtup r5.2.1 r5.2.2
      let r7 := rlist robj2 r6.2.1 r6.2.2
      let r8 := rlist revt r7.2.1 r7.2.2
      let r9 := rlist rstp r8.2.1 r8.2.2
      let r10 := T r9.2.1 r9.2.2
      ((⟨r1.1, r2.1, r3.1, r4.1, r5.1, r6.1, r7.1, r8.1, r9.1, r10.1.head, r10.1.parts⟩ : Resp), r10.2)) (fun p => (respB p).drop 2) RespBk := by
  have hc := (((((((((back_num.seq back_long).seq back_num).seq back_txt).seq back_tru.list).seq back_tup.list).seq back_obj2.list).seq back_evt.list).seq back_stp.list).seq hT)
  exact hc.map (fun x => (⟨x.1.1.1.1.1.1.1.1.1, x.1.1.1.1.1.1.1.1.2, x.1.1.1.1.1.1.1.2, x.1.1.1.1.1.1.2, x.1.1.1.1.1.2, x.1.1.1.1.2, x.1.1.1.2, x.1.1.2, x.1.2, x.2.head, x.2.parts⟩ : Resp)) (fun x => by simp [respB, txts, intB, Tr.ht]) (fun x h => ⟨h.1.1.1.1.1.1.1.1.1, h.1.1.1.1.1.1.1.1.2, h.1.1.1.1.1.1.1.2, fun y hy => (h.1.1.2.2 y hy).1, fun y hy => (h.1.2.2 y hy).1, by rw [Tr.ht]; exact h.2.1⟩)

theorem back_resp : Back getResp (fun p => (respB p).drop 2) RespBk := back_resp_of (rtree rno noZero 64) (back_tree noZero back_no 64)

theorem Tr.all_bytes {α : Type} (f : α → List UInt8) (K : Nat) : ∀ (t : Tr α), (t.bytes f).length ≤ K → t.all (fun h => (f h).length ≤ K)
  | .mk h ps, hl => by
    rw [Tr.bytes_mk] at hl
    unfold listB at hl
    simp only [List.length_append] at hl
    refine (Tr.all_mk _ _ _).2 ⟨by omega, fun p hp => Tr.all_bytes f K p ?_⟩
    obtain ⟨i, hi, rfl⟩ := List.mem_iff_getElem.1 hp
    have := flat_take (Tr.bytes f) ps (i + 1)
    rw [flat_next (Tr.bytes f) (List.getElem?_eq_getElem hi), List.length_append] at this
    omega

theorem Tr.all_both {α : Type} {q r s : α → Prop} (hq : ∀ x, q x → r x → s x) : ∀ (t : Tr α), t.all q → t.all r → t.all s
  | .mk h ps, h1, h2 => by
    rw [Tr.all_mk] at h1 h2 ⊢
    exact ⟨hq h h1.1 h2.1, fun p hp => Tr.all_both hq p (h1.2 p hp) (h2.2 p hp)⟩

theorem list_len {α : Type} (f : α → List UInt8) (hf : ∀ x, 0 < (f x).length) (xs : List α) (K : Nat) (h : (listB f xs).length ≤ K) : xs.length ≤ K ∧ ∀ x ∈ xs, (f x).length ≤ K := by
  unfold listB at h
  rw [List.length_append] at h
  have h1 := flat_many f hf xs
  refine ⟨by omega, fun x hx => ?_⟩
  obtain ⟨i, hi, rfl⟩ := List.mem_iff_getElem.1 hx
  have := flat_take f xs (i + 1)
  rw [flat_next f (List.getElem?_eq_getElem hi), List.length_append] at this
  omega

theorem txt_pos (s : ByteArray) : 0 < (txt s).length := by
  unfold txt
  rw [List.length_append]
  have := enc_pos s.size
  omega
theorem t3_pos (t : T3) : 0 < (t3B t).length := by have := txt_pos t.a; simp only [t3B, txts, List.flatMap_cons, List.length_append]; omega
theorem t2_pos (t : T2) : 0 < (t2B t).length := by have := txt_pos t.a; simp only [t2B, txts, List.flatMap_cons, List.length_append]; omega
theorem t6_pos (t : T6) : 0 < (t6B t).length := by have := txt_pos t.a; simp only [t6B, T6.list, txts, List.flatMap_cons, List.length_append]; omega
theorem ev_pos (y : Evt) : 0 < (evB y).length := by have := enc_pos y.rev; simp only [evB, List.length_append]; omega
theorem int_pos (n : Int) : 0 < (intB n).length := enc_pos _
theorem flag_pos (b : Bool) : 0 < (flagB b).length := enc_pos _
theorem st_pos (y : Stp) : 0 < (stB y).length := by have := t3_pos y.p; simp only [stB, List.length_append]; omega

theorem resp_in {p : Resp} (h : RespBk p) (hl : (respB p).length ≤ 1000000) : RespIn p := by
  unfold respB at hl
  simp only [List.length_append] at hl
  have h1 := list_len flagB flag_pos p.flags 1000000 (by omega)
  have h2 := list_len t6B t6_pos p.tuples 1000000 (by omega)
  have h3 := list_len t2B t2_pos p.objs 1000000 (by omega)
  have h4 := list_len evB ev_pos p.events 1000000 (by omega)
  have h5 := list_len stB st_pos p.steps 1000000 (by omega)
  refine ⟨h.id, h.err, h.rev, h1.1, h2.1, h3.1, h4.1, h5.1, h.evs, fun y hy => ?_, ?_⟩
  · have hs := h.sts y hy
    have hy1 := h5.2 y hy
    unfold stB at hy1
    simp only [List.length_append] at hy1
    have h6 := list_len intB int_pos y.ys 1000000 (by omega)
    exact ⟨Tr.all_both (fun x k _ => k.1) _ hs.2.1 hs.2.1, hs.2.2.2.2, h6.1⟩
  · refine Tr.all_both (fun x k k2 => ?_) _ h.tree (Tr.all_bytes noB 1000000 _ (by omega))
    have k3 : (noB x).length ≤ 1000000 := k2
    unfold noB at k3
    simp only [List.length_append] at k3
    exact ⟨k.1, (list_len t3B t3_pos x.subs 1000000 (by omega)).1⟩

theorem readResp_back {l : List UInt8} {p : Resp} (h : readResp l = some p) : respB p = l ∧ RespBk p := by
  unfold readResp at h
  split at h
  · rename_i hc
    obtain ⟨h1, h2⟩ := hc
    obtain ⟨hb, h3, h4⟩ := back_resp.use h1
    have hs : starts2 [112, 49] l = true := by
      cases hs : starts2 [112, 49] l with
      | true => rfl
      | false => rw [hs] at hb; cases hb
    obtain rfl := Option.some.inj h
    refine ⟨?_, h4⟩
    rw [h2, List.append_nil] at h3
    have hd : startP l = l.drop 2 := by unfold startP; rw [if_pos hs]
    have ht : l.take 2 = [112, 49] := of_decide_eq_true hs
    generalize (getResp (startP l) (!starts2 [112, 49] l)).1 = q at h3 ⊢
    have e : respB q = [112, 49] ++ (respB q).drop 2 := by unfold respB; simp
    have h3' : (respB q).drop 2 = l.drop 2 := by rw [← hd]; exact h3.symm
    rw [e, h3', ← ht, List.take_append_drop]
  · cases h
end Go.Proofs.Ytkhjfaghemjcoaa

/- A region that draws its order, some of whose guarded operations are not carried out. -/
namespace Go.Proofs.Ytkhjfaghemjcoaa
open Go Go.RowKit

section
variable {P : Program} {id : Nat} {l : List Oper} {Q : Exit → Act → World → Prop} {a0 : Act} {w0 : World}

theorem on_goal {c : Prop} [Decidable c] {A B : Prop} (h : ¬ c) (hb : B) : if c then A else B := by rw [if_neg h]; exact hb
theorem off_goal {c : Prop} [Decidable c] {A B : Prop} (h : c) (hb : A) : if c then A else B := by rw [if_pos h]; exact hb

/-- THE REGION: the operations of the list `off` are not carried out. -/
theorem wp_region_some (hm : P.follows .mixedOrders = true) (off : List Nat) (fs : List SlotFact) (hok : drawnOk l a0.tmps.size = true)
    (hop : AllFrom (fun i o => if off.contains i = true then ∀ w, factsOf fs i undef w else OpGoal P l fs a0 w0 i o) 0 l)
    (hguard : AllFrom (fun i o => match o.guard with | none => off.contains i = false | some (j, b) => ∀ v w, factsOf fs j v w → v = .bool (b != off.contains i)) 0 l)
    (hend : ∀ a w, a.defers = a0.defers → a.tmps.size = a0.tmps.size → Like l a0 a.eval → Below w0.heap.size w0 w → (∀ (i : Nat) (o : Oper) (d : Nat), l[i]? = some o → o.dst = some d → factsOf fs i (a.tmps.getD d undef) w) → Q .normal a w) :
    (Code.region id l.toArray true).wp P Q a0 w0 := by
  refine wp_region_facts hm (factsOf_stable fs) hok (fun i => !off.contains i) (fun i o hi ρ w h1 h2 h3 => ?_) (fun i o hi => ?_) hend
  · have := hop.at i o hi
    rw [Nat.zero_add] at this
    cases hc : off.contains i with
    | true =>
      rw [hc] at this
      simpa using this w
    | false =>
      rw [hc] at this
      have h4 : OpGoal P l fs a0 w0 i o := by simpa using this
      simpa using h4 ρ w h1 h2 h3
  · have := hguard.at i o hi
    rw [Nat.zero_add] at this
    cases hg : o.guard with
    | none =>
      simp only [hg] at this ⊢
      rw [this]
      rfl
    | some jb =>
      obtain ⟨j, b⟩ := jb
      simp only [hg] at this ⊢
      intro v w hv
      refine ⟨_, this v w hv, ?_⟩
      cases b <;> cases off.contains i <;> rfl
end
end Go.Proofs.Ytkhjfaghemjcoaa
