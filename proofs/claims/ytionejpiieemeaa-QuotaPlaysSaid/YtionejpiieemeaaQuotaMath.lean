/- Purses: what a client has at a tick, as numbers. -/
import Derived.Test.YtionejpiieemeaaTouch
namespace Go.Proofs.Ytionejpiieemeaa
open Go Go.RowKit

/-- A quota: what each client had at a tick. -/
structure QS where
  (rate most last : Nat)
  g : ByteArray → Option (Nat × Nat)

def QS.ok (S : QS) : Prop := S.rate ≤ 4294967296 ∧ S.most ≤ 4294967296 ∧ S.last ≤ 18446744073709551615 ∧ ∀ c h a, S.g c = some (h, a) → h ≤ S.most ∧ a ≤ S.last

def QS.tick (S : QS) (now : Nat) : QS := { S with last := max S.last now }

def QS.has (S : QS) (c : ByteArray) : Nat :=
  match S.g c with
  | none => S.most
  | some p => min S.most (p.1 + (S.last - p.2) * S.rate)

def QS.set (S : QS) (c : ByteArray) (h : Nat) : QS := { S with g := fun x => if x = c then some (h, S.last) else S.g x }

def QS.left (S : QS) (c : ByteArray) (n : Nat) : Nat := if n ≤ S.has c then S.has c - n else S.has c

/-- What Take leaves. -/
def QS.take (S : QS) (c : ByteArray) (n now : Nat) : QS := (S.tick now).set c ((S.tick now).left c n)

/-- What Take says. -/
def QS.gives (S : QS) (c : ByteArray) (n now : Nat) : Bool := decide (n ≤ (S.tick now).has c)

theorem QS.tick_ok {S : QS} (h : S.ok) {now : Nat} (hn : now ≤ 18446744073709551615) : (S.tick now).ok := by
  obtain ⟨h1, h2, h3, h4⟩ := h
  refine ⟨h1, h2, ?_, fun c x a hx => ?_⟩
  · show max S.last now ≤ _
    omega
  · have := h4 c x a hx
    refine ⟨this.1, ?_⟩
    show a ≤ max S.last now
    omega

theorem QS.has_le (S : QS) (c : ByteArray) : S.has c ≤ S.most := by
  unfold QS.has
  split
  · exact Nat.le_refl _
  · exact Nat.min_le_left _ _

theorem QS.left_le (S : QS) (c : ByteArray) (n : Nat) : S.left c n ≤ S.most := by
  have := S.has_le c
  unfold QS.left
  split <;> omega

theorem QS.set_ok {S : QS} (h : S.ok) (c : ByteArray) {x : Nat} (hx : x ≤ S.most) : (S.set c x).ok := by
  obtain ⟨h1, h2, h3, h4⟩ := h
  refine ⟨h1, h2, h3, fun d y a hy => ?_⟩
  unfold QS.set at hy
  simp only at hy
  split at hy
  · cases hy
    exact ⟨hx, Nat.le_refl _⟩
  · exact h4 d y a hy

theorem QS.take_ok {S : QS} (h : S.ok) (c : ByteArray) (n : Nat) {now : Nat} (hn : now ≤ 18446744073709551615) : (S.take c n now).ok :=
  QS.set_ok (S.tick_ok h hn) c (QS.left_le _ c n)

/-- So many ticks give more than is lacking. -/
theorem much_iff (t l r : Nat) (hr : 0 < r) : l / r < t ↔ l < t * r := Nat.div_lt_iff_lt_mul hr

/-- How a purse reads. -/
def purseR : Value → Option (DataW Unit × List MemPlace)
  | .agg cs =>
    match cs.toList with
    | [.int .u64 a, .int .u64 b] => some (.agg [.lit (.int .u64 a), .lit (.int .u64 b)], [])
    | _ => none
  | _ => none

theorem purseR_mk (a b : Int) : purseR (.agg #[.int .u64 a, .int .u64 b]) = some (.agg [.lit (.int .u64 a), .lit (.int .u64 b)], []) := rfl

theorem purseR_inv {v : Value} {a b : Int} {ps : List MemPlace} (h : purseR v = some (.agg [.lit (.int .u64 a), .lit (.int .u64 b)], ps)) : v = .agg #[.int .u64 a, .int .u64 b] := by
  unfold purseR at h
  split at h
  · rename_i cs
    split at h
    · rename_i x y he
      simp at h
      obtain ⟨⟨rfl, rfl⟩, _⟩ := h
      congr 1
      rw [← Array.toList_inj, he]
    · cases h
  · cases h

def purseD (p : Nat × Nat) : DataW Unit := .agg [.lit (.int .u64 (p.1 : Int)), .lit (.int .u64 (p.2 : Int))]

/-- The map D holds what g tells. -/
def Look (D : DataW Unit) (g : ByteArray → Option (Nat × Nat)) : Prop :=
  ∀ c : ByteArray, Maps.has D (.string c.data.toList) = (g c).isSome ∧ ∀ p, g c = some p → ∀ z, D.atKey (.string c.data.toList) z = purseD p

theorem key_inj {a b : ByteArray} (h : (Lit.string a.data.toList) = .string b.data.toList) : a = b := by
  injection h with h
  apply ByteArray.ext
  rw [← Array.toList_inj]
  exact h

theorem Look.put {D : DataW Unit} {g : ByteArray → Option (Nat × Nat)} (h : Look D g) (hD : Maps.IsMap D) (c : ByteArray) (p : Nat × Nat) : Look (D.put (.string c.data.toList) (purseD p)) (fun x => if x = c then some p else g x) := by
  intro x
  by_cases hx : x = c
  · subst hx
    rw [Maps.has_put_same hD (by trivial)]
    simp only [if_pos]
    refine ⟨rfl, fun q hq z => ?_⟩
    cases hq
    exact Maps.atKey_put_same hD (by trivial) _ _
  · have hne : (Lit.string x.data.toList) ≠ .string c.data.toList := fun e => hx (key_inj e)
    rw [Maps.has_put_other hne]
    simp only [if_neg hx]
    exact ⟨(h x).1, fun q hq z => by rw [Maps.atKey_put_other hne]; exact (h x).2 q hq z⟩

/-- A quota lies in block b, its map in block m, with at most n clients. -/
def QAt (w : World) (b m : Nat) (S : QS) (n : Nat) : Prop :=
  w.heap[b]? = some (.cells #[.int .u64 (S.rate : Int), .int .u64 (S.most : Int), .int .u64 (S.last : Int), .map (some m)] 47 (0, 0)) ∧ m ≠ b ∧
    ∃ D : DataW Unit, w.ownsMap Try.prog 9 purseR m n D ∧ Look D S.g

theorem QAt.lt {w : World} {b m : Nat} {S : QS} {n : Nat} (h : QAt w b m S n) : b < w.heap.size ∧ m < w.heap.size :=
  ⟨(Array.getElem?_eq_some_iff.1 h.1).1, by obtain ⟨_, _, D, h, _⟩ := h; exact h.lt⟩

theorem QAt.touch {w w' : World} {b m : Nat} {S : QS} {n : Nat} {l : List Nat} (h : QAt w b m S n) (t : Touch w w' l) (hb : b ∉ l) (hm : m ∉ l) : QAt w' b m S n := by
  obtain ⟨h1, h2, D, h3, h4⟩ := h
  exact ⟨t.keep h1 hb, h2, D, t.keepMap h3 hm, h4⟩
end Go.Proofs.Ytionejpiieemeaa
