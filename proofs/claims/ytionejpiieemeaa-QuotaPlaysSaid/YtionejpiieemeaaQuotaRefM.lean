/- The reference's quota: clients in a row. -/
import Derived.Test.YtionejpiieemeaaQuotaTake
import Derived.Test.YtionejpiieemeaaAppendRows
namespace Go.Proofs.Ytionejpiieemeaa
open Go Go.RowKit

structure RQ where
  (rate most now : Nat)
  cs : List (ByteArray × Nat)

def ccell (p : ByteArray × Nat) : List Value := [.string p.1, .int .u64 (p.2 : Int)]
def ccells (l : List (ByteArray × Nat)) : List Value := l.flatMap ccell

theorem ccell_len (p : ByteArray × Nat) : (ccell p).length = 2 := rfl
theorem ccells_len (l : List (ByteArray × Nat)) : (ccells l).length = l.length * 2 := flat_length ccell 2 ccell_len l
theorem ccells_append (a b : List (ByteArray × Nat)) : ccells (a ++ b) = ccells a ++ ccells b := List.flatMap_append ..
theorem ccells_one (l : List (ByteArray × Nat)) : ∀ u ∈ ccells l, u.oneCell' = true := by
  intro u hu
  obtain ⟨p, _, hp⟩ := List.mem_flatMap.1 hu
  simp [ccell] at hp
  rcases hp with rfl | rfl <;> rfl

theorem ccells_set : ∀ (l : List (ByteArray × Nat)) (k : Nat) (c : ByteArray) (h h' : Nat), l[k]? = some (c, h) → ccells (l.set k (c, h')) = (ccells l).set (k * 2 + 1) (.int .u64 (h' : Int))
  | [], k, c, h, h', e => by simp at e
  | p :: l, 0, c, h, h', e => by
    simp at e
    subst e
    rfl
  | p :: l, k + 1, c, h, h', e => by
    have ih := ccells_set l k c h h' (by simpa using e)
    show ccell p ++ ccells (l.set k (c, h')) = ((.string p.1) :: (.int .u64 (p.2 : Int)) :: ccells l).set ((k + 1) * 2 + 1) _
    rw [ih, show (k + 1) * 2 + 1 = (k * 2 + 1) + 1 + 1 by omega]
    rfl

theorem ccells_take (l : List (ByteArray × Nat)) (k : Nat) : (ccells l).take (k * 2) = ccells (l.take k) := by
  induction l generalizing k with
  | nil => simp [ccells]
  | cons p l ih =>
    cases k with
    | zero => simp [ccells]
    | succ k =>
      show ((.string p.1) :: (.int .u64 (p.2 : Int)) :: ccells l).take ((k + 1) * 2) = (.string p.1) :: (.int .u64 (p.2 : Int)) :: ccells (l.take k)
      rw [← ih k, show (k + 1) * 2 = k * 2 + 1 + 1 by omega]
      rfl

theorem ccells_drop (l : List (ByteArray × Nat)) (k : Nat) : (ccells l).drop (k * 2) = ccells (l.drop k) := by
  induction l generalizing k with
  | nil => simp [ccells]
  | cons p l ih =>
    cases k with
    | zero => simp [ccells]
    | succ k =>
      show ((.string p.1) :: (.int .u64 (p.2 : Int)) :: ccells l).drop ((k + 1) * 2) = ccells (l.drop k)
      rw [← ih k, show (k + 1) * 2 = k * 2 + 1 + 1 by omega]
      rfl

theorem own_set2 {w : World} {B n g cap s : Nat} {e : TypeId} {xs : List Value} (h : w.ownsRow B e s (.slice (some ⟨g, 0, none⟩) n cap) n xs) {i : Nat} (v : Value) : (w.setCell ⟨g, i, none⟩ v).ownsRow B e s (.slice (some ⟨g, 0, none⟩) n cap) n (xs.set i v) := by
  refine ⟨by rw [List.length_set]; exact h.1, ?_⟩
  rcases h.2 with ⟨h0, _⟩ | ⟨g', cap', cur, hv, hB, hg, h1, h2, h3, h4⟩
  · cases h0
  · cases hv
    refine .inr ⟨g, cap, cur.setIfInBounds i v, rfl, hB, heap_setCell_same _ _ i _ _ _ hg, h1, h2, by simpa using h3, ?_⟩
    rw [← h4, Array.toList_setIfInBounds, List.take_set]

/-- What the reference's calls may turn. -/
structure RF (B b : Nat) (w w' : World) : Prop where
  below : Below B w w'
  keep : ∀ k o, w.heap[k]? = some o → k ≠ b → (∀ cs fz, o ≠ .cells cs 40 fz) → w'.heap[k]? = some o

theorem RF.refl (B b : Nat) (w : World) (_ : B ≤ w.heap.size) : RF B b w w := ⟨⟨rfl, rfl, rfl, Nat.le_refl _, fun _ _ => rfl⟩, fun _ _ h _ _ => h⟩
theorem RF.trans {B b : Nat} {w w' w'' : World} (h : RF B b w w') (k : RF B b w' w'') : RF B b w w'' := ⟨h.below.trans k.below, fun x o hx hn ho => k.keep x o (h.keep x o hx hn ho) hn ho⟩
theorem RF.of_below {B b : Nat} {w w' : World} (h : Below w.heap.size w w') (hB : B ≤ w.heap.size) : RF B b w w' := ⟨h.mono hB, fun k _ hk _ _ => (h.block k (Array.getElem?_eq_some_iff.1 hk).1).trans hk⟩
theorem RF.drew {B b : Nat} {w w' : World} (h : RF B b w w') : RF B b w w'.drew := ⟨h.below.drew, h.keep⟩
theorem RF.drewN {B b : Nat} {w w' : World} (h : RF B b w w') (n : Nat) : RF B b w (w'.drewN n) := ⟨⟨h.below.os, h.below.tape, h.below.output, h.below.size, h.below.block⟩, h.keep⟩

theorem RF.set {B b : Nat} {w w' : World} (h : RF B b w w') {p : Addr} (hB : B ≤ p.block) (hp : p.block = b ∨ ∃ cs fz, w'.heap[p.block]? = some (.cells cs 40 fz)) (u : Value) : RF B b w (w'.setCell p u) := by
  refine ⟨h.below.setCell hB u, fun k o hk hn ho => ?_⟩
  have h1 := h.keep k o hk hn ho
  have hne : k ≠ p.block := by
    rcases hp with hp | ⟨cs, fz, hp⟩
    · rw [hp]; exact hn
    · intro e
      rw [e, hp] at h1
      exact ho cs fz (Option.some.inj h1).symm
  exact (Below.heap_setCell _ _ _ _ hne).trans h1

/-- The reference's quota lies in block b. -/
def RAt (w : World) (B b : Nat) (R : RQ) : Prop :=
  ∃ v, w.heap[b]? = some (.cells #[.int .u64 (R.rate : Int), .int .u64 (R.most : Int), .int .u64 (R.now : Int), v] 38 (0, 0)) ∧ B ≤ b ∧ w.ownsRow B 40 2 v R.cs.length (ccells R.cs)

def RQ.ok (R : RQ) : Prop := R.rate ≤ 4294967296 ∧ R.most ≤ 4294967296 ∧ R.now ≤ 18446744073709551615 ∧ ∀ p ∈ R.cs, p.2 ≤ R.most

def RQ.more (R : RQ) (now : Nat) : Nat := if R.rate = 0 then 0 else if now - R.now ≤ R.most / R.rate then (now - R.now) * R.rate else R.most

def RQ.up (R : RQ) (now : Nat) (p : ByteArray × Nat) : ByteArray × Nat := (p.1, min R.most (p.2 + R.more now))

def RQ.tick (R : RQ) (now : Nat) : RQ := if now ≤ R.now then R else { R with now := now, cs := R.cs.map (R.up now) }

theorem RQ.more_le (R : RQ) (now : Nat) : R.more now ≤ R.most := by
  unfold RQ.more
  split
  · exact Nat.zero_le _
  · split
    · rename_i h1 h2
      exact Nat.le_trans (Nat.mul_le_mul_right _ h2) (Nat.div_mul_le_self _ _)
    · exact Nat.le_refl _

theorem RQ.tick_ok {R : RQ} (h : R.ok) {now : Nat} (hn : now ≤ 18446744073709551615) : (R.tick now).ok := by
  obtain ⟨h1, h2, h3, h4⟩ := h
  unfold RQ.tick
  split
  · exact ⟨h1, h2, h3, h4⟩
  · refine ⟨h1, h2, hn, fun p hp => ?_⟩
    obtain ⟨q, hq, rfl⟩ := List.mem_map.1 hp
    exact Nat.min_le_left _ _

/-- The row, in part brought to the tick. -/
def TickRel (w : World) (B b now n : Nat) (R : RQ) (v i : Value) (wr : World) : Prop :=
  ∃ (k : Nat) (l : List (ByteArray × Nat)), i = .int .i64 (k : Int) ∧ k ≤ n ∧ l.length = n ∧ (∀ j, j < n → l[j]? = if j < k then (R.cs[j]?).map (R.up now) else R.cs[j]?) ∧
    wr.heap[b]? = some (.cells #[.int .u64 (R.rate : Int), .int .u64 (R.most : Int), .int .u64 (now : Int), v] 38 (0, 0)) ∧ wr.ownsRow B 40 2 v n (ccells l) ∧ RF B b w wr
end Go.Proofs.Ytionejpiieemeaa
