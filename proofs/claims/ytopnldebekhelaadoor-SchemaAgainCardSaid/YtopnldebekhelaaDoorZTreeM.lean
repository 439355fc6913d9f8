/- Trees, and trees in memory. -/
import Derived.Test.YtopnldebekhelaaDoorMga
import Derived.Test.YtopnldebekhelaaDoorZWireM
namespace Go.Proofs.YtopnldebekhelaaDoor
open Go Go.RowKit

inductive Tr (α : Type) where
  | mk (head : α) (parts : List (Tr α))

def Tr.head {α : Type} : Tr α → α
  | .mk h _ => h

def Tr.parts {α : Type} : Tr α → List (Tr α)
  | .mk _ ps => ps

mutual
def Tr.depth {α : Type} : Tr α → Nat
  | .mk _ ps => Tr.depthL ps + 1
def Tr.depthL {α : Type} : List (Tr α) → Nat
  | [] => 0
  | p :: ps => max p.depth (Tr.depthL ps)
end

mutual
def Tr.bytes {α : Type} (f : α → List UInt8) : Tr α → List UInt8
  | .mk h ps => f h ++ (enc ps.length ++ Tr.bytesL f ps)
def Tr.bytesL {α : Type} (f : α → List UInt8) : List (Tr α) → List UInt8
  | [] => []
  | p :: ps => p.bytes f ++ Tr.bytesL f ps
end

theorem Tr.bytesL_flat {α : Type} (f : α → List UInt8) : ∀ ps : List (Tr α), Tr.bytesL f ps = ps.flatMap (Tr.bytes f)
  | [] => by rw [Tr.bytesL]; rfl
  | p :: ps => by rw [Tr.bytesL, Tr.bytesL_flat f ps, List.flatMap_cons]

theorem Tr.bytes_mk {α : Type} (f : α → List UInt8) (h : α) (ps : List (Tr α)) : (Tr.mk h ps).bytes f = f h ++ listB (Tr.bytes f) ps := by
  rw [Tr.bytes, Tr.bytesL_flat]
  rfl

theorem Tr.depth_mk {α : Type} (h : α) (ps : List (Tr α)) : (Tr.mk h ps).depth = Tr.depthL ps + 1 := by rw [Tr.depth]

theorem Tr.depthL_le {α : Type} {n : Nat} : ∀ (ps : List (Tr α)), Tr.depthL ps ≤ n ↔ ∀ p ∈ ps, p.depth ≤ n
  | [] => by rw [Tr.depthL]; simp
  | p :: ps => by
    rw [Tr.depthL, Nat.max_le, Tr.depthL_le ps]
    simp

mutual
/-- All heads are good. -/
def Tr.all {α : Type} (q : α → Prop) : Tr α → Prop
  | .mk h ps => q h ∧ Tr.allL q ps
def Tr.allL {α : Type} (q : α → Prop) : List (Tr α) → Prop
  | [] => True
  | p :: ps => p.all q ∧ Tr.allL q ps
end

theorem Tr.all_mk {α : Type} (q : α → Prop) (h : α) (ps : List (Tr α)) : (Tr.mk h ps).all q ↔ q h ∧ ∀ p ∈ ps, p.all q := by
  rw [Tr.all]
  have : ∀ ps : List (Tr α), Tr.allL q ps ↔ ∀ p ∈ ps, p.all q := by
    intro ps
    induction ps with
    | nil => rw [Tr.allL]; simp
    | cons p ps ih => rw [Tr.allL, ih]; simp
  rw [this]

/-- The blocks that may count stay. -/
structure Keeps (ok : Nat → Prop) (w w' : World) : Prop where
  size : w.heap.size ≤ w'.heap.size
  block : ∀ b, ok b → b < w.heap.size → w'.heap[b]? = w.heap[b]?

theorem Keeps.refl (ok : Nat → Prop) (w : World) : Keeps ok w w := ⟨Nat.le_refl _, fun _ _ _ => rfl⟩
theorem Keeps.trans {ok : Nat → Prop} {a b c : World} (h : Keeps ok a b) (k : Keeps ok b c) : Keeps ok a c :=
  ⟨Nat.le_trans h.size k.size, fun x hx hl => (k.block x hx (Nat.lt_of_lt_of_le hl h.size)).trans (h.block x hx hl)⟩
theorem Keeps.mono {ok ok' : Nat → Prop} {a b : World} (h : Keeps ok a b) (hk : ∀ x, x < a.heap.size → ok' x → ok x) : Keeps ok' a b := ⟨h.size, fun x hx hl => h.block x (hk x hl hx) hl⟩
theorem Keeps.of_below {B : Nat} {a b : World} (h : Below B a b) : Keeps (· < B) a b := ⟨h.size, fun x hx _ => h.block x hx⟩
theorem Keeps.of_below_size {ok : Nat → Prop} {a b : World} (h : Below a.heap.size a b) : Keeps ok a b := ⟨h.size, fun x _ hl => h.block x hl⟩

theorem cell_same {w w' : World} {b : Nat} (h : w'.heap[b]? = w.heap[b]?) (j : Nat) : w'.cell? ⟨b, j, none⟩ = w.cell? ⟨b, j, none⟩ := by
  unfold World.cell?
  simp only [h]

/-- Rows whose blocks count. -/
def RowsAt (ok : Nat → Prop) (w : World) (v : Value) (n : Nat) (xs : List Value) : Prop :=
  ∃ a cap, v = .slice a n cap ∧ n ≤ cap ∧ cap ≤ maxLen ∧ ∀ j u, xs[j]? = some u → ∃ b off, a = some ⟨b, off, none⟩ ∧ ok b ∧ b < w.heap.size ∧ w.cell? ⟨b, off + j, none⟩ = some u

theorem RowsAt.keep {ok : Nat → Prop} {w w' : World} {v : Value} {n : Nat} {xs : List Value} (h : RowsAt ok w v n xs) (k : Keeps ok w w') : RowsAt ok w' v n xs := by
  obtain ⟨a, cap, hv, h1, h2, h3⟩ := h
  refine ⟨a, cap, hv, h1, h2, fun j u hj => ?_⟩
  obtain ⟨b, off, ha, hb, hl, hc⟩ := h3 j u hj
  exact ⟨b, off, ha, hb, Nat.lt_of_lt_of_le hl k.size, (cell_same (k.block b hb hl) _).trans hc⟩

theorem RowsAt.mono {ok ok' : Nat → Prop} {w : World} {v : Value} {n : Nat} {xs : List Value} (h : RowsAt ok w v n xs) (hk : ∀ x, x < w.heap.size → ok x → ok' x) : RowsAt ok' w v n xs := by
  obtain ⟨a, cap, hv, h1, h2, h3⟩ := h
  refine ⟨a, cap, hv, h1, h2, fun j u hj => ?_⟩
  obtain ⟨b, off, ha, hb, hl, hc⟩ := h3 j u hj
  exact ⟨b, off, ha, hk b hl hb, hl, hc⟩

theorem RowsAt.reads {ok : Nat → Prop} {w : World} {v : Value} {n k : Nat} {xs : List Value} (h : RowsAt ok w v n xs) (hl : xs.length = n * k) : Reads w k v n xs := by
  obtain ⟨a, cap, hv, h1, h2, h3⟩ := h
  refine ⟨hl, a, cap, hv, h1, h2, fun j u hj => ?_⟩
  obtain ⟨b, off, ha, _, hb, hc⟩ := h3 j u hj
  exact ⟨b, off, ha, hb, hc⟩

theorem Reads.rowsAt {w : World} {v : Value} {n k : Nat} {xs : List Value} (h : Reads w k v n xs) : RowsAt (· < w.heap.size) w v n xs := by
  obtain ⟨hl, a, cap, hv, h1, h2, h3⟩ := h
  refine ⟨a, cap, hv, h1, h2, fun j u hj => ?_⟩
  obtain ⟨b, off, ha, hb, hc⟩ := h3 j u hj
  exact ⟨b, off, ha, hb, hb, hc⟩

section
variable {α : Type}
mutual
/-- Cells in memory that are a tree's. -/
def TrAt (hd : (Nat → Prop) → World → List Value → α → Prop) (ok : Nat → Prop) (s : Nat) (w : World) : List Value → Tr α → Prop
  | cs, .mk h ps => ∃ hc a cap, cs = hc ++ [.slice a ps.length cap] ∧ hc.length + 1 = s ∧ hd ok w hc h ∧ ps.length ≤ cap ∧ cap ≤ maxLen ∧ TrsAt hd ok s w a 0 ps
def TrsAt (hd : (Nat → Prop) → World → List Value → α → Prop) (ok : Nat → Prop) (s : Nat) (w : World) : Option Addr → Nat → List (Tr α) → Prop
  | _, _, [] => True
  | a, i, p :: ps => (∃ b off cs, a = some ⟨b, off, none⟩ ∧ ok b ∧ b < w.heap.size ∧ cs.length = s ∧ (∀ (j : Nat) (u : Value), cs[j]? = some u → w.cell? ⟨b, off + i * s + j, none⟩ = some u) ∧ TrAt hd ok s w cs p) ∧ TrsAt hd ok s w a (i + 1) ps
end

theorem TrsAt.get {hd : (Nat → Prop) → World → List Value → α → Prop} {ok : Nat → Prop} {s : Nat} {w : World} {a : Option Addr} : ∀ {ps : List (Tr α)} {i0 : Nat}, TrsAt hd ok s w a i0 ps → ∀ {i : Nat} {p : Tr α}, ps[i]? = some p →
    ∃ b off cs, a = some ⟨b, off, none⟩ ∧ ok b ∧ b < w.heap.size ∧ cs.length = s ∧ (∀ (j : Nat) (u : Value), cs[j]? = some u → w.cell? ⟨b, off + (i0 + i) * s + j, none⟩ = some u) ∧ TrAt hd ok s w cs p
  | [], _, _, _, _, hi => by simp at hi
  | q :: qs, i0, h, i, p, hi => by
    rw [TrsAt] at h
    cases i with
    | zero => simp at hi; subst hi; exact h.1
    | succ i =>
      have := TrsAt.get h.2 (i := i) (p := p) (by simpa using hi)
      rwa [show i0 + 1 + i = i0 + (i + 1) by omega] at this

theorem TrsAt.of_all {hd : (Nat → Prop) → World → List Value → α → Prop} {ok : Nat → Prop} {s : Nat} {w : World} {a : Option Addr} : ∀ (ps : List (Tr α)) (i0 : Nat), (∀ (i : Nat) (p : Tr α), ps[i]? = some p →
    ∃ b off cs, a = some ⟨b, off, none⟩ ∧ ok b ∧ b < w.heap.size ∧ cs.length = s ∧ (∀ (j : Nat) (u : Value), cs[j]? = some u → w.cell? ⟨b, off + (i0 + i) * s + j, none⟩ = some u) ∧ TrAt hd ok s w cs p) → TrsAt hd ok s w a i0 ps
  | [], _, _ => by rw [TrsAt]; trivial
  | q :: qs, i0, h => by
    rw [TrsAt]
    refine ⟨h 0 q rfl, TrsAt.of_all qs (i0 + 1) fun i p hi => ?_⟩
    have := h (i + 1) p (by simpa using hi)
    rwa [show i0 + (i + 1) = i0 + 1 + i by omega] at this

mutual
theorem TrAt.keep {hd : (Nat → Prop) → World → List Value → α → Prop} {ok : Nat → Prop} {s : Nat} {w w' : World} (hk : Keeps ok w w') (hhd : ∀ hc h, hd ok w hc h → hd ok w' hc h) : ∀ {cs : List Value} (t : Tr α), TrAt hd ok s w cs t → TrAt hd ok s w' cs t
  | cs, .mk h ps, ht => by
    rw [TrAt] at ht ⊢
    obtain ⟨hc, a, cap, h1, h2, h3, h4, h5, h6⟩ := ht
    exact ⟨hc, a, cap, h1, h2, hhd _ _ h3, h4, h5, TrsAt.keep hk hhd ps h6⟩
theorem TrsAt.keep {hd : (Nat → Prop) → World → List Value → α → Prop} {ok : Nat → Prop} {s : Nat} {w w' : World} (hk : Keeps ok w w') (hhd : ∀ hc h, hd ok w hc h → hd ok w' hc h) {a : Option Addr} : ∀ {i : Nat} (ps : List (Tr α)), TrsAt hd ok s w a i ps → TrsAt hd ok s w' a i ps
  | _, [], _ => by rw [TrsAt]; trivial
  | i, p :: ps, h => by
    rw [TrsAt] at h ⊢
    obtain ⟨⟨b, off, cs, h1, h2, h3, h4, h5, h6⟩, h7⟩ := h
    exact ⟨⟨b, off, cs, h1, h2, Nat.lt_of_lt_of_le h3 hk.size, h4, fun j u hj => (cell_same (hk.block b h2 h3) _).trans (h5 j u hj), TrAt.keep hk hhd p h6⟩, TrsAt.keep hk hhd ps h7⟩
end

mutual
theorem TrAt.mono {hd : (Nat → Prop) → World → List Value → α → Prop} {ok ok' : Nat → Prop} {s : Nat} {w : World} (hk : ∀ x, x < w.heap.size → ok x → ok' x) (hhd : ∀ hc h, hd ok w hc h → hd ok' w hc h) : ∀ {cs : List Value} (t : Tr α), TrAt hd ok s w cs t → TrAt hd ok' s w cs t
  | cs, .mk h ps, ht => by
    rw [TrAt] at ht ⊢
    obtain ⟨hc, a, cap, h1, h2, h3, h4, h5, h6⟩ := ht
    exact ⟨hc, a, cap, h1, h2, hhd _ _ h3, h4, h5, TrsAt.mono hk hhd ps h6⟩
theorem TrsAt.mono {hd : (Nat → Prop) → World → List Value → α → Prop} {ok ok' : Nat → Prop} {s : Nat} {w : World} (hk : ∀ x, x < w.heap.size → ok x → ok' x) (hhd : ∀ hc h, hd ok w hc h → hd ok' w hc h) {a : Option Addr} : ∀ {i : Nat} (ps : List (Tr α)), TrsAt hd ok s w a i ps → TrsAt hd ok' s w a i ps
  | _, [], _ => by rw [TrsAt]; trivial
  | i, p :: ps, h => by
    rw [TrsAt] at h ⊢
    obtain ⟨⟨b, off, cs, h1, h2, h3, h4, h5, h6⟩, h7⟩ := h
    exact ⟨⟨b, off, cs, h1, hk b h3 h2, h3, h4, h5, TrAt.mono hk hhd p h6⟩, TrsAt.mono hk hhd ps h7⟩
end
end
end Go.Proofs.YtopnldebekhelaaDoor
