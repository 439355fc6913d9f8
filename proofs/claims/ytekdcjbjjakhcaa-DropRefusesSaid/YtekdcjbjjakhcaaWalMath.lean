import Derived.Test.YtekdcjbjjakhcaaAppendRows
import Derived.Test.YtekdcjbjjakhcaaGives
namespace Go.Proofs.Ytekdcjbjjakhcaa
open Go Go.RowKit

structure Ent where
  key : ByteArray
  rev : Nat
  del : Bool

def ecell (x : Ent) : List Value := [.string x.key, .int .u64 (x.rev : Int), .bool x.del]
def ecells (l : List Ent) : List Value := l.flatMap ecell
theorem ecell_length (x : Ent) : (ecell x).length = 3 := rfl

def entOk (rev : Nat) (x : Ent) : Bool := decide (x.rev = rev) && decide (x.key.size ≤ 65536)
def sizeOk (rev n : Nat) : Bool := decide (1 ≤ rev) && (decide (1 ≤ n) && decide (n ≤ 256))
def rightB (rev : Nat) (l : List Ent) : Bool := l.all (entOk rev) && sizeOk rev l.length

theorem all_bad {rev : Nat} {l : List Ent} {k : Nat} {x : Ent} (h : l[k]? = some x) (hx : entOk rev x = false) : rightB rev l = false := by
  unfold rightB
  have : l.all (entOk rev) = false := by
    rw [List.all_eq_false]
    exact ⟨x, List.mem_of_getElem? h, by rw [hx]; decide⟩
  rw [this]
  rfl

theorem all_good {rev : Nat} {l : List Ent} {k : Nat} {x : Ent} (h : l[k]? = some x) (hx : entOk rev x = true) (ha : (l.take k).all (entOk rev) = true) : (l.take (k + 1)).all (entOk rev) = true := by
  rw [List.take_add_one, List.all_append, ha, h]
  simp [hx]

/-- The cells of the k-th entry. -/
theorem ent_cells {w : World} {a : Option Addr} {n cap : Nat} {l : List Ent} (h : Reads w 3 (.slice a n cap) n (ecells l)) {k : Nat} {x : Ent} (hx : l[k]? = some x) :
    ∃ g off, a = some ⟨g, off, none⟩ ∧ g < w.heap.size ∧ w.cell? ⟨g, off + k * 3, none⟩ = some (.string x.key) ∧ w.cell? ⟨g, off + k * 3 + 1, none⟩ = some (.int .u64 (x.rev : Int)) ∧ w.cell? ⟨g, off + k * 3 + 2, none⟩ = some (.bool x.del) := by
  have hc : ∀ j u, (ecell x)[j]? = some u → ∃ b off, a = some ⟨b, off, none⟩ ∧ b < w.heap.size ∧ w.cell? ⟨b, off + k * 3 + j, none⟩ = some u := by
    intro j u hj
    have hj3 : j < 3 := (List.getElem?_eq_some_iff.1 hj).1
    obtain ⟨b, off, ha, hlb, hc⟩ := h.at (j := k * 3 + j) (u := u) (by
      unfold ecells
      rw [flat_cell ecell 3 ecell_length l k x hx j hj3]
      exact hj)
    exact ⟨b, off, ha, hlb, by rw [Nat.add_assoc]; exact hc⟩
  obtain ⟨g, off, rfl, hg, c0⟩ := hc 0 _ rfl
  obtain ⟨g1, off1, h1, _, c1⟩ := hc 1 _ rfl
  cases h1
  obtain ⟨g2, off2, h2, _, c2⟩ := hc 2 _ rfl
  cases h2
  exact ⟨g, off, rfl, hg, c0, c1, c2⟩

theorem below_reads {B s n : Nat} {w w' : World} {v : Value} {xs : List Value} (h : Reads w s v n xs) (hb : Below B w w') (hB : w.heap.size ≤ B) : Reads w' s v n xs :=
  h.below' (hb.mono hB)

end Go.Proofs.Ytekdcjbjjakhcaa
