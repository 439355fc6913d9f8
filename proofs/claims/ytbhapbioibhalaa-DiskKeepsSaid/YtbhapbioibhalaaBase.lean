/- What several layers' walks share. -/
import Derived.Test.YtbhapbioibhalaaRows
import Derived.Test.YtbhapbioibhalaaKit
import Derived.Lib.Builder
namespace Go.Proofs.Ytbhapbioibhalaa
open Go.RowKit

theorem info5 : (Try.prog.info? 5).map (fun i => (i.zero, i.size, i.bytes)) = some (some (.int .u8 0), 1, 1) := by kernel_rfl

/-- A slice of bytes is handed back that reads l and is new, or has no spare room; nothing old is changed. -/
def GivesBytes (w : World) (l : List UInt8) (e : Ending) (w' : World) : Prop :=
  ∃ v', e = .returned v' ∧ Fresh w.heap.size w' 5 1 v' l.length (bcells l) ∧ Below w.heap.size w w'

def SaysTrue (w : World) (e : Ending) (w' : World) : Prop := e = .returned (.bool true) ∧ Below w.heap.size w w'

/-- A truth is told; nothing old is changed. -/
def GivesBool (w : World) (b : Bool) (e : Ending) (w' : World) : Prop := e = .returned (.bool b) ∧ Below w.heap.size w w'

/-- A number of 64 bits is told; nothing old is changed. -/
def GivesU64 (w : World) (n : Nat) (e : Ending) (w' : World) : Prop := e = .returned (.int .u64 (n : Int)) ∧ Below w.heap.size w w'

/-- The strings l, as cells. -/
def scells (l : List ByteArray) : List Value := l.map Value.string

theorem Reads.scell {w : World} {a : Option Addr} {n cap : Nat} {l : List ByteArray} (h : Reads w 1 (.slice a n cap) n (scells l)) (j : Nat) (hj : j < n) :
    ∃ b off s, a = some ⟨b, off, none⟩ ∧ l[j]? = some s ∧ b < w.heap.size ∧ w.cell? ⟨b, off + j, none⟩ = some (.string s) := by
  obtain ⟨hl, a', cap', hv, _, _, h3⟩ := h
  cases hv
  have hlen : j < l.length := by simp [scells] at hl; omega
  obtain ⟨b, off, rfl, hb, hc⟩ := h3 j (.string l[j]) (by simp [scells, hlen])
  exact ⟨b, off, l[j], rfl, List.getElem?_eq_getElem hlen, hb, hc⟩

theorem Reads.bcell {w : World} {b off n cap : Nat} {l : List UInt8} (h : Reads w 1 (.slice (some ⟨b, off, none⟩) n cap) n (bcells l)) (k : Nat) (hk : k < n) :
    w.cell? ⟨b, off + k, none⟩ = some (.int .u8 ((l.getD k 0).toNat : Int)) := by
  obtain ⟨b', off', cap', hv, _, _, _, hc⟩ := h.head (by omega)
  cases hv
  exact hc k hk

/-- A row of no cells that has just been laid. -/
theorem fresh_empty (w : World) (e : TypeId) (size : Nat) : Fresh w.heap.size (w.alloc (.cells #[] e)) e size (.slice (some ⟨w.heap.size, 0, none⟩) 0 0) 0 [] :=
  ⟨⟨by simp, _, 0, rfl, Nat.le_refl _, Nat.zero_le _, fun j u h => by simp at h⟩, .inl ⟨_, rfl⟩⟩

theorem entryBox {w w1 : World} {cs : Array Value} {t : TypeId} (b : Below (w.heap.size + 1) (w.alloc (.cells cs t)) w1) :
    (∀ j, w1.cell? ⟨w.heap.size, j, none⟩ = cs[j]?) ∧ (∀ j, w1.frozen? ⟨w.heap.size, j, none⟩ = false) := by
  have h : w1.heap[w.heap.size]? = some (.cells cs t (0, 0)) := (b.block _ (Nat.lt_succ_self _)).trans (heap_alloc_new w _)
  exact ⟨fun j => Lib.cell_of_heap h j, fun j => Lib.frozen_of_heap h j⟩
end Go.Proofs.Ytbhapbioibhalaa
