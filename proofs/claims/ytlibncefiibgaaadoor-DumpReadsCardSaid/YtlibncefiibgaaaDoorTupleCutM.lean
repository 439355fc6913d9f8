/- A text cut at a byte: what its parts are. -/
import Derived.Test.YtlibncefiibgaaaDoorTupleCheck
import Derived.Laws.DeepStrings4
import Derived.Lib.IndexLaws
import Derived.Lib.IndexBytes
import Derived.Lib.Split
namespace Go.Proofs.YtlibncefiibgaaaDoor
open Go Go.RowKit

def cutAL (l : List UInt8) (c : UInt8) : List UInt8 := l.takeWhile (· != c)
def cutRL (l : List UInt8) (c : UInt8) : List UInt8 := (l.dropWhile (· != c)).drop 1
def cutA (s : ByteArray) (c : UInt8) : ByteArray := ⟨(cutAL s.data.toList c).toArray⟩
def cutR (s : ByteArray) (c : UInt8) : ByteArray := ⟨(cutRL s.data.toList c).toArray⟩

theorem cut_hit : ∀ {l : List UInt8} {c : UInt8} {i : Nat}, l[i]? = some c → (∀ k, k < i → l[k]? ≠ some c) → l.takeWhile (· != c) = l.take i ∧ l.dropWhile (· != c) = l.drop i
  | [], c, i, h, _ => by simp at h
  | b :: l, c, 0, h, _ => by
    simp at h; subst h; simp
  | b :: l, c, i + 1, h, hb => by
    have hbc : b ≠ c := by
      have := hb 0 (Nat.succ_pos _)
      simpa using this
    have h' : l[i]? = some c := by simpa using h
    have ih := cut_hit (l := l) (c := c) (i := i) h' (fun k hk => by have := hb (k + 1) (Nat.succ_lt_succ hk); simpa using this)
    have hbc' : (b != c) = true := by simpa using hbc
    rw [List.takeWhile_cons, List.dropWhile_cons, hbc']
    simp [ih.1, ih.2]

theorem cut_miss {l : List UInt8} {c : UInt8} (h : ∀ k : Nat, l[k]? ≠ some c) : l.takeWhile (· != c) = l ∧ l.dropWhile (· != c) = [] := by
  induction l with
  | nil => simp
  | cons b l ih =>
    have hbc : b ≠ c := by simpa using h 0
    have hbc' : (b != c) = true := by simpa using hbc
    have := ih (fun k => by simpa using h (k + 1))
    rw [List.takeWhile_cons, List.dropWhile_cons, hbc']
    simp [this.1, this.2]

theorem below_drewN (w : World) (n : Nat) : Below w.heap.size w (w.drewN n) := ⟨rfl, rfl, rfl, Nat.le_refl _, fun _ _ => rfl⟩

def CutPost (w : World) (s : ByteArray) (c : UInt8) (e : Ending) (w' : World) : Prop :=
  ∃ b, e = .returned (.tuple #[.string (cutA s c), .string (cutR s c), .bool b]) ∧ Below w.heap.size w w'

theorem mk_data (s : ByteArray) : (⟨s.data.toList.toArray⟩ : ByteArray) = s := rfl

end Go.Proofs.YtlibncefiibgaaaDoor
