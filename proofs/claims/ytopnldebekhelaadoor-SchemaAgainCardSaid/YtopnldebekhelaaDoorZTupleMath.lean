/- Names, tuples' texts, as lists of bytes. -/
import Derived.Test.YtopnldebekhelaaDoorMga
namespace Go.Proofs.YtopnldebekhelaaDoor
open Go Go.RowKit

def okB (c : UInt8) : Bool := decide (97 ≤ c.toNat ∧ c.toNat ≤ 122) || decide (48 ≤ c.toNat ∧ c.toNat ≤ 57) || decide (c.toNat = 95) || decide (c.toNat = 45)

def nameL (l : List UInt8) : Bool := l.all okB && decide (1 ≤ l.length) && decide (l.length ≤ 32)

/-- The ways of a byte of a name, or of none. -/
theorem okB_ways (c : UInt8) :
    (okB c = true ∧ ((97 ≤ c.toNat ∧ c.toNat ≤ 122) ∨ (48 ≤ c.toNat ∧ c.toNat ≤ 57) ∨ c.toNat = 95 ∨ c.toNat = 45)) ∨
    (okB c = false ∧ ((c.toNat < 48 ∧ c.toNat ≠ 45) ∨ (57 < c.toNat ∧ c.toNat < 97 ∧ c.toNat ≠ 95) ∨ 122 < c.toNat)) := by
  cases h : okB c with
  | true =>
    left
    simp [okB] at h
    refine ⟨rfl, ?_⟩
    omega
  | false =>
    right
    simp [okB] at h
    refine ⟨rfl, ?_⟩
    omega

/-- The six parts of a tuple. -/
structure Six where
  (a b c d e f : ByteArray)

def Six.val (t : Six) : Value := .agg #[.string t.a, .string t.b, .string t.c, .string t.d, .string t.e, .string t.f]

def nameB (s : ByteArray) : Bool := nameL s.data.toList

def Six.ok (t : Six) : Bool := nameB t.a && nameB t.b && nameB t.c && nameB t.d && nameB t.e && (decide (t.f.size = 0) || nameB t.f)

end Go.Proofs.YtopnldebekhelaaDoor
