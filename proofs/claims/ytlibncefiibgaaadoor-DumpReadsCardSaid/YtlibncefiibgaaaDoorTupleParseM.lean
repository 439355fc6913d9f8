import Derived.Test.YtlibncefiibgaaaDoorTupleCutM
namespace Go.Proofs.YtlibncefiibgaaaDoor
open Go Go.RowKit

def mark : Nat → UInt8
  | 0 => 58
  | 1 => 35
  | 2 => 64
  | 3 => 58
  | _ => 35

def restAt (s : ByteArray) : Nat → ByteArray
  | 0 => s
  | k + 1 => cutR (restAt s k) (mark k)

def partAt (s : ByteArray) (k : Nat) : ByteArray := cutA (restAt s k) (mark k)

theorem size_toArray (l : List UInt8) : (⟨l.toArray⟩ : ByteArray).size = l.length := rfl
theorem size_data (s : ByteArray) : s.data.toList.length = s.size := Array.length_toList

theorem cutA_size (s : ByteArray) (c : UInt8) : (cutA s c).size ≤ s.size := by
  unfold cutA cutAL
  rw [size_toArray, ← size_data s]
  exact (List.takeWhile_sublist _).length_le

theorem cutR_size (s : ByteArray) (c : UInt8) : (cutR s c).size ≤ s.size := by
  unfold cutR cutRL
  rw [size_toArray, ← size_data s]
  exact ((List.drop_sublist _ _).trans (List.dropWhile_sublist _)).length_le

def Six.none : Six := ⟨⟨#[]⟩, ⟨#[]⟩, ⟨#[]⟩, ⟨#[]⟩, ⟨#[]⟩, ⟨#[]⟩⟩

theorem restAt_size (s : ByteArray) : ∀ k, (restAt s k).size ≤ s.size
  | 0 => Nat.le_refl _
  | k + 1 => Nat.le_trans (cutR_size _ _) (restAt_size s k)

theorem partAt_size (s : ByteArray) (k : Nat) : (partAt s k).size ≤ s.size := Nat.le_trans (cutA_size _ _) (restAt_size s k)

def arrAt (s : ByteArray) : Nat → Array Value
  | 0 => #[.string ⟨#[]⟩, .string ⟨#[]⟩, .string ⟨#[]⟩, .string ⟨#[]⟩, .string ⟨#[]⟩, .string ⟨#[]⟩]
  | 1 => #[.string (partAt s 0), .string ⟨#[]⟩, .string ⟨#[]⟩, .string ⟨#[]⟩, .string ⟨#[]⟩, .string ⟨#[]⟩]
  | 2 => #[.string (partAt s 0), .string (partAt s 1), .string ⟨#[]⟩, .string ⟨#[]⟩, .string ⟨#[]⟩, .string ⟨#[]⟩]
  | 3 => #[.string (partAt s 0), .string (partAt s 1), .string (partAt s 2), .string ⟨#[]⟩, .string ⟨#[]⟩, .string ⟨#[]⟩]
  | 4 => #[.string (partAt s 0), .string (partAt s 1), .string (partAt s 2), .string (partAt s 3), .string ⟨#[]⟩, .string ⟨#[]⟩]
  | _ => #[.string (partAt s 0), .string (partAt s 1), .string (partAt s 2), .string (partAt s 3), .string (partAt s 4), .string ⟨#[]⟩]

end Go.Proofs.YtlibncefiibgaaaDoor
