import Derived.Test.YtcglkdmfbnpniaaBase
namespace Go.Proofs.Ytcglkdmfbnpniaa
open Go Go.RowKit


/-- a number's four bytes, the highest first -/
def be4 (N : Nat) : List UInt8 := [UInt8.ofNat (N / 16777216), UInt8.ofNat (N / 65536), UInt8.ofNat (N / 256), UInt8.ofNat N]

/-- the number of the first four bytes -/
def num4 (l : List UInt8) : Nat := (((l.getD 0 0).toNat * 256 + (l.getD 1 0).toNat) * 256 + (l.getD 2 0).toNat) * 256 + (l.getD 3 0).toNat

theorem num4_lt (l : List UInt8) : num4 l < 4294967296 := by
  have h0 := (l.getD 0 0).toNat_lt
  have h1 := (l.getD 1 0).toNat_lt
  have h2 := (l.getD 2 0).toNat_lt
  have h3 := (l.getD 3 0).toNat_lt
  unfold num4
  omega

theorem num4_be4 {N : Nat} (h : N < 4294967296) (r : List UInt8) : num4 (be4 N ++ r) = N := by
  simp [num4, be4]
  omega

end Go.Proofs.Ytcglkdmfbnpniaa
