import Derived.Test.YtepibaoniafolaaDoorTokenChoose
namespace Go.Proofs.YtepibaoniafolaaDoor
open Go Go.RowKit

theorem digOf_sgn (v : Nat) (h : v < 32) : digOf (sgn v) = v := by
  unfold digOf
  rw [dig_sgn ⟨v, h⟩]
  rfl

theorem digsT_text (l : List UInt8) : digsT (textL l) = digs l := by
  unfold digsT textL signsTo digs
  rw [List.map_map]
  exact List.map_congr_left fun i _ => digOf_sgn _ (bitsN_lt (byteBit_le l) _ _)

theorem signs_text (l : List UInt8) : (textL l).all isSign = true := by
  rw [List.all_eq_true]
  intro c hc
  unfold textL signsTo at hc
  obtain ⟨i, _, rfl⟩ := List.mem_map.1 hc
  unfold isSign
  rw [dig_sgn ⟨_, bitsN_lt (byteBit_le l) (5 * i) 5⟩]
  exact decide_eq_true (Int.natCast_nonneg _)

theorem goodT_text {l : List UInt8} (h : l.length = 16) : goodT (textL l) = true := by
  unfold goodT
  rw [signs_text, digsT_text, rest_digs h, decide_eq_true (show (textL l).length = 26 from signsTo_length l 26)]
  rfl

theorem numB_be4 (N : Nat) (h : N < 4294967296) : numB (be4 N) = N := by
  simp only [numB, be4, List.foldl_cons, List.foldl_nil, UInt8.toNat_ofNat']
  omega

theorem numB_be8 (N : Nat) (h : N ≤ 18446744073709551615) : numB (be8 N) = N := by
  simp only [numB, be8, be4, List.cons_append, List.nil_append, List.foldl_cons, List.foldl_nil, UInt8.toNat_ofNat']
  omega

/-- What is made is told. -/
theorem readR_text (id rev : Nat) (hid : id < 4294967296) (hrev : rev ≤ 18446744073709551615) : readR (textL (tokL id rev)) = (id, rev, 0) := by
  have e1 : (tokL id rev).take 4 = be4 id := rfl
  have e2 : ((tokL id rev).drop 4).take 8 = be8 rev := rfl
  unfold readR
  rw [if_pos (goodT_text (tokL_length id rev)), digsT_text, bytesD_digs (tokL_length id rev), e1, e2, numB_be4 id hid, numB_be8 rev hrev, if_pos rfl]

theorem textL_size (l : List UInt8) : (⟨(textL l).toArray⟩ : ByteArray).size = 26 := by
  show (textL l).toArray.size = 26
  rw [List.size_toArray]
  exact signsTo_length l 26
end Go.Proofs.YtepibaoniafolaaDoor
