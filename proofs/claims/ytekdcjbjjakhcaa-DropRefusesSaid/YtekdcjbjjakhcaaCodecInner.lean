import Derived.Test.YtekdcjbjjakhcaaBase
import Derived.Test.YtekdcjbjjakhcaaCodecMath
namespace Go.Proofs.Ytekdcjbjjakhcaa
open Go.RowKit

theorem not_u64 (a : Nat) (ha : a < 18446744073709551616) : bits BinOp.xor .u64 IntKind.u64.max (a : Int) = ((18446744073709551615 - a : Nat) : Int) := by
  show IntKind.u64.wrap ((BitVec.ofInt 64 (IntKind.u64.max) ^^^ BitVec.ofInt 64 (a : Int)).toNat : Int) = _
  have h1 : BitVec.ofInt 64 (IntKind.u64.max) = BitVec.allOnes 64 := by decide
  rw [h1, BitVec.allOnes_xor, BitVec.toNat_not, ofInt_u64 a ha, IntKind.wrap_u64]
  omega

theorem pow256 (k : Nat) : (256 : Nat) ^ k = 2 ^ (8 * k) := by rw [Nat.pow_mul]

theorem revByte_go (rev k : Nat) (hr : rev < 18446744073709551616) (hk : k < 8) :
    bits BinOp.xor .u64 IntKind.u64.max (rev : Int) / 2 ^ (56 - 8 * k) % 256 = ((revByte rev (7 - k)).toNat : Int) := by
  rw [not_u64 rev hr, ← revByte_up rev (7 - k) hr (by omega), pow256, show 8 * (7 - k) = 56 - 8 * k by omega]
  simp

/-- A string is handed back; nothing old is changed. -/
def GivesText (w : World) (l : List UInt8) (e : Ending) (w' : World) : Prop := e = .returned (.string ⟨l.toArray⟩) ∧ Below w.heap.size w w'

def box (key : ByteArray) (rev : Nat) (del : Bool) : Obj := .cells #[.string key, .int .u64 (rev : Int), .bool del] 48

/-- the first loop: k bytes of the key are written -/
def InnRel1 (w : World) (key : ByteArray) (rev : Nat) (del : Bool) (kb : Nat) (cap : Nat) (v c : Value) (wr : World) : Prop :=
  ∃ k : Nat, c = .int .i64 (k : Int) ∧ k ≤ key.size ∧ Fresh (w.heap.size + 1) wr 5 1 v (esc (key.data.toList.take k)).length (bcells (esc (key.data.toList.take k))) ∧
    Below (w.heap.size + 1) (w.alloc (box key rev del)) wr ∧ Reads wr 1 (.slice (some ⟨kb, 0, none⟩) key.size cap) key.size (bcells key.data.toList) ∧ v.ownBlock ≠ some kb ∧ kb < wr.heap.size

/-- the second loop: k bytes of the revision are written -/
def InnRel2 (w : World) (key : ByteArray) (rev : Nat) (del : Bool) (v c : Value) (wr : World) : Prop :=
  ∃ k : Nat, c = .int .i64 (k : Int) ∧ k ≤ 8 ∧ Fresh (w.heap.size + 1) wr 5 1 v (innTo key.data.toList rev k).length (bcells (innTo key.data.toList rev k)) ∧
    Below (w.heap.size + 1) (w.alloc (box key rev del)) wr

set_option maxRecDepth 100000 in
set_option maxHeartbeats 1000000 in
theorem inner_any (w : World) (key : ByteArray) (rev : Nat) (del : Bool) (hn : key.size ≤ 1000000000) (hR : rev < 18446744073709551616) :
    Calls Try.prog 53 #[.agg #[.string key, .int .u64 rev, .bool del]] w (GivesText w (inner key.data.toList rev del)) := by
  obtain ⟨i0, hi, hz0, hz1, hz2⟩ := info_parts info5
  have HR := Lib.hid hR
  clear hR
  go_enter Try.func53, Try.ntmps53
  go_wp2_with (at_make; go_must (refine wpList_make_fresh rfl _ _ 82 rfl (w.heap.size + 1) 5 i0 (.int .u8 0) 1 1 Try.underlying82 hi hz0 hz1 hz2 .i64 .i64 _ (key.size + 11) rfl rfl ?_ ?_ ?_ ?_ ?_))
  · omega
  · omega
  · unfold maxLen; omega
  · simp
  intro w1 f1 g1 b1 s1
  have b2 : Below (w.heap.size + 1) (w.alloc (box key rev del)) w1 := b1.mono (by simp)
  have c0 : w1.cell? ⟨w.heap.size, 0, none⟩ = some (.string key) := (b2.cell (p := ⟨w.heap.size, 0, none⟩) (by simp)).trans (World.cell?_alloc_new w _ _ 0)
  go_wp2_with (refine wpList_bytes rfl _ 9 82 5 rfl Try.underlying9 Try.underlying82 Try.underlying5 key rfl ?_ ?_)
  · unfold maxLen; omega
  intro cap w2 r2 g2 b3 s2
  have f2 := f1.grown g2 (.inr (by simp [Value.ownBlock]))
  have b4 := b2.trans (b3.mono (B' := w.heap.size + 1) (by omega))
  have hkb : w1.heap.size ≠ w.heap.size + 1 := by omega
  clear f1 g1 b1 b2 c0 g2 b3
  generalize w1.heap.size = kb at *
  go_wp2
  go_loopw [3, 17] (fun v c wr => InnRel1 w key rev del kb cap v c wr) (fun _ c _ => key.size - (intOf c).toNat)
  case atStart => exact ⟨0, rfl, Nat.zero_le _, f2, b4, r2, by simp [Value.ownBlock]; omega, s2⟩
  case round =>
    obtain ⟨k, rfl, hk, f3, b5, r3, o3, s3⟩ := hrel
    clear f2 b4 r2 s2
    have hl := esc_length (key.data.toList.take k)
    have hkl : (key.data.toList.take k).length ≤ k := List.length_take_le _ _
    have hbs := b5.size
    simp at hbs
    by_cases hlt : k < key.size
    · obtain ⟨b, off, cap', hv, h1, h2, h3, hcell⟩ := r3.head (by omega)
      cases hv
      have c1 := hcell k hlt
      simp only [Nat.zero_add] at c1
      have Hc := Lib.hid hcell
      clear hcell h1 h2
      generalize hc : key.data.toList.getD k 0 = c at c1
      have Hcc := Lib.hid hc
      clear hc
      have hcl := c.toNat_lt
      have htk : key.data.toList.take (k + 1) = key.data.toList.take k ++ [c] := by
        have hlt' : k < key.data.toList.length := by rw [Array.length_toList]; exact hlt
        have hlt2 : k < key.data.size := hlt
        rw [List.take_succ_eq_append_getElem hlt', ← Hcc.out]
        simp [List.getD, Array.getElem?_eq_getElem hlt2]
      have Htk := Lib.hid htk
      clear htk
      by_cases hz : c.toNat = 0
      · have hz' : ((c.toNat : Int) == 0) = true := by simp; omega
        have HZ := Lib.hid hz
        clear hz
        go_wp2_with (at_builtin; go_must (refine wpList_append_one (w0 := wr) rfl _ _ 82 rfl (w.heap.size + 1) 5 i0 (.int .u8 0) 1 Try.underlying82 hi hz0 hz1 hz2 rfl f3 rfl rfl rfl ?_ ?_ hbs ?_))
        · unfold maxLen; omega
        · omega
        intro v1 w4 f4 g4 b6 m4
        rw [bcells_snoc _ c rfl] at f4
        have r4 := r3.grown g4 (.inr (fun e => o3 e.symm))
        have o4 := m4 kb s3 o3
        have s4 : kb < w4.heap.size := Nat.lt_of_lt_of_le s3 g4.size
        have b7 := b5.trans b6
        have hbs4 : w.heap.size + 1 ≤ w4.heap.size := Nat.le_trans hbs g4.size
        clear f3 g4 b6 m4 r3 o3 s3 b5 hbs c1
        go_wp2_with (at_builtin; go_must (refine wpList_append_one (w0 := w4) rfl _ _ 82 rfl (w.heap.size + 1) 5 i0 (.int .u8 0) 1 Try.underlying82 hi hz0 hz1 hz2 rfl f4 rfl rfl rfl ?_ ?_ hbs4 ?_))
        · unfold maxLen; omega
        · omega
        intro v2 w5 f5 g5 b8 m5
        rw [bcells_snoc (z := 255) _ (255 : UInt8) rfl] at f5
        have r5 := r4.grown g5 (.inr (fun e => o4 e.symm))
        have o5 := m5 kb s4 o4
        have s5 : kb < w5.heap.size := Nat.lt_of_lt_of_le s4 g5.size
        have b9 := b7.trans b8
        go_wp2
        refine ⟨⟨k + 1, by go_num, by omega, ?_, b9, r5, o5, s5⟩, by simp [intOf]; omega⟩
        rw [Htk.out, esc_snoc0 _ _ (UInt8.toNat_inj.1 (by simpa using HZ.out))]
        simpa [List.append_assoc] using f5
      · have hz' : ((c.toNat : Int) == 0) = false := by simp; omega
        have HZ := Lib.hid hz
        clear hz
        go_wp2_with (at_builtin; go_must (refine wpList_append_one (w0 := wr) rfl _ _ 82 rfl (w.heap.size + 1) 5 i0 (.int .u8 0) 1 Try.underlying82 hi hz0 hz1 hz2 rfl f3 rfl rfl rfl ?_ ?_ hbs ?_))
        · unfold maxLen; omega
        · omega
        intro v1 w4 f4 g4 b6 m4
        rw [bcells_snoc _ c rfl] at f4
        have r4 := r3.grown g4 (.inr (fun e => o3 e.symm))
        have o4 := m4 kb s3 o3
        have s4 : kb < w4.heap.size := Nat.lt_of_lt_of_le s3 g4.size
        have b7 := b5.trans b6
        go_wp2
        refine ⟨⟨k + 1, by go_num, by omega, ?_, b7, r4, o4, s4⟩, by simp [intOf]; omega⟩
        rw [Htk.out, esc_snoc1 _ _ (fun e => HZ.out (by rw [e]; rfl))]
        simpa [List.append_assoc] using f4
    · have hge : ¬ ((k : Int) < key.size) := by omega
      obtain rfl : k = key.size := by omega
      have hfull : key.data.toList.take key.size = key.data.toList := List.take_of_length_le (by rw [Array.length_toList]; exact Nat.le_refl _)
      rw [hfull] at f3 hl hkl
      clear hfull r3 o3 s3
      go_wp2_with (at_builtin; go_must (refine wpList_append_lits (w0 := wr) rfl _ _ 82 rfl (w.heap.size + 1) 5 i0 (.int .u8 0) 1 Try.underlying82 hi hz0 hz1 hz2 rfl [.int .u8 0, .int .u8 1] 2 rfl f3 rfl rfl (fun u hu => by simp at hu; rcases hu with rfl | rfl <;> rfl) ?_ ?_ hbs ?_))
      · unfold maxLen; omega
      · omega
      intro v1 w4 f4 g4 b6 m4
      have b7 := b5.trans b6
      have f5 : Fresh (w.heap.size + 1) w4 5 1 v1 (innTo key.data.toList rev 0).length (bcells (innTo key.data.toList rev 0)) := by
        have e : innTo key.data.toList rev 0 = esc key.data.toList ++ [0, 1] := by simp [innTo, revBytes]
        rw [e, List.length_append, bcells_append]
        exact f4
      clear f3 g4 b6 m4 b5 hbs f4
      have hl2 : key.data.toList.length = key.size := Array.length_toList
      go_wp2
      go_loopw [3, 34] (fun v c wr => InnRel2 w key rev del v c wr) (fun _ c _ => 20 - (intOf c).toNat)
      case atStart => exact ⟨0, rfl, by omega, f5, b7⟩
      case round =>
        obtain ⟨k, rfl, hk, f6, b8⟩ := hrel
        clear f5 b7
        have hbs := b8.size
        simp at hbs
        have c1 := (b8.cell (p := ⟨w.heap.size, 1, none⟩) (by simp)).trans (World.cell?_alloc_new w _ _ 1)
        have c2 := (b8.cell (p := ⟨w.heap.size, 2, none⟩) (by simp)).trans (World.cell?_alloc_new w _ _ 2)
        simp at c1 c2
        have hl3 : (innTo key.data.toList rev k).length ≤ 2000000100 := by rw [innTo_length]; omega
        by_cases hlt : k < 8
        · go_wp2_with (at_builtin; go_must (refine wpList_append_one (w0 := wr) rfl _ _ 82 rfl (w.heap.size + 1) 5 i0 (.int .u8 0) 1 Try.underlying82 hi hz0 hz1 hz2 rfl f6 rfl rfl rfl ?_ ?_ hbs ?_))
          · unfold maxLen; omega
          · omega
          intro v2 w5 f7 g7 b9 m7
          rw [bcells_snoc _ _ (revByte_go rev k HR.out hlt)] at f7
          have b10 := b8.trans b9
          go_wp2
          refine ⟨⟨k + 1, by go_num, by omega, ?_, b10⟩, by simp [intOf]; omega⟩
          rw [innTo_succ, List.length_append]
          exact f7
        · have hge8 : ¬ ((k : Int) < 8) := by omega
          obtain rfl : k = 8 := by omega
          cases del
          · go_wp2_with (at_builtin; go_must (refine wpList_append_one (w0 := wr) rfl _ _ 82 rfl (w.heap.size + 1) 5 i0 (.int .u8 0) 1 Try.underlying82 hi hz0 hz1 hz2 rfl f6 rfl rfl rfl ?_ ?_ hbs ?_))
            · unfold maxLen; omega
            · omega
            intro v2 w5 f7 g7 b9 m7
            have b10 := b8.trans b9
            have f8 := bcells_snoc (innTo key.data.toList rev 8) (1 : UInt8) (z := 1) rfl
            rw [f8] at f7
            have hcv2 := Reads.conv (P := Try.prog) (src := 82) (e := 5) (dst := 9) Try.underlying82 Try.underlying5 Try.underlying9 f7.1
            clear f8
            go_wp2
            go_ret
            exact ⟨by simp [inner], ((Below.refl _ _).alloc (Nat.le_refl _) _).trans (b10.mono (by omega))⟩
          · go_wp2_with (at_builtin; go_must (refine wpList_append_one (w0 := wr) rfl _ _ 82 rfl (w.heap.size + 1) 5 i0 (.int .u8 0) 1 Try.underlying82 hi hz0 hz1 hz2 rfl f6 rfl rfl rfl ?_ ?_ hbs ?_))
            · unfold maxLen; omega
            · omega
            intro v2 w5 f7 g7 b9 m7
            have b10 := b8.trans b9
            have f8 := bcells_snoc (innTo key.data.toList rev 8) (0 : UInt8) (z := 0) rfl
            rw [f8] at f7
            have hcv2 := Reads.conv (P := Try.prog) (src := 82) (e := 5) (dst := 9) Try.underlying82 Try.underlying5 Try.underlying9 f7.1
            clear f8
            go_wp2
            go_ret
            exact ⟨by simp [inner], ((Below.refl _ _).alloc (Nat.le_refl _) _).trans (b10.mono (by omega))⟩
end Go.Proofs.Ytekdcjbjjakhcaa
