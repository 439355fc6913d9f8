import Derived.Test.YtekdcjbjjakhcaaCodecInner
namespace Go.Proofs.Ytekdcjbjjakhcaa
open Go.RowKit

def RefRel1 (w : World) (key : ByteArray) (rev : Nat) (del : Bool) (v c : Value) (wr : World) : Prop :=
  ∃ k : Nat, c = .int .i64 (k : Int) ∧ k ≤ key.size ∧ Fresh (w.heap.size + 1) wr 5 1 v (esc (key.data.toList.take k)).length (bcells (esc (key.data.toList.take k))) ∧
    Below (w.heap.size + 1) (w.alloc (box key rev del)) wr

/-- the second loop: k bytes of the revision are written, the counter falls -/
def RefRel2 (w : World) (key : ByteArray) (rev : Nat) (del : Bool) (v c : Value) (wr : World) : Prop :=
  ∃ k : Nat, c = .int .i64 (7 - (k : Int)) ∧ k ≤ 8 ∧ Fresh (w.heap.size + 1) wr 5 1 v (innTo key.data.toList rev k).length (bcells (innTo key.data.toList rev k)) ∧
    Below (w.heap.size + 1) (w.alloc (box key rev del)) wr

theorem revByte_down (rev k : Nat) : (255 - ((rev : Int) / 2 ^ (8 * (7 - k))).tmod 256 % 256) = ((revByte rev (7 - k)).toNat : Int) := by
  rw [revByte, pow256]
  have h : rev / 2 ^ (8 * (7 - k)) % 256 < 256 := Nat.mod_lt _ (by omega)
  have e : ((rev / 2 ^ (8 * (7 - k)) : Nat) : Int) = (rev : Int) / 2 ^ (8 * (7 - k)) := by simp
  rw [← e, Int.tmod_eq_emod_of_nonneg (Int.natCast_nonneg _)]
  clear e
  generalize rev / 2 ^ (8 * (7 - k)) = q at *
  simp
  omega

theorem fresh_nil (B : Nat) (w : World) (e : TypeId) (size : Nat) : Fresh B w e size (.slice none 0 0) 0 [] :=
  ⟨⟨by simp, none, 0, rfl, Nat.le_refl _, Nat.zero_le _, fun j u h => by simp at h⟩, .inl ⟨_, rfl⟩⟩

set_option maxRecDepth 100000 in
set_option maxHeartbeats 1000000 in
theorem refinner_any (w : World) (key : ByteArray) (rev : Nat) (del : Bool) (hn : key.size ≤ 1000000000) (hR : rev < 18446744073709551616) :
    Calls Try.prog 34 #[.agg #[.string key, .int .u64 rev, .bool del]] w (GivesText w (inner key.data.toList rev del)) := by
  obtain ⟨i0, hi, hz0, hz1, hz2⟩ := info_parts info5
  have HR := Lib.hid hR
  clear hR
  have f2 : Fresh (w.heap.size + 1) (w.alloc (box key rev del)) 5 1 (.slice none 0 0) (esc (key.data.toList.take 0)).length (bcells (esc (key.data.toList.take 0))) := fresh_nil _ _ _ _
  have b4 : Below (w.heap.size + 1) (w.alloc (box key rev del)) (w.alloc (box key rev del)) := Below.refl _ _
  have hl2 : key.data.toList.length = key.size := Array.length_toList
  have Hl2 := Lib.hid hl2
  clear hl2
  go_enter Try.func34, Try.ntmps34
  go_wp2
  go_loopw [3, 4] (fun v c wr => RefRel1 w key rev del v c wr) (fun _ c _ => key.size - (intOf c).toNat)
  case atStart => exact ⟨0, rfl, Nat.zero_le _, f2, b4⟩
  case round =>
    obtain ⟨k, rfl, hk, f3, b5⟩ := hrel
    clear f2 b4
    have hl := esc_length (key.data.toList.take k)
    have hkl : (key.data.toList.take k).length ≤ k := List.length_take_le _ _
    have hbs := b5.size
    simp at hbs
    have c0 := (b5.cell (p := ⟨w.heap.size, 0, none⟩) (by simp)).trans (World.cell?_alloc_new w _ _ 0)
    have c1 := (b5.cell (p := ⟨w.heap.size, 1, none⟩) (by simp)).trans (World.cell?_alloc_new w _ _ 1)
    have c2 := (b5.cell (p := ⟨w.heap.size, 2, none⟩) (by simp)).trans (World.cell?_alloc_new w _ _ 2)
    simp at c0 c1 c2
    by_cases hlt : k < key.size
    · have htk : key.data.toList.take (k + 1) = key.data.toList.take k ++ [key[k]] := by
        have hlt' : k < key.data.toList.length := by rw [Array.length_toList]; exact hlt
        rw [List.take_succ_eq_append_getElem hlt']
        rfl
      have Htk := Lib.hid htk
      clear htk
      by_cases hz : key[k].toNat = 0
      · have hz' : ((key[k].toNat : Int) == 0) = true := by simp; omega
        have HZ := Lib.hid hz
        clear hz
        go_wp2_with (at_builtin; go_must (refine wpList_append_one (w0 := wr) rfl _ _ 82 rfl (w.heap.size + 1) 5 i0 (.int .u8 0) 1 Try.underlying82 hi hz0 hz1 hz2 rfl f3 rfl rfl rfl ?_ ?_ hbs ?_))
        · unfold maxLen; omega
        · omega
        intro v1 w4 f4 g4 b6 m4
        rw [bcells_snoc _ key[k] rfl] at f4
        have b7 := b5.trans b6
        have hbs4 : w.heap.size + 1 ≤ w4.heap.size := Nat.le_trans hbs g4.size
        have d0 := (b7.cell (p := ⟨w.heap.size, 0, none⟩) (by simp)).trans (World.cell?_alloc_new w _ _ 0)
        simp at d0
        clear f3 g4 b6 m4 b5 hbs c0 c1 c2
        go_wp2_with (at_builtin; go_must (refine wpList_append_one (w0 := w4) rfl _ _ 82 rfl (w.heap.size + 1) 5 i0 (.int .u8 0) 1 Try.underlying82 hi hz0 hz1 hz2 rfl f4 rfl rfl rfl ?_ ?_ hbs4 ?_))
        · unfold maxLen; omega
        · omega
        intro v2 w5 f5 g5 b8 m5
        rw [bcells_snoc (z := 255) _ (255 : UInt8) rfl] at f5
        have b9 := b7.trans b8
        go_wp2
        refine ⟨⟨k + 1, by go_num, by omega, ?_, b9⟩, by simp [intOf]; omega⟩
        rw [Htk.out, esc_snoc0 _ _ (UInt8.toNat_inj.1 (by simpa using HZ.out))]
        simpa [List.append_assoc] using f5
      · have hz' : ((key[k].toNat : Int) == 0) = false := by simp; omega
        have HZ := Lib.hid hz
        clear hz
        go_wp2_with (at_builtin; go_must (refine wpList_append_one (w0 := wr) rfl _ _ 82 rfl (w.heap.size + 1) 5 i0 (.int .u8 0) 1 Try.underlying82 hi hz0 hz1 hz2 rfl f3 rfl rfl rfl ?_ ?_ hbs ?_))
        · unfold maxLen; omega
        · omega
        intro v1 w4 f4 g4 b6 m4
        rw [bcells_snoc _ key[k] rfl] at f4
        have b7 := b5.trans b6
        have d0 := (b7.cell (p := ⟨w.heap.size, 0, none⟩) (by simp)).trans (World.cell?_alloc_new w _ _ 0)
        simp at d0
        clear f3 g4 b6 m4 b5 hbs c0 c1 c2
        go_wp2
        refine ⟨⟨k + 1, by go_num, by omega, ?_, b7⟩, by simp [intOf]; omega⟩
        rw [Htk.out, esc_snoc1 _ _ (fun e => HZ.out (by rw [e]; rfl))]
        simpa [List.append_assoc] using f4
    · have hge : ¬ ((k : Int) < key.size) := by omega
      obtain rfl : k = key.size := by omega
      have hfull : key.data.toList.take key.size = key.data.toList := List.take_of_length_le (by rw [Array.length_toList]; exact Nat.le_refl _)
      rw [hfull] at f3 hl hkl
      clear hfull
      go_wp2_with (at_builtin; go_must (refine wpList_append_lits (w0 := wr) rfl _ _ 82 rfl (w.heap.size + 1) 5 i0 (.int .u8 0) 1 Try.underlying82 hi hz0 hz1 hz2 rfl [.int .u8 0, .int .u8 1] 2 rfl f3 rfl rfl (fun u hu => by simp at hu; rcases hu with rfl | rfl <;> rfl) ?_ ?_ hbs ?_))
      · unfold maxLen; omega
      · omega
      intro v1 w4 f4 g4 b6 m4
      have b7 := b5.trans b6
      have f5 : Fresh (w.heap.size + 1) w4 5 1 v1 (innTo key.data.toList rev 0).length (bcells (innTo key.data.toList rev 0)) := by
        have e : innTo key.data.toList rev 0 = esc key.data.toList ++ [0, 1] := by simp [innTo, revBytes]
        rw [e, List.length_append, bcells_append]
        exact f4
      clear f3 g4 b6 m4 b5 hbs f4 c0 c1 c2
      go_wp2
      go_loopw [3, 5] (fun v c wr => RefRel2 w key rev del v c wr) (fun _ c _ => (intOf c + 1).toNat)
      case atStart => exact ⟨0, rfl, by omega, f5, b7⟩
      case round =>
        obtain ⟨k, rfl, hk, f6, b8⟩ := hrel
        clear f5 b7
        have hbs := b8.size
        simp at hbs
        have c1 := (b8.cell (p := ⟨w.heap.size, 1, none⟩) (by simp)).trans (World.cell?_alloc_new w _ _ 1)
        have c2 := (b8.cell (p := ⟨w.heap.size, 2, none⟩) (by simp)).trans (World.cell?_alloc_new w _ _ 2)
        simp at c1 c2
        have hl3 : (innTo key.data.toList rev k).length ≤ 2000000100 := by rw [innTo_length]; omega
        by_cases hlt : k < 8
        · have hp : (0 : Int) ≤ 7 - (k : Int) := by omega
          go_wp2_with (at_builtin; go_must (refine wpList_append_one (w0 := wr) rfl _ _ 82 rfl (w.heap.size + 1) 5 i0 (.int .u8 0) 1 Try.underlying82 hi hz0 hz1 hz2 rfl f6 rfl rfl rfl ?_ ?_ hbs ?_))
          · unfold maxLen; omega
          · omega
          intro v2 w5 f7 g7 b9 m7
          rw [bcells_snoc _ _ (revByte_down rev k)] at f7
          have b10 := b8.trans b9
          go_wp2
          refine ⟨⟨k + 1, by go_num, by omega, ?_, b10⟩, by simp [intOf]; omega⟩
          rw [innTo_succ, List.length_append]
          exact f7
        · have hge8 : ¬ ((0 : Int) ≤ 7 - (k : Int)) := by omega
          obtain rfl : k = 8 := by omega
          cases del
          · go_wp2_with (at_builtin; go_must (refine wpList_append_one (w0 := wr) rfl _ _ 82 rfl (w.heap.size + 1) 5 i0 (.int .u8 0) 1 Try.underlying82 hi hz0 hz1 hz2 rfl f6 rfl rfl rfl ?_ ?_ hbs ?_))
            · unfold maxLen; omega
            · omega
            intro v2 w5 f7 g7 b9 m7
            have b10 := b8.trans b9
            have f8 := bcells_snoc (innTo key.data.toList rev 8) (1 : UInt8) (z := 1) rfl
            rw [f8] at f7
            have hcv2 := Reads.conv (P := Try.prog) (src := 82) (e := 5) (dst := 9) Try.underlying82 Try.underlying5 Try.underlying9 f7.1
            clear f8
            go_wp2
            go_ret
            exact ⟨by simp [inner], ((Below.refl _ _).alloc (Nat.le_refl _) _).trans (b10.mono (by omega))⟩
          · go_wp2_with (at_builtin; go_must (refine wpList_append_one (w0 := wr) rfl _ _ 82 rfl (w.heap.size + 1) 5 i0 (.int .u8 0) 1 Try.underlying82 hi hz0 hz1 hz2 rfl f6 rfl rfl rfl ?_ ?_ hbs ?_))
            · unfold maxLen; omega
            · omega
            intro v2 w5 f7 g7 b9 m7
            have b10 := b8.trans b9
            have f8 := bcells_snoc (innTo key.data.toList rev 8) (0 : UInt8) (z := 0) rfl
            rw [f8] at f7
            have hcv2 := Reads.conv (P := Try.prog) (src := 82) (e := 5) (dst := 9) Try.underlying82 Try.underlying5 Try.underlying9 f7.1
            clear f8
            go_wp2
            go_ret
            exact ⟨by simp [inner], ((Below.refl _ _).alloc (Nat.le_refl _) _).trans (b10.mono (by omega))⟩
end Go.Proofs.Ytekdcjbjjakhcaa
