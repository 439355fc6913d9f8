import Derived.Test.YtepcmnlgffhihaaCodecFixed
import Derived.Test.YtepcmnlgffhihaaDrawn
namespace Go.Proofs.Ytepcmnlgffhihaa
open Go.RowKit

set_option maxRecDepth 100000 in
set_option maxHeartbeats 2000000 in
theorem codecNumbers_walk (w : World) (a : Option Addr) (n cap : Nat) (l : List UInt8) (N : Nat) (h : Reads w 1 (.slice a n cap) n (bcells l)) (hN : N < 18446744073709551616) :
    Calls Try.prog 9 #[.slice a n cap, .int .u64 N] w (SaysTrue w) := by
  obtain ⟨i0, hi, hz0, hz1, hz2⟩ := info_parts info5
  obtain ⟨_, _, hv, h1, h2⟩ := h.le
  cases hv
  unfold maxLen at h2
  have hll : l.length = n := by simpa [bcells_length] using h.1
  have Hll := Lib.hid hll
  clear hll
  by_cases hbig : 2000 < n
  · have hb' : (2000 : Int) < n := by omega
    go_enter Try.func9, Try.ntmps9
    go_wp2_with (go_at_call 55; go_must (refine (codec_fixed w).mono ?_))
    rintro e w1 ⟨rfl, b1⟩
    go_wp2
    go_ret
    exact ⟨rfl, b1⟩
  · have hb' : ¬ (2000 : Int) < n := by omega
    go_enter Try.func9, Try.ntmps9
    go_wp2_with (go_at_call 55; go_must (refine (codec_fixed w).mono ?_))
    rintro e w1 ⟨rfl, b1⟩
    have r1 := h.below' b1
    have hsrc := Reads.src (P := Try.prog) (tx := 22) Try.underlying22 (r1.alloc (.cells #[] 5)) (bcells_one l)
    have hf0 := fresh_empty w1 5 1
    have bs1 := b1.size
    go_wp2_with (at_builtin; go_must (refine wpList_append_fresh rfl _ _ 22 22 rfl w1.heap.size 5 i0 (.int .u8 0) 1 1 Try.underlying22 hi hz0 hz1 hz2 rfl _ _ _ rfl hf0 _ _ _ rfl hsrc ?_ ?_ ?_ ?_))
    · unfold maxLen; omega
    · omega
    · simp
    intro v2 w2 f2 g2 b2 m2
    have b3 : Below w1.heap.size w1 w2 := ((Below.refl _ _).alloc (Nat.le_refl _) _).trans b2
    have bs2 := b3.size
    have r2 := r1.below' b3
    clear hsrc hf0 g2 b2 m2
    go_wp2_with (at_builtin; go_must (refine wpList_append_lits (w0 := w2) rfl _ _ 22 rfl w1.heap.size 5 i0 (.int .u8 0) 1 Try.underlying22 hi hz0 hz1 hz2 rfl [.int .u8 1, .int .u8 2, .int .u8 3] 3 rfl f2 rfl rfl (fun u hu => by simp at hu; rcases hu with rfl | rfl | rfl <;> rfl) ?_ ?_ bs2 ?_))
    · unfold maxLen; omega
    · omega
    intro v3 w3 f3 g3 b4 m3
    rw [show bcells l ++ [Value.int .u8 1, Value.int .u8 2, Value.int .u8 3] = bcells (l ++ [1, 2, 3]) from by simp [bcells]] at f3
    have b5 := b3.trans b4
    have r3 := r1.below' b5
    obtain ⟨a3, cap3, rfl, h31, h32, ht⟩ := f3.1.take n (by omega)
    have hlt : (l ++ [1, 2, 3]).take n = l := by rw [← Hll.out]; exact List.take_left
    rw [hlt] at ht
    have Ht := Lib.hid ht
    have H3 := Lib.hid f3
    unfold maxLen at h32
    clear hlt ht f2 g3 b4 m3 f3
    have h33 : n ≤ cap3 := by omega
    go_wp2_with (go_at_call 56; go_must (refine (put_any w3 _ l N (by rw [Hll.out]; exact Ht.out) (by rw [Hll.out]; omega) hN).mono ?_))
    rintro e w4 ⟨v4, rfl, f4, b6⟩
    have hm : (l ++ enc N).length = n + (enc N).length := by rw [List.length_append, Hll.out]
    have hep := enc_pos N
    have hel := enc_length_le 9 N (by omega)
    have hm1 : n < (l ++ enc N).length := by omega
    have hm2 : (l ++ enc N).length ≤ n + 10 := by omega
    have Hm := Lib.hid hm
    clear hm hep hel
    generalize hM : (l ++ enc N).length = M at f4 hm1 hm2 Hm
    have HM := Lib.hid hM
    clear hM
    obtain ⟨bb, off, cap4, rfl, h41, h42, h43, _⟩ := f4.1.head (by omega)
    have r4 := f4.1.skip n (by omega)
    rw [show (l ++ enc N).drop n = enc N from by rw [← Hll.out]; exact List.drop_left] at r4
    have R4 := Lib.hid r4
    have H43 := Lib.hid h43
    have F4 := Lib.hid f4
    unfold maxLen at h42
    clear r4 h43 f4
    have hmi : ((n : Int) ≤ M) := by omega
    go_wp2_with (go_at_call 57; go_must (refine (get_any w4 _ (M - n) (enc N) R4.out).mono ?_))
    rintro e w5 ⟨rfl, rfl⟩
    rw [show getGo 0 0 (enc N) = (N, (enc N).length, 0) from by
      have := getGo_enc_go 9 0 N 0 [] (by omega) (by omega) (.inl rfl) (by omega)
      simpa using this]
    have hlen : ((enc N).length : Int) = (M : Int) - n := by have := Hm.out; omega
    have r5 := H3.out.1.below' b6
    have r6 := r3.below' b6
    have hadd : (⟨l.toArray⟩ : ByteArray) ++ (⟨#[1, 2, 3]⟩ : ByteArray) = ⟨(l ++ [1, 2, 3]).toArray⟩ := by
      apply ByteArray.ext
      simp
    go_wp2_with fail
    have hadd0 : ∀ u : World, (Op.stringOp .add (⟨l.toArray⟩ : ByteArray) (⟨#[1, 2, 3]⟩ : ByteArray)).run Try.prog u = .ok (.string ⟨(l ++ [1, 2, 3]).toArray⟩) u := fun u => by
      rw [run_string_add_sum u _ _ (by simp [ByteArray.size]; have := Hll.out; omega), hadd]
    have hl3 : l.length ≤ 2000 := by rw [Hll.out]; omega
    clear hadd
    have R5 := Lib.hid r5
    have R6 := Lib.hid r6
    have b9 : Below w.heap.size w w4 := (b1.trans (b5.mono b1.size)).trans (b6.mono (by have := b1.size; have := b5.size; omega))
    have HN := Lib.hid hN
    clear hN r1 r2 r3 r5 r6 h b1 b3 b5 b6
    have hmn : IntKind.i64.wrap ((M : Int) - n) = (M : Int) - n := by rw [IntKind.wrap_i64]; omega
    refine wp_region_all (by kernel_rfl) [eqF (.slice a3 (n + 3) cap3), eqF (.string ⟨(l ++ [1, 2, 3]).toArray⟩), eqF (.slice a n cap), eqF (.string ⟨l.toArray⟩), eqF (.string ⟨(l ++ [1, 2, 3]).toArray⟩), eqF (.bool true), eqF (.bool true), eqF (.slice (some ⟨bb, off, none⟩) M cap4), eqF (.string ⟨(l ++ enc N).toArray⟩), eqF (.slice a n cap), eqF (.int .u64 (N : Int)), bytesF (l ++ enc N), eqF (.string ⟨(l ++ enc N).toArray⟩), eqF (.bool true), eqF (.bool true), eqF (.bool true), eqF (.int .u64 (N : Int)), eqF (.int .u64 (N : Int)), eqF (.bool true), eqF (.bool true), eqF (.bool true), eqF (.int .i64 0), eqF (.bool true), eqF (.bool true), eqF (.bool true), eqF (.int .i64 ((M : Int) - n)), eqF (.slice (some ⟨bb, off, none⟩) M cap4), eqF (.int .i64 (M : Int)), eqF (.slice a n cap), eqF (.int .i64 (n : Int)), eqF (.int .i64 ((M : Int) - n)), eqF (.bool true), eqF (.bool true), eqF (.bool true)] (by kernel_rfl) ⟨?_, ?_, ?_, ?_, ?_, ?_, ?_, ?_, ?_, ?_, ?_, ?_, ?_, ?_, ?_, ?_, ?_, ?_, ?_, ?_, ?_, ?_, ?_, ?_, ?_, ?_, ?_, ?_, ?_, ?_, ?_, ?_, ?_, ?_, trivial⟩ ⟨trivial, trivial, trivial, trivial, trivial, trivial, trivial, fun _ _ h => h, fun _ _ h => h, fun _ _ h => h, fun _ _ h => h, fun _ _ h => h, fun _ _ h => h, fun _ _ h => h, trivial, trivial, fun _ _ h => h, fun _ _ h => h, fun _ _ h => h, trivial, trivial, fun _ _ h => h, fun _ _ h => h, trivial, trivial, fun _ _ h => h, fun _ _ h => h, fun _ _ h => h, fun _ _ h => h, fun _ _ h => h, fun _ _ h => h, fun _ _ h => h, trivial, trivial, trivial⟩ ?_
    · intro ρ wx hρ hbx hl
      have e5 : ρ (.tmp 5) = .slice a3 (n + 3) cap3 := hρ.tmp 5 (by decide +kernel)
      refine y_val (v := .slice a3 (n + 3) cap3) ?_ rfl
      simp [execOp, hρ.const, go_sem, e5]
    · intro ρ wx hρ hbx hl
      have e38 : ρ (.tmp 38) = .slice a3 (n + 3) cap3 := hl 0 (by decide +kernel) 38 rfl
      have hc := Reads.conv (P := Try.prog) (src := 22) (e := 5) (dst := 9) Try.underlying22 Try.underlying5 Try.underlying9 (R5.out.below' hbx)
      refine y_val (v := .string ⟨(l ++ [1, 2, 3]).toArray⟩) ?_ (by simp [factsOf, eqF])
      simp [execOp, e38, hc]
    · intro ρ wx hρ hbx hl
      have e0 : ρ (.tmp 0) = .slice a n cap := hρ.tmp 0 (by decide +kernel)
      refine y_val (v := .slice a n cap) ?_ rfl
      simp [execOp, hρ.const, go_sem, e0]
    · intro ρ wx hρ hbx hl
      have e40 : ρ (.tmp 40) = .slice a n cap := hl 2 (by decide +kernel) 40 rfl
      have hc := Reads.conv (P := Try.prog) (src := 22) (e := 5) (dst := 9) Try.underlying22 Try.underlying5 Try.underlying9 (R6.out.below' hbx)
      refine y_val (v := .string ⟨l.toArray⟩) ?_ rfl
      simp [execOp, e40, hc]
    · intro ρ wx hρ hbx hl
      have e41 : ρ (.tmp 41) = .string ⟨l.toArray⟩ := hl 3 (by decide +kernel) 41 rfl
      refine y_val (v := .string ⟨(l ++ [1, 2, 3]).toArray⟩) ?_ (by simp [factsOf, eqF])
      simp [execOp, hρ.const, go_sem, e41, hadd0]
    · intro ρ wx hρ hbx hl
      have e39 : ρ (.tmp 39) = .string ⟨(l ++ [1, 2, 3]).toArray⟩ := hl 1 (by decide +kernel) 39 rfl
      have e42 : ρ (.tmp 42) = .string ⟨(l ++ [1, 2, 3]).toArray⟩ := hl 4 (by decide +kernel) 42 rfl
      refine y_val (v := .bool true) ?_ rfl
      simp [execOp, hρ.const, go_sem, e39, e42]
    · intro ρ wx hρ hbx hl
      have e43 : ρ (.tmp 43) = .bool true := hl 5 (by decide +kernel) 43 rfl
      refine y_val (v := .bool true) ?_ rfl
      simp [execOp, hρ.const, go_sem, e43]
    · intro ρ wx hρ hbx hl
      have e6 : ρ (.tmp 6) = .slice (some ⟨bb, off, none⟩) M cap4 := hρ.tmp 6 (by decide +kernel)
      refine y_val (v := .slice (some ⟨bb, off, none⟩) M cap4) ?_ rfl
      simp [execOp, hρ.const, go_sem, e6]
    · intro ρ wx hρ hbx hl
      have e45 : ρ (.tmp 45) = .slice (some ⟨bb, off, none⟩) M cap4 := hl 7 (by decide +kernel) 45 rfl
      have hc := Reads.conv (P := Try.prog) (src := 22) (e := 5) (dst := 9) Try.underlying22 Try.underlying5 Try.underlying9 (F4.out.1.below' hbx)
      refine y_val (v := .string ⟨(l ++ enc N).toArray⟩) ?_ rfl
      simp [execOp, e45, hc]
    · intro ρ wx hρ hbx hl
      have e0 : ρ (.tmp 0) = .slice a n cap := hρ.tmp 0 (by decide +kernel)
      refine y_val (v := .slice a n cap) ?_ rfl
      simp [execOp, hρ.const, go_sem, e0]
    · intro ρ wx hρ hbx hl
      have e1 : ρ (.tmp 1) = .int .u64 (N : Int) := hρ.tmp 1 (by decide +kernel)
      refine y_val (v := .int .u64 (N : Int)) ?_ rfl
      simp [execOp, hρ.const, go_sem, e1]
    · intro ρ wx hρ hbx hl
      have e47 : ρ (.tmp 47) = .slice a n cap := hl 9 (by decide +kernel) 47 rfl
      have e48 : ρ (.tmp 48) = .int .u64 (N : Int) := hl 10 (by decide +kernel) 48 rfl
      refine y_call (f := 58) (args := #[.slice a n cap, .int .u64 (N : Int)]) (by simp [execOp, resolve, invoke, hρ.func, go_sem, e47, e48]) ?_
      refine (refput_any wx _ l N (by rw [Hll.out]; exact R6.out.below' hbx) (by rw [Hll.out]; omega) HN.out).mono ?_
      rintro e w6 ⟨v6, rfl, f6, b6⟩
      exact ⟨v6, rfl, ⟨_, f6.1⟩, b6⟩
    · intro ρ wx hρ hbx hl
      have e49 := hl 11 (by decide +kernel) 49 rfl
      obtain ⟨k, hk⟩ := e49
      have hc := Reads.conv (P := Try.prog) (src := 22) (e := 5) (dst := 9) Try.underlying22 Try.underlying5 Try.underlying9 (hk)
      refine y_val (v := .string ⟨(l ++ enc N).toArray⟩) ?_ rfl
      simp [execOp, hc]
    · intro ρ wx hρ hbx hl
      have e46 : ρ (.tmp 46) = .string ⟨(l ++ enc N).toArray⟩ := hl 8 (by decide +kernel) 46 rfl
      have e50 : ρ (.tmp 50) = .string ⟨(l ++ enc N).toArray⟩ := hl 12 (by decide +kernel) 50 rfl
      refine y_val (v := .bool true) ?_ rfl
      simp [execOp, hρ.const, go_sem, e46, e50]
    · intro ρ wx hρ hbx hl
      have e44 : ρ (.tmp 44) = .bool true := hl 6 (by decide +kernel) 44 rfl
      have e51 : ρ (.tmp 51) = .bool true := hl 13 (by decide +kernel) 51 rfl
      refine y_val (v := .bool true) ?_ rfl
      simp [execOp, hρ.const, go_sem, e44, e51]
    · intro ρ wx hρ hbx hl
      have e52 : ρ (.tmp 52) = .bool true := hl 14 (by decide +kernel) 52 rfl
      refine y_val (v := .bool true) ?_ rfl
      simp [execOp, hρ.const, go_sem, e52]
    · intro ρ wx hρ hbx hl
      have e7 : ρ (.tmp 7) = .int .u64 (N : Int) := hρ.tmp 7 (by decide +kernel)
      refine y_val (v := .int .u64 (N : Int)) ?_ rfl
      simp [execOp, hρ.const, go_sem, e7]
    · intro ρ wx hρ hbx hl
      have e1 : ρ (.tmp 1) = .int .u64 (N : Int) := hρ.tmp 1 (by decide +kernel)
      refine y_val (v := .int .u64 (N : Int)) ?_ rfl
      simp [execOp, hρ.const, go_sem, e1]
    · intro ρ wx hρ hbx hl
      have e54 : ρ (.tmp 54) = .int .u64 (N : Int) := hl 16 (by decide +kernel) 54 rfl
      have e55 : ρ (.tmp 55) = .int .u64 (N : Int) := hl 17 (by decide +kernel) 55 rfl
      refine y_val (v := .bool true) ?_ rfl
      simp [execOp, hρ.const, go_sem, e54, e55]
    · intro ρ wx hρ hbx hl
      have e53 : ρ (.tmp 53) = .bool true := hl 15 (by decide +kernel) 53 rfl
      have e56 : ρ (.tmp 56) = .bool true := hl 18 (by decide +kernel) 56 rfl
      refine y_val (v := .bool true) ?_ rfl
      simp [execOp, hρ.const, go_sem, e53, e56]
    · intro ρ wx hρ hbx hl
      have e57 : ρ (.tmp 57) = .bool true := hl 19 (by decide +kernel) 57 rfl
      refine y_val (v := .bool true) ?_ rfl
      simp [execOp, hρ.const, go_sem, e57]
    · intro ρ wx hρ hbx hl
      have e9 : ρ (.tmp 9) = .int .i64 0 := hρ.tmp 9 (by decide +kernel)
      refine y_val (v := .int .i64 0) ?_ rfl
      simp [execOp, hρ.const, go_sem, e9]
    · intro ρ wx hρ hbx hl
      have e59 : ρ (.tmp 59) = .int .i64 0 := hl 21 (by decide +kernel) 59 rfl
      refine y_val (v := .bool true) ?_ rfl
      simp [execOp, hρ.const, go_sem, e59]
    · intro ρ wx hρ hbx hl
      have e58 : ρ (.tmp 58) = .bool true := hl 20 (by decide +kernel) 58 rfl
      have e60 : ρ (.tmp 60) = .bool true := hl 22 (by decide +kernel) 60 rfl
      refine y_val (v := .bool true) ?_ rfl
      simp [execOp, hρ.const, go_sem, e58, e60]
    · intro ρ wx hρ hbx hl
      have e61 : ρ (.tmp 61) = .bool true := hl 23 (by decide +kernel) 61 rfl
      refine y_val (v := .bool true) ?_ rfl
      simp [execOp, hρ.const, go_sem, e61]
    · intro ρ wx hρ hbx hl
      have e8 : ρ (.tmp 8) = .int .i64 ((M : Int) - n) := hρ.tmp 8 (by decide +kernel)
      refine y_val (v := .int .i64 ((M : Int) - n)) ?_ rfl
      simp [execOp, hρ.const, go_sem, e8]
    · intro ρ wx hρ hbx hl
      have e6 : ρ (.tmp 6) = .slice (some ⟨bb, off, none⟩) M cap4 := hρ.tmp 6 (by decide +kernel)
      refine y_val (v := .slice (some ⟨bb, off, none⟩) M cap4) ?_ rfl
      simp [execOp, hρ.const, go_sem, e6]
    · intro ρ wx hρ hbx hl
      have e64 : ρ (.tmp 64) = .slice (some ⟨bb, off, none⟩) M cap4 := hl 26 (by decide +kernel) 64 rfl
      refine y_val (v := .int .i64 (M : Int)) ?_ rfl
      simp [execOp, hρ.const, go_sem, e64]
    · intro ρ wx hρ hbx hl
      have e0 : ρ (.tmp 0) = .slice a n cap := hρ.tmp 0 (by decide +kernel)
      refine y_val (v := .slice a n cap) ?_ rfl
      simp [execOp, hρ.const, go_sem, e0]
    · intro ρ wx hρ hbx hl
      have e66 : ρ (.tmp 66) = .slice a n cap := hl 28 (by decide +kernel) 66 rfl
      refine y_val (v := .int .i64 (n : Int)) ?_ rfl
      simp [execOp, hρ.const, go_sem, e66]
    · intro ρ wx hρ hbx hl
      have e65 : ρ (.tmp 65) = .int .i64 (M : Int) := hl 27 (by decide +kernel) 65 rfl
      have e67 : ρ (.tmp 67) = .int .i64 (n : Int) := hl 29 (by decide +kernel) 67 rfl
      refine y_val (v := .int .i64 ((M : Int) - n)) ?_ rfl
      simp [execOp, hρ.const, go_sem, e65, e67, hmn]
    · intro ρ wx hρ hbx hl
      have e63 : ρ (.tmp 63) = .int .i64 ((M : Int) - n) := hl 25 (by decide +kernel) 63 rfl
      have e68 : ρ (.tmp 68) = .int .i64 ((M : Int) - n) := hl 30 (by decide +kernel) 68 rfl
      refine y_val (v := .bool true) ?_ rfl
      simp [execOp, hρ.const, go_sem, e63, e68]
    · intro ρ wx hρ hbx hl
      have e62 : ρ (.tmp 62) = .bool true := hl 24 (by decide +kernel) 62 rfl
      have e69 : ρ (.tmp 69) = .bool true := hl 31 (by decide +kernel) 69 rfl
      refine y_val (v := .bool true) ?_ rfl
      simp [execOp, hρ.const, go_sem, e62, e69]
    · intro ρ wx hρ hbx hl
      have e70 : ρ (.tmp 70) = .bool true := hl 32 (by decide +kernel) 70 rfl
      refine y_val (v := .bool true) ?_ rfl
      simp [execOp, hρ.const, go_sem, e70]
    · intro aa wz hdef hsz hlk hbz hf
      have h4 : aa.tmps.getD 4 undef = .bool true := hf 33 _ 4 rfl rfl
      have hbz' : Below w.heap.size w wz := b9.trans (hbz.mono b9.size)
      have H4 := Lib.hid h4
      clear h4
      go_wp2
      have h4 := H4.out
      refine bodyPost_ret (v := .bool true) ?_ hdef ⟨rfl, hbz'⟩
      rw [Array.getD_eq_getD_getElem?] at h4
      simp [results, Try.results9, go_sem, h4]
end Go.Proofs.Ytepcmnlgffhihaa
