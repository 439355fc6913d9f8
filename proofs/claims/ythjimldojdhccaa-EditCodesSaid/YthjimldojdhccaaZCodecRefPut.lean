import Derived.Test.YthjimldojdhccaaZCodecWalks
namespace Go.Proofs.Ythjimldojdhccaa
open Go.RowKit

set_option maxRecDepth 100000 in
set_option maxHeartbeats 400000 in
theorem refput_any (w : World) (v : Value) (xs : List UInt8) (N : Nat) (h : Reads w 1 v xs.length (bcells xs)) (hn : xs.length ≤ 1000000000) (hN : N < 18446744073709551616) :
    Calls Try.prog 23 #[v, .int .u64 N] w (GivesBytes w (xs ++ enc N)) := by
  obtain ⟨i0, hi, hz0, hz1, hz2⟩ := info_parts info5
  have hel := enc_length_le 9 N (by omega)
  have HN := Lib.hid hN
  have hsrc := Reads.src (P := Try.prog) (tx := 29) Try.underlying29 (h.alloc (.cells #[] 5)) (bcells_one xs)
  have hb0 : Below w.heap.size w (w.alloc (.cells #[] 5)) := (Below.refl _ _).alloc (Nat.le_refl _) _
  have hf0 := fresh_empty w 5 1
  clear hN
  go_enter Try.func23, Try.ntmps23
  go_wp2_with (at_builtin; go_must (refine wpList_append_fresh rfl _ _ 29 29 rfl w.heap.size 5 i0 (.int .u8 0) 1 1 Try.underlying29 hi hz0 hz1 hz2 rfl _ _ _ rfl hf0 _ _ _ rfl hsrc ?_ ?_ ?_ ?_))
  · unfold maxLen; omega
  · omega
  · simp
  intro v1 w1 f1 _ b1 _
  have b2 := hb0.trans b1
  go_wp2
  clear hf0 hb0 b1 hsrc h
  go_loopw [5, 1] (fun s m wr => PutRel w xs N s m wr) (fun _ m _ => (intOf m).toNat)
  case atStart => exact ⟨xs, N, rfl, Nat.le_refl _, by omega, rfl, f1, b2⟩
  case round =>
    obtain ⟨ys, M, rfl, hM, hk, heq, hfr, hb⟩ := hrel
    have hbs := hb.size
    have Heq := Lib.hid heq
    clear heq f1 b2 hel
    by_cases hc : M < 128
    · rw [enc_lt hc] at hk
      simp at hk
      have e1 : (M : Int) < 128 := by omega
      go_wp2_with (at_builtin; go_must (refine wpList_append_one (w0 := wr) rfl _ _ 29 rfl w.heap.size 5 i0 (.int .u8 0) 1 Try.underlying29 hi hz0 hz1 hz2 rfl hfr rfl rfl rfl ?_ ?_ hbs ?_))
      · unfold maxLen; omega
      · omega
      intro v' w1 f1 g1 b1 m1
      rw [bcells_snoc ys (UInt8.ofNat M) (by simp; omega)] at f1
      go_wp2
      go_ret
      rw [← enc_lt hc, ← Heq.out] at f1
      refine ⟨_, rfl, ?_, hb.trans b1⟩
      have e2 : (xs ++ enc N).length = ys.length + 1 := by rw [Heq.out, enc_lt hc]; simp
      rw [e2]
      exact f1
    · have e1 : (128 : Int) ≤ M := by omega
      have ew : IntKind.u64.wrap ((M : Int) / 128) = (M : Int) / 128 := by
        rw [IntKind.wrap_u64]
        have := HN.out
        omega
      go_wp2_with (at_builtin; go_must (refine wpList_append_one (w0 := wr) rfl _ _ 29 rfl w.heap.size 5 i0 (.int .u8 0) 1 Try.underlying29 hi hz0 hz1 hz2 rfl hfr rfl rfl rfl ?_ ?_ hbs ?_))
      · unfold maxLen; omega
      · omega
      intro v' w1 f1 g1 b1 m1
      rw [bcells_snoc ys (UInt8.ofNat (M % 128 + 128)) (by simp; omega)] at f1
      rw [enc_ge hc] at hk
      simp at hk
      go_wp2
      refine ⟨⟨ys ++ [UInt8.ofNat (M % 128 + 128)], M / 128, by simp, by omega, by simp; omega, ?_, by simpa using f1, hb.trans b1⟩, by simp [intOf]; omega⟩
      rw [Heq.out, enc_ge hc]
      simp
end Go.Proofs.Ythjimldojdhccaa
