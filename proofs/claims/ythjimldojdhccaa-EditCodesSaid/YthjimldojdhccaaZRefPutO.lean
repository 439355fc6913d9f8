/- The reference's Put, PutText: rows of one's own. -/
import Derived.Test.YthjimldojdhccaaZCodecWalks
import Derived.Test.YthjimldojdhccaaMga
namespace Go.Proofs.Ythjimldojdhccaa
open Go Go.RowKit

def GivesOwn (w : World) (l : List UInt8) (e : Ending) (w' : World) : Prop :=
  ∃ v', e = .returned v' ∧ w'.ownsRow w.heap.size 5 1 v' l.length (bcells l) ∧ Below w.heap.size w w'

def PutORel (w : World) (xs : List UInt8) (N : Nat) (s m : Value) (wr : World) : Prop :=
  ∃ (ys : List UInt8) (M : Nat), m = .int .u64 (M : Int) ∧ M ≤ N ∧ ys.length + (enc M).length ≤ xs.length + 10 ∧ xs ++ enc N = ys ++ enc M ∧ wr.ownsRow w.heap.size 5 1 s ys.length (bcells ys) ∧ Below w.heap.size w wr

set_option maxRecDepth 100000 in
set_option maxHeartbeats 400000 in
theorem refputo_any (w : World) (v : Value) (xs : List UInt8) (N : Nat) (h : Reads w 1 v xs.length (bcells xs)) (hn : xs.length ≤ 10000000000) (hN : N < 18446744073709551616) :
    Calls Try.prog 23 #[v, .int .u64 N] w (GivesOwn w (xs ++ enc N)) := by
  obtain ⟨i0, hi, hz0, hz1, hz2⟩ := info_parts info5
  have hel := enc_length_le 9 N (by omega)
  have HN := Lib.hid hN
  have hsrc := Reads.src (P := Try.prog) (tx := 29) Try.underlying29 (h.alloc (.cells #[] 5)) (bcells_one xs)
  have hb0 : Below w.heap.size w (w.alloc (.cells #[] 5)) := (Below.refl _ _).alloc (Nat.le_refl _) _
  have hf0 : (w.alloc (.cells #[] 5)).ownsRow w.heap.size 5 1 (.slice (some ⟨w.heap.size, 0, none⟩) 0 0) 0 [] := World.ownsRow_lit w #[] 0 (Nat.le_refl _) (Nat.zero_le _) rfl
  clear hN
  go_enter Try.func23, Try.ntmps23
  go_wp2_with (at_builtin; go_must (refine wpList_append_owns rfl _ _ 29 29 rfl w.heap.size 5 i0 (.int .u8 0) 1 1 Try.underlying29 hi hz0 hz1 hz2 rfl _ _ _ rfl hf0 _ _ _ rfl hsrc ?_ ?_ ?_ ?_))
  · unfold maxLen; omega
  · omega
  · simp
  intro v1 w1 f1 _ b1 _
  have b2 := hb0.trans b1
  go_wp2
  clear hf0 hb0 b1 hsrc h
  go_loopw [5, 1] (fun s m wr => PutORel w xs N s m wr) (fun _ m _ => (intOf m).toNat)
  case atStart => exact ⟨xs, N, rfl, Nat.le_refl _, by omega, rfl, f1, b2⟩
  case round =>
    obtain ⟨ys, M, rfl, hM, hk, heq, hfr, hb⟩ := hrel
    have hbs := hb.size
    have Heq := Lib.hid heq
    clear heq f1 b2 hel
    by_cases hc : M < 128
    · rw [enc_lt hc] at hk
      simp at hk
      have e1 : (M : Int) < 128 := by omega
      go_wp2_with (at_builtin; go_must (refine wpList_append_owns_lits (w0 := wr) rfl _ _ 29 rfl w.heap.size 5 i0 (.int .u8 0) 1 Try.underlying29 hi hz0 hz1 hz2 rfl [_] 1 rfl hfr rfl rfl (fun u hu => by simp at hu; subst hu; rfl) ?_ ?_ hbs ?_))
      · unfold maxLen; omega
      · omega
      intro v' w1 f1 g1 b1 m1
      rw [bcells_snoc ys (UInt8.ofNat M) (by simp; omega)] at f1
      go_wp2
      go_ret
      rw [← enc_lt hc, ← Heq.out] at f1
      refine ⟨_, rfl, ?_, hb.trans b1⟩
      have e2 : (xs ++ enc N).length = ys.length + 1 := by rw [Heq.out, enc_lt hc]; simp
      rw [e2]
      exact f1
    · have e1 : (128 : Int) ≤ M := by omega
      have ew : IntKind.u64.wrap ((M : Int) / 128) = (M : Int) / 128 := by
        rw [IntKind.wrap_u64]
        have := HN.out
        omega
      go_wp2_with (at_builtin; go_must (refine wpList_append_owns_lits (w0 := wr) rfl _ _ 29 rfl w.heap.size 5 i0 (.int .u8 0) 1 Try.underlying29 hi hz0 hz1 hz2 rfl [_] 1 rfl hfr rfl rfl (fun u hu => by simp at hu; subst hu; rfl) ?_ ?_ hbs ?_))
      · unfold maxLen; omega
      · omega
      intro v' w1 f1 g1 b1 m1
      rw [bcells_snoc ys (UInt8.ofNat (M % 128 + 128)) (by simp; omega)] at f1
      rw [enc_ge hc] at hk
      simp at hk
      go_wp2
      refine ⟨⟨ys ++ [UInt8.ofNat (M % 128 + 128)], M / 128, by simp, by omega, by simp; omega, ?_, by simpa using f1, hb.trans b1⟩, by simp [intOf]; omega⟩
      rw [Heq.out, enc_ge hc]
      simp

set_option maxRecDepth 100000 in
set_option maxHeartbeats 400000 in
theorem refputtexto_any (w : World) (v : Value) (xs : List UInt8) (s : ByteArray) (h : Reads w 1 v xs.length (bcells xs)) (hn : xs.length ≤ 10000000000) (hs : s.size ≤ 10000000000) :
    Calls Try.prog 24 #[v, .string s] w (GivesOwn w (xs ++ enc s.size ++ s.data.toList)) := by
  obtain ⟨i0, hi, hz0, hz1, hz2⟩ := info_parts info5
  have hel := enc_length_le 9 s.size (by omega)
  have hsl : s.data.toList.length = s.size := Array.length_toList
  have Hsl := Lib.hid hsl
  clear hsl
  go_enter Try.func24, Try.ntmps24
  go_wp2_with (go_at_call 23; go_must (refine (refputo_any w v xs s.size h hn (by omega)).mono ?_))
  rintro e w1 ⟨v1, rfl, f1, b1⟩
  have bs1 := b1.size
  have hl1 : (xs ++ enc s.size).length = xs.length + (enc s.size).length := List.length_append
  generalize hL : xs ++ enc s.size = L at f1 hl1
  have HL := Lib.hid hL
  clear hL
  have hsrc := Src.ofString (P := Try.prog) (w := w1) (tx := 9) Try.underlying9 s
  go_wp2_with (at_builtin; go_must (refine wpList_append_owns rfl _ _ 29 9 rfl w.heap.size 5 i0 (.int .u8 0) 1 1 Try.underlying29 hi hz0 hz1 hz2 rfl _ _ _ rfl f1 _ _ _ rfl hsrc ?_ ?_ ?_ ?_))
  · unfold maxLen; omega
  · omega
  · exact bs1
  intro v2 w2 f2 _ b2 _
  rw [bcells_byteCells, ← bcells_append] at f2
  go_wp2
  go_ret
  refine ⟨_, rfl, ?_, b1.trans b2⟩
  rw [HL.out, show (L ++ s.data.toList).length = xs.length + (enc s.size).length + s.size from by rw [List.length_append, Hsl.out, hl1]]
  exact f2

end Go.Proofs.Ythjimldojdhccaa
