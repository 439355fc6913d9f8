import Derived.Test.YthjimldojdhccaaZCodecRefPut
namespace Go.Proofs.Ythjimldojdhccaa
open Go.RowKit

set_option maxRecDepth 100000 in
set_option maxHeartbeats 400000 in
theorem puttext_any (w : World) (v : Value) (xs : List UInt8) (s : ByteArray) (h : Reads w 1 v xs.length (bcells xs)) (hn : xs.length ≤ 1000000000) (hs : s.size ≤ 1000000000) :
    Calls Try.prog 41 #[v, .string s] w (GivesBytes w (xs ++ enc s.size ++ s.data.toList)) := by
  obtain ⟨i0, hi, hz0, hz1, hz2⟩ := info_parts info5
  have hel := enc_length_le 9 s.size (by omega)
  have hsl : s.data.toList.length = s.size := Array.length_toList
  have Hsl := Lib.hid hsl
  clear hsl
  go_enter Try.func41, Try.ntmps41
  go_wp2_with (go_at_call 40; go_must (refine (put_any w v xs s.size h hn (by omega)).mono ?_))
  rintro e w1 ⟨v1, rfl, f1, b1⟩
  have bs1 := b1.size
  have hl1 : (xs ++ enc s.size).length = xs.length + (enc s.size).length := List.length_append
  generalize hL : xs ++ enc s.size = L at f1 hl1
  have HL := Lib.hid hL
  clear hL
  have hsrc := Src.ofString (P := Try.prog) (w := w1) (tx := 9) Try.underlying9 s
  go_wp2_with (at_builtin; go_must (refine wpList_append_fresh rfl _ _ 29 9 rfl w.heap.size 5 i0 (.int .u8 0) 1 1 Try.underlying29 hi hz0 hz1 hz2 rfl _ _ _ rfl f1 _ _ _ rfl hsrc ?_ ?_ ?_ ?_))
  · unfold maxLen; omega
  · omega
  · exact bs1
  intro v2 w2 f2 _ b2 _
  rw [bcells_byteCells, ← bcells_append] at f2
  go_wp2
  go_ret
  refine ⟨_, rfl, ?_, b1.trans b2⟩
  rw [HL.out, show (L ++ s.data.toList).length = xs.length + (enc s.size).length + s.size from by rw [List.length_append, Hsl.out, hl1]]
  exact f2

set_option maxRecDepth 100000 in
set_option maxHeartbeats 400000 in
theorem refputtext_any (w : World) (v : Value) (xs : List UInt8) (s : ByteArray) (h : Reads w 1 v xs.length (bcells xs)) (hn : xs.length ≤ 1000000000) (hs : s.size ≤ 1000000000) :
    Calls Try.prog 24 #[v, .string s] w (GivesBytes w (xs ++ enc s.size ++ s.data.toList)) := by
  obtain ⟨i0, hi, hz0, hz1, hz2⟩ := info_parts info5
  have hel := enc_length_le 9 s.size (by omega)
  have hsl : s.data.toList.length = s.size := Array.length_toList
  have Hsl := Lib.hid hsl
  clear hsl
  go_enter Try.func24, Try.ntmps24
  go_wp2_with (go_at_call 23; go_must (refine (refput_any w v xs s.size h hn (by omega)).mono ?_))
  rintro e w1 ⟨v1, rfl, f1, b1⟩
  have bs1 := b1.size
  have hl1 : (xs ++ enc s.size).length = xs.length + (enc s.size).length := List.length_append
  generalize hL : xs ++ enc s.size = L at f1 hl1
  have HL := Lib.hid hL
  clear hL
  have hsrc := Src.ofString (P := Try.prog) (w := w1) (tx := 9) Try.underlying9 s
  go_wp2_with (at_builtin; go_must (refine wpList_append_fresh rfl _ _ 29 9 rfl w.heap.size 5 i0 (.int .u8 0) 1 1 Try.underlying29 hi hz0 hz1 hz2 rfl _ _ _ rfl f1 _ _ _ rfl hsrc ?_ ?_ ?_ ?_))
  · unfold maxLen; omega
  · omega
  · exact bs1
  intro v2 w2 f2 _ b2 _
  rw [bcells_byteCells, ← bcells_append] at f2
  go_wp2
  go_ret
  refine ⟨_, rfl, ?_, b1.trans b2⟩
  rw [HL.out, show (L ++ s.data.toList).length = xs.length + (enc s.size).length + s.size from by rw [List.length_append, Hsl.out, hl1]]
  exact f2
end Go.Proofs.Ythjimldojdhccaa
