/- strings.Builder: WriteString. -/
import Derived.Test.YtekdcjbjjakhcaaBuilderB
namespace Go.Proofs.Ytekdcjbjjakhcaa
open Go Go.RowKit

set_option maxRecDepth 100000 in
set_option maxHeartbeats 1000000 in
theorem writeString_any (B b : Nat) (bs : List Value) (s : ByteArray) (w : World) (h : Lib.IsBuilder 92 5 B b bs w) (hlen : bs.length + s.size ≤ 100000000000) (hBw : B ≤ w.heap.size) :
    Calls Try.prog 58 #[.pointer (some ⟨b, 0, none⟩), .string s] w fun e w' => e = .returned (.tuple #[.int .i64 s.size, .nilIface]) ∧ Lib.IsBuilder 92 5 B b (bs ++ bcells s.data.toList) w' ∧ Below B w w' := by
  obtain ⟨i0, hi, hz0, hz1, hz2⟩ := info_parts infoByte
  go_enter Try.func58, Try.ntmps58
  go_wp2_with (go_at_call 62; go_must (refine (copyCheck_any B b bs _ h).mono ?_))
  rintro e w1 ⟨rfl, h1, hb1⟩
  obtain ⟨hB, v, hbk, hown, hne⟩ := h1
  have c0 : w1.cell? ⟨b, 0, none⟩ = some (.pointer (some ⟨b, 0, none⟩)) := by rw [Lib.cell_of_heap hbk]; rfl
  have c1 : w1.cell? ⟨b, 1, none⟩ = some v := by rw [Lib.cell_of_heap hbk]; rfl
  have hBw1 : B ≤ w1.heap.size := Nat.le_trans hBw hb1.size
  have Hbk := Lib.hid hbk
  have Hown := Lib.hid hown
  have Hne := Lib.hid hne
  clear hbk hown h hne
  have hblt : b < w1.heap.size := World.block_lt_of_cell? _ _ c0
  go_wp2_with (at_builtin; go_must (refine Lib.wpList_append_own_string _ rfl _ _ 82 9 rfl B 5 i0 Try.underlying82 Try.underlying9 hi hz0 hz1 hz2 _ _ _ rfl Hown.out s rfl ?_ ?_ hBw1 ?_))
  · unfold maxLen; omega
  · omega
  intro v2 w2 hown2 hg2 _
  have hb2 : w2.heap[b]? = some (.cells #[.pointer (some ⟨b, 0, none⟩), v] 92 (0, 0)) := by
    rw [hg2.block b hblt (fun e => Hne.out e.symm)]
    exact Hbk.out
  have d0 : w2.cell? ⟨b, 0, none⟩ = some (.pointer (some ⟨b, 0, none⟩)) := by rw [Lib.cell_of_heap hb2]; rfl
  have d1 : w2.cell? ⟨b, 1, none⟩ = some v := by rw [Lib.cell_of_heap hb2]; rfl
  have f1 : w2.frozen? ⟨b, 1, none⟩ = false := Lib.frozen_of_heap hb2 1
  obtain ⟨a2, cap, rfl⟩ : ∃ a2 cap, v2 = .slice a2 (bs.length + s.size) cap := by
    rcases hown2.2 with ⟨hv, h0⟩ | ⟨g, cap, cur, hv, _⟩
    · exact ⟨none, 0, by rw [hv, h0]⟩
    · exact ⟨_, cap, hv⟩
  have Hb2 := Lib.hid hb2
  have Hown2 := Lib.hid hown2
  have hbel : Below B w w2 := hb1.grown hg2 hBw1 (fun k hk => (Hown.out.lt k hk).1)
  clear hb2 hown2 c0 c1
  go_wp2
  go_ret2
  refine ⟨rfl, .inr ?_, hbel.setCell (p := ⟨b, 1, none⟩) hB _⟩
  have hl : (bs ++ bcells s.data.toList).length = bs.length + s.size := by rw [List.length_append, bcells_length, Array.length_toList]; rfl
  exact Lib.BuilderAt.put (T := 92) (e := 5) hB Hb2.out (bs' := bs ++ bcells s.data.toList) (by rw [hl]; exact Hown2.out) (by decide)
end Go.Proofs.Ytekdcjbjjakhcaa
