/- A builder that is written while a row of another type of one's own is kept. -/
import Derived.Test.YtlibncefiibgaaaDoorZDumpNil
namespace Go.Proofs.YtlibncefiibgaaaDoor
open Go Go.RowKit

def KeepG (g : Nat) (o : Obj) (w : World) : Prop := w.heap[g]? = some o

theorem copyCheck_g (B b : Nat) (bs : List Value) (w : World) (g : Nat) (cur : Array Value) (h : Lib.IsBuilder 43 5 B b bs w) (hk : KeepG g (.cells cur 37 (0, 0)) w) :
    Calls Tryd.prog 32 #[.pointer (some ⟨b, 0, none⟩)] w fun e w' => e = .returned (.tuple #[]) ∧ Lib.BuilderAt 43 5 B b (.pointer (some ⟨b, 0, none⟩)) bs w' ∧ Below B w w' ∧ KeepG g (.cells cur 37 (0, 0)) w' := by
  rcases h with h | h
  · refine (copyCheck_new w b h.cell0 h.shape h.frozen0).mono ?_
    rintro e w' ⟨rfl, rfl⟩
    have hne : g ≠ b := by
      rintro rfl
      obtain ⟨_, v, hb, _⟩ := h
      unfold KeepG at hk
      rw [hk] at hb
      simp at hb
    refine ⟨rfl, h.used _, (Below.refl B w).setCell (p := ⟨b, 0, none⟩) h.1 _, ?_⟩
    unfold KeepG
    rw [Below.heap_setCell _ _ _ _ hne]
    exact hk
  · refine (copyCheck_used w b h.cell0).mono ?_
    rintro e w' ⟨rfl, rfl⟩
    exact ⟨rfl, h, Below.refl B w, hk⟩

set_option maxRecDepth 100000 in
set_option maxHeartbeats 1000000 in
theorem writeString_g (B b : Nat) (bs : List Value) (s : ByteArray) (w : World) (g : Nat) (cur : Array Value) (hk : KeepG g (.cells cur 37 (0, 0)) w) (h : Lib.IsBuilder 43 5 B b bs w) (hlen : bs.length + s.size ≤ 100000000000) (hBw : B ≤ w.heap.size) :
    Calls Tryd.prog 15 #[.pointer (some ⟨b, 0, none⟩), .string s] w fun e w' => e = .returned (.tuple #[.int .i64 s.size, .nilIface]) ∧ Lib.IsBuilder 43 5 B b (bs ++ bcells s.data.toList) w' ∧ Below B w w' ∧ KeepG g (.cells cur 37 (0, 0)) w' := by
  obtain ⟨i0, hi, hz0, hz1, hz2⟩ := info_parts infoByte
  go_enter Tryd.func15, Tryd.ntmps15
  go_wp2_with (go_at_call 32; go_must (refine (copyCheck_g B b bs _ g cur h hk).mono ?_))
  rintro e w1 ⟨rfl, h1, hb1, hk1⟩
  have HK1 := Lib.hid hk1
  clear hk hk1
  obtain ⟨hB, v, hbk, hown, hne⟩ := h1
  have c0 : w1.cell? ⟨b, 0, none⟩ = some (.pointer (some ⟨b, 0, none⟩)) := by rw [Lib.cell_of_heap hbk]; rfl
  have c1 : w1.cell? ⟨b, 1, none⟩ = some v := by rw [Lib.cell_of_heap hbk]; rfl
  have hBw1 : B ≤ w1.heap.size := Nat.le_trans hBw hb1.size
  have Hbk := Lib.hid hbk
  have Hown := Lib.hid hown
  have Hne := Lib.hid hne
  clear hbk hown h hne
  have hblt : b < w1.heap.size := World.block_lt_of_cell? _ _ c0
  go_wp2_with (at_builtin; go_must (refine Lib.wpList_append_own_string _ rfl _ _ 41 9 rfl B 5 i0 Tryd.underlying41 Tryd.underlying9 hi hz0 hz1 hz2 _ _ _ rfl Hown.out s rfl ?_ ?_ hBw1 ?_))
  · unfold maxLen; omega
  · omega
  intro v2 w2 hown2 hg2 _
  have hb2 : w2.heap[b]? = some (.cells #[.pointer (some ⟨b, 0, none⟩), v] 43 (0, 0)) := by
    rw [hg2.block b hblt (fun e => Hne.out e.symm)]
    exact Hbk.out
  have d0 : w2.cell? ⟨b, 0, none⟩ = some (.pointer (some ⟨b, 0, none⟩)) := by rw [Lib.cell_of_heap hb2]; rfl
  have d1 : w2.cell? ⟨b, 1, none⟩ = some v := by rw [Lib.cell_of_heap hb2]; rfl
  have f1 : w2.frozen? ⟨b, 1, none⟩ = false := Lib.frozen_of_heap hb2 1
  obtain ⟨a2, cap, rfl⟩ : ∃ a2 cap, v2 = .slice a2 (bs.length + s.size) cap := by
    rcases hown2.2 with ⟨hv, h0⟩ | ⟨g, cap, cur, hv, _⟩
    · exact ⟨none, 0, by rw [hv, h0]⟩
    · exact ⟨_, cap, hv⟩
  have hgb : g ≠ b := by
    rintro rfl
    have := HK1.out
    unfold KeepG at this
    rw [Hbk.out] at this
    simp at this
  have hk2 : KeepG g (.cells cur 37 (0, 0)) w2 := by
    have h1 := HK1.out
    unfold KeepG at *
    rw [hg2.block g (Array.getElem?_eq_some_iff.1 h1).1 (fun e => Lib.ownBlock_ne Hown.out h1 (by decide) e.symm)]
    exact h1
  have HK2 := Lib.hid hk2
  clear hk2
  have Hb2 := Lib.hid hb2
  have Hown2 := Lib.hid hown2
  have hbel : Below B w w2 := hb1.grown hg2 hBw1 (fun k hk => (Hown.out.lt k hk).1)
  clear hb2 hown2 c0 c1
  go_wp2
  go_ret2
  refine ⟨rfl, .inr ?_, hbel.setCell (p := ⟨b, 1, none⟩) hB _, ?_⟩
  case refine_2 =>
    unfold KeepG
    rw [Below.heap_setCell _ _ _ _ hgb]
    exact HK2.out
  have hl : (bs ++ bcells s.data.toList).length = bs.length + s.size := by rw [List.length_append, bcells_length, Array.length_toList]; rfl
  exact Lib.BuilderAt.put (T := 43) (e := 5) hB Hb2.out (bs' := bs ++ bcells s.data.toList) (by rw [hl]; exact Hown2.out) (by decide)

def LinePostG (B b g : Nat) (cur : Array Value) (l : List UInt8) (w : World) (e : Ending) (w' : World) : Prop :=
  e = .returned (.tuple #[]) ∧ Lib.IsBuilder 43 5 B b (bcells l) w' ∧ Below B w w' ∧ KeepG g (.cells cur 37 (0, 0)) w'


set_option maxRecDepth 100000 in
theorem line_g (B b : Nat) (l : List UInt8) (s : ByteArray) (w : World) (g : Nat) (cur : Array Value) (hk : KeepG g (.cells cur 37 (0, 0)) w) (h : Lib.IsBuilder 43 5 B b (bcells l) w) (hl : l.length ≤ 1000000000) (hs : s.size ≤ 1000000000) (hB : B ≤ w.heap.size) :
    Calls Tryd.prog 14 #[.string s, .pointer (some ⟨b, 0, none⟩)] w (LinePostG B b g cur (l ++ s.data.toList ++ [10]) w) := by
  have hlen : (bcells l).length + (s ++ (⟨#[10]⟩ : ByteArray)).size ≤ 100000000000 := by
    rw [bcells_length, ByteArray.size_append]
    have : (⟨#[10]⟩ : ByteArray).size = 1 := rfl
    omega
  have hw := writeString_g B b (bcells l) (s ++ ⟨#[10]⟩) w g cur hk h hlen hB
  have he : bcells l ++ bcells (s ++ (⟨#[10]⟩ : ByteArray)).data.toList = bcells (l ++ s.data.toList ++ [10]) := by
    rw [← bcells_append]
    simp
  rw [he] at hw
  have hsum : s.size + (⟨#[10]⟩ : ByteArray).size ≤ 9223372036854775807 := by
    have : (⟨#[10]⟩ : ByteArray).size = 1 := rfl
    omega
  have HW := Lib.hid hw
  clear hw he hlen h hk
  go_enter Tryd.func14, Tryd.ntmps14
  go_wp2_with (go_at_call 15; go_must (refine HW.out.mono ?_))
  rintro e w1 ⟨rfl, h1, b1, k1⟩
  go_wp2
  go_end0
  exact ⟨rfl, h1, b1, k1⟩
end Go.Proofs.YtlibncefiibgaaaDoor
