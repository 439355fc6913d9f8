/- The reference's calls on a fresh disk: Create, SyncDir, Fuse, Crash. -/
import Derived.Test.YtbhapbioibhalaaDiskRefG
namespace Go.Proofs.Ytbhapbioibhalaa
open Go Go.RowKit Go.Maps

set_option maxRecDepth 100000 in
set_option maxHeartbeats 2000000 in
theorem rcreate0 {W : World} {r : Nat} (h : R0 W r) (s : ByteArray) (hs : s.size ≤ 1000000000) : Calls Try.prog 28 #[.pointer (some ⟨r, 0, none⟩), .string s] W (REnd W r) := by
  obtain ⟨i0, hi, hz0, hz1, hz2⟩ := info_parts infoRF
  have bX := (Below.refl W.heap.size W).alloc (Nat.le_refl _) (.cells #[.string s] 9)
  have hX := h.below bX
  have HMa := Lib.hid (fun v hr => may_any _ r false hX.may v [s] hr (by simpa using hs))
  have HLi := Lib.hid (lit1 W s)
  have HX := Lib.hid hX
  have HBX := Lib.hid bX
  clear h bX hX
  go_enter Try.func28, Try.ntmps28
  go_wp2_with (go_at_call 41; go_must (refine (HMa.out _ HLi.out).mono ?_))
  rintro e w1 ⟨rfl, b1⟩
  have h1 := HX.out.below b1
  have c4 := Lib.cell_of_heap h1 4
  simp at c4
  have hlt := h1.lt
  have HT1 := Lib.hid (Touch.of_below (HBX.out.trans (b1.mono HBX.out.size)) [r])
  have HFi := Lib.hid (rfind_any w1 (.slice none 0 0) [] s (names_nil w1))
  have HH1 := Lib.hid h1
  clear b1 h1
  by_cases hz : readyE false [s] = 0
  · rw [hz]
    go_wp2_with (go_at_call 42; go_must (refine HFi.out.mono ?_))
    rintro e w2 ⟨rfl, b2⟩
    have hfi : findI [] s = -1 := rfl
    rw [hfi]
    have h2 := HH1.out.below b2
    have c4 := Lib.cell_of_heap h2 4
    have c3 := Lib.cell_of_heap h2 3
    simp at c4 c3
    have hlt2 := h2.lt
    have HAc := Lib.hid (ract0 h2 ⟨#[]⟩ s 0)
    have HT2 := Lib.hid (HT1.out.same (Touch.of_below b2 [r]))
    clear b2 h2
    go_wp2_with (go_at_call 48; go_must (refine HAc.out.mono ?_))
    rintro e w3 ⟨rfl, t3, a1, n1, k1, a2, n2, k2, hc3⟩
    have y3 := Lib.cell_of_heap hc3 3
    simp at y3
    have hlt3 : r < w3.heap.size := (Array.getElem?_eq_some_iff.1 hc3).1
    have HT3 := Lib.hid (HT2.out.same t3)
    have HC3 := Lib.hid hc3
    clear t3 hc3
    go_wp2_with (at_builtin; go_must (refine wpList_append_rows_at (w0 := w3) rfl _ _ 57 rfl w3.heap.size 69 i0 _ 2 32 Try.underlying57 hi hz0 hz1 hz2 rfl [.slice none 0 0, .int .i64 0] 1 rfl rfl (World.ownsRow_nil _ _ _ _) rfl rfl ?_ ?_ ?_ (Nat.le_refl _) ?_))
    · exact fun u hu => by simp at hu; rcases hu with rfl | rfl <;> rfl
    · unfold maxLen; omega
    · omega
    intro v5 w5 o5 g5 b5 _
    obtain ⟨a5, c5, hv5, _, _⟩ := (ownsRow.reads o5).le
    subst hv5
    have hc5 := (b5.block r hlt3).trans HC3.out
    have u3 := Lib.cell_of_heap hc5 3
    have uf := Lib.frozen_of_heap hc5
    simp at u3
    have hlt5 : r < w5.heap.size := (Array.getElem?_eq_some_iff.1 hc5).1
    have HT5 := Lib.hid (HT3.out.same (Touch.of_below b5 [r]))
    clear o5 g5 b5 hc5
    go_wp2
    go_ret
    exact ⟨⟨_, rfl⟩, HT5.out.setCell (.inl List.mem_cons_self) _⟩
  · have HT2 := HT1
    generalize readyE false [s] = z at *
    go_wp2
    go_ret
    exact ⟨⟨_, rfl⟩, HT2.out⟩

set_option maxRecDepth 100000 in
set_option maxHeartbeats 1000000 in
theorem rsyncdir0 {W : World} {r : Nat} (h : R0 W r) : Calls Try.prog 31 #[.pointer (some ⟨r, 0, none⟩)] W (REnd W r) := by
  have HMa := Lib.hid (may_any _ r false h.may (.slice none 0 0) [] (nil_strs W) (by simp))
  have HX := Lib.hid h
  clear h
  go_enter Try.func31, Try.ntmps31
  go_wp2_with (go_at_call 41; go_must (refine HMa.out.mono ?_))
  rintro e w1 ⟨rfl, b1⟩
  have hz : readyE false [] = 0 := rfl
  rw [hz]
  have h1 := HX.out.below b1
  have HBu := Lib.hid (rburn0 h1)
  have c6 := Lib.cell_of_heap h1 6
  have c5 := Lib.cell_of_heap h1 5
  have c4 := Lib.cell_of_heap h1 4
  have cf := Lib.frozen_of_heap h1
  simp at c6 c5 c4
  have hlt := h1.lt
  have HT1 := Lib.hid (Touch.of_below b1 [r])
  clear b1 h1
  go_wp2_with (go_at_call 49; go_must (refine HBu.out.mono ?_))
  rintro e w2 ⟨rfl, rfl⟩
  go_wp2
  go_ret
  exact ⟨⟨_, rfl⟩, (HT1.out.setCell (.inl List.mem_cons_self) _).setCell (.inl List.mem_cons_self) _⟩

def RVoid (W : World) (r : Nat) (e : Ending) (W' : World) : Prop := e = .returned (.tuple #[]) ∧ Touch W W' [r]

set_option maxRecDepth 100000 in
theorem rfuse0 {W : World} {r : Nat} (h : R0 W r) (n : Int) : Calls Try.prog 34 #[.pointer (some ⟨r, 0, none⟩), .int .i64 n] W (RVoid W r) := by
  have c2 := Lib.cell_of_heap h 2
  have cf := Lib.frozen_of_heap h
  simp at c2
  have hlt := h.lt
  clear h
  go_enter Try.func34, Try.ntmps34
  go_wp2
  exact bodyPost_end (by simp [results, Try.results34]) rfl ⟨rfl, (Touch.refl _ _).setCell (.inl List.mem_cons_self) _⟩
end Go.Proofs.Ytbhapbioibhalaa
