/- The reference's calls on a fresh disk. -/
import Derived.Test.YtbhapbioibhalaaDiskRefF
namespace Go.Proofs.Ytbhapbioibhalaa
open Go Go.RowKit Go.Maps

theorem names_nil (W : World) : Reads W 2 (.slice none 0 0) ([] : Dir).length (ncells []) := ⟨rfl, none, 0, rfl, Nat.le_refl _, Nat.zero_le _, fun j u hj => by simp [ncells] at hj⟩
theorem R0.may {W : World} {r : Nat} (h : R0 W r) : W.cell? ⟨r, 1, none⟩ = some (.bool false) := by
  have := Lib.cell_of_heap h 1
  simpa using this

set_option maxRecDepth 100000 in
theorem rnew0 (W : World) : Calls Try.prog 11 #[.int .i64 0] W (fun e w' => e = .returned (.pointer (some ⟨W.heap.size, 0, none⟩)) ∧ Below W.heap.size W w' ∧ R0 w' W.heap.size) := by
  have hc : R0 (W.alloc (.cells #[.int .i64 0, .bool false, .int .i64 (-1), .slice none 0 0, .slice none 0 0, .slice none 0 0, .slice none 0 0] 61)) W.heap.size := heap_alloc_new W _
  have HC := Lib.hid hc
  clear hc
  go_enter Try.func11, Try.ntmps11
  go_wp2
  go_ret
  exact ⟨rfl, (Below.refl _ _).alloc (Nat.le_refl _) _, HC.out⟩

set_option maxRecDepth 100000 in
set_option maxHeartbeats 1000000 in
theorem rappend0 {W : World} {r : Nat} (h : R0 W r) (s : ByteArray) (hs : s.size ≤ 1000000000) (a : Option Addr) (n c : Nat) : Calls Try.prog 29 #[.pointer (some ⟨r, 0, none⟩), .string s, .slice a n c] W (REnd W r) := by
  have bX := (Below.refl W.heap.size W).alloc (Nat.le_refl _) (.cells #[.string s] 9)
  have hX := h.below bX
  have HMa := Lib.hid (fun v hr => may_any _ r false hX.may v [s] hr (by simpa using hs))
  have HLi := Lib.hid (lit1 W s)
  have HX := Lib.hid hX
  have HBX := Lib.hid bX
  clear h bX hX
  go_enter Try.func29, Try.ntmps29
  go_wp2_with (go_at_call 41; go_must (refine (HMa.out _ HLi.out).mono ?_))
  rintro e w1 ⟨rfl, b1⟩
  have h1 := HX.out.below b1
  have c4 := Lib.cell_of_heap h1 4
  simp at c4
  have hlt := h1.lt
  have HT1 := Lib.hid (Touch.of_below (HBX.out.trans (b1.mono HBX.out.size)) [r])
  have HFi := Lib.hid (rfind_any w1 (.slice none 0 0) [] s (names_nil w1))
  have HB1 := Lib.hid (HBX.out.trans (b1.mono HBX.out.size))
  clear b1 h1
  by_cases hz : readyE false [s] = 0
  · rw [hz]
    go_wp2_with (go_at_call 42; go_must (refine HFi.out.mono ?_))
    rintro e w2 ⟨rfl, b2⟩
    have hfi : findI [] s = -1 := rfl
    rw [hfi]
    have HT2 := Lib.hid (HT1.out.same (Touch.of_below b2 [r]))
    clear b2
    go_wp2
    go_ret
    exact ⟨⟨_, rfl⟩, HT2.out⟩
  · have HT2 := HT1
    generalize readyE false [s] = z at *
    go_wp2
    go_ret
    exact ⟨⟨_, rfl⟩, HT2.out⟩

set_option maxRecDepth 100000 in
set_option maxHeartbeats 1000000 in
theorem rsync0 {W : World} {r : Nat} (h : R0 W r) (s : ByteArray) (hs : s.size ≤ 1000000000) : Calls Try.prog 30 #[.pointer (some ⟨r, 0, none⟩), .string s] W (REnd W r) := by
  have bX := (Below.refl W.heap.size W).alloc (Nat.le_refl _) (.cells #[.string s] 9)
  have hX := h.below bX
  have HMa := Lib.hid (fun v hr => may_any _ r false hX.may v [s] hr (by simpa using hs))
  have HLi := Lib.hid (lit1 W s)
  have HX := Lib.hid hX
  have HBX := Lib.hid bX
  clear h bX hX
  go_enter Try.func30, Try.ntmps30
  go_wp2_with (go_at_call 41; go_must (refine (HMa.out _ HLi.out).mono ?_))
  rintro e w1 ⟨rfl, b1⟩
  have h1 := HX.out.below b1
  have c4 := Lib.cell_of_heap h1 4
  simp at c4
  have hlt := h1.lt
  have HT1 := Lib.hid (Touch.of_below (HBX.out.trans (b1.mono HBX.out.size)) [r])
  have HFi := Lib.hid (rfind_any w1 (.slice none 0 0) [] s (names_nil w1))
  have HB1 := Lib.hid (HBX.out.trans (b1.mono HBX.out.size))
  clear b1 h1
  by_cases hz : readyE false [s] = 0
  · rw [hz]
    go_wp2_with (go_at_call 42; go_must (refine HFi.out.mono ?_))
    rintro e w2 ⟨rfl, b2⟩
    have hfi : findI [] s = -1 := rfl
    rw [hfi]
    have HT2 := Lib.hid (HT1.out.same (Touch.of_below b2 [r]))
    clear b2
    go_wp2
    go_ret
    exact ⟨⟨_, rfl⟩, HT2.out⟩
  · have HT2 := HT1
    generalize readyE false [s] = z at *
    go_wp2
    go_ret
    exact ⟨⟨_, rfl⟩, HT2.out⟩

set_option maxRecDepth 100000 in
set_option maxHeartbeats 1000000 in
theorem rremove0 {W : World} {r : Nat} (h : R0 W r) (s : ByteArray) (hs : s.size ≤ 1000000000) : Calls Try.prog 33 #[.pointer (some ⟨r, 0, none⟩), .string s] W (REnd W r) := by
  have bX := (Below.refl W.heap.size W).alloc (Nat.le_refl _) (.cells #[.string s] 9)
  have hX := h.below bX
  have HMa := Lib.hid (fun v hr => may_any _ r false hX.may v [s] hr (by simpa using hs))
  have HLi := Lib.hid (lit1 W s)
  have HX := Lib.hid hX
  have HBX := Lib.hid bX
  clear h bX hX
  go_enter Try.func33, Try.ntmps33
  go_wp2_with (go_at_call 41; go_must (refine (HMa.out _ HLi.out).mono ?_))
  rintro e w1 ⟨rfl, b1⟩
  have h1 := HX.out.below b1
  have c4 := Lib.cell_of_heap h1 4
  simp at c4
  have hlt := h1.lt
  have HT1 := Lib.hid (Touch.of_below (HBX.out.trans (b1.mono HBX.out.size)) [r])
  have HFi := Lib.hid (rfind_any w1 (.slice none 0 0) [] s (names_nil w1))
  have HB1 := Lib.hid (HBX.out.trans (b1.mono HBX.out.size))
  clear b1 h1
  by_cases hz : readyE false [s] = 0
  · rw [hz]
    go_wp2_with (go_at_call 42; go_must (refine HFi.out.mono ?_))
    rintro e w2 ⟨rfl, b2⟩
    have hfi : findI [] s = -1 := rfl
    rw [hfi]
    have HT2 := Lib.hid (HT1.out.same (Touch.of_below b2 [r]))
    clear b2
    go_wp2
    go_ret
    exact ⟨⟨_, rfl⟩, HT2.out⟩
  · have HT2 := HT1
    generalize readyE false [s] = z at *
    go_wp2
    go_ret
    exact ⟨⟨_, rfl⟩, HT2.out⟩

set_option maxRecDepth 100000 in
set_option maxHeartbeats 1000000 in
theorem rrename0 {W : World} {r : Nat} (h : R0 W r) (s t : ByteArray) (hs : s.size ≤ 1000000000 ∧ t.size ≤ 1000000000) : Calls Try.prog 32 #[.pointer (some ⟨r, 0, none⟩), .string s, .string t] W (REnd W r) := by
  have bX := (Below.refl W.heap.size W).alloc (Nat.le_refl _) (.cells #[.string s, .string t] 9)
  have hX := h.below bX
  have HMa := Lib.hid (fun v hr => may_any _ r false hX.may v [s, t] hr (by simpa using hs))
  have HLi := Lib.hid (lit2 W s t)
  have HX := Lib.hid hX
  have HBX := Lib.hid bX
  clear h bX hX
  go_enter Try.func32, Try.ntmps32
  go_wp2_with (go_at_call 41; go_must (refine (HMa.out _ HLi.out).mono ?_))
  rintro e w1 ⟨rfl, b1⟩
  have h1 := HX.out.below b1
  have c4 := Lib.cell_of_heap h1 4
  simp at c4
  have hlt := h1.lt
  have HT1 := Lib.hid (Touch.of_below (HBX.out.trans (b1.mono HBX.out.size)) [r])
  have HFi := Lib.hid (rfind_any w1 (.slice none 0 0) [] s (names_nil w1))
  have HB1 := Lib.hid (HBX.out.trans (b1.mono HBX.out.size))
  clear b1 h1
  by_cases hz : readyE false [s, t] = 0
  · rw [hz]
    go_wp2_with (go_at_call 42; go_must (refine HFi.out.mono ?_))
    rintro e w2 ⟨rfl, b2⟩
    have hfi : findI [] s = -1 := rfl
    rw [hfi]
    have HT2 := Lib.hid (HT1.out.same (Touch.of_below b2 [r]))
    clear b2
    go_wp2
    go_ret
    exact ⟨⟨_, rfl⟩, HT2.out⟩
  · have HT2 := HT1
    generalize readyE false [s, t] = z at *
    go_wp2
    go_ret
    exact ⟨⟨_, rfl⟩, HT2.out⟩

def RRead (W : World) (r : Nat) (e : Ending) (W' : World) : Prop := (∃ z, e = .returned (.tuple #[.slice none 0 0, .int .i64 z])) ∧ Touch W W' [r]

set_option maxRecDepth 100000 in
set_option maxHeartbeats 1000000 in
theorem rread0 {W : World} {r : Nat} (h : R0 W r) (s : ByteArray) (hs : s.size ≤ 1000000000) : Calls Try.prog 19 #[.pointer (some ⟨r, 0, none⟩), .string s] W (RRead W r) := by
  have bX := (Below.refl W.heap.size W).alloc (Nat.le_refl _) (.cells #[.string s] 9)
  have hX := h.below bX
  have HMa := Lib.hid (fun v hr => may_any _ r false hX.may v [s] hr (by simpa using hs))
  have HLi := Lib.hid (lit1 W s)
  have HX := Lib.hid hX
  have HBX := Lib.hid bX
  clear h bX hX
  go_enter Try.func19, Try.ntmps19
  go_wp2_with (go_at_call 41; go_must (refine (HMa.out _ HLi.out).mono ?_))
  rintro e w1 ⟨rfl, b1⟩
  have h1 := HX.out.below b1
  have c4 := Lib.cell_of_heap h1 4
  simp at c4
  have hlt := h1.lt
  have HT1 := Lib.hid (Touch.of_below (HBX.out.trans (b1.mono HBX.out.size)) [r])
  have HFi := Lib.hid (rfind_any w1 (.slice none 0 0) [] s (names_nil w1))
  have HB1 := Lib.hid (HBX.out.trans (b1.mono HBX.out.size))
  clear b1 h1
  by_cases hz : readyE false [s] = 0
  · rw [hz]
    go_wp2_with (go_at_call 42; go_must (refine HFi.out.mono ?_))
    rintro e w2 ⟨rfl, b2⟩
    have hfi : findI [] s = -1 := rfl
    rw [hfi]
    have HT2 := Lib.hid (HT1.out.same (Touch.of_below b2 [r]))
    clear b2
    go_wp2
    go_ret2
    exact ⟨⟨_, rfl⟩, HT2.out⟩
  · have HT2 := HT1
    generalize readyE false [s] = z at *
    go_wp2
    go_ret2
    exact ⟨⟨_, rfl⟩, HT2.out⟩
end Go.Proofs.Ytbhapbioibhalaa
