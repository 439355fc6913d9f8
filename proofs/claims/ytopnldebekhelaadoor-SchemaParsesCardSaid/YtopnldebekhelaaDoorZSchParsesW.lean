/- Any text's schema is the document's, or which line is wrong: the law's walk. -/
import Derived.Test.YtopnldebekhelaaDoorZSchRpParse
import Derived.Test.YtopnldebekhelaaDoorZSchAgain
namespace Go.Proofs.YtopnldebekhelaaDoor
open Go Go.RowKit

set_option maxRecDepth 100000 in
set_option maxHeartbeats 4000000 in
theorem parses_any (w : World) (text : ByteArray) (hm : MaxInt w) (h0 : 0 < w.heap.size) (hsz : (text.size : Int) ≤ 9223372036854775807) : Calls Tryd.prog 3 #[.string text] w (GivesBool w true) := by
  have HF := Lib.hid (fixed_any w hm h0)
  have HM := Lib.hid hm
  clear hm
  go_enter Tryd.func3, Tryd.ntmps3
  go_wp2_with (go_at_call 7; go_must (refine HF.out.mono ?_))
  rintro e w1 ⟨rfl, hb1⟩
  have hm1 := HM.out.keep hb1 h0
  have h1 : 0 < w1.heap.size := Nat.lt_of_lt_of_le h0 hb1.size
  have HB1 := Lib.hid hb1
  have HM1 := Lib.hid hm1
  clear hb1 hm1 HF
  by_cases hl : (3000 : Int) < text.size
  · by_cases hl2 : (text.size : Int) ≤ 65536
    · go_wp2
      go_ret
      exact ⟨rfl, HB1.out⟩
    · by_cases hl3 : (65600 : Int) < text.size
      · go_wp2
        go_ret
        exact ⟨rfl, HB1.out⟩
      · have hs9 : text.size ≤ 1000000000 := by omega
        obtain ⟨S, hS⟩ : ∃ S, (parseS text).1 = S := ⟨_, rfl⟩
        obtain ⟨k, hk⟩ : ∃ k, (parseS text).2.1 = k := ⟨_, rfl⟩
        obtain ⟨er, her⟩ : ∃ er, (parseS text).2.2 = er := ⟨_, rfl⟩
        have hp : parseS text = (S, k, er) := by rw [← hS, ← hk, ← her]
        have hc := parse_any w1 text HM1.out h1 hs9
        rw [hp] at hc
        have HC := Lib.hid hc
        have HC2 := Lib.hid (fun (W : World) => by
          have h := refparse_any W text.data.toList (by rw [show text.data.toList.length = text.size from Array.length_toList]; exact hs9)
          rw [tk_of, hp] at h
          exact h)
        clear hS hk her hp hc
        go_wp2_with (go_at_call 8; go_must (refine HC.out.mono ?_))
        rintro e w2 ⟨tv, rfl, hs, hb2⟩
        obtain ⟨n, hn⟩ : ∃ n, S.length = n := ⟨_, rfl⟩
        obtain ⟨ta, tcap, rfl, _, _⟩ := hs.shape hn
        obtain ⟨w3, hw3⟩ : ∃ W, W = w2.alloc (.cells #[.slice ta n tcap] 25) := ⟨_, rfl⟩
        have hb3 : Below w2.heap.size w2 w3 := by rw [hw3]; exact (Below.refl _ _).alloc (Nat.le_refl _) _
        have hX3 : w3.heap[w2.heap.size]? = some (.cells #[.slice ta n tcap] 25 (0, 0)) := by rw [hw3]; exact heap_alloc_new w2 _
        have HS3 := Lib.hid (show SchAt (· < w3.heap.size) w3 (.slice ta n tcap) S from ((hs.mono (ok' := (· < w2.heap.size)) (fun _ hx _ => hx)).keep (Keeps.of_below hb3)).mono (fun _ hx _ => hx))
        have hx3 := (Array.getElem?_eq_some_iff.1 hX3).1
        have HB3 := Lib.hid (HB1.out.trans ((hb2.trans (hb3.mono hb2.size)).mono HB1.out.size))
        have HX3 := Lib.hid hX3
        have HW3 := Lib.hid hw3
        have HN := Lib.hid hn
        clear hs hb2 hw3 hb3 hX3 hn HC HM1
        go_upto_region 6 with fail
        rw [← HW3.out]
        clear HW3
        have HC3 := Lib.hid (HC2.out w3)
        clear HC2
        go_wp2_with (go_at_call 9; go_must (refine HC3.out.mono ?_))
        rintro e w4 ⟨tv4, rfl, hs4, hb4⟩
        obtain ⟨ta4, tcap4, rfl, _, _⟩ := hs4.shape HN.out
        obtain ⟨w5, hw5⟩ : ∃ W, W = w4.alloc (.cells #[.slice ta4 n tcap4] 25) := ⟨_, rfl⟩
        have hb5 : Below w4.heap.size w4 w5 := by rw [hw5]; exact (Below.refl _ _).alloc (Nat.le_refl _) _
        have hX5 : w5.heap[w4.heap.size]? = some (.cells #[.slice ta4 n tcap4] 25 (0, 0)) := by rw [hw5]; exact heap_alloc_new w4 _
        have hb35 : Below w3.heap.size w3 w5 := hb4.trans (hb5.mono hb4.size)
        have hX35 := (hb35.block _ hx3).trans HX3.out
        have hsA : SchAt (· < w5.heap.size) w5 (.slice ta n tcap) S := (HS3.out.keep (Keeps.of_below hb35)).mono (fun _ hb _ => hb)
        have hsB : SchAt (· < w5.heap.size) w5 (.slice ta4 n tcap4) S := ((hs4.mono (ok' := (· < w4.heap.size)) (fun _ hb _ => hb)).keep (Keeps.of_below hb5)).mono (fun _ hb _ => hb)
        have HSame := Lib.hid (same_any w5 _ _ S hsA hsB)
        have HW5 := Lib.hid hw5
        have HB5 := Lib.hid (HB3.out.trans (hb35.mono HB3.out.size))
        have HX5 := Lib.hid hX5
        have HX35 := Lib.hid hX35
        have h35 := (Array.getElem?_eq_some_iff.1 hX35).1
        have h55 := (Array.getElem?_eq_some_iff.1 hX5).1
        clear hs4 hb4 hw5 hb5 hX5 hb35 hX35 hsA hsB HC3
        go_upto_region 7 with fail
        rw [← HW5.out]
        clear HW5
        have x0 := Lib.cell_of_heap HX35.out 0
        have y0 := Lib.cell_of_heap HX5.out 0
        simp at x0 y0
        go_wp2_with (go_at_call 10; go_must (refine HSame.out.mono ?_))
        rintro e w7 ⟨rfl, hb7⟩
        go_wp2
        go_ret
        exact ⟨rfl, HB5.out.trans (hb7.mono HB5.out.size)⟩
  · have hl3 : ¬ (65600 : Int) < text.size := by omega
    have hs9 : text.size ≤ 1000000000 := by omega
    obtain ⟨S, hS⟩ : ∃ S, (parseS text).1 = S := ⟨_, rfl⟩
    obtain ⟨k, hk⟩ : ∃ k, (parseS text).2.1 = k := ⟨_, rfl⟩
    obtain ⟨er, her⟩ : ∃ er, (parseS text).2.2 = er := ⟨_, rfl⟩
    have hp : parseS text = (S, k, er) := by rw [← hS, ← hk, ← her]
    have hc := parse_any w1 text HM1.out h1 hs9
    rw [hp] at hc
    have HC := Lib.hid hc
    have HC2 := Lib.hid (fun (W : World) => by
      have h := refparse_any W text.data.toList (by rw [show text.data.toList.length = text.size from Array.length_toList]; exact hs9)
      rw [tk_of, hp] at h
      exact h)
    clear hS hk her hp hc
    go_wp2_with (go_at_call 8; go_must (refine HC.out.mono ?_))
    rintro e w2 ⟨tv, rfl, hs, hb2⟩
    obtain ⟨n, hn⟩ : ∃ n, S.length = n := ⟨_, rfl⟩
    obtain ⟨ta, tcap, rfl, _, _⟩ := hs.shape hn
    obtain ⟨w3, hw3⟩ : ∃ W, W = w2.alloc (.cells #[.slice ta n tcap] 25) := ⟨_, rfl⟩
    have hb3 : Below w2.heap.size w2 w3 := by rw [hw3]; exact (Below.refl _ _).alloc (Nat.le_refl _) _
    have hX3 : w3.heap[w2.heap.size]? = some (.cells #[.slice ta n tcap] 25 (0, 0)) := by rw [hw3]; exact heap_alloc_new w2 _
    have HS3 := Lib.hid (show SchAt (· < w3.heap.size) w3 (.slice ta n tcap) S from ((hs.mono (ok' := (· < w2.heap.size)) (fun _ hx _ => hx)).keep (Keeps.of_below hb3)).mono (fun _ hx _ => hx))
    have hx3 := (Array.getElem?_eq_some_iff.1 hX3).1
    have HB3 := Lib.hid (HB1.out.trans ((hb2.trans (hb3.mono hb2.size)).mono HB1.out.size))
    have HX3 := Lib.hid hX3
    have HW3 := Lib.hid hw3
    have HN := Lib.hid hn
    clear hs hb2 hw3 hb3 hX3 hn HC HM1
    go_upto_region 6 with fail
    rw [← HW3.out]
    clear HW3
    have HC3 := Lib.hid (HC2.out w3)
    clear HC2
    go_wp2_with (go_at_call 9; go_must (refine HC3.out.mono ?_))
    rintro e w4 ⟨tv4, rfl, hs4, hb4⟩
    obtain ⟨ta4, tcap4, rfl, _, _⟩ := hs4.shape HN.out
    obtain ⟨w5, hw5⟩ : ∃ W, W = w4.alloc (.cells #[.slice ta4 n tcap4] 25) := ⟨_, rfl⟩
    have hb5 : Below w4.heap.size w4 w5 := by rw [hw5]; exact (Below.refl _ _).alloc (Nat.le_refl _) _
    have hX5 : w5.heap[w4.heap.size]? = some (.cells #[.slice ta4 n tcap4] 25 (0, 0)) := by rw [hw5]; exact heap_alloc_new w4 _
    have hb35 : Below w3.heap.size w3 w5 := hb4.trans (hb5.mono hb4.size)
    have hX35 := (hb35.block _ hx3).trans HX3.out
    have hsA : SchAt (· < w5.heap.size) w5 (.slice ta n tcap) S := (HS3.out.keep (Keeps.of_below hb35)).mono (fun _ hb _ => hb)
    have hsB : SchAt (· < w5.heap.size) w5 (.slice ta4 n tcap4) S := ((hs4.mono (ok' := (· < w4.heap.size)) (fun _ hb _ => hb)).keep (Keeps.of_below hb5)).mono (fun _ hb _ => hb)
    have HSame := Lib.hid (same_any w5 _ _ S hsA hsB)
    have HW5 := Lib.hid hw5
    have HB5 := Lib.hid (HB3.out.trans (hb35.mono HB3.out.size))
    have HX5 := Lib.hid hX5
    have HX35 := Lib.hid hX35
    have h35 := (Array.getElem?_eq_some_iff.1 hX35).1
    have h55 := (Array.getElem?_eq_some_iff.1 hX5).1
    clear hs4 hb4 hw5 hb5 hX5 hb35 hX35 hsA hsB HC3
    go_upto_region 7 with fail
    rw [← HW5.out]
    clear HW5
    have x0 := Lib.cell_of_heap HX35.out 0
    have y0 := Lib.cell_of_heap HX5.out 0
    simp at x0 y0
    go_wp2_with (go_at_call 10; go_must (refine HSame.out.mono ?_))
    rintro e w7 ⟨rfl, hb7⟩
    go_wp2
    go_ret
    exact ⟨rfl, HB5.out.trans (hb7.mono HB5.out.size)⟩

/-- The law, from the world in which it is called. -/
theorem schemaParses_walk (w : World) (text : ByteArray) (hs : text.size ≤ maxLen) (hm : MaxInt w) : Calls Tryd.prog 3 #[.string text] w (GivesBool w true) := by
  have h0 : 0 < w.heap.size := by
    obtain ⟨m, hm⟩ := hm
    have hg : 0 < w.heap.size ∨ ¬ 0 < w.heap.size := Nat.lt_or_ge _ _ |>.imp id (fun h => by omega)
    rcases hg with h | h
    · exact h
    · have hn : w.heap[0]? = none := by rw [Array.getElem?_eq_none_iff]; omega
      unfold World.cell? at hm
      rw [hn] at hm
      cases hm
  unfold maxLen at hs
  exact parses_any w text hm h0 (by omega)
end Go.Proofs.YtopnldebekhelaaDoor
