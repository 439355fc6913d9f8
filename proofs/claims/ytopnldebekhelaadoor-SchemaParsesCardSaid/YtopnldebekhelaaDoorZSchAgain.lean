/- What is parsed, printed and parsed again is the same. -/
import Derived.Test.YtopnldebekhelaaDoorZSchFixed
namespace Go.Proofs.YtopnldebekhelaaDoor
open Go Go.RowKit

theorem parse_err {text : ByteArray} {S : List Ty} {k e : Nat} (h : parseS text = (S, k, e)) (he : e ≠ 0) : S = [] := by
  unfold parseS at h
  split at h
  · cases h
    rfl
  · unfold parseR at h
    split at h
    · cases h
      exact absurd rfl he
    · cases h
      rfl

theorem parse_ok {text : ByteArray} {S : List Ty} {k : Nat} (h : parseS text = (S, k, 0)) : k = 0 := by
  unfold parseS at h
  split at h
  · cases h
  · unfold parseR at h
    split at h
    · cases h
      rfl
    · cases h

/-- What is parsed is not long. -/
theorem parse_fits {text : ByteArray} {S : List Ty} (h : parseS text = (S, 0, 0)) : wS S ≤ 9 * text.size := by
  unfold parseS at h
  split at h
  · cases h
  · cases hp : parseL 0 [] (linesL text.data.toList) with
    | mk r k =>
      cases r with
      | none => rw [hp] at h; cases h
      | some S' =>
        rw [hp] at h
        cases h
        obtain ⟨_, g2⟩ := parse_good _ _ _ _ _ (fun t ht => by cases ht) hp
        have h3 := lines_sum text.data.toList
        have h4 : text.data.toList.length = text.size := Array.length_toList
        have h5 : wS [] = 0 := rfl
        omega

set_option maxRecDepth 100000 in
set_option maxHeartbeats 4000000 in
theorem again_any (w : World) (text : ByteArray) (hm : MaxInt w) (h0 : 0 < w.heap.size) (hsz : (text.size : Int) ≤ 9223372036854775807) : Calls Tryd.prog 5 #[.string text] w (GivesBool w true) := by
  have HF := Lib.hid (fixed_any w hm h0)
  have HM := Lib.hid hm
  clear hm
  go_enter Tryd.func5, Tryd.ntmps5
  go_wp2_with (go_at_call 7; go_must (refine HF.out.mono ?_))
  rintro e w1 ⟨rfl, hb1⟩
  have hm1 := HM.out.keep hb1 h0
  have h1 : 0 < w1.heap.size := Nat.lt_of_lt_of_le h0 hb1.size
  have HB1 := Lib.hid hb1
  have HM1 := Lib.hid hm1
  clear hb1 hm1 HF
  by_cases hl : (3000 : Int) < text.size
  · go_wp2
    go_ret
    exact ⟨rfl, HB1.out⟩
  · obtain ⟨S, hS⟩ : ∃ S, (parseS text).1 = S := ⟨_, rfl⟩
    obtain ⟨k, hk⟩ : ∃ k, (parseS text).2.1 = k := ⟨_, rfl⟩
    obtain ⟨er, her⟩ : ∃ er, (parseS text).2.2 = er := ⟨_, rfl⟩
    have hp : parseS text = (S, k, er) := by rw [← hS, ← hk, ← her]
    have hc := parse_any w1 text HM1.out h1 (by omega)
    rw [hp] at hc
    have HC := Lib.hid hc
    have HP := Lib.hid hp
    clear hS hk her hp hc
    go_wp2_with (go_at_call 8; go_must (refine HC.out.mono ?_))
    rintro e w2 ⟨tv, rfl, hs, hb2⟩
    obtain ⟨n, hn⟩ : ∃ n, S.length = n := ⟨_, rfl⟩
    obtain ⟨ta, tcap, rfl, _, _⟩ := hs.shape hn
    have hm2 := HM1.out.keep hb2 h1
    have h2 : 0 < w2.heap.size := Nat.lt_of_lt_of_le h1 hb2.size
    obtain ⟨w3, hw3⟩ : ∃ W, W = w2.alloc (.cells #[.slice ta n tcap] 25) := ⟨_, rfl⟩
    have hb3 : Below w2.heap.size w2 w3 := by rw [hw3]; exact (Below.refl _ _).alloc (Nat.le_refl _) _
    have hX3 : w3.heap[w2.heap.size]? = some (.cells #[.slice ta n tcap] 25 (0, 0)) := by rw [hw3]; exact heap_alloc_new w2 _
    have hsch : SchAt (· < w2.heap.size) w3 (.slice ta n tcap) S := (hs.mono (ok' := (· < w2.heap.size)) (fun _ hx _ => hx)).keep (Keeps.of_below hb3)
    have hm3 := hm2.keep hb3 h2
    have h3 : 0 < w3.heap.size := Nat.lt_of_lt_of_le h2 hb3.size
    have hx3 := (Array.getElem?_eq_some_iff.1 hX3).1
    have HB3 := Lib.hid (HB1.out.trans ((hb2.trans (hb3.mono hb2.size)).mono HB1.out.size))
    have HX3 := Lib.hid hX3
    have HS3 := Lib.hid hsch
    have HM3 := Lib.hid hm3
    have HW3 := Lib.hid hw3
    have HN := Lib.hid hn
    clear hs hb2 hm2 hw3 hb3 hX3 hsch hm3 hn HC HM1
    go_upto_region 6 with fail
    rw [← HW3.out]
    clear HW3
    have x0 := Lib.cell_of_heap HX3.out 0
    simp at x0
    by_cases he : er = 0
    · subst he
      obtain rfl := parse_ok HP.out
      have hfit := parse_fits HP.out
      obtain ⟨x, hx1, hx2⟩ := parse_prints HP.out
      have hxl : x.length ≤ 65536 := by omega
      have hcp := print_any w3 _ S (HS3.out.mono (fun _ hb hx => by first | exact hb | exact hx)) (by omega)
      rw [hx1] at hcp
      have HCP := Lib.hid hcp
      have HPP := Lib.hid (parse_print hx1 hxl)
      clear hcp hfit hx2 HP
      go_wp2_with (go_at_call 12; go_must (refine HCP.out.mono ?_))
      rintro e w4 ⟨he4, hb4⟩
      dsimp only at he4
      subst he4
      have hm4 := HM3.out.keep hb4 h3
      have h4 : 0 < w4.heap.size := Nat.lt_of_lt_of_le h3 hb4.size
      have hc2 := parse_any w4 (tk x) hm4 h4 (by rw [tk_size]; omega)
      rw [HPP.out] at hc2
      have HC2 := Lib.hid hc2
      have HB4 := Lib.hid hb4
      clear hm4 hc2 hb4 HCP
      go_wp2_with (go_at_call 8; go_must (refine HC2.out.mono ?_))
      rintro e w5 ⟨tv5, rfl, hs5, hb5⟩
      obtain ⟨ta5, tcap5, rfl, _, _⟩ := hs5.shape HN.out
      obtain ⟨w6, hw6⟩ : ∃ W, W = w5.alloc (.cells #[.slice ta5 n tcap5] 25) := ⟨_, rfl⟩
      have hb6 : Below w5.heap.size w5 w6 := by rw [hw6]; exact (Below.refl _ _).alloc (Nat.le_refl _) _
      have hX6 : w6.heap[w5.heap.size]? = some (.cells #[.slice ta5 n tcap5] 25 (0, 0)) := by rw [hw6]; exact heap_alloc_new w5 _
      have hb36 : Below w3.heap.size w3 w6 := HB4.out.trans ((hb5.trans (hb6.mono hb5.size)).mono HB4.out.size)
      have hX36 := (hb36.block _ hx3).trans HX3.out
      have hsA : SchAt (· < w6.heap.size) w6 (.slice ta n tcap) S := ((HS3.out.mono (ok' := (· < w3.heap.size)) (fun _ hb _ => hb)).keep (Keeps.of_below hb36)).mono (fun _ hb _ => hb)
      have hsB : SchAt (· < w6.heap.size) w6 (.slice ta5 n tcap5) S := ((hs5.mono (ok' := (· < w5.heap.size)) (fun _ hb _ => hb)).keep (Keeps.of_below hb6)).mono (fun _ hb _ => hb)
      have HSame := Lib.hid (same_any w6 _ _ S hsA hsB)
      have HW6 := Lib.hid hw6
      have HB6 := Lib.hid (HB3.out.trans (hb36.mono HB3.out.size))
      have HX6 := Lib.hid hX6
      have HX36 := Lib.hid hX36
      have h36 := (Array.getElem?_eq_some_iff.1 hX36).1
      have h66 := (Array.getElem?_eq_some_iff.1 hX6).1
      clear hs5 hb5 hw6 hb6 hX6 hb36 hX36 hsA hsB HC2 x0
      go_upto_region 10 with fail
      rw [← HW6.out]
      clear HW6
      have x0 := Lib.cell_of_heap HX36.out 0
      have y0 := Lib.cell_of_heap HX6.out 0
      simp at x0 y0
      go_wp2_with (go_at_call 10; go_must (refine HSame.out.mono ?_))
      rintro e w7 ⟨rfl, hb7⟩
      go_wp2
      go_ret
      exact ⟨rfl, HB6.out.trans (hb7.mono HB6.out.size)⟩
    · obtain rfl := parse_err HP.out he
      obtain rfl : n = 0 := HN.out.symm
      have heI : ¬ (er : Int) = 0 := by omega
      go_wp2
      go_ret
      exact ⟨rfl, HB3.out⟩

/-- The law, from the world in which it is called. -/
theorem schemaAgain_walk (w : World) (text : ByteArray) (hs : text.size ≤ maxLen) (hm : MaxInt w) : Calls Tryd.prog 5 #[.string text] w (GivesBool w true) := by
  have h0 : 0 < w.heap.size := by
    obtain ⟨m, hm⟩ := hm
    have hg : 0 < w.heap.size ∨ ¬ 0 < w.heap.size := Nat.lt_or_ge _ _ |>.imp id (fun h => by omega)
    rcases hg with h | h
    · exact h
    · have hn : w.heap[0]? = none := by rw [Array.getElem?_eq_none_iff]; omega
      unfold World.cell? at hm
      rw [hn] at hm
      cases hm
  unfold maxLen at hs
  exact again_any w text hm h0 (by omega)
end Go.Proofs.YtopnldebekhelaaDoor
