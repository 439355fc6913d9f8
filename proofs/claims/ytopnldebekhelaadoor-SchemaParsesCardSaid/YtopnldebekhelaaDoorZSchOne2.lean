/- The parser: what stands in a place of its own (written by gen_schone.py). -/
import Derived.Test.YtopnldebekhelaaDoorZSchOne
namespace Go.Proofs.YtopnldebekhelaaDoor
open Go Go.RowKit

theorem oneF_by (n : Nat) (T : List ByteArray) : oneF n T = if T.headD cNone = cOpen then brF n T.tail else if T.headD cNone = cThis then some (leafR 1 cNone cNone, T.tail) else
    if isRefB (T.headD cNone) = true then (if T.tail.headD cNone = cArrow then (if isRefB (T.tail.tail.headD cNone) = true then some (leafR 3 (T.headD cNone) (T.tail.tail.headD cNone), T.tail.tail.tail) else none) else some (leafR 2 (T.headD cNone) cNone, T.tail)) else none := by
  rw [oneF_eq]
  cases T with
  | nil =>
    rw [oneOf]
    rw [if_neg (show ¬ ([] : List ByteArray).headD cNone = cOpen by decide), if_neg (show ¬ ([] : List ByteArray).headD cNone = cThis by decide), if_neg (show ¬ isRefB (([] : List ByteArray).headD cNone) = true by decide)]
  | cons a r => rw [oneOf]; rfl

theorem headD_wt (T : List ByteArray) : (T.headD cNone).size + wtT T.tail ≤ wtT T := by
  cases T with
  | nil => rw [wtT_nil]; simp [cNone_size, wtT_nil]
  | cons a T => rw [wtT_cons]; simp only [List.headD_cons, List.tail_cons]; omega

set_option maxRecDepth 100000 in
set_option maxHeartbeats 4000000 in
theorem pone_any (n : Nat)
    (hit : ∀ (W : World) (g : Nat) (T : List ByteArray), PAt W g T (8 - n) false → wtT T ≤ 600000 → Calls Tryd.prog 78 #[.pointer (some ⟨g, 0, none⟩)] W (RuPost W g T (8 - n) (brF n T)))
    (w : World) (g : Nat) (T : List ByteArray) (h : PAt w g T (8 - n) false) (hT : wtT T ≤ 600000) :
    Calls Tryd.prog 71 #[.pointer (some ⟨g, 0, none⟩)] w (RuPost w g T (8 - n) (oneF n T)) := by
  have hR := oneF_by n T
  generalize oneF n T = R at *
  have hg := h.lt
  obtain ⟨D, hD⟩ : ∃ D : Int, (8 : Int) - n = D := ⟨_, rfl⟩
  rw [hD] at h hit ⊢
  have hw0 := headD_wt T
  have hw1 := headD_wt T.tail
  have hw2 := headD_wt T.tail.tail
  obtain ⟨w1, hw1'⟩ : ∃ W, W = w.alloc (.cells #[.int .i64 0, .string ⟨#[]⟩, .string ⟨#[]⟩, .slice none 0 0] 42) := ⟨_, rfl⟩
  have s1 : w1.heap.size = w.heap.size + 1 := by rw [hw1']; simp
  have HTw := Lib.hid (show Touch w w1 [g] by rw [hw1']; exact (Touch.refl w [g]).alloc _)
  have HN := Lib.hid (show w1.heap[w.heap.size]? = some (.cells #[.int .i64 0, .string ⟨#[]⟩, .string ⟨#[]⟩, .slice none 0 0] 42 (0, 0)) by rw [hw1']; exact heap_alloc_new w _)
  have p1 : PAt w1 g T D false := by rw [hw1']; exact h.below ((Below.refl _ _).alloc (Nat.le_refl _) _)
  have HK1 := Lib.hid (take_any w1 g T D false ⟨#[40]⟩ p1)
  have HW1 := Lib.hid hw1'
  clear hw1' h p1
  go_enter Tryd.func71, Tryd.ntmps71
  go_upto_region 1 with fail
  rw [← HW1.out]
  clear HW1
  by_cases c1 : T.headD cNone = cOpen
  · rw [if_pos (show T.headD cNone = ⟨#[40]⟩ from c1), decide_eq_true (show T.headD cNone = ⟨#[40]⟩ from c1)] at HK1
    rw [if_pos c1] at hR
    have HRR := Lib.hid hR
    have HIt := Lib.hid hit
    have hTt : wtT T.tail + 8 ≤ wtT T := by
      have := headD_tail_wt c1 (by decide)
      omega
    obtain ⟨U, hU⟩ : ∃ U, T.tail = U := ⟨_, rfl⟩
    rw [hU] at HK1 HRR hTt
    clear hR hit c1 hU hw1 hw2 hw0
    go_wp2_with (go_at_call 43; go_must (refine HK1.out.mono ?_))
    rintro e w2 ⟨rfl, p2, t2⟩
    have HC := Lib.hid (HIt.out w2 g U p2 (by omega))
    have HT2 := Lib.hid t2
    have hs2 := t2.size
    clear p2 t2 HIt HK1
    go_wp2_with (go_at_call 78; go_must (refine HC.out.mono ?_))
    rintro e w3 ⟨x, rfl, hat, t3, hp3⟩
    have HT3 := Lib.hid (HT2.out.same t3)
    have hn3 := HT3.out.keep HN.out (by simp; omega)
    have hat3 := ruE_keep.mono _ (fun b => w.heap.size + 1 ≤ b) _ _ (fun b _ hb => by omega) hat
    have hpr : PrRes w3 g T D x.tree R := by
      rw [HRR.out]
      cases hb : brF n U with
      | none =>
        rw [hb] at hp3
        obtain ⟨q1, q2⟩ := hp3
        exact ⟨by omega, q2⟩
      | some y => rw [hb] at hp3; exact hp3
    obtain ⟨hf1, hf2⟩ := row_ret (cs := _) rfl hn3 (HTw.out.same HT3.out) hg hat3 hpr _ rfl
    have HF1 := Lib.hid hf1
    have HF2 := Lib.hid hf2
    have e0 := Lib.cell_of_heap hn3 0; have e1 := Lib.cell_of_heap hn3 1; have e2 := Lib.cell_of_heap hn3 2; have e3 := Lib.cell_of_heap hn3 3
    have fz := Lib.frozen_of_heap hn3
    simp at e0 e1 e2 e3
    clear hf1 hf2 hat3 hn3 hat t3 hp3 hpr HC
    go_wp2
    exact bodyPost_ret (ret_rule Tryd.results71 rfl HF1.out) rfl HF2.out
  · rw [if_neg (show ¬ T.headD cNone = ⟨#[40]⟩ from c1), decide_eq_false (show ¬ T.headD cNone = ⟨#[40]⟩ from c1)] at HK1
    rw [if_neg c1] at hR
    have HRR := Lib.hid hR
    clear hit c1 hR
    go_wp2_with (go_at_call 43; go_must (refine HK1.out.mono ?_))
    rintro e w2 ⟨rfl, p2, t2⟩
    have HK2 := Lib.hid (take_any w2 g T D false ⟨#[116, 104, 105, 115]⟩ p2)
    have HP2 := Lib.hid p2
    have HT2 := Lib.hid t2
    clear p2 t2 HK1
    by_cases c2 : T.headD cNone = cThis
    · rw [if_pos (show T.headD cNone = ⟨#[116, 104, 105, 115]⟩ from c2), decide_eq_true (show T.headD cNone = ⟨#[116, 104, 105, 115]⟩ from c2)] at HK2
      rw [if_pos c2] at HRR
      obtain ⟨U, hU⟩ : ∃ U, T.tail = U := ⟨_, rfl⟩
      rw [hU] at HK2 HRR
      clear c2 hU hw0 hw1 hw2
      go_wp2_with (go_at_call 43; go_must (refine HK2.out.mono ?_))
      rintro e w3 ⟨rfl, p3, t3⟩
      have HPR := Lib.hid (show PrRes w3 g T D (ruLeaf 1 cNone cNone).tree R by rw [HRR.out]; exact ⟨rfl, p3⟩)
      have HT3 := Lib.hid t3
      clear p3 t3
      have HT4 := Lib.hid (HT2.out.same HT3.out)
      have hn4 := HT4.out.keep HN.out (by simp; omega)
      obtain ⟨hf1, hf2⟩ := row_ret (cs := _) rfl hn4 (HTw.out.same HT4.out) hg (x := ruLeaf 1 cNone cNone) (ruLeaf_at _ _ _ _ _) (T := T) (d := D) (R := R) HPR.out _ rfl
      have HF1 := Lib.hid hf1
      have HF2 := Lib.hid hf2
      have e0 := Lib.cell_of_heap hn4 0; have e1 := Lib.cell_of_heap hn4 1; have e2 := Lib.cell_of_heap hn4 2; have e3 := Lib.cell_of_heap hn4 3
      have fz := Lib.frozen_of_heap hn4
      simp at e0 e1 e2 e3
      clear hf1 hf2 hn4
      go_wp2
      exact bodyPost_ret (ret_rule Tryd.results71 rfl HF1.out) rfl HF2.out
    · rw [if_neg (show ¬ T.headD cNone = ⟨#[116, 104, 105, 115]⟩ from c2), decide_eq_false (show ¬ T.headD cNone = ⟨#[116, 104, 105, 115]⟩ from c2)] at HK2
      rw [if_neg c2] at HRR
      clear c2
      go_wp2_with (go_at_call 43; go_must (refine HK2.out.mono ?_))
      rintro e w3 ⟨rfl, p3, t3⟩
      obtain ⟨a, ha⟩ : ∃ a, T.headD cNone = a := ⟨_, rfl⟩
      obtain ⟨U, hU⟩ : ∃ U, T.tail = U := ⟨_, rfl⟩
      have hNm := pname_any w3 g T D false p3
      rw [ha, hU, Bool.false_or] at hNm
      rw [ha, hU] at HRR hw0
      rw [hU] at hw1 hw2
      have HNm := Lib.hid hNm
      have HT3 := Lib.hid (HT2.out.same t3)
      clear p3 t3 HP2 HT2 HK2 hNm ha hU
      go_wp2_with (go_at_call 79; go_must (refine HNm.out.mono ?_))
      rintro e w4 ⟨rfl, p4, t4⟩
      have HT4a := Lib.hid (HT3.out.same t4)
      have HK4 := Lib.hid (take_any w4 g U D (!isRefB a) ⟨#[45, 62]⟩ p4)
      clear p4 t4 HT3 HNm
      by_cases c3 : U.headD cNone = cArrow
      · rw [if_pos (show U.headD cNone = ⟨#[45, 62]⟩ from c3), decide_eq_true (show U.headD cNone = ⟨#[45, 62]⟩ from c3)] at HK4
        rw [if_pos c3] at HRR
        clear c3
        go_wp2_with (go_at_call 43; go_must (refine HK4.out.mono ?_))
        rintro e w5 ⟨rfl, p5, t5⟩
        obtain ⟨V, hV⟩ : ∃ V, U.tail = V := ⟨_, rfl⟩
        obtain ⟨b, hb⟩ : ∃ b, V.headD cNone = b := ⟨_, rfl⟩
        obtain ⟨X, hX⟩ : ∃ X, V.tail = X := ⟨_, rfl⟩
        rw [hV] at p5 HRR hw1 hw2
        have hNm := pname_any w5 g V D (!isRefB a) p5
        rw [hb, hX] at hNm HRR hw2
        have HNm := Lib.hid hNm
        have HT5 := Lib.hid (HT4a.out.same t5)
        clear p5 t5 HT4a HK4 hNm hV hb hX
        go_wp2_with (go_at_call 79; go_must (refine HNm.out.mono ?_))
        rintro e w6 ⟨rfl, p6, t6⟩
        have HPR := Lib.hid (show PrRes w6 g T D (ruLeaf 3 a b).tree R by
          have hwt := ruLeaf_wt 3 a b
          rw [HRR.out]
          cases hia : isRefB a with
          | false =>
            rw [if_neg (by decide)]
            rw [hia] at p6
            exact ⟨by omega, X, D, by simpa using p6⟩
          | true =>
            rw [if_pos rfl]
            cases hib : isRefB b with
            | false =>
              rw [if_neg (by decide)]
              rw [hia, hib] at p6
              exact ⟨by omega, X, D, by simpa using p6⟩
            | true =>
              rw [if_pos rfl]
              rw [hia, hib] at p6
              exact ⟨rfl, by simpa using p6⟩)
        have HT6 := Lib.hid (HT5.out.same t6)
        clear p6 t6 HT5 HNm hw0 hw1 hw2
        have HT4 := Lib.hid (HT6.out)
        have hn4 := HT4.out.keep HN.out (by simp; omega)
        obtain ⟨hf1, hf2⟩ := row_ret (cs := _) rfl hn4 (HTw.out.same HT4.out) hg (x := ruLeaf 3 a b) (ruLeaf_at _ _ _ _ _) (T := T) (d := D) (R := R) HPR.out _ rfl
        have HF1 := Lib.hid hf1
        have HF2 := Lib.hid hf2
        have e0 := Lib.cell_of_heap hn4 0; have e1 := Lib.cell_of_heap hn4 1; have e2 := Lib.cell_of_heap hn4 2; have e3 := Lib.cell_of_heap hn4 3
        have fz := Lib.frozen_of_heap hn4
        simp at e0 e1 e2 e3
        clear hf1 hf2 hn4
        go_wp2
        exact bodyPost_ret (ret_rule Tryd.results71 rfl HF1.out) rfl HF2.out
      · rw [if_neg (show ¬ U.headD cNone = ⟨#[45, 62]⟩ from c3), decide_eq_false (show ¬ U.headD cNone = ⟨#[45, 62]⟩ from c3)] at HK4
        rw [if_neg c3] at HRR
        clear c3
        go_wp2_with (go_at_call 43; go_must (refine HK4.out.mono ?_))
        rintro e w5 ⟨rfl, p5, t5⟩
        have HPR := Lib.hid (show PrRes w5 g T D (ruLeaf 2 a cNone).tree R by
          have hwt := ruLeaf_wt 2 a cNone
          rw [cNone_size] at hwt
          rw [HRR.out]
          cases hia : isRefB a with
          | false =>
            rw [if_neg (by decide)]
            rw [hia] at p5
            exact ⟨by omega, U, D, by simpa using p5⟩
          | true =>
            rw [if_pos rfl]
            rw [hia] at p5
            exact ⟨rfl, by simpa using p5⟩)
        have HT5 := Lib.hid (HT4a.out.same t5)
        clear p5 t5 HT4a HK4 hw0 hw1 hw2
        have HT4 := Lib.hid (HT5.out)
        have hn4 := HT4.out.keep HN.out (by simp; omega)
        obtain ⟨hf1, hf2⟩ := row_ret (cs := _) rfl hn4 (HTw.out.same HT4.out) hg (x := ruLeaf 2 a cNone) (ruLeaf_at _ _ _ _ _) (T := T) (d := D) (R := R) HPR.out _ rfl
        have HF1 := Lib.hid hf1
        have HF2 := Lib.hid hf2
        have e0 := Lib.cell_of_heap hn4 0; have e1 := Lib.cell_of_heap hn4 1; have e2 := Lib.cell_of_heap hn4 2; have e3 := Lib.cell_of_heap hn4 3
        have fz := Lib.frozen_of_heap hn4
        simp at e0 e1 e2 e3
        clear hf1 hf2 hn4
        go_wp2
        exact bodyPost_ret (ret_rule Tryd.results71 rfl HF1.out) rfl HF2.out
end Go.Proofs.YtopnldebekhelaaDoor
