/- sentryref05.lines: a text's lines. -/
import Derived.Test.YtopnldebekhelaaDoorZSchRpBl
import Derived.Test.YtopnldebekhelaaDoorZSchLines
import Derived.StillTailTactics
namespace Go.Proofs.YtopnldebekhelaaDoor
open Go Go.RowKit

theorem tkCat (a b : List UInt8) : tk a ++ tk b = tk (a ++ b) := by
  apply ByteArray.ext
  simp [tk, ByteArray.data_append]

def glue (cur : List UInt8) : List (List UInt8) → List (List UInt8)
  | [] => [cur]
  | x :: xs => (cur ++ x) :: xs

theorem glue_glue (a b : List UInt8) (X : List (List UInt8)) : glue a (glue b X) = glue (a ++ b) X := by
  cases X with
  | nil => rfl
  | cons x X => simp [glue]
theorem linesL_cons (c : UInt8) (r : List UInt8) (h : c ≠ 10) : linesL (c :: r) = glue [c] (linesL r) := by
  rw [linesL, if_neg h]
  cases linesL r <;> rfl
theorem glue_ten (cur r : List UInt8) : glue cur (linesL (10 :: r)) = cur :: glue [] (linesL r) := by
  rw [linesL, if_pos rfl]
  cases h : linesL r with
  | nil => exact absurd h (linesL_ne r)
  | cons x X => simp [glue]

def LnRel (w : World) (l : List UInt8) (ov iv : Value) (wr : World) : Prop := ∃ (i : Nat) (done : List (List UInt8)) (cur : List UInt8), iv = .int .i64 (i : Int) ∧ i ≤ l.length ∧ linesL l = done ++ glue cur (linesL (l.drop i)) ∧ done.length ≤ i ∧ cur.length ≤ i ∧ wr.ownsRow w.heap.size 9 1 ov (done.length + 1) (scells ((done ++ [cur]).map tk)) ∧ Below w.heap.size w wr

theorem ln_ten {l : List UInt8} {i : Nat} {done : List (List UInt8)} {cur : List UInt8} (h : linesL l = done ++ glue cur (linesL (l.drop i))) (hc : l[i]? = some 10) : linesL l = (done ++ [cur]) ++ glue [] (linesL (l.drop (i + 1))) := by
  rw [h, dropAt hc, glue_ten, List.append_assoc]
  rfl
theorem ln_char {l : List UInt8} {i : Nat} {done : List (List UInt8)} {cur : List UInt8} {c : UInt8} (h : linesL l = done ++ glue cur (linesL (l.drop i))) (hc : l[i]? = some c) (h10 : c ≠ 10) : linesL l = done ++ glue (cur ++ [c]) (linesL (l.drop (i + 1))) := by
  rw [h, dropAt hc, linesL_cons _ _ h10, glue_glue]
theorem ln_end {l : List UInt8} {i : Nat} {done : List (List UInt8)} {cur : List UInt8} (h : linesL l = done ++ glue cur (linesL (l.drop i))) (hi : l.length ≤ i) : linesL l = done ++ [cur] := by
  rw [h, List.drop_of_length_le hi]
  simp [linesL, glue]

theorem own_one (w : World) (s : ByteArray) : (w.alloc (.cells #[.string s] 9)).ownsRow w.heap.size 9 1 (.slice (some ⟨w.heap.size, 0, none⟩) 1 1) 1 (scells [s]) :=
  ⟨rfl, .inr ⟨w.heap.size, 1, #[.string s], rfl, Nat.le_refl _, heap_alloc_new w _, Nat.le_refl _, by unfold maxLen; omega, rfl, rfl⟩⟩

theorem own_setL {w : World} {B n g cap s : Nat} {e : TypeId} {xs : List Value} (h : w.ownsRow B e s (.slice (some ⟨g, 0, none⟩) n cap) n xs) {i : Nat} (v : Value) : (w.setCell ⟨g, i, none⟩ v).ownsRow B e s (.slice (some ⟨g, 0, none⟩) n cap) n (xs.set i v) := by
  refine ⟨by rw [List.length_set]; exact h.1, ?_⟩
  rcases h.2 with ⟨h0, _⟩ | ⟨g', cap', cur, hv, hB, hg, h1, h2, h3, h4⟩
  · cases h0
  · cases hv
    refine .inr ⟨g, cap, cur.setIfInBounds i v, rfl, hB, heap_setCell_same _ _ i _ _ _ hg, h1, h2, by simpa using h3, ?_⟩
    rw [← h4, Array.toList_setIfInBounds, List.take_set]
theorem set_last (done : List (List UInt8)) (cur cur2 : List UInt8) : (scells ((done ++ [cur]).map tk)).set done.length (.string (tk cur2)) = scells ((done ++ [cur2]).map tk) := by
  simp only [scells, List.map_append, List.map_cons, List.map_nil]
  rw [List.set_append_right _ _ (by simp)]
  simp
theorem get_last (done : List (List UInt8)) (cur : List UInt8) : (scells ((done ++ [cur]).map tk))[done.length]? = some (.string (tk cur)) := by
  simp only [scells, List.map_append, List.map_cons, List.map_nil]
  rw [List.getElem?_append_right (by simp)]
  simp
/-- A row that has something lies in a block of its own. -/
theorem own_block {w : World} {B n s : Nat} {e : TypeId} {v : Value} {xs : List Value} (h : w.ownsRow B e s v (n + 1) xs) : ∃ g cap cur, v = .slice (some ⟨g, 0, none⟩) (n + 1) cap ∧ B ≤ g ∧ w.heap[g]? = some (.cells cur e (0, 0)) ∧ n + 1 ≤ cap ∧ cap ≤ maxLen ∧ (∀ (j : Nat) (u : Value), xs[j]? = some u → cur[j]? = some u) := by
  rcases h.2 with ⟨_, h0⟩ | ⟨g, cap, cur, hv, hB, hg, h1, h2, h3, h4⟩
  · omega
  · refine ⟨g, cap, cur, hv, hB, hg, h1, h2, fun j u hj => ?_⟩
    rw [← h4, List.getElem?_take] at hj
    split at hj
    · rw [← Array.getElem?_toList]; exact hj
    · cases hj

theorem add_fits16 {n : Nat} (h : n ≤ 100000) : n + 1 ≤ maxLen ∧ (n + 1) * 16 ≤ 140737488355328 := by unfold maxLen; omega
theorem succ_wr {i L : Nat} (h : i < L) (hL : L ≤ 65536) : IntKind.i64.wrap ((i : Int) + 1) = (i : Int) + 1 := by rw [IntKind.wrap_i64]; omega
def LnPost (w : World) (l : List UInt8) (e : Ending) (w' : World) : Prop := ∃ v, e = .returned v ∧ w'.ownsRow w.heap.size 9 1 v (linesL l).length (scells ((linesL l).map tk)) ∧ Below w.heap.size w w'

theorem ln_done {w w' : World} {l : List UInt8} {done : List (List UInt8)} {cur : List UInt8} {v : Value} (h : linesL l = done ++ [cur]) (ho : w'.ownsRow w.heap.size 9 1 v (done.length + 1) (scells ((done ++ [cur]).map tk))) (hb : Below w.heap.size w w') : LnPost w l (.returned v) w' := by
  refine ⟨v, rfl, ?_, hb⟩
  rw [h, List.length_append]
  exact ho

set_option maxRecDepth 100000 in
set_option maxHeartbeats 4000000 in
theorem lines_any (w : World) (l : List UInt8) (hl6 : l.length ≤ 65536) : Calls Tryd.prog 18 #[.string (tk l)] w (LnPost w l) := by
  obtain ⟨j0, hj, hy0, hy1, hy2⟩ := info_parts info9
  obtain ⟨L, hL⟩ : ∃ L, l.length = L := ⟨_, rfl⟩
  have HL := Lib.hid hL
  have htk : (tk l).size = L := by rw [tk_size, hL]
  rw [hL] at hl6
  have HO0 := Lib.hid (own_one w (tk []))
  have HB0 := Lib.hid (show Below w.heap.size w (w.alloc (.cells #[.string (tk [])] 9)) from (Below.refl _ _).alloc (Nat.le_refl _) _)
  clear hL
  go_enter Tryd.func18, Tryd.ntmps18
  go_wp2
  go_loopw [3, 4] (fun ov iv wr => LnRel w l ov iv wr) (fun _ iv _ => L - (intOf iv).toNat)
  case atStart => exact ⟨0, [], [], rfl, Nat.zero_le _, by rw [List.drop_zero, List.nil_append]; cases h : linesL l with | nil => exact absurd h (linesL_ne l) | cons x X => simp [glue], Nat.zero_le _, Nat.zero_le _, HO0.out, HB0.out⟩
  case round =>
    obtain ⟨i, done, cur, rfl, hin, hln, hdl, hcl, hown, hb⟩ := hrel
    rw [HL.out] at hin
    have HLn := Lib.hid hln
    have HB := Lib.hid hb
    obtain ⟨g, cap, cu, rfl, hgB, hgh, hc1, hc2, hcu⟩ := own_block hown
    have HOwn := Lib.hid hown
    have HG := Lib.hid hgh
    have k0 := Lib.cell_of_heap hgh done.length
    have kf := Lib.frozen_of_heap hgh
    rw [hcu _ _ (get_last done cur)] at k0
    have hgl := (Array.getElem?_eq_some_iff.1 hgh).1
    have hbsz := hb.size
    obtain ⟨m, hm⟩ : ∃ m, done.length = m := ⟨_, rfl⟩
    rw [hm] at k0 hc1 hdl
    have HM := Lib.hid hm
    have hm1 : m ≤ 100000 := by omega
    have hm2 : m + 1 ≤ 100000 := by omega
    have hw1 := small_w64 hm1
    have hw2 := small_wr hm1
    have hc2' := hc2
    clear hc2
    clear hln hown hb hcu hgh
    rw [hm]
    clear hm
    by_cases hlt : i < L
    · have hltI : (i : Int) < L := by omega
      have h0I : (0 : Int) ≤ i := by omega
      obtain ⟨c, hc⟩ : ∃ c, l[i]? = some c := ⟨l[i]'(by rw [HL.out]; exact hlt), List.getElem?_eq_getElem _⟩
      have hgc : ∀ h : i < (tk l).size, (tk l)[i]'h = c := fun h => tkGet hc h
      have HCi := Lib.hid hc
      clear hc
      by_cases h10 : c = 10
      · subst h10
        have hown2 := HOwn.out
        rw [HM.out] at hown2
        have HN := Lib.hid (ln_ten HLn.out HCi.out)
        go_wp2_with (at_builtin; go_must (refine wpList_append_rows_own (w0 := wr) rfl _ _ 35 rfl w.heap.size 9 j0 _ 1 16 Tryd.underlying35 hj hy0 hy1 hy2 rfl (scells [tk []]) 1 rfl hown2 rfl rfl ?_ ?_ ?_ ?_ ?_))
        · exact scells_one _
        · exact (add_fits16 hm2).1
        · exact (add_fits16 hm2).2
        try exact hbsz
        intro v6 w6 o6 g6 b6 m6
        have HO6 := Lib.hid (show w6.ownsRow w.heap.size 9 1 v6 ((done ++ [cur]).length + 1) (scells (((done ++ [cur]) ++ [[]]).map tk)) by
          have h := o6
          rw [← HM.out] at h
          have e1 : scells (List.map tk (done ++ [cur] ++ [[]])) = scells (List.map tk done ++ [tk cur]) ++ scells [tk []] := by simp [scells]
          rw [e1, List.length_append]
          exact h)
        have HB6 := Lib.hid (HB.out.trans b6)
        have hdl2 : (done ++ [cur]).length ≤ i + 1 := by rw [List.length_append, HM.out]; simp; omega
        clear o6 g6 b6 m6 hown2 k0 kf
        go_wp2
        exact ⟨⟨i + 1, done ++ [cur], [], by go_num, by rw [HL.out]; omega, HN.out, hdl2, Nat.zero_le _, HO6.out, HB6.out⟩, by simp [intOf]; omega⟩
      · have n10 : ((c.toNat : Int) == 10) = false := by
          have : c.toNat ≠ 10 := fun e => h10 (by rw [← UInt8.toNat_inj, e]; rfl)
          simp; omega
        have HN := Lib.hid (ln_char HLn.out HCi.out h10)
        have hex : (tk l).extract i (i + 1) = tk [c] := by rw [tkExt, dropAt HCi.out, show i + 1 - i = 1 by omega]; rfl
        obtain ⟨cur2, hcur2⟩ : ∃ cur2, cur ++ [c] = cur2 := ⟨_, rfl⟩
        rw [hcur2] at HN
        have hcl2 : cur2.length ≤ i + 1 := by rw [← hcur2, List.length_append]; simp; omega
        have q0 : ∀ W, (Op.stringOp .add (tk cur) (tk [c])).run Tryd.prog W = .ok (.string (tk cur2)) W := fun W => by
          rw [run_string_add_sum W _ _ (by rw [tk_size, tk_size, List.length_singleton]; omega), tkCat, hcur2]
        have HO2 := Lib.hid (own_setL (i := m) HOwn.out (.string (tk cur2)))
        have hsl := set_last done cur cur2
        rw [HM.out] at hsl
        rw [hsl] at HO2
        have HBs := Lib.hid (show Below w.heap.size w (wr.setCell ⟨g, m, none⟩ (.string (tk cur2))) from
          ⟨HB.out.os, HB.out.tape, HB.out.output, Nat.le_trans HB.out.size (by simp [World.setCell]), fun k hk => (Below.heap_setCell _ _ _ _ (fun e => by have e : k = g := e; omega)).trans (HB.out.block k hk)⟩)
        have hmI : (m : Int) < (m : Int) + 1 := Int.lt_succ _
        have hm0 : (0 : Int) ≤ m := Int.natCast_nonneg m
        clear hsl hcur2
        have hwi := succ_wr hlt hl6
        have hi1 : (i : Int) + 1 ≤ L := by omega
        have hi2 : (i : Int) ≤ (i : Int) + 1 := by omega
        go_upto_region 7 with fail
        go_still_tail 17, (by kernel_rfl)
        show wpList _ _ _ _ _ wr.drew
        go_wp2
        clear hc2' hwi q0 hw1 hw2 k0
        refine ⟨⟨i + 1, done, cur2, by go_num, by rw [HL.out]; omega, HN.out, by rw [HM.out]; omega, hcl2, ?_, HBs.out.drew⟩, by simp [intOf]; omega⟩
        have h := HO2.out
        rw [HM.out] at h ⊢
        exact h
    · obtain rfl : i = L := by omega
      have hltI : ¬ (i : Int) < i := by omega
      have HFin := Lib.hid (ln_end HLn.out (by rw [HL.out]; exact Nat.le_refl _))
      have HOw := Lib.hid (show wr.ownsRow w.heap.size 9 1 (.slice (some ⟨g, 0, none⟩) (m + 1) cap) (done.length + 1) (scells ((done ++ [cur]).map tk)) by rw [← HM.out]; exact HOwn.out)
      go_wp2
      go_ret
      exact ln_done HFin.out HOw.out HB.out
end Go.Proofs.YtopnldebekhelaaDoor
