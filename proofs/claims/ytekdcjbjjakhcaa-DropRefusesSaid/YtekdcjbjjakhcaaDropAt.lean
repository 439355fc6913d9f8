/- drop.At. -/
import Derived.Test.YtekdcjbjjakhcaaDropKeep2
namespace Go.Proofs.Ytekdcjbjjakhcaa
open Go Go.RowKit

set_option maxRecDepth 100000 in
set_option maxHeartbeats 2000000 in
theorem at39 (w : World) (L B n : Nat) (lv : Value) (xs : List Value) (k : ByteArray) (x : Ent) (hd : x.del = false) (hL : w.heap[L]? = some (.cells #[lv] 26 (0, 0))) (hown : w.ownsRow B 9 1 lv n xs) (hLB : L < B) (hB : B ≤ w.heap.size) (hn : n ≤ 100000) :
    Calls Try.prog 39 #[.string k, entV x, .pointer (some ⟨L, 0, none⟩)] w (Grows w L B n lv xs x.key) := by
  obtain ⟨i0, hi, hz0, hz1, hz2⟩ := info_parts info9
  obtain ⟨key, rev, del⟩ := x
  dsimp only at hd ⊢
  subst hd
  obtain ⟨la, lcap, rfl, hl1, hl2⟩ := (ownsRow.reads hown).le
  unfold maxLen at hl2
  have hlt : L < w.heap.size := (Array.getElem?_eq_some_iff.1 hL).1
  have q0 := Lib.cell_of_heap hL 0
  have qf := Lib.frozen_of_heap hL
  simp at q0
  have HN := Lib.hid (show (w.alloc (.cells #[.string key, .int .u64 (rev : Int), .bool false] 48)).heap.size = w.heap.size + 1 by simp)
  have HO := Lib.hid (hown.alloc (.cells #[.string key, .int .u64 (rev : Int), .bool false] 48))
  have HX := Lib.hid ((heap_alloc_old w (.cells #[.string key, .int .u64 (rev : Int), .bool false] 48) hlt).trans hL)
  have HT := Lib.hid ((Touch.refl w (L :: (Value.slice la n lcap).ownBlock.toList)).alloc (.cells #[.string key, .int .u64 (rev : Int), .bool false] 48))
  have hBN : B ≤ (w.alloc (.cells #[.string key, .int .u64 (rev : Int), .bool false] 48)).heap.size := by simp; omega
  have hnL : (Value.slice la n lcap).ownBlock ≠ some L := fun h => by have := (owns_block hown h).1; omega
  clear hL hown
  unfold entV
  go_enter Try.func39, Try.ntmps39
  go_wp2_with (at_builtin; go_must (refine wpList_append_rows_at (w0 := w.alloc (.cells #[.string key, .int .u64 (rev : Int), .bool false] 48)) rfl _ _ 26 rfl B 9 i0 _ 1 16 Try.underlying26 hi hz0 hz1 hz2 rfl [.string key] 1 rfl HN.out HO.out rfl rfl ?_ ?_ ?_ hBN ?_))
  · intro u hu
    simp at hu
    subst hu
    rfl
  · unfold maxLen; omega
  · omega
  intro v6 w6 o6 g6 b6 _
  obtain ⟨na, ncap, rfl, _, _⟩ := (ownsRow.reads o6).le
  have hx6 := (g6.block L (by rw [HN.out]; omega) (fun h => hnL h.symm)).trans HX.out
  have ht6 : Touch w w6 (L :: (Value.slice la n lcap).ownBlock.toList) := HT.out.same ⟨g6.os, g6.tape, g6.output, g6.size, fun g hg hn => g6.block g hg (fun h => hn (by simp [h.symm]))⟩
  have HX7 := Lib.hid (heap_setCell_same w6 L 0 _ _ (.slice na (n + 1) ncap) hx6)
  have HO7 := Lib.hid (ownsRow_setCell_other o6 (a := ⟨L, 0, none⟩) (fun h => by have := (owns_block o6 h).1; have : (⟨L, 0, none⟩ : Addr).block = L := rfl; omega) (.slice na (n + 1) ncap))
  have HT7 := Lib.hid (ht6.setCell (p := ⟨L, 0, none⟩) (.inl (by simp)) (.slice na (n + 1) ncap))
  have x0 := Lib.cell_of_heap hx6 0
  have xf := Lib.frozen_of_heap hx6
  simp at x0
  clear o6 g6 b6 hx6 ht6 HX HO HT q0 qf
  go_wp2
  refine bodyPost_end (by simp [results, Try.results39]) rfl ⟨rfl, _, HX7.out, HO7.out, HT7.out⟩


theorem info_skip : True := trivial

def skipC : Value := .func (.func 38) #[] #[]
def tellC (N : Nat) : Value := .func (.func 39) #[] #[.pointer (some ⟨N, 0, none⟩)]

/-- What At's closures hold. -/
structure ABoxes (N f : Nat) (last : ByteArray) (sm : Bool) (lv : Value) (w : World) : Prop where
  b0 : w.heap[N]? = some (Obj.cells #[lv] 26 (0, 0))
  b1 : w.heap[N + 1]? = some (Obj.cells #[.int .u64 (f : Int)] 23 (0, 0))
  b2 : w.heap[N + 2]? = some (Obj.cells #[skipC] 69 (0, 0))
  b3 : w.heap[N + 3]? = some (Obj.cells #[tellC N] 69 (0, 0))
  b4 : w.heap[N + 4]? = some (Obj.cells #[.string last] 9 (0, 0))
  b5 : w.heap[N + 5]? = some (Obj.cells #[.bool sm] 4 (0, 0))

def keysOf (l : List KE) : List ByteArray := l.map (·.2.key)

def AB (N f : Nat) (st : List KE × Option ByteArray) (w : World) : Prop :=
  ∃ lv last sm, lastIs st.2 last sm ∧ ABoxes N f last sm lv w ∧ w.ownsRow (N + 6) 9 1 lv st.1.length (scells (keysOf st.1)) ∧ N + 6 ≤ w.heap.size

theorem ABoxes.below {N f B : Nat} {sm : Bool} {last : ByteArray} {lv : Value} {w w' : World} (h : ABoxes N f last sm lv w) (hb : Below B w w') (hB : N + 6 ≤ B) : ABoxes N f last sm lv w' :=
  ⟨(hb.block _ (by omega)).trans h.b0, (hb.block _ (by omega)).trans h.b1, (hb.block _ (by omega)).trans h.b2, (hb.block _ (by omega)).trans h.b3, (hb.block _ (by omega)).trans h.b4, (hb.block _ (by omega)).trans h.b5⟩

theorem AB.below {N f : Nat} {st : List KE × Option ByteArray} {w w' : World} (h : AB N f st w) (hb : Below w.heap.size w w') : AB N f st w' := by
  obtain ⟨lv, last, sm, h1, h2, h3, h4⟩ := h
  exact ⟨lv, last, sm, h1, h2.below hb h4, owns_below h3 hb, Nat.le_trans h4 hb.size⟩

def APost (N f : Nat) (st : List KE × Option ByteArray) (w : World) (e : Ending) (w' : World) : Prop := e = .returned (.tuple #[]) ∧ AB N f st w' ∧ FrameE N w w'

theorem AB.grow {N f : Nat} {sm : Bool} {last : ByteArray} {lv : Value} {st : List KE × Option ByteArray} {w w' : World} {x : KE} {e : Ending} (h1 : lastIs st.2 last sm) (h2 : ABoxes N f last sm lv w) (h3 : w.ownsRow (N + 6) 9 1 lv st.1.length (scells (keysOf st.1))) (h4 : N + 6 ≤ w.heap.size)
    (hg : Grows w N (N + 6) st.1.length lv (scells (keysOf st.1)) x.2.key e w') : APost N f (st.1 ++ [x], st.2) w e w' := by
  obtain ⟨rfl, lv', g1, g2, g3⟩ := hg
  have hne : ∀ i, i < N + 6 → i ≠ N → i ∉ N :: lv.ownBlock.toList := fun i hi hn hm => by
    rcases List.mem_cons.1 hm with rfl | hm
    · exact hn rfl
    · have := (owns_block h3 (by simpa using hm)).1
      omega
  have hk : ∀ i o, i < N + 6 → i ≠ N → w.heap[i]? = some o → w'.heap[i]? = some o := fun i o hi hn ho => g3.keep ho (hne i hi hn)
  refine ⟨rfl, ⟨lv', last, sm, h1, ⟨g1, hk _ _ (by omega) (by omega) h2.b1, hk _ _ (by omega) (by omega) h2.b2, hk _ _ (by omega) (by omega) h2.b3, hk _ _ (by omega) (by omega) h2.b4, hk _ _ (by omega) (by omega) h2.b5⟩, ?_, Nat.le_trans h4 g3.size⟩, ?_⟩
  · unfold keysOf at g2 ⊢
    rw [List.map_append, scells_append, List.length_append]
    exact g2
  · refine ⟨g3.below (by omega) (fun i hi => ?_), fun g cs fz hc => g3.keep hc (fun hm => ?_)⟩
    · rcases List.mem_cons.1 hi with rfl | hi
      · omega
      · have := (owns_block h3 (by simpa using hi)).1
        omega
    · rcases List.mem_cons.1 hm with rfl | hm
      · have := h2.b0
        rw [hc] at this
        injection this with this
        injection this with _ h _
        exact absurd h (by decide)
      · obtain ⟨_, cs', hc'⟩ := owns_block h3 (show lv.ownBlock = some g by simpa using hm)
        rw [hc] at hc'
        injection hc' with hc'
        injection hc' with _ h _
        exact absurd h (by decide)

set_option maxRecDepth 100000 in
set_option maxHeartbeats 2000000 in
theorem skip38 (N f : Nat) (st : List KE × Option ByteArray) (w : World) (x : KE) (h : AB N f st w) :
    Calls Try.prog 38 #[.string x.1, entV x.2] w (APost N f st w) := by
  obtain ⟨k, key, rev, del⟩ := x
  have hal : Below w.heap.size w (w.alloc (.cells #[.string key, .int .u64 (rev : Int), .bool del] 48)) := (Below.refl _ _).alloc (Nat.le_refl _) _
  have hk1 := h.below hal
  obtain ⟨lv, last, sm, h1, h2, h3, h4⟩ := h
  have hf1 := FrameE.of_below (N := N) hal (by omega)
  have HF1 := Lib.hid hf1
  have HK1 := Lib.hid hk1
  clear hal hk1 h1 h2 h3 h4 hf1
  unfold entV
  dsimp only
  go_enter Try.func38, Try.ntmps38
  go_wp2
  exact bodyPost_end (by simp [results, Try.results38]) rfl ⟨rfl, HK1.out, HF1.out⟩

set_option maxRecDepth 100000 in
set_option maxHeartbeats 2000000 in
theorem tell39 (N f : Nat) (st : List KE × Option ByteArray) (w : World) (x : KE) (h : AB N f st w) (hn : st.1.length ≤ 100000) :
    Calls Try.prog 39 #[.string x.1, entV x.2, .pointer (some ⟨N, 0, none⟩)] w (APost N f (visL true st.1 x, st.2) w) := by
  unfold visL
  cases hd : x.2.del with
  | false =>
    rw [Bool.false_and, if_neg (by decide)]
    obtain ⟨lv, last, sm, h1, h2, h3, h4⟩ := h
    exact (at39 w N (N + 6) st.1.length lv _ x.1 x.2 hd h2.b0 h3 (by omega) h4 hn).mono fun e w' hg => AB.grow h1 h2 h3 h4 hg
  | true =>
    rw [Bool.true_and, if_pos rfl]
    obtain ⟨k, key, rev, del⟩ := x
    dsimp only at hd
    subst hd
    have hal : Below w.heap.size w (w.alloc (.cells #[.string key, .int .u64 (rev : Int), .bool true] 48)) := (Below.refl _ _).alloc (Nat.le_refl _) _
    have hk1 := h.below hal
    obtain ⟨lv, last, sm, h1, h2, h3, h4⟩ := h
    have hf1 := FrameE.of_below (N := N) hal (by omega)
    have HF1 := Lib.hid hf1
    have HK1 := Lib.hid hk1
    clear hal hk1 h1 h2 h3 h4 hf1
    unfold entV
    dsimp only
    go_enter Try.func39, Try.ntmps39
    go_wp2
    exact bodyPost_end (by simp [results, Try.results39]) rfl ⟨rfl, HK1.out, HF1.out⟩

theorem AB.mark {N f : Nat} {st : List KE × Option ByteArray} {w : World} (h : AB N f st w) (key : ByteArray) :
    AB N f (st.1, some key) ((w.setCell ⟨N + 4, 0, none⟩ (.string key)).setCell ⟨N + 5, 0, none⟩ (.bool true)) ∧ FrameE N w ((w.setCell ⟨N + 4, 0, none⟩ (.string key)).setCell ⟨N + 5, 0, none⟩ (.bool true)) := by
  obtain ⟨lv, last, sm, h1, h2, h3, h4⟩ := h
  have hne : ∀ (i j : Nat) (o : Obj) (wx : World) (u : Value), i ≠ j → wx.heap[i]? = some o → (wx.setCell ⟨j, 0, none⟩ u).heap[i]? = some o := fun i j o wx u hij ho => (heap_setCell_other wx ⟨j, 0, none⟩ i u hij).trans ho
  have hk : ∀ (i : Nat) (o : Obj), i ≠ N + 4 → i ≠ N + 5 → w.heap[i]? = some o → ((w.setCell ⟨N + 4, 0, none⟩ (.string key)).setCell ⟨N + 5, 0, none⟩ (.bool true)).heap[i]? = some o := fun i o h6 h7 ho => hne _ _ _ _ _ h7 (hne _ _ _ _ _ h6 ho)
  have hown : ∀ g, lv.ownBlock = some g → N + 6 ≤ g := fun g hg => (owns_block h3 hg).1
  refine ⟨⟨lv, key, true, .inr ⟨rfl, rfl⟩, ⟨hk _ _ (by omega) (by omega) h2.b0, hk _ _ (by omega) (by omega) h2.b1, hk _ _ (by omega) (by omega) h2.b2, hk _ _ (by omega) (by omega) h2.b3, ?_, ?_⟩, ?_, by simpa using h4⟩, ?_⟩
  · exact hne _ _ _ _ _ (by omega) (heap_setCell_same w (N + 4) 0 _ _ _ h2.b4)
  · exact heap_setCell_same _ (N + 5) 0 _ _ _ (hne _ _ _ _ _ (by omega) h2.b5)
  · refine ownsRow_setCell_other (ownsRow_setCell_other h3 (a := ⟨N + 4, 0, none⟩) (fun h => ?_) _) (a := ⟨N + 5, 0, none⟩) (fun h => ?_) _
    · have := hown _ h
      have e : (⟨N + 4, 0, none⟩ : Addr).block = N + 4 := rfl
      omega
    · have := hown _ h
      have e : (⟨N + 5, 0, none⟩ : Addr).block = N + 5 := rfl
      omega
  · refine ⟨((Below.refl N w).setCell (p := ⟨N + 4, 0, none⟩) (by show N ≤ N + 4; omega) _).setCell (p := ⟨N + 5, 0, none⟩) (by show N ≤ N + 5; omega) _, fun g cs fz hc => hk _ _ (fun e => ?_) (fun e => ?_) hc⟩
    · subst e
      rw [h2.b4] at hc
      injection hc with hc
      injection hc with _ h _
      exact absurd h (by decide)
    · subst e
      rw [h2.b5] at hc
      injection hc with hc
      injection hc with _ h _
      exact absurd h (by decide)

set_option maxRecDepth 100000 in
set_option maxHeartbeats 4000000 in
theorem at51 (N f : Nat) (st : List KE × Option ByteArray) (w : World) (x : KE) (h : AB N f st w) (hn : st.1.length ≤ 100000) :
    Calls Try.prog 51 #[.string x.1, entV x.2, .pointer (some ⟨N + 1, 0, none⟩), .pointer (some ⟨N + 2, 0, none⟩), .pointer (some ⟨N + 5, 0, none⟩), .pointer (some ⟨N + 4, 0, none⟩), .pointer (some ⟨N + 3, 0, none⟩)] w (APost N f (gStep false true f st x) w) := by
  have hg1 := gStep_new false true f st x
  have hg2 := gStep_old false true f st x
  have hg3 := gStep_first false true f st x
  obtain ⟨k, key, rev, del⟩ := x
  dsimp only at hg1 hg2 hg3
  have HG1 := Lib.hid hg1
  have HG2 := Lib.hid hg2
  have HG3 := Lib.hid hg3
  have hal : Below w.heap.size w (w.alloc (.cells #[.string key, .int .u64 (rev : Int), .bool del] 48)) := (Below.refl _ _).alloc (Nat.le_refl _) _
  have hk1 := h.below hal
  have HK0 := Lib.hid h
  obtain ⟨lv, last, sm, h1, h2, h3, h4⟩ := h
  have hf1 := FrameE.of_below (N := N) hal (by omega)
  have l3 := (Array.getElem?_eq_some_iff.1 h2.b1).1
  have l4 := (Array.getElem?_eq_some_iff.1 h2.b2).1
  have l5 := (Array.getElem?_eq_some_iff.1 h2.b3).1
  have l6 := (Array.getElem?_eq_some_iff.1 h2.b4).1
  have l7 := (Array.getElem?_eq_some_iff.1 h2.b5).1
  have q3 := Lib.cell_of_heap h2.b1 0
  have q4 := Lib.cell_of_heap h2.b2 0
  have q5 := Lib.cell_of_heap h2.b3 0
  have q6 := Lib.cell_of_heap h2.b4 0
  have q7 := Lib.cell_of_heap h2.b5 0
  have z6 := Lib.frozen_of_heap h2.b4
  have z7 := Lib.frozen_of_heap h2.b5
  simp [skipC, tellC] at q3 q4 q5 q6 q7
  have HF1 := Lib.hid hf1
  have HK1 := Lib.hid hk1
  have H1 := Lib.hid h1
  clear hal hk1 h1 h2 h3 hf1 hg1 hg2 hg3
  unfold entV
  dsimp only
  by_cases hfr : f < rev
  · have hfI : (f : Int) < rev := by omega
    have hnew := skip38 N f st _ (k, ⟨key, rev, del⟩) HK1.out
    have HNew := Lib.hid hnew
    have HG := Lib.hid (HG1.out hfr)
    clear hnew HG1 HG2 HG3 z6 z7
    go_enter Try.func51, Try.ntmps51
    go_wp2_with (go_at_call 38; go_must (refine HNew.out.mono ?_))
    rintro e w6 ⟨rfl, hk6, hf6⟩
    have HK6 := Lib.hid hk6
    have HF6 := Lib.hid (HF1.out.trans hf6)
    clear hk6 hf6
    go_wp2
    have hfin : APost N f (gStep false true f st (k, ⟨key, rev, del⟩)) w (.returned (.tuple #[])) w6 := by rw [HG.out]; exact ⟨rfl, HK6.out, HF6.out⟩
    exact bodyPost_end (by simp [results, Try.results51]) rfl hfin
  · have hfI : ¬ ((f : Int) < rev) := by omega
    by_cases hlk : st.2 = some key
    · have HG := Lib.hid (HG2.out hfr hlk)
      obtain ⟨hs, rfl⟩ : some last = some key ∧ sm = true := by
        rcases H1.out with ⟨hn0, _⟩ | ⟨hs, hsm⟩
        · rw [hn0] at hlk; cases hlk
        · exact ⟨hs.symm.trans hlk, hsm⟩
      cases hs
      have hkk : (key.toList == key.toList) = true := by rw [str_eq]; simp
      clear HG1 HG2 HG3 hlk z6 z7
      go_enter Try.func51, Try.ntmps51
      go_wp2
      have hfin : APost N f (gStep false true f st (k, ⟨key, rev, del⟩)) w (.returned (.tuple #[])) (w.alloc (.cells #[.string key, .int .u64 (rev : Int), .bool del] 48)) := by rw [HG.out]; exact ⟨rfl, HK1.out, HF1.out⟩
      exact bodyPost_end (by simp [results, Try.results51]) rfl hfin
    · have HG := Lib.hid (HG3.out hfr hlk)
      have hm := HK0.out.mark key
      have HM := Lib.hid hm
      have hcase : sm = false ∨ (sm = true ∧ (key.toList == last.toList) = false) := by
        rcases H1.out with ⟨_, hsm⟩ | ⟨hs, hsm⟩
        · exact .inl hsm
        · right
          refine ⟨hsm, ?_⟩
          rw [str_eq, decide_eq_false]
          intro e
          subst e
          exact hlk hs
      have hal2 := (Below.refl ((w.setCell ⟨N + 4, 0, none⟩ (.string key)).setCell ⟨N + 5, 0, none⟩ (.bool true)).heap.size ((w.setCell ⟨N + 4, 0, none⟩ (.string key)).setCell ⟨N + 5, 0, none⟩ (.bool true))).alloc (Nat.le_refl _) (.cells #[.string key, .int .u64 (rev : Int), .bool del] 48)
      have hvis := tell39 N f (st.1, some key) _ (k, ⟨key, rev, del⟩) (HM.out.1.below hal2) hn
      have HV := Lib.hid hvis
      have HF2 := Lib.hid (HM.out.2.trans (FrameE.of_below hal2 (by simp; omega)))
      clear HG1 HG2 HG3 hlk hm hal2 hvis
      rcases hcase with rfl | ⟨rfl, hkl⟩
      all_goals
        go_enter Try.func51, Try.ntmps51
        go_wp2_with (go_at_call 39; go_must (refine HV.out.mono ?_))
        rintro e w6 ⟨rfl, hk6, hf6⟩
        have HK6 := Lib.hid hk6
        have HF6 := Lib.hid (HF2.out.trans hf6)
        clear hk6 hf6
        go_wp2
        have hfin : APost N f (gStep false true f st (k, ⟨key, rev, del⟩)) w (.returned (.tuple #[])) w6 := by rw [HG.out]; exact ⟨rfl, HK6.out, HF6.out⟩
        exact bodyPost_end (by simp [results, Try.results51]) rfl hfin
end Go.Proofs.Ytekdcjbjjakhcaa
