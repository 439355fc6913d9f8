/- drop.Keep. -/
import Derived.Test.YtekdcjbjjakhcaaDropEach
namespace Go.Proofs.Ytekdcjbjjakhcaa
open Go Go.RowKit

/-- A text more in the row that a box holds. -/
def Grows (w : World) (L B n : Nat) (lv : Value) (xs : List Value) (k : ByteArray) (e : Ending) (w' : World) : Prop :=
  e = .returned (.tuple #[]) ∧ ∃ lv', w'.heap[L]? = some (.cells #[lv'] 26 (0, 0)) ∧ w'.ownsRow B 9 1 lv' (n + 1) (xs ++ [.string k]) ∧ Touch w w' (L :: lv.ownBlock.toList)

theorem owns_block {w : World} {B n s : Nat} {e : TypeId} {v : Value} {xs : List Value} (h : w.ownsRow B e s v n xs) {g : Nat} (hg : v.ownBlock = some g) : B ≤ g ∧ ∃ cs, w.heap[g]? = some (.cells cs e (0, 0)) := by
  rcases h.2 with ⟨rfl, _⟩ | ⟨g', cap, cur, rfl, hB, hc, _⟩
  · cases hg
  · cases hg
    exact ⟨hB, _, hc⟩

set_option maxRecDepth 100000 in
set_option maxHeartbeats 2000000 in
theorem keep35 (w : World) (L B n : Nat) (lv : Value) (xs : List Value) (k : ByteArray) (x : Ent) (hL : w.heap[L]? = some (.cells #[lv] 26 (0, 0))) (hown : w.ownsRow B 9 1 lv n xs) (hLB : L < B) (hB : B ≤ w.heap.size) (hn : n ≤ 100000) :
    Calls Try.prog 35 #[.string k, entV x, .pointer (some ⟨L, 0, none⟩)] w (Grows w L B n lv xs k) := by
  obtain ⟨i0, hi, hz0, hz1, hz2⟩ := info_parts info9
  obtain ⟨key, rev, del⟩ := x
  obtain ⟨la, lcap, rfl, hl1, hl2⟩ := (ownsRow.reads hown).le
  unfold maxLen at hl2
  have hlt : L < w.heap.size := (Array.getElem?_eq_some_iff.1 hL).1
  have q0 := Lib.cell_of_heap hL 0
  have qf := Lib.frozen_of_heap hL
  simp at q0
  have HN := Lib.hid (show (w.alloc (.cells #[.string key, .int .u64 (rev : Int), .bool del] 48)).heap.size = w.heap.size + 1 by simp)
  have HO := Lib.hid (hown.alloc (.cells #[.string key, .int .u64 (rev : Int), .bool del] 48))
  have HX := Lib.hid ((heap_alloc_old w (.cells #[.string key, .int .u64 (rev : Int), .bool del] 48) hlt).trans hL)
  have HT := Lib.hid ((Touch.refl w (L :: (Value.slice la n lcap).ownBlock.toList)).alloc (.cells #[.string key, .int .u64 (rev : Int), .bool del] 48))
  have hBN : B ≤ (w.alloc (.cells #[.string key, .int .u64 (rev : Int), .bool del] 48)).heap.size := by simp; omega
  have hnL : (Value.slice la n lcap).ownBlock ≠ some L := fun h => by have := (owns_block hown h).1; omega
  clear hL hown
  unfold entV
  go_enter Try.func35, Try.ntmps35
  go_wp2_with (at_builtin; go_must (refine wpList_append_rows_at (w0 := w.alloc (.cells #[.string key, .int .u64 (rev : Int), .bool del] 48)) rfl _ _ 26 rfl B 9 i0 _ 1 16 Try.underlying26 hi hz0 hz1 hz2 rfl [.string k] 1 rfl HN.out HO.out rfl rfl ?_ ?_ ?_ hBN ?_))
  · intro u hu
    simp at hu
    subst hu
    rfl
  · unfold maxLen; omega
  · omega
  intro v6 w6 o6 g6 b6 _
  obtain ⟨na, ncap, rfl, _, _⟩ := (ownsRow.reads o6).le
  have hx6 := (g6.block L (by rw [HN.out]; omega) (fun h => hnL h.symm)).trans HX.out
  have ht6 : Touch w w6 (L :: (Value.slice la n lcap).ownBlock.toList) := HT.out.same ⟨g6.os, g6.tape, g6.output, g6.size, fun g hg hn => g6.block g hg (fun h => hn (by simp [h.symm]))⟩
  have HX7 := Lib.hid (heap_setCell_same w6 L 0 _ _ (.slice na (n + 1) ncap) hx6)
  have HO7 := Lib.hid (ownsRow_setCell_other o6 (a := ⟨L, 0, none⟩) (fun h => by have := (owns_block o6 h).1; have : (⟨L, 0, none⟩ : Addr).block = L := rfl; omega) (.slice na (n + 1) ncap))
  have HT7 := Lib.hid (ht6.setCell (p := ⟨L, 0, none⟩) (.inl (by simp)) (.slice na (n + 1) ncap))
  have x0 := Lib.cell_of_heap hx6 0
  have xf := Lib.frozen_of_heap hx6
  simp at x0
  clear o6 g6 b6 hx6 ht6 HX HO HT q0 qf
  go_wp2
  refine bodyPost_end (by simp [results, Try.results35]) rfl ⟨rfl, _, HX7.out, HO7.out, HT7.out⟩

def keepC (N : Nat) : Value := .func (.func 35) #[] #[.pointer (some ⟨N + 1, 0, none⟩)]
def visitC (N : Nat) : Value := .func (.func 37) #[] #[.pointer (some ⟨N, 0, none⟩), .pointer (some ⟨N + 2, 0, none⟩)]

/-- What Keep's closures hold. -/
structure KBoxes (N f : Nat) (b : Bool) (last : ByteArray) (sm : Bool) (lv : Value) (w : World) : Prop where
  b0 : w.heap[N]? = some (Obj.cells #[.bool b] 4 (0, 0))
  b1 : w.heap[N + 1]? = some (Obj.cells #[lv] 26 (0, 0))
  b2 : w.heap[N + 2]? = some (Obj.cells #[keepC N] 69 (0, 0))
  b3 : w.heap[N + 3]? = some (Obj.cells #[.int .u64 (f : Int)] 23 (0, 0))
  b4 : w.heap[N + 4]? = some (Obj.cells #[keepC N] 69 (0, 0))
  b5 : w.heap[N + 5]? = some (Obj.cells #[visitC N] 69 (0, 0))
  b6 : w.heap[N + 6]? = some (Obj.cells #[.string last] 9 (0, 0))
  b7 : w.heap[N + 7]? = some (Obj.cells #[.bool sm] 4 (0, 0))

def lastIs (o : Option ByteArray) (last : ByteArray) (sm : Bool) : Prop := (o = none ∧ sm = false) ∨ (o = some last ∧ sm = true)

def KB (N f : Nat) (b : Bool) (st : List KE × Option ByteArray) (w : World) : Prop :=
  ∃ lv last sm, lastIs st.2 last sm ∧ KBoxes N f b last sm lv w ∧ w.ownsRow (N + 8) 9 1 lv st.1.length (scells (st.1.map (·.1))) ∧ N + 8 ≤ w.heap.size

theorem KBoxes.below {N f B : Nat} {b sm : Bool} {last : ByteArray} {lv : Value} {w w' : World} (h : KBoxes N f b last sm lv w) (hb : Below B w w') (hB : N + 8 ≤ B) : KBoxes N f b last sm lv w' :=
  ⟨(hb.block _ (by omega)).trans h.b0, (hb.block _ (by omega)).trans h.b1, (hb.block _ (by omega)).trans h.b2, (hb.block _ (by omega)).trans h.b3, (hb.block _ (by omega)).trans h.b4, (hb.block _ (by omega)).trans h.b5, (hb.block _ (by omega)).trans h.b6, (hb.block _ (by omega)).trans h.b7⟩

theorem KB.below {N f : Nat} {b : Bool} {st : List KE × Option ByteArray} {w w' : World} (h : KB N f b st w) (hb : Below w.heap.size w w') : KB N f b st w' := by
  obtain ⟨lv, last, sm, h1, h2, h3, h4⟩ := h
  exact ⟨lv, last, sm, h1, h2.below hb h4, owns_below h3 hb, Nat.le_trans h4 hb.size⟩

/-- What a closure of Keep's leaves. -/
def KPost (N f : Nat) (b : Bool) (st : List KE × Option ByteArray) (w : World) (e : Ending) (w' : World) : Prop := e = .returned (.tuple #[]) ∧ KB N f b st w' ∧ FrameE N w w'

/-- One text more. -/
theorem KB.grow {N f : Nat} {b sm : Bool} {last : ByteArray} {lv : Value} {st : List KE × Option ByteArray} {w w' : World} {x : KE} {e : Ending} (h1 : lastIs st.2 last sm) (h2 : KBoxes N f b last sm lv w) (h3 : w.ownsRow (N + 8) 9 1 lv st.1.length (scells (st.1.map (·.1)))) (h4 : N + 8 ≤ w.heap.size)
    (hg : Grows w (N + 1) (N + 8) st.1.length lv (scells (st.1.map (·.1))) x.1 e w') : KPost N f b (st.1 ++ [x], st.2) w e w' := by
  obtain ⟨rfl, lv', g1, g2, g3⟩ := hg
  have hne : ∀ i, i < N + 8 → i ≠ N + 1 → i ∉ (N + 1) :: lv.ownBlock.toList := fun i hi hn hm => by
    rcases List.mem_cons.1 hm with rfl | hm
    · exact hn rfl
    · have := (owns_block h3 (by simpa using hm)).1
      omega
  have hk : ∀ i o, i < N + 8 → i ≠ N + 1 → w.heap[i]? = some o → w'.heap[i]? = some o := fun i o hi hn ho => g3.keep ho (hne i hi hn)
  refine ⟨rfl, ⟨lv', last, sm, h1, ⟨hk _ _ (by omega) (by omega) h2.b0, g1, hk _ _ (by omega) (by omega) h2.b2, hk _ _ (by omega) (by omega) h2.b3, hk _ _ (by omega) (by omega) h2.b4, hk _ _ (by omega) (by omega) h2.b5, hk _ _ (by omega) (by omega) h2.b6, hk _ _ (by omega) (by omega) h2.b7⟩, ?_, Nat.le_trans h4 g3.size⟩, ?_⟩
  · rw [List.map_append, scells_append, List.length_append]
    exact g2
  · refine ⟨g3.below (by omega) (fun i hi => ?_), fun g cs fz hc => g3.keep hc (fun hm => ?_)⟩
    · rcases List.mem_cons.1 hi with rfl | hi
      · omega
      · have := (owns_block h3 (by simpa using hi)).1
        omega
    · rcases List.mem_cons.1 hm with rfl | hm
      · have := h2.b1
        rw [hc] at this
        injection this with this
        injection this with _ h _
        exact absurd h (by decide)
      · obtain ⟨_, cs', hc'⟩ := owns_block h3 (show lv.ownBlock = some g by simpa using hm)
        rw [hc] at hc'
        injection hc' with hc'
        injection hc' with _ h _
        exact absurd h (by decide)

theorem newer35 (N f : Nat) (b : Bool) (st : List KE × Option ByteArray) (w : World) (x : KE) (h : KB N f b st w) (hn : st.1.length ≤ 100000) :
    Calls Try.prog 35 #[.string x.1, entV x.2, .pointer (some ⟨N + 1, 0, none⟩)] w (KPost N f b (st.1 ++ [x], st.2) w) := by
  obtain ⟨lv, last, sm, h1, h2, h3, h4⟩ := h
  exact (keep35 w (N + 1) (N + 8) st.1.length lv _ x.1 x.2 h2.b1 h3 (by omega) h4 hn).mono fun e w' hg => KB.grow h1 h2 h3 h4 hg

def visL (b : Bool) (l : List KE) (x : KE) : List KE := if x.2.del && b then l else l ++ [x]

set_option maxRecDepth 100000 in
set_option maxHeartbeats 2000000 in
theorem visit37 (N f : Nat) (b : Bool) (st : List KE × Option ByteArray) (w : World) (x : KE) (h : KB N f b st w) (hn : st.1.length ≤ 100000) :
    Calls Try.prog 37 #[.string x.1, entV x.2, .pointer (some ⟨N, 0, none⟩), .pointer (some ⟨N + 2, 0, none⟩)] w (KPost N f b (visL b st.1 x, st.2) w) := by
  obtain ⟨k, key, rev, del⟩ := x
  unfold visL
  have hal : Below w.heap.size w (w.alloc (.cells #[.string key, .int .u64 (rev : Int), .bool del] 48)) := (Below.refl _ _).alloc (Nat.le_refl _) _
  have hk1 := h.below hal
  obtain ⟨lv, last, sm, h1, h2, h3, h4⟩ := h
  have hf1 := FrameE.of_below (N := N) hal (by omega)
  have l0 := (Array.getElem?_eq_some_iff.1 h2.b0).1
  have l2 := (Array.getElem?_eq_some_iff.1 h2.b2).1
  have q0 := Lib.cell_of_heap h2.b0 0
  have q2 := Lib.cell_of_heap h2.b2 0
  simp [keepC] at q0 q2
  have hnew := newer35 N f b st _ (k, ⟨key, rev, del⟩) hk1 hn
  have HNew := Lib.hid hnew
  have HF1 := Lib.hid hf1
  have HK1 := Lib.hid hk1
  clear hnew hal hk1 h1 h2 h3 h4 hf1
  unfold entV
  dsimp only
  cases hd : del && b with
  | true =>
    obtain ⟨rfl, rfl⟩ : del = true ∧ b = true := by simpa using hd
    go_enter Try.func37, Try.ntmps37
    go_wp2
    exact bodyPost_end (by simp [results, Try.results37]) rfl ⟨rfl, HK1.out, HF1.out⟩
  | false =>
    have hcase : del = false ∨ (del = true ∧ b = false) := by cases del <;> simp_all
    rcases hcase with rfl | ⟨rfl, rfl⟩
    all_goals
      clear hd
      go_enter Try.func37, Try.ntmps37
      go_wp2_with (go_at_call 35; go_must (refine HNew.out.mono ?_))
      rintro e w6 ⟨rfl, hk6, hf6⟩
      have HK6 := Lib.hid hk6
      have HF6 := Lib.hid (HF1.out.trans hf6)
      clear hk6 hf6
      go_wp2
      exact bodyPost_end (by simp [results, Try.results37]) rfl ⟨rfl, HK6.out, HF6.out⟩

theorem gStep_new (ab b : Bool) (r : Nat) (st : List KE × Option ByteArray) (x : KE) (h : r < x.2.rev) : gStep ab b r st x = (if ab then st.1 ++ [x] else st.1, st.2) := by unfold gStep; rw [if_pos h]
theorem gStep_old (ab b : Bool) (r : Nat) (st : List KE × Option ByteArray) (x : KE) (h : ¬ r < x.2.rev) (k : st.2 = some x.2.key) : gStep ab b r st x = st := by unfold gStep; rw [if_neg h, if_pos k]
theorem gStep_first (ab b : Bool) (r : Nat) (st : List KE × Option ByteArray) (x : KE) (h : ¬ r < x.2.rev) (k : ¬ st.2 = some x.2.key) : gStep ab b r st x = (visL b st.1 x, some x.2.key) := by unfold gStep visL; rw [if_neg h, if_neg k]

theorem KB.mark {N f : Nat} {b : Bool} {st : List KE × Option ByteArray} {w : World} (h : KB N f b st w) (key : ByteArray) :
    KB N f b (st.1, some key) ((w.setCell ⟨N + 6, 0, none⟩ (.string key)).setCell ⟨N + 7, 0, none⟩ (.bool true)) ∧ FrameE N w ((w.setCell ⟨N + 6, 0, none⟩ (.string key)).setCell ⟨N + 7, 0, none⟩ (.bool true)) := by
  obtain ⟨lv, last, sm, h1, h2, h3, h4⟩ := h
  have hne : ∀ (i j : Nat) (o : Obj) (wx : World) (u : Value), i ≠ j → wx.heap[i]? = some o → (wx.setCell ⟨j, 0, none⟩ u).heap[i]? = some o := fun i j o wx u hij ho => (heap_setCell_other wx ⟨j, 0, none⟩ i u hij).trans ho
  have hk : ∀ (i : Nat) (o : Obj), i ≠ N + 6 → i ≠ N + 7 → w.heap[i]? = some o → ((w.setCell ⟨N + 6, 0, none⟩ (.string key)).setCell ⟨N + 7, 0, none⟩ (.bool true)).heap[i]? = some o := fun i o h6 h7 ho => hne _ _ _ _ _ h7 (hne _ _ _ _ _ h6 ho)
  have hown : ∀ g, lv.ownBlock = some g → N + 8 ≤ g := fun g hg => (owns_block h3 hg).1
  refine ⟨⟨lv, key, true, .inr ⟨rfl, rfl⟩, ⟨hk _ _ (by omega) (by omega) h2.b0, hk _ _ (by omega) (by omega) h2.b1, hk _ _ (by omega) (by omega) h2.b2, hk _ _ (by omega) (by omega) h2.b3, hk _ _ (by omega) (by omega) h2.b4, hk _ _ (by omega) (by omega) h2.b5, ?_, ?_⟩, ?_, by simpa using h4⟩, ?_⟩
  · exact hne _ _ _ _ _ (by omega) (heap_setCell_same w (N + 6) 0 _ _ _ h2.b6)
  · exact heap_setCell_same _ (N + 7) 0 _ _ _ (hne _ _ _ _ _ (by omega) h2.b7)
  · refine ownsRow_setCell_other (ownsRow_setCell_other h3 (a := ⟨N + 6, 0, none⟩) (fun h => ?_) _) (a := ⟨N + 7, 0, none⟩) (fun h => ?_) _
    · have := hown _ h
      have e : (⟨N + 6, 0, none⟩ : Addr).block = N + 6 := rfl
      omega
    · have := hown _ h
      have e : (⟨N + 7, 0, none⟩ : Addr).block = N + 7 := rfl
      omega
  · refine ⟨((Below.refl N w).setCell (p := ⟨N + 6, 0, none⟩) (by show N ≤ N + 6; omega) _).setCell (p := ⟨N + 7, 0, none⟩) (by show N ≤ N + 7; omega) _, fun g cs fz hc => hk _ _ (fun e => ?_) (fun e => ?_) hc⟩
    · subst e
      rw [h2.b6] at hc
      injection hc with hc
      injection hc with _ h _
      exact absurd h (by decide)
    · subst e
      rw [h2.b7] at hc
      injection hc with hc
      injection hc with _ h _
      exact absurd h (by decide)

set_option maxRecDepth 100000 in
set_option maxHeartbeats 4000000 in
theorem keep51 (N f : Nat) (b : Bool) (st : List KE × Option ByteArray) (w : World) (x : KE) (h : KB N f b st w) (hn : st.1.length ≤ 100000) :
    Calls Try.prog 51 #[.string x.1, entV x.2, .pointer (some ⟨N + 3, 0, none⟩), .pointer (some ⟨N + 4, 0, none⟩), .pointer (some ⟨N + 7, 0, none⟩), .pointer (some ⟨N + 6, 0, none⟩), .pointer (some ⟨N + 5, 0, none⟩)] w (KPost N f b (gStep true b f st x) w) := by
  have hg1 := gStep_new true b f st x
  have hg2 := gStep_old true b f st x
  have hg3 := gStep_first true b f st x
  obtain ⟨k, key, rev, del⟩ := x
  dsimp only at hg1 hg2 hg3
  have HG1 := Lib.hid hg1
  have HG2 := Lib.hid hg2
  have HG3 := Lib.hid hg3
  have hal : Below w.heap.size w (w.alloc (.cells #[.string key, .int .u64 (rev : Int), .bool del] 48)) := (Below.refl _ _).alloc (Nat.le_refl _) _
  have hk1 := h.below hal
  have HK0 := Lib.hid h
  obtain ⟨lv, last, sm, h1, h2, h3, h4⟩ := h
  have hf1 := FrameE.of_below (N := N) hal (by omega)
  have l3 := (Array.getElem?_eq_some_iff.1 h2.b3).1
  have l4 := (Array.getElem?_eq_some_iff.1 h2.b4).1
  have l5 := (Array.getElem?_eq_some_iff.1 h2.b5).1
  have l6 := (Array.getElem?_eq_some_iff.1 h2.b6).1
  have l7 := (Array.getElem?_eq_some_iff.1 h2.b7).1
  have q3 := Lib.cell_of_heap h2.b3 0
  have q4 := Lib.cell_of_heap h2.b4 0
  have q5 := Lib.cell_of_heap h2.b5 0
  have q6 := Lib.cell_of_heap h2.b6 0
  have q7 := Lib.cell_of_heap h2.b7 0
  have z6 := Lib.frozen_of_heap h2.b6
  have z7 := Lib.frozen_of_heap h2.b7
  simp [keepC, visitC] at q3 q4 q5 q6 q7
  have HF1 := Lib.hid hf1
  have HK1 := Lib.hid hk1
  have H1 := Lib.hid h1
  clear hal hk1 h1 h2 h3 hf1 hg1 hg2 hg3
  unfold entV
  dsimp only
  by_cases hfr : f < rev
  · have hfI : (f : Int) < rev := by omega
    have hnew := newer35 N f b st _ (k, ⟨key, rev, del⟩) HK1.out hn
    have HNew := Lib.hid hnew
    have HG := Lib.hid (HG1.out hfr)
    clear hnew HG1 HG2 HG3 z6 z7
    go_enter Try.func51, Try.ntmps51
    go_wp2_with (go_at_call 35; go_must (refine HNew.out.mono ?_))
    rintro e w6 ⟨rfl, hk6, hf6⟩
    have HK6 := Lib.hid hk6
    have HF6 := Lib.hid (HF1.out.trans hf6)
    clear hk6 hf6
    go_wp2
    have hfin : KPost N f b (gStep true b f st (k, ⟨key, rev, del⟩)) w (.returned (.tuple #[])) w6 := by rw [HG.out]; exact ⟨rfl, HK6.out, HF6.out⟩
    exact bodyPost_end (by simp [results, Try.results51]) rfl hfin
  · have hfI : ¬ ((f : Int) < rev) := by omega
    by_cases hlk : st.2 = some key
    · have HG := Lib.hid (HG2.out hfr hlk)
      obtain ⟨hs, rfl⟩ : some last = some key ∧ sm = true := by
        rcases H1.out with ⟨hn0, _⟩ | ⟨hs, hsm⟩
        · rw [hn0] at hlk; cases hlk
        · exact ⟨hs.symm.trans hlk, hsm⟩
      cases hs
      have hkk : (key.toList == key.toList) = true := by rw [str_eq]; simp
      clear HG1 HG2 HG3 hlk z6 z7
      go_enter Try.func51, Try.ntmps51
      go_wp2
      have hfin : KPost N f b (gStep true b f st (k, ⟨key, rev, del⟩)) w (.returned (.tuple #[])) (w.alloc (.cells #[.string key, .int .u64 (rev : Int), .bool del] 48)) := by rw [HG.out]; exact ⟨rfl, HK1.out, HF1.out⟩
      exact bodyPost_end (by simp [results, Try.results51]) rfl hfin
    · have HG := Lib.hid (HG3.out hfr hlk)
      have hm := HK0.out.mark key
      have HM := Lib.hid hm
      have hcase : sm = false ∨ (sm = true ∧ (key.toList == last.toList) = false) := by
        rcases H1.out with ⟨_, hsm⟩ | ⟨hs, hsm⟩
        · exact .inl hsm
        · right
          refine ⟨hsm, ?_⟩
          rw [str_eq, decide_eq_false]
          intro e
          subst e
          exact hlk hs
      have hal2 := (Below.refl ((w.setCell ⟨N + 6, 0, none⟩ (.string key)).setCell ⟨N + 7, 0, none⟩ (.bool true)).heap.size ((w.setCell ⟨N + 6, 0, none⟩ (.string key)).setCell ⟨N + 7, 0, none⟩ (.bool true))).alloc (Nat.le_refl _) (.cells #[.string key, .int .u64 (rev : Int), .bool del] 48)
      have hvis := visit37 N f b (st.1, some key) _ (k, ⟨key, rev, del⟩) (HM.out.1.below hal2) hn
      have HV := Lib.hid hvis
      have HF2 := Lib.hid (HM.out.2.trans (FrameE.of_below hal2 (by simp; omega)))
      clear HG1 HG2 HG3 hlk hm hal2 hvis
      rcases hcase with rfl | ⟨rfl, hkl⟩
      all_goals
        go_enter Try.func51, Try.ntmps51
        go_wp2_with (go_at_call 37; go_must (refine HV.out.mono ?_))
        rintro e w6 ⟨rfl, hk6, hf6⟩
        have HK6 := Lib.hid hk6
        have HF6 := Lib.hid (HF2.out.trans hf6)
        clear hk6 hf6
        go_wp2
        have hfin : KPost N f b (gStep true b f st (k, ⟨key, rev, del⟩)) w (.returned (.tuple #[])) w6 := by rw [HG.out]; exact ⟨rfl, HK6.out, HF6.out⟩
        exact bodyPost_end (by simp [results, Try.results51]) rfl hfin
end Go.Proofs.Ytekdcjbjjakhcaa
