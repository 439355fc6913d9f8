/- What the proof stands on, part 7. -/
import Derived.Test.YtekdcjbjjakhcaaMg6
/- sentryref17.All. -/
namespace Go.Proofs.Ytekdcjbjjakhcaa
open Go Go.RowKit

theorem total_take : ∀ (ls : List (List ByteArray)) (k : Nat), total (ls.take k) ≤ total ls
  | [], k => by simp
  | x :: t, 0 => by simp [total]
  | x :: t, k + 1 => by
    have := total_take t k
    simp only [total, List.take_succ_cons, List.map_cons, List.sum_cons] at this ⊢
    omega

theorem total_mem : ∀ {ls : List (List ByteArray)} {l : List ByteArray}, l ∈ ls → l.length ≤ total ls
  | x :: t, l, h => by
    simp only [total, List.map_cons, List.sum_cons]
    rcases List.mem_cons.1 h with rfl | h
    · omega
    · have := total_mem h
      simp only [total] at this
      omega

theorem allK_snoc {ls : List (List ByteArray)} {k : Nat} {l : List ByteArray} (h : ls[k]? = some l) : allK (ls.take (k + 1)) = l.foldl putK (allK (ls.take k)) := by
  rw [List.take_add_one, h]
  simp [allK]

theorem fold_snoc {l : List ByteArray} {j : Nat} {x : ByteArray} (P : List ByteArray) (h : l[j]? = some x) : (l.take (j + 1)).foldl putK P = putK ((l.take j).foldl putK P) x := by
  rw [List.take_add_one, h]
  simp

def AllRel (w : World) (ls : List (List ByteArray)) (n : Nat) (ov iv : Value) (wr : World) : Prop :=
  ∃ (k : Nat) (a : Option Addr) (cap : Nat), iv = .int .i64 (k : Int) ∧ k ≤ n ∧ ov = .slice a (allK (ls.take k)).length cap ∧ Reads wr 1 (.slice a (allK (ls.take k)).length cap) (allK (ls.take k)).length (scells (allK (ls.take k))) ∧ Below w.heap.size w wr

def AllIn (wo : World) (P l : List ByteArray) (ov jv : Value) (wi : World) : Prop :=
  ∃ (j : Nat) (a : Option Addr) (cap : Nat), jv = .int .i64 (j : Int) ∧ j ≤ l.length ∧ ov = .slice a ((l.take j).foldl putK P).length cap ∧ Reads wi 1 (.slice a ((l.take j).foldl putK P).length cap) ((l.take j).foldl putK P).length (scells ((l.take j).foldl putK P)) ∧ Below wo.heap.size wo wi

set_option maxRecDepth 100000 in
set_option maxHeartbeats 4000000 in
theorem refall_any (w : World) (v : Value) (n : Nat) (ls : List (List ByteArray)) (h : SRows w v n ls) (ht : total ls ≤ 10000) :
    Calls Try.prog 48 #[v] w (SGives w (allK ls)) := by
  have HE := Lib.hid h
  obtain ⟨a, cap, rfl, hc1, hc2, hll, hx0⟩ := h
  clear hx0
  unfold maxLen at hc2
  have HLL := Lib.hid hll
  clear hll
  go_enter Try.func48, Try.ntmps48
  go_wp2
  go_loopw [3, 10] (fun ov iv wr => AllRel w ls n ov iv wr) (fun _ iv _ => n - (intOf iv).toNat)
  case atStart => exact ⟨0, none, 0, rfl, Nat.zero_le _, rfl, sreads_nil w, Below.refl _ _⟩
  case round =>
    obtain ⟨k, oa, ocap, rfl, hk, rfl, hrd0, hb⟩ := hrel
    have hbs := hb.size
    by_cases hlt : k < n
    · have hkI : (k : Int) < n := by omega
      obtain ⟨x, hx⟩ : ∃ x, ls[k]? = some x := ⟨ls[k]'(by rw [HLL.out]; exact hlt), List.getElem?_eq_getElem _⟩
      obtain ⟨_, _, hv, _, _, _, hrow⟩ := HE.out.below hb
      cases hv
      obtain ⟨g, off, sa, scap, rfl, hg, hcell, hrd⟩ := hrow k x hx
      have hsn := allK_snoc hx
      have hxl := total_mem (List.mem_of_getElem? hx)
      have hP := (allK_ok (ls.take k)).1
      have hPl := (allK_ok (ls.take k)).2.2
      have hPt := total_take ls k
      generalize hPP : allK (ls.take k) = P at *
      have hPl2 : P.length ≤ 10000 := by omega
      have HP := Lib.hid hP
      have HSn := Lib.hid hsn
      have HR := Lib.hid hrd
      have HO := Lib.hid hrd0
      have HB := Lib.hid hb
      obtain ⟨_, _, hv2, hs1, hs2⟩ := hrd.le
      cases hv2
      unfold maxLen at hs2
      clear hrow hx hsn hrd hrd0 hb hP hPP hPl hPt
      obtain ⟨wo, rfl⟩ : ∃ wo : World, wo = wr := ⟨_, rfl⟩
      go_wp2
      go_loopw [3, 16] (fun ov jv wi => AllIn wo P x ov jv wi) (fun _ jv _ => x.length - (intOf jv).toNat)
      case atStart => exact ⟨0, oa, ocap, rfl, Nat.zero_le _, rfl, HO.out, Below.refl _ _⟩
      case round =>
        obtain ⟨j, ia, icap, rfl, hj, rfl, hir, hbi⟩ := hrel
        have hbis := hbi.size
        have hil := (putAll_ok (x.take j) P HP.out).2.2
        rw [List.length_take] at hil
        have HO2 := Lib.hid hir
        have HI := Lib.hid hbi
        clear hir hbi
        by_cases hjl : j < x.length
        · have hjI : (j : Int) < x.length := by omega
          obtain ⟨b, off2, y, rfl, hy, hbb, hcc⟩ := (HR.out.below' HI.out).scell j hjl
          have hnext := fold_snoc P hy
          generalize (x.take j).foldl putK P = R at *
          have HN := Lib.hid hnext
          have hpk := putk_any wr _ _ _ R y HO2.out (by omega)
          have HPk := Lib.hid hpk
          clear hnext hy hpk
          go_wp2_with (go_at_call 30; go_must (refine HPk.out.mono ?_))
          rintro e w2 ⟨a2, cap2, b2, rfl, r2, bb2⟩
          have HB2 := Lib.hid (HI.out.trans (bb2.mono HI.out.size))
          have HR2 := Lib.hid r2
          clear r2 bb2 HPk
          go_wp2
          refine ⟨⟨j + 1, a2, cap2, by go_num, by omega, ?_, ?_, HB2.out⟩, by simp [intOf]; omega⟩
          · rw [HN.out]
          · rw [HN.out]; exact HR2.out
        · have hjI : ¬ (j : Int) < x.length := by omega
          have htk : x.take j = x := List.take_of_length_le (by omega)
          rw [htk] at HO2 ⊢
          have HBx := Lib.hid (HB.out.trans (HI.out.mono HB.out.size))
          clear hil
          go_wp2
          refine ⟨⟨k + 1, ia, icap, by go_num, by omega, ?_, ?_, HBx.out⟩, by simp [intOf]; omega⟩
          · rw [HSn.out]
          · rw [HSn.out]; exact HO2.out
    · obtain rfl : k = n := by omega
      have hkI : ¬ (k : Int) < k := by omega
      have htk : ls.take k = ls := by rw [← HLL.out]; exact List.take_length
      rw [htk] at hrd0 ⊢
      have HO := Lib.hid hrd0
      have HB := Lib.hid hb
      clear hrd0 hb
      go_wp2
      go_ret
      exact ⟨_, _, rfl, HO.out, HB.out⟩
end Go.Proofs.Ytekdcjbjjakhcaa

/- drop.Keep. -/
namespace Go.Proofs.Ytekdcjbjjakhcaa
open Go Go.RowKit

/-- A text more in the row that a box holds. -/
def Grows (w : World) (L B n : Nat) (lv : Value) (xs : List Value) (k : ByteArray) (e : Ending) (w' : World) : Prop :=
  e = .returned (.tuple #[]) ∧ ∃ lv', w'.heap[L]? = some (.cells #[lv'] 26 (0, 0)) ∧ w'.ownsRow B 9 1 lv' (n + 1) (xs ++ [.string k]) ∧ Touch w w' (L :: lv.ownBlock.toList)

theorem owns_block {w : World} {B n s : Nat} {e : TypeId} {v : Value} {xs : List Value} (h : w.ownsRow B e s v n xs) {g : Nat} (hg : v.ownBlock = some g) : B ≤ g ∧ ∃ cs, w.heap[g]? = some (.cells cs e (0, 0)) := by
  rcases h.2 with ⟨rfl, _⟩ | ⟨g', cap, cur, rfl, hB, hc, _⟩
  · cases hg
  · cases hg
    exact ⟨hB, _, hc⟩

set_option maxRecDepth 100000 in
set_option maxHeartbeats 2000000 in
theorem keep35 (w : World) (L B n : Nat) (lv : Value) (xs : List Value) (k : ByteArray) (x : Ent) (hL : w.heap[L]? = some (.cells #[lv] 26 (0, 0))) (hown : w.ownsRow B 9 1 lv n xs) (hLB : L < B) (hB : B ≤ w.heap.size) (hn : n ≤ 100000) :
    Calls Try.prog 35 #[.string k, entV x, .pointer (some ⟨L, 0, none⟩)] w (Grows w L B n lv xs k) := by
  obtain ⟨i0, hi, hz0, hz1, hz2⟩ := info_parts info9
  obtain ⟨key, rev, del⟩ := x
  obtain ⟨la, lcap, rfl, hl1, hl2⟩ := (ownsRow.reads hown).le
  unfold maxLen at hl2
  have hlt : L < w.heap.size := (Array.getElem?_eq_some_iff.1 hL).1
  have q0 := Lib.cell_of_heap hL 0
  have qf := Lib.frozen_of_heap hL
  simp at q0
  have HN := Lib.hid (show (w.alloc (.cells #[.string key, .int .u64 (rev : Int), .bool del] 48)).heap.size = w.heap.size + 1 by simp)
  have HO := Lib.hid (hown.alloc (.cells #[.string key, .int .u64 (rev : Int), .bool del] 48))
  have HX := Lib.hid ((heap_alloc_old w (.cells #[.string key, .int .u64 (rev : Int), .bool del] 48) hlt).trans hL)
  have HT := Lib.hid ((Touch.refl w (L :: (Value.slice la n lcap).ownBlock.toList)).alloc (.cells #[.string key, .int .u64 (rev : Int), .bool del] 48))
  have hBN : B ≤ (w.alloc (.cells #[.string key, .int .u64 (rev : Int), .bool del] 48)).heap.size := by simp; omega
  have hnL : (Value.slice la n lcap).ownBlock ≠ some L := fun h => by have := (owns_block hown h).1; omega
  clear hL hown
  unfold entV
  go_enter Try.func35, Try.ntmps35
  go_wp2_with (at_builtin; go_must (refine wpList_append_rows_at (w0 := w.alloc (.cells #[.string key, .int .u64 (rev : Int), .bool del] 48)) rfl _ _ 26 rfl B 9 i0 _ 1 16 Try.underlying26 hi hz0 hz1 hz2 rfl [.string k] 1 rfl HN.out HO.out rfl rfl ?_ ?_ ?_ hBN ?_))
  · intro u hu
    simp at hu
    subst hu
    rfl
  · unfold maxLen; omega
  · omega
  intro v6 w6 o6 g6 b6 _
  obtain ⟨na, ncap, rfl, _, _⟩ := (ownsRow.reads o6).le
  have hx6 := (g6.block L (by rw [HN.out]; omega) (fun h => hnL h.symm)).trans HX.out
  have ht6 : Touch w w6 (L :: (Value.slice la n lcap).ownBlock.toList) := HT.out.same ⟨g6.os, g6.tape, g6.output, g6.size, fun g hg hn => g6.block g hg (fun h => hn (by simp [h.symm]))⟩
  have HX7 := Lib.hid (heap_setCell_same w6 L 0 _ _ (.slice na (n + 1) ncap) hx6)
  have HO7 := Lib.hid (ownsRow_setCell_other o6 (a := ⟨L, 0, none⟩) (fun h => by have := (owns_block o6 h).1; have : (⟨L, 0, none⟩ : Addr).block = L := rfl; omega) (.slice na (n + 1) ncap))
  have HT7 := Lib.hid (ht6.setCell (p := ⟨L, 0, none⟩) (.inl (by simp)) (.slice na (n + 1) ncap))
  have x0 := Lib.cell_of_heap hx6 0
  have xf := Lib.frozen_of_heap hx6
  simp at x0
  clear o6 g6 b6 hx6 ht6 HX HO HT q0 qf
  go_wp2
  refine bodyPost_end (by simp [results, Try.results35]) rfl ⟨rfl, _, HX7.out, HO7.out, HT7.out⟩

def keepC (N : Nat) : Value := .func (.func 35) #[] #[.pointer (some ⟨N + 1, 0, none⟩)]
def visitC (N : Nat) : Value := .func (.func 37) #[] #[.pointer (some ⟨N, 0, none⟩), .pointer (some ⟨N + 2, 0, none⟩)]

/-- What Keep's closures hold. -/
structure KBoxes (N f : Nat) (b : Bool) (last : ByteArray) (sm : Bool) (lv : Value) (w : World) : Prop where
  b0 : w.heap[N]? = some (Obj.cells #[.bool b] 4 (0, 0))
  b1 : w.heap[N + 1]? = some (Obj.cells #[lv] 26 (0, 0))
  b2 : w.heap[N + 2]? = some (Obj.cells #[keepC N] 69 (0, 0))
  b3 : w.heap[N + 3]? = some (Obj.cells #[.int .u64 (f : Int)] 23 (0, 0))
  b4 : w.heap[N + 4]? = some (Obj.cells #[keepC N] 69 (0, 0))
  b5 : w.heap[N + 5]? = some (Obj.cells #[visitC N] 69 (0, 0))
  b6 : w.heap[N + 6]? = some (Obj.cells #[.string last] 9 (0, 0))
  b7 : w.heap[N + 7]? = some (Obj.cells #[.bool sm] 4 (0, 0))

def lastIs (o : Option ByteArray) (last : ByteArray) (sm : Bool) : Prop := (o = none ∧ sm = false) ∨ (o = some last ∧ sm = true)

def KB (N f : Nat) (b : Bool) (st : List KE × Option ByteArray) (w : World) : Prop :=
  ∃ lv last sm, lastIs st.2 last sm ∧ KBoxes N f b last sm lv w ∧ w.ownsRow (N + 8) 9 1 lv st.1.length (scells (st.1.map (·.1))) ∧ N + 8 ≤ w.heap.size

theorem KBoxes.below {N f B : Nat} {b sm : Bool} {last : ByteArray} {lv : Value} {w w' : World} (h : KBoxes N f b last sm lv w) (hb : Below B w w') (hB : N + 8 ≤ B) : KBoxes N f b last sm lv w' :=
  ⟨(hb.block _ (by omega)).trans h.b0, (hb.block _ (by omega)).trans h.b1, (hb.block _ (by omega)).trans h.b2, (hb.block _ (by omega)).trans h.b3, (hb.block _ (by omega)).trans h.b4, (hb.block _ (by omega)).trans h.b5, (hb.block _ (by omega)).trans h.b6, (hb.block _ (by omega)).trans h.b7⟩

theorem KB.below {N f : Nat} {b : Bool} {st : List KE × Option ByteArray} {w w' : World} (h : KB N f b st w) (hb : Below w.heap.size w w') : KB N f b st w' := by
  obtain ⟨lv, last, sm, h1, h2, h3, h4⟩ := h
  exact ⟨lv, last, sm, h1, h2.below hb h4, owns_below h3 hb, Nat.le_trans h4 hb.size⟩

/-- What a closure of Keep's leaves. -/
def KPost (N f : Nat) (b : Bool) (st : List KE × Option ByteArray) (w : World) (e : Ending) (w' : World) : Prop := e = .returned (.tuple #[]) ∧ KB N f b st w' ∧ FrameE N w w'

/-- One text more. -/
theorem KB.grow {N f : Nat} {b sm : Bool} {last : ByteArray} {lv : Value} {st : List KE × Option ByteArray} {w w' : World} {x : KE} {e : Ending} (h1 : lastIs st.2 last sm) (h2 : KBoxes N f b last sm lv w) (h3 : w.ownsRow (N + 8) 9 1 lv st.1.length (scells (st.1.map (·.1)))) (h4 : N + 8 ≤ w.heap.size)
    (hg : Grows w (N + 1) (N + 8) st.1.length lv (scells (st.1.map (·.1))) x.1 e w') : KPost N f b (st.1 ++ [x], st.2) w e w' := by
  obtain ⟨rfl, lv', g1, g2, g3⟩ := hg
  have hne : ∀ i, i < N + 8 → i ≠ N + 1 → i ∉ (N + 1) :: lv.ownBlock.toList := fun i hi hn hm => by
    rcases List.mem_cons.1 hm with rfl | hm
    · exact hn rfl
    · have := (owns_block h3 (by simpa using hm)).1
      omega
  have hk : ∀ i o, i < N + 8 → i ≠ N + 1 → w.heap[i]? = some o → w'.heap[i]? = some o := fun i o hi hn ho => g3.keep ho (hne i hi hn)
  refine ⟨rfl, ⟨lv', last, sm, h1, ⟨hk _ _ (by omega) (by omega) h2.b0, g1, hk _ _ (by omega) (by omega) h2.b2, hk _ _ (by omega) (by omega) h2.b3, hk _ _ (by omega) (by omega) h2.b4, hk _ _ (by omega) (by omega) h2.b5, hk _ _ (by omega) (by omega) h2.b6, hk _ _ (by omega) (by omega) h2.b7⟩, ?_, Nat.le_trans h4 g3.size⟩, ?_⟩
  · rw [List.map_append, scells_append, List.length_append]
    exact g2
  · refine ⟨g3.below (by omega) (fun i hi => ?_), fun g cs fz hc => g3.keep hc (fun hm => ?_)⟩
    · rcases List.mem_cons.1 hi with rfl | hi
      · omega
      · have := (owns_block h3 (by simpa using hi)).1
        omega
    · rcases List.mem_cons.1 hm with rfl | hm
      · have := h2.b1
        rw [hc] at this
        injection this with this
        injection this with _ h _
        exact absurd h (by decide)
      · obtain ⟨_, cs', hc'⟩ := owns_block h3 (show lv.ownBlock = some g by simpa using hm)
        rw [hc] at hc'
        injection hc' with hc'
        injection hc' with _ h _
        exact absurd h (by decide)

theorem newer35 (N f : Nat) (b : Bool) (st : List KE × Option ByteArray) (w : World) (x : KE) (h : KB N f b st w) (hn : st.1.length ≤ 100000) :
    Calls Try.prog 35 #[.string x.1, entV x.2, .pointer (some ⟨N + 1, 0, none⟩)] w (KPost N f b (st.1 ++ [x], st.2) w) := by
  obtain ⟨lv, last, sm, h1, h2, h3, h4⟩ := h
  exact (keep35 w (N + 1) (N + 8) st.1.length lv _ x.1 x.2 h2.b1 h3 (by omega) h4 hn).mono fun e w' hg => KB.grow h1 h2 h3 h4 hg

def visL (b : Bool) (l : List KE) (x : KE) : List KE := if x.2.del && b then l else l ++ [x]

set_option maxRecDepth 100000 in
set_option maxHeartbeats 2000000 in
theorem visit37 (N f : Nat) (b : Bool) (st : List KE × Option ByteArray) (w : World) (x : KE) (h : KB N f b st w) (hn : st.1.length ≤ 100000) :
    Calls Try.prog 37 #[.string x.1, entV x.2, .pointer (some ⟨N, 0, none⟩), .pointer (some ⟨N + 2, 0, none⟩)] w (KPost N f b (visL b st.1 x, st.2) w) := by
  obtain ⟨k, key, rev, del⟩ := x
  unfold visL
  have hal : Below w.heap.size w (w.alloc (.cells #[.string key, .int .u64 (rev : Int), .bool del] 48)) := (Below.refl _ _).alloc (Nat.le_refl _) _
  have hk1 := h.below hal
  obtain ⟨lv, last, sm, h1, h2, h3, h4⟩ := h
  have hf1 := FrameE.of_below (N := N) hal (by omega)
  have l0 := (Array.getElem?_eq_some_iff.1 h2.b0).1
  have l2 := (Array.getElem?_eq_some_iff.1 h2.b2).1
  have q0 := Lib.cell_of_heap h2.b0 0
  have q2 := Lib.cell_of_heap h2.b2 0
  simp [keepC] at q0 q2
  have hnew := newer35 N f b st _ (k, ⟨key, rev, del⟩) hk1 hn
  have HNew := Lib.hid hnew
  have HF1 := Lib.hid hf1
  have HK1 := Lib.hid hk1
  clear hnew hal hk1 h1 h2 h3 h4 hf1
  unfold entV
  dsimp only
  cases hd : del && b with
  | true =>
    obtain ⟨rfl, rfl⟩ : del = true ∧ b = true := by simpa using hd
    go_enter Try.func37, Try.ntmps37
    go_wp2
    exact bodyPost_end (by simp [results, Try.results37]) rfl ⟨rfl, HK1.out, HF1.out⟩
  | false =>
    have hcase : del = false ∨ (del = true ∧ b = false) := by cases del <;> simp_all
    rcases hcase with rfl | ⟨rfl, rfl⟩
    all_goals
      clear hd
      go_enter Try.func37, Try.ntmps37
      go_wp2_with (go_at_call 35; go_must (refine HNew.out.mono ?_))
      rintro e w6 ⟨rfl, hk6, hf6⟩
      have HK6 := Lib.hid hk6
      have HF6 := Lib.hid (HF1.out.trans hf6)
      clear hk6 hf6
      go_wp2
      exact bodyPost_end (by simp [results, Try.results37]) rfl ⟨rfl, HK6.out, HF6.out⟩

theorem gStep_new (ab b : Bool) (r : Nat) (st : List KE × Option ByteArray) (x : KE) (h : r < x.2.rev) : gStep ab b r st x = (if ab then st.1 ++ [x] else st.1, st.2) := by unfold gStep; rw [if_pos h]
theorem gStep_old (ab b : Bool) (r : Nat) (st : List KE × Option ByteArray) (x : KE) (h : ¬ r < x.2.rev) (k : st.2 = some x.2.key) : gStep ab b r st x = st := by unfold gStep; rw [if_neg h, if_pos k]
theorem gStep_first (ab b : Bool) (r : Nat) (st : List KE × Option ByteArray) (x : KE) (h : ¬ r < x.2.rev) (k : ¬ st.2 = some x.2.key) : gStep ab b r st x = (visL b st.1 x, some x.2.key) := by unfold gStep visL; rw [if_neg h, if_neg k]

theorem KB.mark {N f : Nat} {b : Bool} {st : List KE × Option ByteArray} {w : World} (h : KB N f b st w) (key : ByteArray) :
    KB N f b (st.1, some key) ((w.setCell ⟨N + 6, 0, none⟩ (.string key)).setCell ⟨N + 7, 0, none⟩ (.bool true)) ∧ FrameE N w ((w.setCell ⟨N + 6, 0, none⟩ (.string key)).setCell ⟨N + 7, 0, none⟩ (.bool true)) := by
  obtain ⟨lv, last, sm, h1, h2, h3, h4⟩ := h
  have hne : ∀ (i j : Nat) (o : Obj) (wx : World) (u : Value), i ≠ j → wx.heap[i]? = some o → (wx.setCell ⟨j, 0, none⟩ u).heap[i]? = some o := fun i j o wx u hij ho => (heap_setCell_other wx ⟨j, 0, none⟩ i u hij).trans ho
  have hk : ∀ (i : Nat) (o : Obj), i ≠ N + 6 → i ≠ N + 7 → w.heap[i]? = some o → ((w.setCell ⟨N + 6, 0, none⟩ (.string key)).setCell ⟨N + 7, 0, none⟩ (.bool true)).heap[i]? = some o := fun i o h6 h7 ho => hne _ _ _ _ _ h7 (hne _ _ _ _ _ h6 ho)
  have hown : ∀ g, lv.ownBlock = some g → N + 8 ≤ g := fun g hg => (owns_block h3 hg).1
  refine ⟨⟨lv, key, true, .inr ⟨rfl, rfl⟩, ⟨hk _ _ (by omega) (by omega) h2.b0, hk _ _ (by omega) (by omega) h2.b1, hk _ _ (by omega) (by omega) h2.b2, hk _ _ (by omega) (by omega) h2.b3, hk _ _ (by omega) (by omega) h2.b4, hk _ _ (by omega) (by omega) h2.b5, ?_, ?_⟩, ?_, by simpa using h4⟩, ?_⟩
  · exact hne _ _ _ _ _ (by omega) (heap_setCell_same w (N + 6) 0 _ _ _ h2.b6)
  · exact heap_setCell_same _ (N + 7) 0 _ _ _ (hne _ _ _ _ _ (by omega) h2.b7)
  · refine ownsRow_setCell_other (ownsRow_setCell_other h3 (a := ⟨N + 6, 0, none⟩) (fun h => ?_) _) (a := ⟨N + 7, 0, none⟩) (fun h => ?_) _
    · have := hown _ h
      have e : (⟨N + 6, 0, none⟩ : Addr).block = N + 6 := rfl
      omega
    · have := hown _ h
      have e : (⟨N + 7, 0, none⟩ : Addr).block = N + 7 := rfl
      omega
  · refine ⟨((Below.refl N w).setCell (p := ⟨N + 6, 0, none⟩) (by show N ≤ N + 6; omega) _).setCell (p := ⟨N + 7, 0, none⟩) (by show N ≤ N + 7; omega) _, fun g cs fz hc => hk _ _ (fun e => ?_) (fun e => ?_) hc⟩
    · subst e
      rw [h2.b6] at hc
      injection hc with hc
      injection hc with _ h _
      exact absurd h (by decide)
    · subst e
      rw [h2.b7] at hc
      injection hc with hc
      injection hc with _ h _
      exact absurd h (by decide)

set_option maxRecDepth 100000 in
set_option maxHeartbeats 4000000 in
theorem keep51 (N f : Nat) (b : Bool) (st : List KE × Option ByteArray) (w : World) (x : KE) (h : KB N f b st w) (hn : st.1.length ≤ 100000) :
    Calls Try.prog 51 #[.string x.1, entV x.2, .pointer (some ⟨N + 3, 0, none⟩), .pointer (some ⟨N + 4, 0, none⟩), .pointer (some ⟨N + 7, 0, none⟩), .pointer (some ⟨N + 6, 0, none⟩), .pointer (some ⟨N + 5, 0, none⟩)] w (KPost N f b (gStep true b f st x) w) := by
  have hg1 := gStep_new true b f st x
  have hg2 := gStep_old true b f st x
  have hg3 := gStep_first true b f st x
  obtain ⟨k, key, rev, del⟩ := x
  dsimp only at hg1 hg2 hg3
  have HG1 := Lib.hid hg1
  have HG2 := Lib.hid hg2
  have HG3 := Lib.hid hg3
  have hal : Below w.heap.size w (w.alloc (.cells #[.string key, .int .u64 (rev : Int), .bool del] 48)) := (Below.refl _ _).alloc (Nat.le_refl _) _
  have hk1 := h.below hal
  have HK0 := Lib.hid h
  obtain ⟨lv, last, sm, h1, h2, h3, h4⟩ := h
  have hf1 := FrameE.of_below (N := N) hal (by omega)
  have l3 := (Array.getElem?_eq_some_iff.1 h2.b3).1
  have l4 := (Array.getElem?_eq_some_iff.1 h2.b4).1
  have l5 := (Array.getElem?_eq_some_iff.1 h2.b5).1
  have l6 := (Array.getElem?_eq_some_iff.1 h2.b6).1
  have l7 := (Array.getElem?_eq_some_iff.1 h2.b7).1
  have q3 := Lib.cell_of_heap h2.b3 0
  have q4 := Lib.cell_of_heap h2.b4 0
  have q5 := Lib.cell_of_heap h2.b5 0
  have q6 := Lib.cell_of_heap h2.b6 0
  have q7 := Lib.cell_of_heap h2.b7 0
  have z6 := Lib.frozen_of_heap h2.b6
  have z7 := Lib.frozen_of_heap h2.b7
  simp [keepC, visitC] at q3 q4 q5 q6 q7
  have HF1 := Lib.hid hf1
  have HK1 := Lib.hid hk1
  have H1 := Lib.hid h1
  clear hal hk1 h1 h2 h3 hf1 hg1 hg2 hg3
  unfold entV
  dsimp only
  by_cases hfr : f < rev
  · have hfI : (f : Int) < rev := by omega
    have hnew := newer35 N f b st _ (k, ⟨key, rev, del⟩) HK1.out hn
    have HNew := Lib.hid hnew
    have HG := Lib.hid (HG1.out hfr)
    clear hnew HG1 HG2 HG3 z6 z7
    go_enter Try.func51, Try.ntmps51
    go_wp2_with (go_at_call 35; go_must (refine HNew.out.mono ?_))
    rintro e w6 ⟨rfl, hk6, hf6⟩
    have HK6 := Lib.hid hk6
    have HF6 := Lib.hid (HF1.out.trans hf6)
    clear hk6 hf6
    go_wp2
    have hfin : KPost N f b (gStep true b f st (k, ⟨key, rev, del⟩)) w (.returned (.tuple #[])) w6 := by rw [HG.out]; exact ⟨rfl, HK6.out, HF6.out⟩
    exact bodyPost_end (by simp [results, Try.results51]) rfl hfin
  · have hfI : ¬ ((f : Int) < rev) := by omega
    by_cases hlk : st.2 = some key
    · have HG := Lib.hid (HG2.out hfr hlk)
      obtain ⟨hs, rfl⟩ : some last = some key ∧ sm = true := by
        rcases H1.out with ⟨hn0, _⟩ | ⟨hs, hsm⟩
        · rw [hn0] at hlk; cases hlk
        · exact ⟨hs.symm.trans hlk, hsm⟩
      cases hs
      have hkk : (key.toList == key.toList) = true := by rw [str_eq]; simp
      clear HG1 HG2 HG3 hlk z6 z7
      go_enter Try.func51, Try.ntmps51
      go_wp2
      have hfin : KPost N f b (gStep true b f st (k, ⟨key, rev, del⟩)) w (.returned (.tuple #[])) (w.alloc (.cells #[.string key, .int .u64 (rev : Int), .bool del] 48)) := by rw [HG.out]; exact ⟨rfl, HK1.out, HF1.out⟩
      exact bodyPost_end (by simp [results, Try.results51]) rfl hfin
    · have HG := Lib.hid (HG3.out hfr hlk)
      have hm := HK0.out.mark key
      have HM := Lib.hid hm
      have hcase : sm = false ∨ (sm = true ∧ (key.toList == last.toList) = false) := by
        rcases H1.out with ⟨_, hsm⟩ | ⟨hs, hsm⟩
        · exact .inl hsm
        · right
          refine ⟨hsm, ?_⟩
          rw [str_eq, decide_eq_false]
          intro e
          subst e
          exact hlk hs
      have hal2 := (Below.refl ((w.setCell ⟨N + 6, 0, none⟩ (.string key)).setCell ⟨N + 7, 0, none⟩ (.bool true)).heap.size ((w.setCell ⟨N + 6, 0, none⟩ (.string key)).setCell ⟨N + 7, 0, none⟩ (.bool true))).alloc (Nat.le_refl _) (.cells #[.string key, .int .u64 (rev : Int), .bool del] 48)
      have hvis := visit37 N f b (st.1, some key) _ (k, ⟨key, rev, del⟩) (HM.out.1.below hal2) hn
      have HV := Lib.hid hvis
      have HF2 := Lib.hid (HM.out.2.trans (FrameE.of_below hal2 (by simp; omega)))
      clear HG1 HG2 HG3 hlk hm hal2 hvis
      rcases hcase with rfl | ⟨rfl, hkl⟩
      all_goals
        go_enter Try.func51, Try.ntmps51
        go_wp2_with (go_at_call 37; go_must (refine HV.out.mono ?_))
        rintro e w6 ⟨rfl, hk6, hf6⟩
        have HK6 := Lib.hid hk6
        have HF6 := Lib.hid (HF2.out.trans hf6)
        clear hk6 hf6
        go_wp2
        have hfin : KPost N f b (gStep true b f st (k, ⟨key, rev, del⟩)) w (.returned (.tuple #[])) w6 := by rw [HG.out]; exact ⟨rfl, HK6.out, HF6.out⟩
        exact bodyPost_end (by simp [results, Try.results51]) rfl hfin
end Go.Proofs.Ytekdcjbjjakhcaa

/- drop.Keep, whole. -/
namespace Go.Proofs.Ytekdcjbjjakhcaa
open Go Go.RowKit

def keepOut (f : Nat) (b : Bool) (ks : List ByteArray) : List ByteArray := match decs ks with
  | none => []
  | some es => if rises ks then (gF true b f (ks.zip es)).1.map (·.1) else []

def KeepPost (w : World) (f : Nat) (b : Bool) (ks : List ByteArray) (e : Ending) (w' : World) : Prop :=
  ∃ a cap, e = .returned (.tuple #[.slice a (keepOut f b ks).length cap, .int .i64 (errOf ks : Int)]) ∧ Reads w' 1 (.slice a (keepOut f b ks).length cap) (keepOut f b ks).length (scells (keepOut f b ks)) ∧ Below w.heap.size w w'

theorem gStep_length (ab b : Bool) (r : Nat) (st : List KE × Option ByteArray) (x : KE) : (gStep ab b r st x).1.length ≤ st.1.length + 1 := by
  unfold gStep
  split
  · cases ab <;> simp
  · split
    · omega
    · cases x.2.del && b <;> simp

theorem gF_length (ab b : Bool) (r : Nat) (xs : List KE) : (gF ab b r xs).1.length ≤ xs.length := by
  have go : ∀ (xs : List KE) (st : List KE × Option ByteArray), (xs.foldl (gStep ab b r) st).1.length ≤ st.1.length + xs.length := by
    intro xs
    induction xs with
    | nil => intro st; simp
    | cons x t ih =>
      intro st
      have h1 := ih (gStep ab b r st x)
      have h2 := gStep_length ab b r st x
      simp only [List.foldl_cons, List.length_cons]
      omega
  have := go xs ([], none)
  simpa [gF] using this

theorem gF_take (ab b : Bool) (r : Nat) (xs : List KE) (i : Nat) (x : KE) (h : xs[i]? = some x) : gF ab b r (xs.take (i + 1)) = gStep ab b r (gF ab b r (xs.take i)) x := by
  rw [List.take_add_one, h, Option.toList_some, gF_snoc]

theorem enter51 (args : Array Value) (w : World) : (callFunc 51 args).run Try.prog w = .ok (.enter 51 args) w := by kernel_rfl

set_option maxRecDepth 100000 in
set_option maxHeartbeats 4000000 in
theorem firstkeep_any (N : Nat) (w : World) (a : Option Addr) (n cap : Nat) (ks : List ByteArray) (f : Nat) (b : Bool) (hr : ∀ w', Below N w w' → Reads w' 1 (.slice a n cap) n (scells ks)) (hsz : ∀ k ∈ ks, k.size ≤ 1000000) (hn : n ≤ 1000)
    (hs : w.heap.size = N + 3) (b0 : w.heap[N]? = some (Obj.cells #[.bool b] 4 (0, 0))) (b1 : w.heap[N + 1]? = some (Obj.cells #[.slice none 0 0] 26 (0, 0))) (b2 : w.heap[N + 2]? = some (Obj.cells #[keepC N] 69 (0, 0))) :
    Calls Try.prog 36 #[.slice a n cap, .int .u64 (f : Int), keepC N, visitC N] w (EachPost N w ks (fun xs w' => KB N f b (gF true b f xs) w')) := by
  have hmf : ∀ (fn : Fn) (first cap : Array Value) (w : World), (Instr.makeFunc fn first cap).run Try.prog w = .ok (.func fn first cap) w := fun _ _ _ _ => rfl
  have HR := Lib.hid hr
  have HS := Lib.hid hsz
  have B0 := Lib.hid b0
  have B1 := Lib.hid b1
  have B2 := Lib.hid b2
  clear hr hsz b0 b1 b2
  have hkb : ∀ w5, (∀ i, i < N + 3 → w5.heap[i]? = w.heap[i]?) → w5.heap[N + 3]? = some (Obj.cells #[.int .u64 (f : Int)] 23 (0, 0)) → w5.heap[N + 4]? = some (Obj.cells #[keepC N] 69 (0, 0)) → w5.heap[N + 5]? = some (Obj.cells #[visitC N] 69 (0, 0)) →
      w5.heap[N + 6]? = some (Obj.cells #[.string ⟨#[]⟩] 9 (0, 0)) → w5.heap[N + 7]? = some (Obj.cells #[.bool false] 4 (0, 0)) → w5.heap.size = N + 8 → KB N f b (gF true b f []) w5 := fun w5 h0 h3 h4 h5 h6 h7 hs5 =>
    ⟨.slice none 0 0, ⟨#[]⟩, false, .inl ⟨rfl, rfl⟩, ⟨(h0 _ (by omega)).trans B0.out, (h0 _ (by omega)).trans B1.out, (h0 _ (by omega)).trans B2.out, h3, h4, h5, h6, h7⟩, owns_nil _ _ _ _, by omega⟩
  have HKB := Lib.hid hkb
  have hvis : ∀ es, decs ks = some es → rises ks → Visits N (ks.zip es) 51 #[.pointer (some ⟨N + 3, 0, none⟩), .pointer (some ⟨N + 3 + 1, 0, none⟩), .pointer (some ⟨N + 3 + 1 + 1 + 1 + 1, 0, none⟩), .pointer (some ⟨N + 3 + 1 + 1 + 1, 0, none⟩), .pointer (some ⟨N + 3 + 1 + 1, 0, none⟩)] (fun xs w' => KB N f b (gF true b f xs) w') := fun es hd _ => by
    refine ⟨enter51, fun i x w' hx hJ _ => ?_⟩
    have hlen : (gF true b f ((ks.zip es).take i)).1.length ≤ 100000 := by
      have h1 := gF_length true b f ((ks.zip es).take i)
      have h2 := (HR.out w (Below.refl _ _)).1
      rw [scells_length] at h2
      rw [List.length_take, List.length_zip] at h1
      omega
    have hk := keep51 N f b _ w' x hJ hlen
    rw [gF_take true b f _ i x hx]
    exact hk.mono fun e w'' h => h
  have HV := Lib.hid hvis
  clear hkb hvis
  have h1 := heap_alloc_new w (.cells #[.int .u64 (f : Int)] 23)
  have s1 : (w.alloc (.cells #[.int .u64 (f : Int)] 23)).heap.size = N + 4 := by simp; omega
  have k1 : ∀ i, i < N + 3 → (w.alloc (.cells #[.int .u64 (f : Int)] 23)).heap[i]? = w.heap[i]? := fun i hi => heap_alloc_old w _ (by omega)
  rw [hs] at h1
  unfold keepC visitC
  go_enter Try.func36, Try.ntmps36
  go_wp2_with (go_at_call 40; fail)
  generalize hw1 : w.alloc (.cells #[.int .u64 (f : Int)] 23) = w1 at *
  have h2 := heap_alloc_new w1 (.cells #[keepC N] 69)
  have s2 : (w1.alloc (.cells #[keepC N] 69)).heap.size = N + 5 := by simp; omega
  have k2 : ∀ i, i < N + 4 → (w1.alloc (.cells #[keepC N] 69)).heap[i]? = w1.heap[i]? := fun i hi => heap_alloc_old w1 _ (by omega)
  rw [s1] at h2
  change Calls _ _ _ ((((w1.alloc (.cells #[keepC N] 69)).alloc (.cells #[visitC N] 69)).alloc (.cells #[.string ⟨#[]⟩] 9)).alloc (.cells #[.bool false] 4)) _
  generalize hw2 : w1.alloc (.cells #[keepC N] 69) = w2 at *
  have h3 := heap_alloc_new w2 (.cells #[visitC N] 69)
  have s3 : (w2.alloc (.cells #[visitC N] 69)).heap.size = N + 6 := by simp; omega
  have k3 : ∀ i, i < N + 5 → (w2.alloc (.cells #[visitC N] 69)).heap[i]? = w2.heap[i]? := fun i hi => heap_alloc_old w2 _ (by omega)
  rw [s2] at h3
  generalize hw3 : w2.alloc (.cells #[visitC N] 69) = w3 at *
  have h4 := heap_alloc_new w3 (.cells #[.string ⟨#[]⟩] 9)
  have s4 : (w3.alloc (.cells #[.string ⟨#[]⟩] 9)).heap.size = N + 7 := by simp; omega
  have k4 : ∀ i, i < N + 6 → (w3.alloc (.cells #[.string ⟨#[]⟩] 9)).heap[i]? = w3.heap[i]? := fun i hi => heap_alloc_old w3 _ (by omega)
  rw [s3] at h4
  generalize hw4 : w3.alloc (.cells #[.string ⟨#[]⟩] 9) = w4 at *
  have h5 := heap_alloc_new w4 (.cells #[.bool false] 4)
  have s5 : (w4.alloc (.cells #[.bool false] 4)).heap.size = N + 8 := by simp; omega
  have k5 : ∀ i, i < N + 7 → (w4.alloc (.cells #[.bool false] 4)).heap[i]? = w4.heap[i]? := fun i hi => heap_alloc_old w4 _ (by omega)
  rw [s4] at h5
  have hbw : Below N w (w4.alloc (.cells #[.bool false] 4)) := by
    rw [← hw4, ← hw3, ← hw2, ← hw1]
    refine (((((Below.refl N w).alloc (by omega) _).alloc ?_ _).alloc ?_ _).alloc ?_ _).alloc ?_ _ <;> (simp; try omega)
  generalize hw5 : w4.alloc (.cells #[.bool false] 4) = w5 at *
  have hK := HKB.out w5 (fun i hi => (k5 i (by omega)).trans ((k4 i (by omega)).trans ((k3 i (by omega)).trans ((k2 i (by omega)).trans (k1 i hi)))))
    ((k5 _ (by omega)).trans ((k4 _ (by omega)).trans ((k3 _ (by omega)).trans ((k2 _ (by omega)).trans h1)))) ((k5 _ (by omega)).trans ((k4 _ (by omega)).trans ((k3 _ (by omega)).trans h2)))
    ((k5 _ (by omega)).trans ((k4 _ (by omega)).trans h3)) ((k5 _ (by omega)).trans h4) h5 s5
  have hea := each_any N w5 a n cap ks (fun w' hb => HR.out w' (hbw.trans hb)) HS.out hn (by omega) _ _ _ (fun w' hb => hK.below hb) HV.out
  have HEa := Lib.hid hea
  have HBw := Lib.hid hbw
  clear hea hbw hK HKB HV hw1 hw2 hw3 hw4 hw5 h1 h2 h3 h4 h5 s1 s2 s3 s4 s5 k1 k2 k3 k4 k5 hs
  refine HEa.out.mono ?_
  rintro e w6 ⟨rfl, hb6, hd6⟩
  have HB6 := Lib.hid (HBw.out.trans hb6)
  have HD6 := Lib.hid hd6
  clear hb6 hd6
  go_wp2
  go_ret
  exact ⟨rfl, HB6.out, HD6.out⟩

theorem keepOut_none {f : Nat} {b : Bool} {ks : List ByteArray} (h : decs ks = none ∨ ¬ rises ks) : keepOut f b ks = [] := by
  unfold keepOut
  rcases h with h | h
  · rw [h]
  · cases decs ks with
    | none => rfl
    | some es => show (if rises ks then _ else _) = _; rw [if_neg h]

theorem keepOut_some {f : Nat} {b : Bool} {ks : List ByteArray} {es : List Ent} (h : decs ks = some es) (hr : rises ks) : keepOut f b ks = (gF true b f (ks.zip es)).1.map (·.1) := by
  unfold keepOut
  rw [h]
  show (if rises ks then _ else _) = _
  rw [if_pos hr]

/-- What Keep has at last. -/
theorem keep_out {N f : Nat} {b : Bool} {ks : List ByteArray} {w : World} (h : (∃ es, decs ks = some es ∧ rises ks ∧ KB N f b (gF true b f (ks.zip es)) w) ∨ ((decs ks = none ∨ ¬ rises ks) ∧ KB N f b (gF true b f []) w)) :
    ∃ a cap, w.heap[N + 1]? = some (Obj.cells #[.slice a (keepOut f b ks).length cap] 26 (0, 0)) ∧ Reads w 1 (.slice a (keepOut f b ks).length cap) (keepOut f b ks).length (scells (keepOut f b ks)) := by
  rcases h with ⟨es, hd, hr, lv, last, sm, _, h2, h3, _⟩ | ⟨hn, lv, last, sm, _, h2, h3, _⟩
  · rw [keepOut_some hd hr, List.length_map]
    have hb1 := h2.b1
    obtain ⟨a, cap, rfl, _, _⟩ := (ownsRow.reads h3).le
    exact ⟨a, cap, hb1, ownsRow.reads h3⟩
  · rw [keepOut_none hn]
    have hb1 := h2.b1
    have h3' : w.ownsRow (N + 8) 9 1 lv 0 (scells []) := h3
    obtain ⟨a, cap, rfl, _, _⟩ := (ownsRow.reads h3').le
    exact ⟨a, cap, hb1, ownsRow.reads h3'⟩

set_option maxRecDepth 100000 in
set_option maxHeartbeats 4000000 in
theorem keep_any (w : World) (a : Option Addr) (n cap : Nat) (ks : List ByteArray) (f : Nat) (b : Bool) (hr : Reads w 1 (.slice a n cap) n (scells ks)) (hsz : ∀ k ∈ ks, k.size ≤ 1000000) (hn : n ≤ 1000) :
    Calls Try.prog 14 #[.slice a n cap, .int .u64 (f : Int), .bool b] w (KeepPost w f b ks) := by
  have hmf : ∀ (fn : Fn) (first cap : Array Value) (w : World), (Instr.makeFunc fn first cap).run Try.prog w = .ok (.func fn first cap) w := fun _ _ _ _ => rfl
  have hsf := fun (a : Addr) (c : Array Value) (w : World) => run_store Try.prog w a (.func (.func 35) #[] c) .plain rfl
  have HR := Lib.hid hr
  have HS := Lib.hid hsz
  clear hr hsz
  go_enter Try.func14, Try.ntmps14
  go_wp2_with (go_at_call 36; fail)
  change Calls _ _ #[_, _, keepC w.heap.size, visitC w.heap.size] (((w.alloc (.cells #[.bool b] 4)).alloc (.cells #[.slice none 0 0] 26)).alloc (.cells #[keepC w.heap.size] 69)) _
  have h1 := heap_alloc_new w (.cells #[.bool b] 4)
  have s1 : (w.alloc (.cells #[.bool b] 4)).heap.size = w.heap.size + 1 := by simp
  have hb1 : Below w.heap.size w (w.alloc (.cells #[.bool b] 4)) := (Below.refl _ _).alloc (Nat.le_refl _) _
  generalize hN : w.heap.size = N at *
  generalize w.alloc (.cells #[.bool b] 4) = w1 at *
  have h2 := heap_alloc_new w1 (.cells #[.slice none 0 0] 26)
  have s2 : (w1.alloc (.cells #[.slice none 0 0] 26)).heap.size = N + 2 := by simp; omega
  have k2 : ∀ i, i < N + 1 → (w1.alloc (.cells #[.slice none 0 0] 26)).heap[i]? = w1.heap[i]? := fun i hi => heap_alloc_old w1 _ (by omega)
  have hb2 := hb1.alloc (by omega) (.cells #[.slice none 0 0] 26)
  rw [s1] at h2
  generalize w1.alloc (.cells #[.slice none 0 0] 26) = w2 at *
  have h3 := heap_alloc_new w2 (.cells #[keepC N] 69)
  have s3 : (w2.alloc (.cells #[keepC N] 69)).heap.size = N + 3 := by simp; omega
  have k3 : ∀ i, i < N + 2 → (w2.alloc (.cells #[keepC N] 69)).heap[i]? = w2.heap[i]? := fun i hi => heap_alloc_old w2 _ (by omega)
  have hb3 := hb2.alloc (by omega) (.cells #[keepC N] 69)
  rw [s2] at h3
  generalize w2.alloc (.cells #[keepC N] 69) = w3 at *
  have hfi := firstkeep_any N w3 a n cap ks f b (fun w' hb => by subst hN; exact HR.out.below' (hb3.trans hb)) HS.out hn s3 ((k3 _ (by omega)).trans ((k2 _ (by omega)).trans h1)) ((k3 _ (by omega)).trans h2) h3
  have HFi := Lib.hid hfi
  have HB3 := Lib.hid hb3
  clear hfi hb1 hb2 hb3 h1 h2 h3 s1 s2 s3 k2 k3
  refine HFi.out.mono ?_
  rintro e w6 ⟨rfl, hb6, hd6⟩
  obtain ⟨oa, ocap, hcell, hrd⟩ := keep_out hd6
  have HB6 := Lib.hid (HB3.out.trans hb6)
  have HW := Lib.hid hrd
  have q1 := Lib.cell_of_heap hcell 0
  simp at q1
  have hf0 : KeepPost w f b ks (.returned (.tuple #[.slice oa (keepOut f b ks).length ocap, .int .i64 (errOf ks : Int)])) w6 := ⟨oa, ocap, rfl, HW.out, by rw [hN]; exact HB6.out⟩
  have HFin := Lib.hid hf0
  clear hb6 hd6 hcell hrd hf0
  generalize (keepOut f b ks).length = m at *
  generalize errOf ks = er at *
  go_wp2
  go_ret2
  exact HFin.out
end Go.Proofs.Ytekdcjbjjakhcaa

/- The calls whose answers the document fixes (drop). -/
namespace Go.Proofs.Ytekdcjbjjakhcaa
open Go Go.RowKit

theorem inn_size {x : Ent} (h : x.key.size ≤ 100) : (innB x).size ≤ 1000000 := by
  have h1 := esc_length x.key.data.toList
  have h2 : x.key.data.toList.length = x.key.size := Array.length_toList
  have h3 : (innB x).size = (inner x.key.data.toList x.rev x.del).length := by
    unfold innB
    show (inner x.key.data.toList x.rev x.del).toArray.size = _
    simp
  rw [h3, inner, List.length_append, innTo_length, List.length_singleton]
  omega

theorem rowsL_size {es : List Ent} (h : ∀ x ∈ es, x.key.size ≤ 100) : ∀ k ∈ rowsL es, k.size ≤ 1000000 := fun k hk => by
  obtain ⟨x, hx, rfl⟩ := (rowsL_all es).2.2 k hk
  exact inn_size (h x hx)

def es0 : List Ent := [⟨⟨#[97]⟩, 5, false⟩, ⟨⟨#[97]⟩, 3, false⟩, ⟨⟨#[97]⟩, 1, false⟩]

theorem f_low : ∀ x ∈ es0, x.key.size ≤ 100 ∧ x.rev < 18446744073709551616 := by decide +kernel
theorem f_len : (rowsL es0).length = 3 := by decide +kernel
theorem f_err : errOf (rowsL es0) = 0 := by decide +kernel
theorem f_keep : (keepOut 3 false (rowsL es0)).map (·.data.toList) = ((rowsL es0).take 2).map (·.data.toList) := by decide +kernel
theorem f_bad : errOf [⟨#[97]⟩] = 9 := by decide +kernel

theorem f_keep' : keepOut 3 false (rowsL es0) = (rowsL es0).take 2 := by
  have h := f_keep
  have inj : ∀ (a b : List ByteArray), a.map (·.data.toList) = b.map (·.data.toList) → a = b := by
    intro a
    induction a with
    | nil => intro b hb; cases b with
      | nil => rfl
      | cons _ _ => cases hb
    | cons x a ih => intro b hb; cases b with
      | nil => cases hb
      | cons y b =>
        obtain ⟨h1, h2⟩ := List.cons.inj hb
        have e1 : x = y := Go.WideShapes.bytes_inj h1
        rw [e1, ih b h2]
  exact inj _ _ h

set_option maxRecDepth 100000 in
set_option maxHeartbeats 2000000 in
theorem fixed18_any (w : World) : Calls Try.prog 11 #[] w (SaysTrue w) := by
  have hlit := lit_reads (w := w.alloc (.cells (ecells es0).toArray 48)) (g := w.heap.size) (n := 3) (size := 3) (e := 48) (cs := ecells es0) (heap_alloc_new w _) rfl (by decide)
  have hb0 : Below w.heap.size w (w.alloc (.cells (ecells es0).toArray 48)) := (Below.refl _ _).alloc (Nat.le_refl _) _
  have hrw := rows18_any _ _ 3 3 es0 hlit rfl (by decide) f_low
  have HRw := Lib.hid hrw
  have HB0 := Lib.hid hb0
  clear hrw hb0 hlit
  go_enter Try.func11, Try.ntmps11
  go_wp2_with (go_at_call 13; fail)
  change Calls _ _ _ (w.alloc (.cells (ecells es0).toArray 48)) _
  refine HRw.out.mono ?_
  rintro e w1 ⟨a1, cap1, rfl, r1, b1⟩
  have hsz := rowsL_size (es := es0) (fun x hx => (f_low x hx).1)
  have hk1 := keep_any w1 a1 _ cap1 (rowsL es0) 3 false r1 hsz (by rw [f_len]; decide)
  have HK1 := Lib.hid hk1
  have HR1 := Lib.hid r1
  have HB1 := Lib.hid (HB0.out.trans (b1.mono HB0.out.size))
  clear b1 r1 hk1 hsz HRw
  rw [f_len] at HK1 HR1 ⊢
  go_wp2_with (go_at_call 14; go_must (refine HK1.out.mono ?_))
  rintro e w2 ⟨a2, cap2, rfl, r2, b2⟩
  have hk2l : (keepOut 3 false (rowsL es0)).length = 2 := by rw [f_keep', List.length_take, f_len]; rfl
  rw [hk2l] at r2 ⊢
  rw [f_err]
  rw [f_keep'] at r2
  have HR2 := Lib.hid r2
  have HR12 := Lib.hid ((HR1.out.stake 2 (by decide)).below' b2)
  have HB2 := Lib.hid (HB1.out.trans (b2.mono HB1.out.size))
  clear r2 b2 hk2l HK1 HR1
  have hlit2 := lit_reads (w := w2.alloc (.cells #[.string ⟨#[97]⟩] 9)) (g := w2.heap.size) (n := 1) (size := 1) (e := 9) (cs := [.string ⟨#[97]⟩]) (heap_alloc_new w2 _) rfl (by decide)
  have hk3 := keep_any _ _ 1 1 [⟨#[97]⟩] 3 false hlit2 (by decide) (by decide)
  have HK3 := Lib.hid hk3
  have hal : Below w2.heap.size w2 (w2.alloc (.cells #[.string ⟨#[97]⟩] 9)) := (Below.refl _ _).alloc (Nat.le_refl _) _
  have HAl := Lib.hid hal
  clear hk3 hlit2 hal
  go_wp2_with (go_at_call 14; go_must (refine HK3.out.mono ?_))
  rintro e w3 ⟨a3, cap3, rfl, r3, b3⟩
  rw [f_bad]
  have hb3 := HAl.out.trans (b3.mono (by simp))
  have hsm := sames_any w3 a2 a1 2 2 cap2 cap1 _ _ (HR2.out.below' hb3) (HR12.out.below' hb3)
  have HSm := Lib.hid hsm
  have HB3 := Lib.hid (HB2.out.trans (hb3.mono HB2.out.size))
  obtain ⟨_, _, hv, hc1, hc2⟩ := HR12.out.le
  cases hv
  have hcap : (2 : Int) ≤ cap1 := by omega
  unfold maxLen at hc2
  clear r3 b3 hb3 hsm HK3 HAl
  go_wp2_with (go_at_call 17; go_must (refine HSm.out.mono ?_))
  rintro e w4 ⟨rfl, b4⟩
  have HB4 := Lib.hid (HB3.out.trans (b4.mono HB3.out.size))
  clear b4
  go_wp2
  go_ret
  exact ⟨rfl, HB4.out⟩
end Go.Proofs.Ytekdcjbjjakhcaa

/- drop.At. -/
namespace Go.Proofs.Ytekdcjbjjakhcaa
open Go Go.RowKit

set_option maxRecDepth 100000 in
set_option maxHeartbeats 2000000 in
theorem at39 (w : World) (L B n : Nat) (lv : Value) (xs : List Value) (k : ByteArray) (x : Ent) (hd : x.del = false) (hL : w.heap[L]? = some (.cells #[lv] 26 (0, 0))) (hown : w.ownsRow B 9 1 lv n xs) (hLB : L < B) (hB : B ≤ w.heap.size) (hn : n ≤ 100000) :
    Calls Try.prog 39 #[.string k, entV x, .pointer (some ⟨L, 0, none⟩)] w (Grows w L B n lv xs x.key) := by
  obtain ⟨i0, hi, hz0, hz1, hz2⟩ := info_parts info9
  obtain ⟨key, rev, del⟩ := x
  dsimp only at hd ⊢
  subst hd
  obtain ⟨la, lcap, rfl, hl1, hl2⟩ := (ownsRow.reads hown).le
  unfold maxLen at hl2
  have hlt : L < w.heap.size := (Array.getElem?_eq_some_iff.1 hL).1
  have q0 := Lib.cell_of_heap hL 0
  have qf := Lib.frozen_of_heap hL
  simp at q0
  have HN := Lib.hid (show (w.alloc (.cells #[.string key, .int .u64 (rev : Int), .bool false] 48)).heap.size = w.heap.size + 1 by simp)
  have HO := Lib.hid (hown.alloc (.cells #[.string key, .int .u64 (rev : Int), .bool false] 48))
  have HX := Lib.hid ((heap_alloc_old w (.cells #[.string key, .int .u64 (rev : Int), .bool false] 48) hlt).trans hL)
  have HT := Lib.hid ((Touch.refl w (L :: (Value.slice la n lcap).ownBlock.toList)).alloc (.cells #[.string key, .int .u64 (rev : Int), .bool false] 48))
  have hBN : B ≤ (w.alloc (.cells #[.string key, .int .u64 (rev : Int), .bool false] 48)).heap.size := by simp; omega
  have hnL : (Value.slice la n lcap).ownBlock ≠ some L := fun h => by have := (owns_block hown h).1; omega
  clear hL hown
  unfold entV
  go_enter Try.func39, Try.ntmps39
  go_wp2_with (at_builtin; go_must (refine wpList_append_rows_at (w0 := w.alloc (.cells #[.string key, .int .u64 (rev : Int), .bool false] 48)) rfl _ _ 26 rfl B 9 i0 _ 1 16 Try.underlying26 hi hz0 hz1 hz2 rfl [.string key] 1 rfl HN.out HO.out rfl rfl ?_ ?_ ?_ hBN ?_))
  · intro u hu
    simp at hu
    subst hu
    rfl
  · unfold maxLen; omega
  · omega
  intro v6 w6 o6 g6 b6 _
  obtain ⟨na, ncap, rfl, _, _⟩ := (ownsRow.reads o6).le
  have hx6 := (g6.block L (by rw [HN.out]; omega) (fun h => hnL h.symm)).trans HX.out
  have ht6 : Touch w w6 (L :: (Value.slice la n lcap).ownBlock.toList) := HT.out.same ⟨g6.os, g6.tape, g6.output, g6.size, fun g hg hn => g6.block g hg (fun h => hn (by simp [h.symm]))⟩
  have HX7 := Lib.hid (heap_setCell_same w6 L 0 _ _ (.slice na (n + 1) ncap) hx6)
  have HO7 := Lib.hid (ownsRow_setCell_other o6 (a := ⟨L, 0, none⟩) (fun h => by have := (owns_block o6 h).1; have : (⟨L, 0, none⟩ : Addr).block = L := rfl; omega) (.slice na (n + 1) ncap))
  have HT7 := Lib.hid (ht6.setCell (p := ⟨L, 0, none⟩) (.inl (by simp)) (.slice na (n + 1) ncap))
  have x0 := Lib.cell_of_heap hx6 0
  have xf := Lib.frozen_of_heap hx6
  simp at x0
  clear o6 g6 b6 hx6 ht6 HX HO HT q0 qf
  go_wp2
  refine bodyPost_end (by simp [results, Try.results39]) rfl ⟨rfl, _, HX7.out, HO7.out, HT7.out⟩


theorem info_skip : True := trivial

def skipC : Value := .func (.func 38) #[] #[]
def tellC (N : Nat) : Value := .func (.func 39) #[] #[.pointer (some ⟨N, 0, none⟩)]

/-- What At's closures hold. -/
structure ABoxes (N f : Nat) (last : ByteArray) (sm : Bool) (lv : Value) (w : World) : Prop where
  b0 : w.heap[N]? = some (Obj.cells #[lv] 26 (0, 0))
  b1 : w.heap[N + 1]? = some (Obj.cells #[.int .u64 (f : Int)] 23 (0, 0))
  b2 : w.heap[N + 2]? = some (Obj.cells #[skipC] 69 (0, 0))
  b3 : w.heap[N + 3]? = some (Obj.cells #[tellC N] 69 (0, 0))
  b4 : w.heap[N + 4]? = some (Obj.cells #[.string last] 9 (0, 0))
  b5 : w.heap[N + 5]? = some (Obj.cells #[.bool sm] 4 (0, 0))

def keysOf (l : List KE) : List ByteArray := l.map (·.2.key)

def AB (N f : Nat) (st : List KE × Option ByteArray) (w : World) : Prop :=
  ∃ lv last sm, lastIs st.2 last sm ∧ ABoxes N f last sm lv w ∧ w.ownsRow (N + 6) 9 1 lv st.1.length (scells (keysOf st.1)) ∧ N + 6 ≤ w.heap.size

theorem ABoxes.below {N f B : Nat} {sm : Bool} {last : ByteArray} {lv : Value} {w w' : World} (h : ABoxes N f last sm lv w) (hb : Below B w w') (hB : N + 6 ≤ B) : ABoxes N f last sm lv w' :=
  ⟨(hb.block _ (by omega)).trans h.b0, (hb.block _ (by omega)).trans h.b1, (hb.block _ (by omega)).trans h.b2, (hb.block _ (by omega)).trans h.b3, (hb.block _ (by omega)).trans h.b4, (hb.block _ (by omega)).trans h.b5⟩

theorem AB.below {N f : Nat} {st : List KE × Option ByteArray} {w w' : World} (h : AB N f st w) (hb : Below w.heap.size w w') : AB N f st w' := by
  obtain ⟨lv, last, sm, h1, h2, h3, h4⟩ := h
  exact ⟨lv, last, sm, h1, h2.below hb h4, owns_below h3 hb, Nat.le_trans h4 hb.size⟩

def APost (N f : Nat) (st : List KE × Option ByteArray) (w : World) (e : Ending) (w' : World) : Prop := e = .returned (.tuple #[]) ∧ AB N f st w' ∧ FrameE N w w'

theorem AB.grow {N f : Nat} {sm : Bool} {last : ByteArray} {lv : Value} {st : List KE × Option ByteArray} {w w' : World} {x : KE} {e : Ending} (h1 : lastIs st.2 last sm) (h2 : ABoxes N f last sm lv w) (h3 : w.ownsRow (N + 6) 9 1 lv st.1.length (scells (keysOf st.1))) (h4 : N + 6 ≤ w.heap.size)
    (hg : Grows w N (N + 6) st.1.length lv (scells (keysOf st.1)) x.2.key e w') : APost N f (st.1 ++ [x], st.2) w e w' := by
  obtain ⟨rfl, lv', g1, g2, g3⟩ := hg
  have hne : ∀ i, i < N + 6 → i ≠ N → i ∉ N :: lv.ownBlock.toList := fun i hi hn hm => by
    rcases List.mem_cons.1 hm with rfl | hm
    · exact hn rfl
    · have := (owns_block h3 (by simpa using hm)).1
      omega
  have hk : ∀ i o, i < N + 6 → i ≠ N → w.heap[i]? = some o → w'.heap[i]? = some o := fun i o hi hn ho => g3.keep ho (hne i hi hn)
  refine ⟨rfl, ⟨lv', last, sm, h1, ⟨g1, hk _ _ (by omega) (by omega) h2.b1, hk _ _ (by omega) (by omega) h2.b2, hk _ _ (by omega) (by omega) h2.b3, hk _ _ (by omega) (by omega) h2.b4, hk _ _ (by omega) (by omega) h2.b5⟩, ?_, Nat.le_trans h4 g3.size⟩, ?_⟩
  · unfold keysOf at g2 ⊢
    rw [List.map_append, scells_append, List.length_append]
    exact g2
  · refine ⟨g3.below (by omega) (fun i hi => ?_), fun g cs fz hc => g3.keep hc (fun hm => ?_)⟩
    · rcases List.mem_cons.1 hi with rfl | hi
      · omega
      · have := (owns_block h3 (by simpa using hi)).1
        omega
    · rcases List.mem_cons.1 hm with rfl | hm
      · have := h2.b0
        rw [hc] at this
        injection this with this
        injection this with _ h _
        exact absurd h (by decide)
      · obtain ⟨_, cs', hc'⟩ := owns_block h3 (show lv.ownBlock = some g by simpa using hm)
        rw [hc] at hc'
        injection hc' with hc'
        injection hc' with _ h _
        exact absurd h (by decide)

set_option maxRecDepth 100000 in
set_option maxHeartbeats 2000000 in
theorem skip38 (N f : Nat) (st : List KE × Option ByteArray) (w : World) (x : KE) (h : AB N f st w) :
    Calls Try.prog 38 #[.string x.1, entV x.2] w (APost N f st w) := by
  obtain ⟨k, key, rev, del⟩ := x
  have hal : Below w.heap.size w (w.alloc (.cells #[.string key, .int .u64 (rev : Int), .bool del] 48)) := (Below.refl _ _).alloc (Nat.le_refl _) _
  have hk1 := h.below hal
  obtain ⟨lv, last, sm, h1, h2, h3, h4⟩ := h
  have hf1 := FrameE.of_below (N := N) hal (by omega)
  have HF1 := Lib.hid hf1
  have HK1 := Lib.hid hk1
  clear hal hk1 h1 h2 h3 h4 hf1
  unfold entV
  dsimp only
  go_enter Try.func38, Try.ntmps38
  go_wp2
  exact bodyPost_end (by simp [results, Try.results38]) rfl ⟨rfl, HK1.out, HF1.out⟩

set_option maxRecDepth 100000 in
set_option maxHeartbeats 2000000 in
theorem tell39 (N f : Nat) (st : List KE × Option ByteArray) (w : World) (x : KE) (h : AB N f st w) (hn : st.1.length ≤ 100000) :
    Calls Try.prog 39 #[.string x.1, entV x.2, .pointer (some ⟨N, 0, none⟩)] w (APost N f (visL true st.1 x, st.2) w) := by
  unfold visL
  cases hd : x.2.del with
  | false =>
    rw [Bool.false_and, if_neg (by decide)]
    obtain ⟨lv, last, sm, h1, h2, h3, h4⟩ := h
    exact (at39 w N (N + 6) st.1.length lv _ x.1 x.2 hd h2.b0 h3 (by omega) h4 hn).mono fun e w' hg => AB.grow h1 h2 h3 h4 hg
  | true =>
    rw [Bool.true_and, if_pos rfl]
    obtain ⟨k, key, rev, del⟩ := x
    dsimp only at hd
    subst hd
    have hal : Below w.heap.size w (w.alloc (.cells #[.string key, .int .u64 (rev : Int), .bool true] 48)) := (Below.refl _ _).alloc (Nat.le_refl _) _
    have hk1 := h.below hal
    obtain ⟨lv, last, sm, h1, h2, h3, h4⟩ := h
    have hf1 := FrameE.of_below (N := N) hal (by omega)
    have HF1 := Lib.hid hf1
    have HK1 := Lib.hid hk1
    clear hal hk1 h1 h2 h3 h4 hf1
    unfold entV
    dsimp only
    go_enter Try.func39, Try.ntmps39
    go_wp2
    exact bodyPost_end (by simp [results, Try.results39]) rfl ⟨rfl, HK1.out, HF1.out⟩

theorem AB.mark {N f : Nat} {st : List KE × Option ByteArray} {w : World} (h : AB N f st w) (key : ByteArray) :
    AB N f (st.1, some key) ((w.setCell ⟨N + 4, 0, none⟩ (.string key)).setCell ⟨N + 5, 0, none⟩ (.bool true)) ∧ FrameE N w ((w.setCell ⟨N + 4, 0, none⟩ (.string key)).setCell ⟨N + 5, 0, none⟩ (.bool true)) := by
  obtain ⟨lv, last, sm, h1, h2, h3, h4⟩ := h
  have hne : ∀ (i j : Nat) (o : Obj) (wx : World) (u : Value), i ≠ j → wx.heap[i]? = some o → (wx.setCell ⟨j, 0, none⟩ u).heap[i]? = some o := fun i j o wx u hij ho => (heap_setCell_other wx ⟨j, 0, none⟩ i u hij).trans ho
  have hk : ∀ (i : Nat) (o : Obj), i ≠ N + 4 → i ≠ N + 5 → w.heap[i]? = some o → ((w.setCell ⟨N + 4, 0, none⟩ (.string key)).setCell ⟨N + 5, 0, none⟩ (.bool true)).heap[i]? = some o := fun i o h6 h7 ho => hne _ _ _ _ _ h7 (hne _ _ _ _ _ h6 ho)
  have hown : ∀ g, lv.ownBlock = some g → N + 6 ≤ g := fun g hg => (owns_block h3 hg).1
  refine ⟨⟨lv, key, true, .inr ⟨rfl, rfl⟩, ⟨hk _ _ (by omega) (by omega) h2.b0, hk _ _ (by omega) (by omega) h2.b1, hk _ _ (by omega) (by omega) h2.b2, hk _ _ (by omega) (by omega) h2.b3, ?_, ?_⟩, ?_, by simpa using h4⟩, ?_⟩
  · exact hne _ _ _ _ _ (by omega) (heap_setCell_same w (N + 4) 0 _ _ _ h2.b4)
  · exact heap_setCell_same _ (N + 5) 0 _ _ _ (hne _ _ _ _ _ (by omega) h2.b5)
  · refine ownsRow_setCell_other (ownsRow_setCell_other h3 (a := ⟨N + 4, 0, none⟩) (fun h => ?_) _) (a := ⟨N + 5, 0, none⟩) (fun h => ?_) _
    · have := hown _ h
      have e : (⟨N + 4, 0, none⟩ : Addr).block = N + 4 := rfl
      omega
    · have := hown _ h
      have e : (⟨N + 5, 0, none⟩ : Addr).block = N + 5 := rfl
      omega
  · refine ⟨((Below.refl N w).setCell (p := ⟨N + 4, 0, none⟩) (by show N ≤ N + 4; omega) _).setCell (p := ⟨N + 5, 0, none⟩) (by show N ≤ N + 5; omega) _, fun g cs fz hc => hk _ _ (fun e => ?_) (fun e => ?_) hc⟩
    · subst e
      rw [h2.b4] at hc
      injection hc with hc
      injection hc with _ h _
      exact absurd h (by decide)
    · subst e
      rw [h2.b5] at hc
      injection hc with hc
      injection hc with _ h _
      exact absurd h (by decide)

set_option maxRecDepth 100000 in
set_option maxHeartbeats 4000000 in
theorem at51 (N f : Nat) (st : List KE × Option ByteArray) (w : World) (x : KE) (h : AB N f st w) (hn : st.1.length ≤ 100000) :
    Calls Try.prog 51 #[.string x.1, entV x.2, .pointer (some ⟨N + 1, 0, none⟩), .pointer (some ⟨N + 2, 0, none⟩), .pointer (some ⟨N + 5, 0, none⟩), .pointer (some ⟨N + 4, 0, none⟩), .pointer (some ⟨N + 3, 0, none⟩)] w (APost N f (gStep false true f st x) w) := by
  have hg1 := gStep_new false true f st x
  have hg2 := gStep_old false true f st x
  have hg3 := gStep_first false true f st x
  obtain ⟨k, key, rev, del⟩ := x
  dsimp only at hg1 hg2 hg3
  have HG1 := Lib.hid hg1
  have HG2 := Lib.hid hg2
  have HG3 := Lib.hid hg3
  have hal : Below w.heap.size w (w.alloc (.cells #[.string key, .int .u64 (rev : Int), .bool del] 48)) := (Below.refl _ _).alloc (Nat.le_refl _) _
  have hk1 := h.below hal
  have HK0 := Lib.hid h
  obtain ⟨lv, last, sm, h1, h2, h3, h4⟩ := h
  have hf1 := FrameE.of_below (N := N) hal (by omega)
  have l3 := (Array.getElem?_eq_some_iff.1 h2.b1).1
  have l4 := (Array.getElem?_eq_some_iff.1 h2.b2).1
  have l5 := (Array.getElem?_eq_some_iff.1 h2.b3).1
  have l6 := (Array.getElem?_eq_some_iff.1 h2.b4).1
  have l7 := (Array.getElem?_eq_some_iff.1 h2.b5).1
  have q3 := Lib.cell_of_heap h2.b1 0
  have q4 := Lib.cell_of_heap h2.b2 0
  have q5 := Lib.cell_of_heap h2.b3 0
  have q6 := Lib.cell_of_heap h2.b4 0
  have q7 := Lib.cell_of_heap h2.b5 0
  have z6 := Lib.frozen_of_heap h2.b4
  have z7 := Lib.frozen_of_heap h2.b5
  simp [skipC, tellC] at q3 q4 q5 q6 q7
  have HF1 := Lib.hid hf1
  have HK1 := Lib.hid hk1
  have H1 := Lib.hid h1
  clear hal hk1 h1 h2 h3 hf1 hg1 hg2 hg3
  unfold entV
  dsimp only
  by_cases hfr : f < rev
  · have hfI : (f : Int) < rev := by omega
    have hnew := skip38 N f st _ (k, ⟨key, rev, del⟩) HK1.out
    have HNew := Lib.hid hnew
    have HG := Lib.hid (HG1.out hfr)
    clear hnew HG1 HG2 HG3 z6 z7
    go_enter Try.func51, Try.ntmps51
    go_wp2_with (go_at_call 38; go_must (refine HNew.out.mono ?_))
    rintro e w6 ⟨rfl, hk6, hf6⟩
    have HK6 := Lib.hid hk6
    have HF6 := Lib.hid (HF1.out.trans hf6)
    clear hk6 hf6
    go_wp2
    have hfin : APost N f (gStep false true f st (k, ⟨key, rev, del⟩)) w (.returned (.tuple #[])) w6 := by rw [HG.out]; exact ⟨rfl, HK6.out, HF6.out⟩
    exact bodyPost_end (by simp [results, Try.results51]) rfl hfin
  · have hfI : ¬ ((f : Int) < rev) := by omega
    by_cases hlk : st.2 = some key
    · have HG := Lib.hid (HG2.out hfr hlk)
      obtain ⟨hs, rfl⟩ : some last = some key ∧ sm = true := by
        rcases H1.out with ⟨hn0, _⟩ | ⟨hs, hsm⟩
        · rw [hn0] at hlk; cases hlk
        · exact ⟨hs.symm.trans hlk, hsm⟩
      cases hs
      have hkk : (key.toList == key.toList) = true := by rw [str_eq]; simp
      clear HG1 HG2 HG3 hlk z6 z7
      go_enter Try.func51, Try.ntmps51
      go_wp2
      have hfin : APost N f (gStep false true f st (k, ⟨key, rev, del⟩)) w (.returned (.tuple #[])) (w.alloc (.cells #[.string key, .int .u64 (rev : Int), .bool del] 48)) := by rw [HG.out]; exact ⟨rfl, HK1.out, HF1.out⟩
      exact bodyPost_end (by simp [results, Try.results51]) rfl hfin
    · have HG := Lib.hid (HG3.out hfr hlk)
      have hm := HK0.out.mark key
      have HM := Lib.hid hm
      have hcase : sm = false ∨ (sm = true ∧ (key.toList == last.toList) = false) := by
        rcases H1.out with ⟨_, hsm⟩ | ⟨hs, hsm⟩
        · exact .inl hsm
        · right
          refine ⟨hsm, ?_⟩
          rw [str_eq, decide_eq_false]
          intro e
          subst e
          exact hlk hs
      have hal2 := (Below.refl ((w.setCell ⟨N + 4, 0, none⟩ (.string key)).setCell ⟨N + 5, 0, none⟩ (.bool true)).heap.size ((w.setCell ⟨N + 4, 0, none⟩ (.string key)).setCell ⟨N + 5, 0, none⟩ (.bool true))).alloc (Nat.le_refl _) (.cells #[.string key, .int .u64 (rev : Int), .bool del] 48)
      have hvis := tell39 N f (st.1, some key) _ (k, ⟨key, rev, del⟩) (HM.out.1.below hal2) hn
      have HV := Lib.hid hvis
      have HF2 := Lib.hid (HM.out.2.trans (FrameE.of_below hal2 (by simp; omega)))
      clear HG1 HG2 HG3 hlk hm hal2 hvis
      rcases hcase with rfl | ⟨rfl, hkl⟩
      all_goals
        go_enter Try.func51, Try.ntmps51
        go_wp2_with (go_at_call 39; go_must (refine HV.out.mono ?_))
        rintro e w6 ⟨rfl, hk6, hf6⟩
        have HK6 := Lib.hid hk6
        have HF6 := Lib.hid (HF2.out.trans hf6)
        clear hk6 hf6
        go_wp2
        have hfin : APost N f (gStep false true f st (k, ⟨key, rev, del⟩)) w (.returned (.tuple #[])) w6 := by rw [HG.out]; exact ⟨rfl, HK6.out, HF6.out⟩
        exact bodyPost_end (by simp [results, Try.results51]) rfl hfin
end Go.Proofs.Ytekdcjbjjakhcaa
