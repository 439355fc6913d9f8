import Derived.Test.YtkcaadkamaogbaaDoorIndexTuple
import Derived.Test.YtkcaadkamaogbaaDoorTupleRefUnkey
import Derived.Test.YtkcaadkamaogbaaDoorOwns
import Derived.Test.YtkcaadkamaogbaaDoorDrawnLast
namespace Go.Proofs.YtkcaadkamaogbaaDoor
open Go Go.RowKit

theorem info9 : (Tryd.prog.info? 9).map (fun i => (i.zero, i.size, i.bytes)) = some (some (.string ⟨#[]⟩), 1, 16) := by kernel_rfl

/-- The parts of a text that end with a zero, and what is left. -/
def stp (st : List ByteArray × ByteArray) (b : UInt8) : List ByteArray × ByteArray := if b = 0 then (st.1 ++ [st.2], ⟨#[]⟩) else (st.1, st.2 ++ ⟨#[b]⟩)
def cutsL (l : List UInt8) : List ByteArray × ByteArray := l.foldl stp ([], ⟨#[]⟩)

theorem cuts_snoc (l : List UInt8) (b : UInt8) : cutsL (l ++ [b]) = stp (cutsL l) b := by simp [cutsL]

theorem empty_app (x : ByteArray) : (⟨#[]⟩ : ByteArray) ++ x = x := by
  apply ByteArray.ext
  rw [ByteArray.data_append]
  simp

theorem foldl_nz : ∀ (l : List UInt8) (ps : List ByteArray) (c : ByteArray), (∀ b ∈ l, b ≠ 0) → l.foldl stp (ps, c) = (ps, c ++ ⟨l.toArray⟩)
  | [], ps, c, _ => by
    show (ps, c) = _
    congr 1
    apply ByteArray.ext
    rw [ByteArray.data_append]
    simp
  | b :: l, ps, c, h => by
    have hb : b ≠ 0 := h b (List.mem_cons_self ..)
    have e : stp (ps, c) b = (ps, c ++ ⟨#[b]⟩) := by unfold stp; rw [if_neg hb]
    rw [List.foldl_cons, e, foldl_nz l ps _ (fun x hx => h x (List.mem_cons_of_mem _ hx))]
    congr 1
    apply ByteArray.ext
    simp [ByteArray.data_append]

theorem mem_takeWhile_pos {p : UInt8 → Bool} : ∀ {l : List UInt8} {b : UInt8}, b ∈ l.takeWhile p → p b = true
  | [], b, h => by simp at h
  | a :: l, b, h => by
    rw [List.takeWhile_cons] at h
    split at h
    · rename_i ha
      rcases List.mem_cons.1 h with rfl | h
      · exact ha
      · exact mem_takeWhile_pos h
    · simp at h

theorem cuts_count : ∀ (k : Nat) (s : ByteArray) (ps : List ByteArray), Lib.countB s zB = k →
    s.data.toList.foldl stp (ps, ⟨#[]⟩) = (ps ++ (List.range k).map (zpart s), zrest s k)
  | 0, s, ps, h => by
    rcases zcut_cases s with ⟨hm, hno⟩ | ⟨i, hi, ha, hr, hs⟩
    · rw [foldl_nz _ _ _ (fun b hb hz => by
        obtain ⟨j, hj⟩ := List.mem_iff_getElem?.1 hb
        exact hno j (by rw [hj, hz])), empty_app]
      simp
      rfl
    · rw [Lib.countB_hit s zB i (by decide) hi] at h
      omega
  | k + 1, s, ps, h => by
    rcases zcut_cases s with ⟨hm, _⟩ | ⟨i, hi, ha, hr, hs⟩
    · rw [Lib.countB_miss s zB hm] at h
      cases h
    · rw [Lib.countB_hit s zB i (by decide) hi, show i + zB.size = i + 1 from rfl, hr] at h
      have ih := fun ps => cuts_count k (cutR s 0) ps (by omega)
      have hnz : ∀ b ∈ (cutA s 0).data.toList, b ≠ 0 := by
        intro b hb
        have : b ∈ s.data.toList.takeWhile (· != 0) := hb
        simpa using mem_takeWhile_pos this
      have hmap : (List.range (k + 1)).map (zpart s) = cutA s 0 :: (List.range k).map (zpart (cutR s 0)) := by
        rw [List.range_succ_eq_map, List.map_cons, List.map_map]
        rfl
      rw [hmap]
      conv => lhs; rw [hs]
      rw [List.foldl_append, foldl_nz _ _ _ hnz, empty_app, List.foldl_cons]
      have e : stp (ps, (⟨(cutA s 0).data.toList.toArray⟩ : ByteArray)) 0 = (ps ++ [cutA s 0], ⟨#[]⟩) := rfl
      rw [e, ih]
      simp
      rfl

theorem cuts_of (s : ByteArray) : cutsL s.data.toList = ((List.range (Lib.countB s zB)).map (zpart s), zrest s (Lib.countB s zB)) := by
  have := cuts_count _ s [] rfl
  simpa [cutsL] using this

theorem cuts_length : ∀ (l : List UInt8), (cutsL l).1.length ≤ l.length ∧ (cutsL l).2.size ≤ l.length := by
  intro l
  unfold cutsL
  suffices h : ∀ (l : List UInt8) (ps : List ByteArray) (c : ByteArray), (l.foldl stp (ps, c)).1.length ≤ ps.length + l.length ∧ (l.foldl stp (ps, c)).2.size ≤ c.size + l.length by
    have := h l [] ⟨#[]⟩
    have e : (⟨#[]⟩ : ByteArray).size = 0 := rfl
    simp [e] at this
    exact this
  intro l
  induction l with
  | nil => intro ps c; simp
  | cons b l ih =>
    intro ps c
    rw [List.foldl_cons]
    by_cases hb : b = 0
    · have e : stp (ps, c) b = (ps ++ [c], ⟨#[]⟩) := by unfold stp; rw [if_pos hb]
      rw [e]
      have := ih (ps ++ [c]) ⟨#[]⟩
      have e : (⟨#[]⟩ : ByteArray).size = 0 := rfl
      simp [e] at this ⊢
      omega
    · have e : stp (ps, c) b = (ps, c ++ ⟨#[b]⟩) := by unfold stp; rw [if_neg hb]
      rw [e]
      have := ih ps (c ++ ⟨#[b]⟩)
      have e : (⟨#[b]⟩ : ByteArray).size = 1 := rfl
      rw [ByteArray.size_append, e] at this
      simp at this ⊢
      omega

theorem extract_at {s : ByteArray} {i : Nat} {x : UInt8} (h : s.data.toList[i]? = some x) : s.extract i (i + 1) = ⟨#[x]⟩ := by
  apply ByteArray.ext
  apply Array.ext'
  rw [ByteArray.data_extract, Array.toList_extract]
  obtain ⟨h1, h2⟩ := List.getElem?_eq_some_iff.1 h
  have : s.data.toList.drop i = x :: s.data.toList.drop (i + 1) := by rw [List.drop_eq_getElem_cons h1, h2]
  simp [List.extract, this]

theorem str_at (s : ByteArray) (i : Nat) {c : UInt8} (h : i < s.size) (hc : s[i]'h = c) (W : World) : (Instr.index 9 (.string s) (.int .i64 (i : Int))).run Tryd.prog W = .ok (.int .u8 (c.toNat : Int)) W := by
  have hu := Tryd.underlying9
  simp [Instr.index, run_underlying hu, asIntOf, go_sem, h, hc]

theorem Fresh.nilv (B : Nat) (w : World) (e : TypeId) (size : Nat) : Fresh B w e size (.slice none 0 0) 0 [] :=
  ⟨⟨by simp, none, 0, rfl, Nat.le_refl _, Nat.zero_le _, fun j u h => by simp at h⟩, .inl ⟨none, rfl⟩⟩

def RTRel (w : World) (l : List UInt8) (lv part i : Value) (wr : World) : Prop :=
  ∃ k : Nat, i = .int .i64 ((k : Int) + 1) ∧ k ≤ l.length ∧ part = .string (cutsL (l.take k)).2 ∧
    Fresh w.heap.size wr 9 1 lv (cutsL (l.take k)).1.length (scells (cutsL (l.take k)).1) ∧ Below w.heap.size w wr ∧
    wr.heap[w.heap.size]? = some (.cells emptyC 27 (0, 0)) ∧ lv.ownBlock ≠ some w.heap.size


theorem scells_snoc (l : List ByteArray) (s : ByteArray) : scells l ++ [.string s] = scells (l ++ [s]) := by simp [scells]


theorem nonempty_key {key : ByteArray} {c : UInt8} (hf : startsB key c = true) : ∃ h : 0 < key.size, key[0]'h = c := by
  unfold startsB at hf
  have h1 := eq_of_beq hf
  rw [List.head?_eq_getElem?] at h1
  obtain ⟨h2, h3⟩ := List.getElem?_eq_some_iff.1 h1
  exact ⟨by rw [← size_data]; exact h2, h3⟩

theorem not_isEmpty {key : ByteArray} (h : 0 < key.size) : key.toList.isEmpty = false := by
  rw [Go.ByteArray.toList_eq]
  have := size_data key
  cases hk : key.data.toList with
  | nil => rw [hk] at this; simp at this; omega
  | cons a l => rfl

theorem noneV_eq : noneV = .tuple #[.agg #[.string ⟨#[]⟩, .string ⟨#[]⟩, .string ⟨#[]⟩, .string ⟨#[]⟩, .string ⟨#[]⟩, .string ⟨#[]⟩], .bool false, .int .i64 9] := rfl

set_option maxRecDepth 100000 in
set_option maxHeartbeats 1000000 in
theorem reftuple_fwd (w : World) (key : ByteArray) (hf : startsB key 102 = true) (hs : key.size ≤ 1000000) :
    Calls Tryd.prog 13 #[.string key] w (GivesVal w (tupV key)) := by
  have hv : tupV key = if isKey (restB key) = true then .tuple #[(Six.unk (restB key)).val, .bool true, .int .i64 0] else noneV := by
    unfold tupV
    rw [if_pos hf]
  have hrs := restB_size key
  have hun := fun w => refunkey_any w (restB key) (by omega)
  have hval : (Six.unk (restB key)).val = .agg #[.string (zpart (restB key) 0), .string (zpart (restB key) 1), .string (zpart (restB key) 2), .string (zpart (restB key) 3), .string (zpart (restB key) 4), .string (zpart (restB key) 5)] := rfl
  have hn : Six.none.val = .agg #[.string ⟨#[]⟩, .string ⟨#[]⟩, .string ⟨#[]⟩, .string ⟨#[]⟩, .string ⟨#[]⟩, .string ⟨#[]⟩] := rfl
  have hr : key.extract 1 key.size = restB key := rfl
  obtain ⟨hpos, h0⟩ := nonempty_key hf
  have hz := not_isEmpty hpos
  have hx := str_at key 0 hpos h0
  have hu : ∃ (p0 p1 p2 p3 p4 p5 : ByteArray) (n : Int) (b : Bool), (b = (n == 0)) ∧ unkeyV (restB key) = .tuple #[.agg #[.string p0, .string p1, .string p2, .string p3, .string p4, .string p5], .int .i64 n] ∧ tupV key = .tuple #[.agg #[.string p0, .string p1, .string p2, .string p3, .string p4, .string p5], .bool b, .int .i64 n] := by
    unfold unkeyV
    rw [hv]
    by_cases hk : isKey (restB key) = true
    · rw [if_pos hk, if_pos hk, hval]
      exact ⟨_, _, _, _, _, _, 0, true, rfl, rfl, rfl⟩
    · rw [if_neg hk, if_neg hk, hn]
      exact ⟨_, _, _, _, _, _, 9, false, rfl, rfl, rfl⟩
  obtain ⟨p0, p1, p2, p3, p4, p5, n, b, hb, hu, ht⟩ := hu
  rw [hu] at hun
  generalize restB key = r at *
  have HV := Lib.hid ht
  have HU := Lib.hid hun
  have HBn := Lib.hid hb
  clear hv hun hval hrs hn hf hu ht hb
  go_enter Tryd.func13, Tryd.ntmps13
  go_wp2_with (go_at_call 30; go_must (refine (HU.out _).mono ?_))
  rintro e w1 ⟨rfl, b1⟩
  have HX := Lib.hid (show w1.heap[w.heap.size]? = some (.cells emptyC 27 (0, 0)) from (b1.block _ (by simp)).trans (heap_alloc_new w _))
  have HB := Lib.hid (((Below.refl _ w).alloc (Nat.le_refl _) (.cells emptyC 27)).trans (b1.mono (by simp)))
  clear b1
  have hx2 := HX.out
  have hsz : w.heap.size < w1.heap.size := (Array.getElem?_eq_some_iff.1 hx2).1
  have c0 := Lib.cell_of_heap hx2 0
  have c1 := Lib.cell_of_heap hx2 1
  have c2 := Lib.cell_of_heap hx2 2
  have c3 := Lib.cell_of_heap hx2 3
  have c4 := Lib.cell_of_heap hx2 4
  have c5 := Lib.cell_of_heap hx2 5
  have f0 := Lib.frozen_of_heap hx2
  simp [emptyC] at c0 c1 c2 c3 c4 c5
  clear hx2
  go_wp2
  have hst := six_stored HX.out (.string p0) (.string p1) (.string p2) (.string p3) (.string p4) (.string p5)
  refine bodyPost_ret (ret_six rfl rfl ((heap_alloc_old _ _ (Array.getElem?_eq_some_iff.1 hst).1).trans hst)) rfl ⟨?_, (six_store (Nat.le_refl _) _ _ _ _ _ _ HB.out).alloc (six_store (Nat.le_refl _) _ _ _ _ _ _ HB.out).size _⟩
  rw [HV.out, HBn.out]
  rfl

theorem empty_of {key : ByteArray} (h : key.size = 0) : key = ⟨#[]⟩ := by
  apply ByteArray.ext
  exact Array.eq_empty_of_size_eq_zero h

theorem six_other {w : World} {g b : Nat} {o : Obj} (h : w.heap[b]? = some o) (hb : b ≠ g) (v0 v1 v2 v3 v4 v5 : Value) :
    ((((((w.setCell ⟨g, 0, none⟩ v0).setCell ⟨g, 1, none⟩ v1).setCell ⟨g, 2, none⟩ v2).setCell ⟨g, 3, none⟩ v3).setCell ⟨g, 4, none⟩ v4).setCell ⟨g, 5, none⟩ v5).heap[b]? = some o := by
  rw [heap_setCell_other _ _ _ _ hb, heap_setCell_other _ _ _ _ hb, heap_setCell_other _ _ _ _ hb, heap_setCell_other _ _ _ _ hb, heap_setCell_other _ _ _ _ hb, heap_setCell_other _ _ _ _ hb, h]

theorem tup_empty {key : ByteArray} (h : key.size = 0) : tupV key = noneV := by
  rw [empty_of h]
  unfold tupV
  rw [if_neg (by decide), if_neg (fun h => absurd h.1 (by decide))]

theorem isEmpty_of {key : ByteArray} (h : key.size = 0) : key.toList.isEmpty = true := by
  rw [Go.ByteArray.toList_eq]
  have := size_data key
  cases hk : key.data.toList with
  | nil => rfl
  | cons a l => rw [hk] at this; simp at this; omega

set_option maxRecDepth 100000 in
set_option maxHeartbeats 1000000 in
theorem reftuple_none (w : World) (key : ByteArray) (hz : key.toList.isEmpty = true) : Calls Tryd.prog 13 #[.string key] w (GivesVal w noneV) := by
  go_enter Tryd.func13, Tryd.ntmps13
  have hx2 : (w.alloc (.cells #[.string ⟨#[]⟩, .string ⟨#[]⟩, .string ⟨#[]⟩, .string ⟨#[]⟩, .string ⟨#[]⟩, .string ⟨#[]⟩] 27)).heap[w.heap.size]? = some (.cells emptyC 27 (0, 0)) := heap_alloc_new w (.cells emptyC 27)
  have HSt := Lib.hid hx2
  clear hx2
  go_wp2
  exact bodyPost_ret (ret_six rfl rfl HSt.out) rfl ⟨rfl, (Below.refl _ w).alloc (Nat.le_refl _) _⟩

theorem key_split {key : ByteArray} (hpos : 0 < key.size) : key.data.toList = key[0]'hpos :: (restB key).data.toList := by
  have e : (restB key).data.toList = key.data.toList.drop 1 := by
    unfold restB
    rw [ByteArray.data_extract, Array.toList_extract]
    have := size_data key
    simp [List.extract]
    exact List.take_of_length_le (by rw [List.length_tail]; omega)
  rw [e]
  have h : 0 < key.data.toList.length := by rw [size_data]; exact hpos
  have := List.drop_eq_getElem_cons h
  rw [List.drop_zero] at this
  exact this

set_option maxRecDepth 100000 in
set_option maxHeartbeats 4000000 in
theorem reftuple_back (w : World) (key : ByteArray) (hf : startsB key 102 = false) (hpos : 0 < key.size) (hs : key.size ≤ 1000000) :
    Calls Tryd.prog 13 #[.string key] w (GivesVal w (tupV key)) := by
  obtain ⟨i0, hi, hz0, hz1, hz2⟩ := info_parts info9
  have hz := not_isEmpty hpos
  have hl := key_split hpos
  obtain ⟨c, hc⟩ : ∃ c, key[0]'hpos = c := ⟨_, rfl⟩
  have hx := str_at key 0 hpos hc
  rw [hc] at hl
  have hc1 : ((c.toNat : Int) == 102) = false := by
    cases h : ((c.toNat : Int) == 102) with
    | false => rfl
    | true =>
      exfalso
      have h1 : (c.toNat : Int) = 102 := eq_of_beq h
      have h2 : c = 102 := UInt8.toNat_inj.1 (by show c.toNat = 102; omega)
      unfold startsB at hf
      rw [hl, h2] at hf
      cases hf
  have hlen : (restB key).data.toList.length + 1 = key.size := by
    have := size_data key
    rw [hl] at this
    simpa using this
  have hat : ∀ (i : Nat) (x : UInt8), (restB key).data.toList[i]? = some x → ∀ W, (Instr.index 9 (.string key) (.int .i64 ((i : Int) + 1))).run Tryd.prog W = .ok (.int .u8 (x.toNat : Int)) W := by
    intro i x h W
    have h1 : key.data.toList[i + 1]? = some x := by rw [hl]; simpa using h
    obtain ⟨h2, h3⟩ := List.getElem?_eq_some_iff.1 h1
    have := str_at key (i + 1) (by rw [← size_data]; exact h2) h3 W
    simpa using this
  have hex : ∀ (i : Nat) (x : UInt8), (restB key).data.toList[i]? = some x → key.extract (i + 1) (i + 1 + 1) = ⟨#[x]⟩ := by
    intro i x h
    exact extract_at (by rw [hl]; simpa using h)
  have hcu := cuts_of (restB key)
  generalize hr : (restB key).data.toList = l at *
  have HAt := Lib.hid hat
  have HEx := Lib.hid hex
  have HCu := Lib.hid hcu
  have HL := Lib.hid hl
  have HR := Lib.hid hr
  have HF := Lib.hid hf
  clear hat hex hcu hl hr hf
  go_enter Tryd.func13, Tryd.ntmps13
  go_wp2
  go_loopw [7, 8, 9] (fun lv part i wr => RTRel w l lv part i wr) (fun _ _ i _ => key.size - (intOf i).toNat)
  case atStart =>
    refine ⟨0, rfl, Nat.zero_le _, rfl, ?_, (Below.refl _ w).alloc (Nat.le_refl _) _, heap_alloc_new w _, by simp [Value.ownBlock]⟩
    exact Fresh.nilv _ _ _ _
  case round =>
    obtain ⟨k, rfl, hk, rfl, hfr, hb, hx2, hno⟩ := hrel
    have hll := cuts_length (l.take k)
    have hlt2 : (l.take k).length ≤ k := by rw [List.length_take]; omega
    have hps : (cutsL (l.take k)).1.length ≤ 1000000 := by omega
    have hcs : (cutsL (l.take k)).2.size ≤ 1000000 := by omega
    have hbs := hb.size
    have HB := Lib.hid hb
    have HX := Lib.hid hx2
    have HNo := Lib.hid hno
    clear hb hx2 hno
    by_cases hlt : k < l.length
    · obtain ⟨x, hxk⟩ : ∃ x, x = l[k] := ⟨_, rfl⟩
      have hxk' : l[k]? = some x := by rw [List.getElem?_eq_getElem hlt, hxk]
      have hat := HAt.out k x hxk'
      have hex := HEx.out k x hxk'
      have hlt' : (k : Int) + 1 < key.size := by omega
      have hsn := cuts_snoc (l.take k) x
      have htk : l.take k ++ [x] = l.take (k + 1) := by rw [List.take_add_one, hxk']; rfl
      rw [htk] at hsn
      generalize hC : cutsL (l.take k) = C at *
      generalize hC1 : cutsL (l.take (k + 1)) = C1 at *
      obtain ⟨ps, cur⟩ := C
      have HC1 := Lib.hid hC1
      clear hC hC1 hxk hxk' htk hlt2 hll
      dsimp only at hfr hsn hps hcs
      by_cases hx0 : x = 0
      · have he : ((x.toNat : Int) == 0) = true := by rw [hx0]; rfl
        have hst : C1 = (ps ++ [cur], ⟨#[]⟩) := by rw [hsn]; unfold stp; rw [if_pos hx0]
        have HSt := Lib.hid hst
        clear hst hsn hx0
        go_wp2_with (at_builtin; go_must (refine wpList_append_one (w0 := wr) rfl _ _ 30 rfl w.heap.size 9 i0 (.string ⟨#[]⟩) 16 Tryd.underlying30 hi hz0 hz1 hz2 rfl hfr rfl rfl rfl ?_ ?_ hbs ?_))
        · unfold maxLen; omega
        · omega
        intro v' w1 f1 g1 b1 m1
        rw [scells_snoc] at f1
        have hb1 := HB.out.trans b1
        have hm1 := m1 w.heap.size (Array.getElem?_eq_some_iff.1 HX.out).1 HNo.out
        have hx1 : w1.heap[w.heap.size]? = some (.cells emptyC 27 (0, 0)) := (g1.block w.heap.size (Array.getElem?_eq_some_iff.1 HX.out).1 (fun h => HNo.out h.symm)).trans HX.out
        have HF1 := Lib.hid f1
        have HB1 := Lib.hid hb1
        have HM1 := Lib.hid hm1
        have HX1 := Lib.hid hx1
        clear f1 hb1 hm1 hx1 g1 b1 m1 hfr
        go_wp2
        refine ⟨⟨k + 1, by go_num, by omega, by rw [HC1.out, HSt.out], ?_, HB1.out, HX1.out, HM1.out⟩, by simp [intOf]; omega⟩
        rw [HC1.out, HSt.out]
        simpa using HF1.out
      · have he : ((x.toNat : Int) == 0) = false := by
          rw [beq_eq_false_iff_ne]
          intro e
          exact hx0 (UInt8.toNat_inj.1 (by show x.toNat = 0; omega))
        have hst : C1 = (ps, cur ++ ⟨#[x]⟩) := by rw [hsn]; unfold stp; rw [if_neg hx0]
        have HSt := Lib.hid hst
        have HFr := Lib.hid hfr
        clear hst hsn hx0 hfr
        go_wp2
        refine ⟨⟨k + 1, by go_num, by omega, by rw [HC1.out, HSt.out], ?_, HB.out, HX.out, HNo.out⟩, by simp [intOf]; omega⟩
        rw [HC1.out, HSt.out]
        exact HFr.out
    · obtain rfl : k = l.length := by omega
      have hlt' : ¬ (((l.length : Nat) : Int) + 1 < key.size) := by omega
      rw [List.take_length] at hfr
      rw [List.take_length]
      clear HAt HEx hps hcs hll hlt2 hlt hk
      have hl := HL.out
      have hr := HR.out
      have hf := HF.out
      have hsb : startsB key 114 = (c == 114) := by unfold startsB; rw [hl]; rfl
      have hv : tupV key = if (c == 114) = true ∧ isBack (restB key) = true then .tuple #[(Six.unk (restB key)).turned.val, .bool false, .int .i64 0] else noneV := by
        unfold tupV
        rw [if_neg (by rw [hf]; decide), hsb]
      have hrz := restB_size key
      rw [← hr] at hfr
      rw [← hr]
      have hcu := cuts_of (restB key)
      rw [hcu] at hfr
      rw [hcu]
      have hlt3 : ¬ (((restB key).size : Int) + 1 < key.size) := by
        have := size_data (restB key)
        rw [hr] at this
        omega
      rw [← hr] at hlt'
      clear hcu HCu HL HR HF hl hr hf hsb hlen
      generalize restB key = r at *
      have hbk : isBack r = (decide (Lib.countB r zB = 6) && decide (zrest r 6 = ⟨#[]⟩) && (Six.unk r).turned.ok) := rfl
      rw [hbk] at hv
      have hcz : ((c.toNat : Int) != 114) = !(c == 114) := by
        by_cases h : c = 114
        · subst h; rfl
        · have h1 : (c == 114) = false := beq_eq_false_iff_ne.2 h
          have h2 : ¬ ((c.toNat : Int) = 114) := fun e => h (UInt8.toNat_inj.1 (by show c.toNat = 114; omega))
          rw [h1]
          simpa using h2
      have hx3 := HX.out
      have c0 := Lib.cell_of_heap hx3 0
      have c1 := Lib.cell_of_heap hx3 1
      have c2 := Lib.cell_of_heap hx3 2
      have c3 := Lib.cell_of_heap hx3 3
      have c4 := Lib.cell_of_heap hx3 4
      have c5 := Lib.cell_of_heap hx3 5
      have f0 := Lib.frozen_of_heap hx3
      simp [emptyC] at c0 c1 c2 c3 c4 c5
      have hlen : (List.map (zpart r) (List.range (Lib.countB r zB))).length = Lib.countB r zB := by simp
      have hall : Lib.countB r zB = 6 → List.map (zpart r) (List.range (Lib.countB r zB)) = (Six.unk r).list := fun h => by rw [h]; rfl
      have hz6 : Lib.countB r zB = 6 → zrest r (Lib.countB r zB) = zrest r 6 := fun h => by rw [h]
      generalize zrest r (Lib.countB r zB) = z at *
      generalize List.map (zpart r) (List.range (Lib.countB r zB)) = ps at *
      have hrd := hfr.1
      obtain ⟨a, cap, rfl, hcap1, hcap2⟩ := hrd.le
      unfold maxLen at hcap2
      by_cases hc114 : (c == 114) = true
      · by_cases h6 : Lib.countB r zB = 6
        · have hps := hall h6
          have hz7 := hz6 h6
          subst hps
          have hlen6 : (Six.unk r).list.length = 6 := rfl
          rw [hlen6] at hrd ⊢
          have hcn : ((c.toNat : Int) != 114) = false := by rw [hcz, hc114]; rfl
          have hsh := unk_short r 1000000000 (by omega)
          have hcheck := fun w => refcheck_any w (Six.unk r).turned ⟨hsh.2.2.2.1, hsh.2.2.2.2.1, hsh.2.2.2.2.2, hsh.1, hsh.2.1, hsh.2.2.1⟩
          clear hcz hfr hall hz6 hx3 hlen hlen6 hsh
          by_cases hz : z = ⟨#[]⟩
          · have hv2 : tupV key = if (Six.unk r).turned.ok = true then .tuple #[(Six.unk r).turned.val, .bool false, .int .i64 0] else noneV := by
              rw [hv, hc114, ← hz7, decide_eq_true h6, decide_eq_true hz]
              simp
            have HV := Lib.hid hv2
            subst hz
            clear hv hbk hv2 hc114 hz7 h6
            obtain ⟨g, off, s0, hae, hs0, hg, k0⟩ := hrd.scell 0 (by decide)
            subst hae
            have hsc : ∀ j s, (Six.unk r).list[j]? = some s → wr.cell? ⟨g, off + j, none⟩ = some (.string s) := by
              intro j s hj
              obtain ⟨b', off', x, hbe, hx, _, q1⟩ := hrd.scell j (by
                have := (List.getElem?_eq_some_iff.1 hj).1
                simpa [Six.list] using this)
              cases hbe
              rw [hj] at hx
              cases hx
              exact q1
            clear hrd k0 hs0 s0
            have k0 := hsc 0 _ rfl
            have k1 := hsc 1 _ rfl
            have k2 := hsc 2 _ rfl
            have k3 := hsc 3 _ rfl
            have k4 := hsc 4 _ rfl
            have k5 := hsc 5 _ rfl
            have hval2 : (Six.unk r).turned.val = .agg #[.string (zpart r 3), .string (zpart r 4), .string (zpart r 5), .string (zpart r 0), .string (zpart r 1), .string (zpart r 2)] := rfl
            have hof := fun wx g (h : Reads wx 1 (.slice (some ⟨g, 0, none⟩) 6 6) 6 (scells (Six.unk r).turned.list)) => of_any wx g (Six.unk r).turned h
            have hsl : scells (Six.unk r).turned.list = [.string (zpart r 3), .string (zpart r 4), .string (zpart r 5), .string (zpart r 0), .string (zpart r 1), .string (zpart r 2)] := rfl
            replace k0 : wr.cell? ⟨g, off, none⟩ = some (.string (zpart r 0)) := k0
            replace k1 : wr.cell? ⟨g, off + 1, none⟩ = some (.string (zpart r 1)) := k1
            replace k2 : wr.cell? ⟨g, off + 2, none⟩ = some (.string (zpart r 2)) := k2
            replace k3 : wr.cell? ⟨g, off + 3, none⟩ = some (.string (zpart r 3)) := k3
            replace k4 : wr.cell? ⟨g, off + 4, none⟩ = some (.string (zpart r 4)) := k4
            replace k5 : wr.cell? ⟨g, off + 5, none⟩ = some (.string (zpart r 5)) := k5
            have HV2 := HV.out
            rw [hval2] at hof hcheck HV2
            rw [hsl] at hof
            clear hsl
            have HOf := Lib.hid hof
            have HCh := Lib.hid hcheck
            have HV3 := Lib.hid HV2
            have hcap3 : 6 ≤ cap := hcap1
            clear hof hcheck HV2 HV hval2 hsc hcap1
            generalize (Six.unk r).turned.ok = ok at *
            generalize zpart r 0 = p0 at *
            generalize zpart r 1 = p1 at *
            generalize zpart r 2 = p2 at *
            generalize zpart r 3 = p3 at *
            generalize zpart r 4 = p4 at *
            generalize zpart r 5 = p5 at *
            go_wp2_with fail
            refine wp_region_last (l := [_, _, _, _, _, _, _, _, _, _, _, _, _, _, _, _, _, _, _, _, _]) (by kernel_rfl) [eqF (.slice (some ⟨g, off, none⟩) 6 cap), eqF (.pointer (some ⟨g, off + 3, none⟩)), eqF (.string p3), eqF (.slice (some ⟨g, off, none⟩) 6 cap), eqF (.pointer (some ⟨g, off + 4, none⟩)), eqF (.string p4), eqF (.slice (some ⟨g, off, none⟩) 6 cap), eqF (.pointer (some ⟨g, off + 5, none⟩)), eqF (.string p5), eqF (.slice (some ⟨g, off, none⟩) 6 cap), eqF (.pointer (some ⟨g, off, none⟩)), eqF (.string p0), eqF (.slice (some ⟨g, off, none⟩) 6 cap), eqF (.pointer (some ⟨g, off + 1, none⟩)), eqF (.string p1), eqF (.slice (some ⟨g, off, none⟩) 6 cap), eqF (.pointer (some ⟨g, off + 2, none⟩)), eqF (.string p2), rowF 6 [.string p3, .string p4, .string p5, .string p0, .string p1, .string p2], eqF (.agg #[.string p3, .string p4, .string p5, .string p0, .string p1, .string p2]), boxF wr.heap.size emptyC 27] (by kernel_rfl) (by kernel_rfl) (by kernel_rfl) ⟨?_, ?_, ?_, ?_, ?_, ?_, ?_, ?_, ?_, ?_, ?_, ?_, ?_, ?_, ?_, ?_, ?_, ?_, ?_, ?_, ?_, trivial⟩ ?_
            · intro ρ wx hρ hbx hl
              have e7 : ρ (.tmp 7) = .slice (some ⟨g, off, none⟩) 6 cap := hρ.tmp 7 (by decide +kernel)
              refine y_val (v := .slice (some ⟨g, off, none⟩) 6 cap) ?_ rfl
              simp [execOp, go_sem, e7]
            · intro ρ wx hρ hbx hl
              have e61 : ρ (.tmp 61) = .slice (some ⟨g, off, none⟩) 6 cap := hl 0 (by decide +kernel) 61 rfl
              refine y_val (v := .pointer (some ⟨g, off + 3, none⟩)) ?_ rfl
              simp [execOp, hρ.const, go_sem, e61]
            · intro ρ wx hρ hbx hl
              have e62 : ρ (.tmp 62) = .pointer (some ⟨g, off + 3, none⟩) := hl 1 (by decide +kernel) 62 rfl
              have kk := (hbx.cell (hg)).trans k3
              refine y_val (v := .string p3) ?_ rfl
              simp [execOp, go_sem, e62, kk]
            · intro ρ wx hρ hbx hl
              have e7 : ρ (.tmp 7) = .slice (some ⟨g, off, none⟩) 6 cap := hρ.tmp 7 (by decide +kernel)
              refine y_val (v := .slice (some ⟨g, off, none⟩) 6 cap) ?_ rfl
              simp [execOp, go_sem, e7]
            · intro ρ wx hρ hbx hl
              have e64 : ρ (.tmp 64) = .slice (some ⟨g, off, none⟩) 6 cap := hl 3 (by decide +kernel) 64 rfl
              refine y_val (v := .pointer (some ⟨g, off + 4, none⟩)) ?_ rfl
              simp [execOp, hρ.const, go_sem, e64]
            · intro ρ wx hρ hbx hl
              have e65 : ρ (.tmp 65) = .pointer (some ⟨g, off + 4, none⟩) := hl 4 (by decide +kernel) 65 rfl
              have kk := (hbx.cell (hg)).trans k4
              refine y_val (v := .string p4) ?_ rfl
              simp [execOp, go_sem, e65, kk]
            · intro ρ wx hρ hbx hl
              have e7 : ρ (.tmp 7) = .slice (some ⟨g, off, none⟩) 6 cap := hρ.tmp 7 (by decide +kernel)
              refine y_val (v := .slice (some ⟨g, off, none⟩) 6 cap) ?_ rfl
              simp [execOp, go_sem, e7]
            · intro ρ wx hρ hbx hl
              have e67 : ρ (.tmp 67) = .slice (some ⟨g, off, none⟩) 6 cap := hl 6 (by decide +kernel) 67 rfl
              refine y_val (v := .pointer (some ⟨g, off + 5, none⟩)) ?_ rfl
              simp [execOp, hρ.const, go_sem, e67]
            · intro ρ wx hρ hbx hl
              have e68 : ρ (.tmp 68) = .pointer (some ⟨g, off + 5, none⟩) := hl 7 (by decide +kernel) 68 rfl
              have kk := (hbx.cell (hg)).trans k5
              refine y_val (v := .string p5) ?_ rfl
              simp [execOp, go_sem, e68, kk]
            · intro ρ wx hρ hbx hl
              have e7 : ρ (.tmp 7) = .slice (some ⟨g, off, none⟩) 6 cap := hρ.tmp 7 (by decide +kernel)
              refine y_val (v := .slice (some ⟨g, off, none⟩) 6 cap) ?_ rfl
              simp [execOp, go_sem, e7]
            · intro ρ wx hρ hbx hl
              have e70 : ρ (.tmp 70) = .slice (some ⟨g, off, none⟩) 6 cap := hl 9 (by decide +kernel) 70 rfl
              refine y_val (v := .pointer (some ⟨g, off, none⟩)) ?_ rfl
              simp [execOp, hρ.const, go_sem, e70]
            · intro ρ wx hρ hbx hl
              have e71 : ρ (.tmp 71) = .pointer (some ⟨g, off, none⟩) := hl 10 (by decide +kernel) 71 rfl
              have kk := (hbx.cell (hg)).trans k0
              refine y_val (v := .string p0) ?_ rfl
              simp [execOp, go_sem, e71, kk]
            · intro ρ wx hρ hbx hl
              have e7 : ρ (.tmp 7) = .slice (some ⟨g, off, none⟩) 6 cap := hρ.tmp 7 (by decide +kernel)
              refine y_val (v := .slice (some ⟨g, off, none⟩) 6 cap) ?_ rfl
              simp [execOp, go_sem, e7]
            · intro ρ wx hρ hbx hl
              have e73 : ρ (.tmp 73) = .slice (some ⟨g, off, none⟩) 6 cap := hl 12 (by decide +kernel) 73 rfl
              refine y_val (v := .pointer (some ⟨g, off + 1, none⟩)) ?_ rfl
              simp [execOp, hρ.const, go_sem, e73]
            · intro ρ wx hρ hbx hl
              have e74 : ρ (.tmp 74) = .pointer (some ⟨g, off + 1, none⟩) := hl 13 (by decide +kernel) 74 rfl
              have kk := (hbx.cell (hg)).trans k1
              refine y_val (v := .string p1) ?_ rfl
              simp [execOp, go_sem, e74, kk]
            · intro ρ wx hρ hbx hl
              have e7 : ρ (.tmp 7) = .slice (some ⟨g, off, none⟩) 6 cap := hρ.tmp 7 (by decide +kernel)
              refine y_val (v := .slice (some ⟨g, off, none⟩) 6 cap) ?_ rfl
              simp [execOp, go_sem, e7]
            · intro ρ wx hρ hbx hl
              have e76 : ρ (.tmp 76) = .slice (some ⟨g, off, none⟩) 6 cap := hl 15 (by decide +kernel) 76 rfl
              refine y_val (v := .pointer (some ⟨g, off + 2, none⟩)) ?_ rfl
              simp [execOp, hρ.const, go_sem, e76]
            · intro ρ wx hρ hbx hl
              have e77 : ρ (.tmp 77) = .pointer (some ⟨g, off + 2, none⟩) := hl 16 (by decide +kernel) 77 rfl
              have kk := (hbx.cell (hg)).trans k2
              refine y_val (v := .string p2) ?_ rfl
              simp [execOp, go_sem, e77, kk]
            · intro ρ wx hρ hbx hl
              have e63 : ρ (.tmp 63) = .string p3 := hl 2 (by decide +kernel) 63 rfl
              have e66 : ρ (.tmp 66) = .string p4 := hl 5 (by decide +kernel) 66 rfl
              have e69 : ρ (.tmp 69) = .string p5 := hl 8 (by decide +kernel) 69 rfl
              have e72 : ρ (.tmp 72) = .string p0 := hl 11 (by decide +kernel) 72 rfl
              have e75 : ρ (.tmp 75) = .string p1 := hl 14 (by decide +kernel) 75 rfl
              have e78 : ρ (.tmp 78) = .string p2 := hl 17 (by decide +kernel) 78 rfl
              refine y_new' (v := .slice (some ⟨wx.heap.size, 0, none⟩) 6 6) (w' := wx.alloc (.cells #[.string p3, .string p4, .string p5, .string p0, .string p1, .string p2] 9)) ?_ ⟨_, rfl, reads_block (n := 6) (heap_alloc_new wx _) rfl (by decide)⟩ ((Below.refl _ _).alloc (Nat.le_refl _) _)
              simp [execOp, go_sem, e63, e66, e69, e72, e75, e78]
            · intro ρ wx hρ hbx hl
              have e79 := hl 18 (by decide +kernel) 79 rfl
              obtain ⟨g79, h79, r79⟩ := e79
              refine y_call (f := 31) (args := #[.slice (some ⟨g79, 0, none⟩) 6 6]) (by simp [execOp, resolve, invoke, hρ.func, go_sem, h79]) ?_
              refine (HOf.out wx g79 r79).mono ?_
              rintro e w6 ⟨rfl, b6⟩
              exact ⟨_, rfl, rfl, b6⟩
            · intro ρ wx hρ hbx hl
              refine y_new' (v := .pointer (some ⟨wx.heap.size, 0, none⟩)) (w' := wx.alloc (.cells emptyC 27)) ?_ ⟨_, rfl, hbx.size, heap_alloc_new wx _⟩ ((Below.refl _ _).alloc (Nat.le_refl _) _)
              simp [execOp, go_sem]
              rfl
            intro aa w2 hdef hsz hlk hbz hf
            have ha := act_of_like hdef hsz hlk [61, 62, 63, 64, 65, 66, 67, 68, 69, 70, 71, 72, 73, 74, 75, 76, 77, 78, 79, 80, 10] 86 rfl (by decide +kernel)
            have e61 : aa.tmps.getD 61 undef = .slice (some ⟨g, off, none⟩) 6 cap := hf 0 _ 61 rfl rfl
            have e62 : aa.tmps.getD 62 undef = .pointer (some ⟨g, off + 3, none⟩) := hf 1 _ 62 rfl rfl
            have e63 : aa.tmps.getD 63 undef = .string p3 := hf 2 _ 63 rfl rfl
            have e64 : aa.tmps.getD 64 undef = .slice (some ⟨g, off, none⟩) 6 cap := hf 3 _ 64 rfl rfl
            have e65 : aa.tmps.getD 65 undef = .pointer (some ⟨g, off + 4, none⟩) := hf 4 _ 65 rfl rfl
            have e66 : aa.tmps.getD 66 undef = .string p4 := hf 5 _ 66 rfl rfl
            have e67 : aa.tmps.getD 67 undef = .slice (some ⟨g, off, none⟩) 6 cap := hf 6 _ 67 rfl rfl
            have e68 : aa.tmps.getD 68 undef = .pointer (some ⟨g, off + 5, none⟩) := hf 7 _ 68 rfl rfl
            have e69 : aa.tmps.getD 69 undef = .string p5 := hf 8 _ 69 rfl rfl
            have e70 : aa.tmps.getD 70 undef = .slice (some ⟨g, off, none⟩) 6 cap := hf 9 _ 70 rfl rfl
            have e71 : aa.tmps.getD 71 undef = .pointer (some ⟨g, off, none⟩) := hf 10 _ 71 rfl rfl
            have e72 : aa.tmps.getD 72 undef = .string p0 := hf 11 _ 72 rfl rfl
            have e73 : aa.tmps.getD 73 undef = .slice (some ⟨g, off, none⟩) 6 cap := hf 12 _ 73 rfl rfl
            have e74 : aa.tmps.getD 74 undef = .pointer (some ⟨g, off + 1, none⟩) := hf 13 _ 74 rfl rfl
            have e75 : aa.tmps.getD 75 undef = .string p1 := hf 14 _ 75 rfl rfl
            have e76 : aa.tmps.getD 76 undef = .slice (some ⟨g, off, none⟩) 6 cap := hf 15 _ 76 rfl rfl
            have e77 : aa.tmps.getD 77 undef = .pointer (some ⟨g, off + 2, none⟩) := hf 16 _ 77 rfl rfl
            have e78 : aa.tmps.getD 78 undef = .string p2 := hf 17 _ 78 rfl rfl
            have e79 : (rowF 6 [.string p3, .string p4, .string p5, .string p0, .string p1, .string p2]).1 (aa.tmps.getD 79 undef) w2 := hf 18 _ 79 rfl rfl
            obtain ⟨g79, h79, _⟩ := e79
            have e80 : aa.tmps.getD 80 undef = .agg #[.string p3, .string p4, .string p5, .string p0, .string p1, .string p2] := hf 19 _ 80 rfl rfl
            have e10 : (boxF wr.heap.size emptyC 27).1 (aa.tmps.getD 10 undef) w2 := hf 20 _ 10 rfl rfl
            obtain ⟨g10, h10, hb10, hx10⟩ := e10
            simp only [putAll, List.foldl_cons, List.foldl_nil, e61, e62, e63, e64, e65, e66, e67, e68, e69, e70, e71, e72, e73, e74, e75, e76, e77, e78, h79, e80, h10] at ha
            simp [Act.put] at ha
            subst ha
            clear hdef hsz hlk hf e61 e62 e63 e64 e65 e66 e67 e68 e69 e70 e71 e72 e73 e74 e75 e76 e77 e78 h79 e80 h10
            have hx2 := below_block hbz HX.out (Array.getElem?_eq_some_iff.1 HX.out).1
            have HX2 := Lib.hid hx2
            have HB2 := Lib.hid (HB.out.trans (hbz.mono HB.out.size))
            clear hx2 k0 k1 k2 k3 k4 k5 c0 c1 c2 c3 c4 c5 f0 HOf hbz
            have q0 := Lib.cell_of_heap hx10 0
            have q1 := Lib.cell_of_heap hx10 1
            have q2 := Lib.cell_of_heap hx10 2
            have q3 := Lib.cell_of_heap hx10 3
            have q4 := Lib.cell_of_heap hx10 4
            have q5 := Lib.cell_of_heap hx10 5
            have qf := Lib.frozen_of_heap hx10
            simp [emptyC] at q0 q1 q2 q3 q4 q5
            unfold Oper.wp
            simp [execOp, go_sem, q0, q1, q2, q3, q4, q5, qf]
            have hsz0 : w.heap.size < wr.heap.size := (Array.getElem?_eq_some_iff.1 HX.out).1
            have hst10 := six_stored hx10 (.string p3) (.string p4) (.string p5) (.string p0) (.string p1) (.string p2)
            have hot := six_other (g := g10) HX2.out (by omega) (.string p3) (.string p4) (.string p5) (.string p0) (.string p1) (.string p2)
            have hbst := six_store (g := g10) (by omega) (.string p3) (.string p4) (.string p5) (.string p0) (.string p1) (.string p2) HB2.out
            clear q0 q1 q2 q3 q4 q5 qf hx10 HX2 HB2
            generalize ((((((w2.setCell ⟨g10, 0, none⟩ (.string p3)).setCell ⟨g10, 1, none⟩ (.string p4)).setCell ⟨g10, 2, none⟩ (.string p5)).setCell ⟨g10, 3, none⟩ (.string p0)).setCell ⟨g10, 4, none⟩ (.string p1)).setCell ⟨g10, 5, none⟩ (.string p2)) = w3 at *
            have hg3 : g10 < w3.heap.size := (Array.getElem?_eq_some_iff.1 hst10).1
            have q0 := Lib.cell_of_heap hst10 0
            have q1 := Lib.cell_of_heap hst10 1
            have q2 := Lib.cell_of_heap hst10 2
            have q3 := Lib.cell_of_heap hst10 3
            have q4 := Lib.cell_of_heap hst10 4
            have q5 := Lib.cell_of_heap hst10 5
            simp at q0 q1 q2 q3 q4 q5
            have HX2 := Lib.hid hot
            have HB2 := Lib.hid hbst
            have HY2 := Lib.hid hst10
            clear hot hbst hst10
            go_wp2_with (go_at_call 10; go_must (refine (HCh.out _).mono ?_))
            rintro e w6 ⟨rfl, b6⟩
            have hy6 := below_block b6 HY2.out (Array.getElem?_eq_some_iff.1 HY2.out).1
            have hx6 := below_block b6 HX2.out (Array.getElem?_eq_some_iff.1 HX2.out).1
            have hb6 : Below w.heap.size w w6 := HB2.out.trans (b6.mono HB2.out.size)
            clear q0 q1 q2 q3 q4 q5
            have d0 := Lib.cell_of_heap hy6 0
            have d1 := Lib.cell_of_heap hy6 1
            have d2 := Lib.cell_of_heap hy6 2
            have d3 := Lib.cell_of_heap hy6 3
            have d4 := Lib.cell_of_heap hy6 4
            have d5 := Lib.cell_of_heap hy6 5
            have c0 := Lib.cell_of_heap hx6 0
            have c1 := Lib.cell_of_heap hx6 1
            have c2 := Lib.cell_of_heap hx6 2
            have c3 := Lib.cell_of_heap hx6 3
            have c4 := Lib.cell_of_heap hx6 4
            have c5 := Lib.cell_of_heap hx6 5
            have f0 := Lib.frozen_of_heap hx6
            simp [emptyC] at c0 c1 c2 c3 c4 c5 d0 d1 d2 d3 d4 d5
            have HX3 := Lib.hid hx6
            have HB3 := Lib.hid hb6
            clear b6 hy6 hx6 hb6 HX2 HB2 HY2 HCh
            unfold checkV
            cases ok with
            | false =>
              have hV := HV3.out
              rw [if_neg (by decide)] at hV
              have HV4 := Lib.hid hV
              clear hV HV3
              go_wp2
              have hst := six_stored HX3.out (.string ⟨#[]⟩) (.string ⟨#[]⟩) (.string ⟨#[]⟩) (.string ⟨#[]⟩) (.string ⟨#[]⟩) (.string ⟨#[]⟩)
              refine bodyPost_ret (ret_six rfl rfl hst) rfl ⟨?_, six_store (Nat.le_refl _) _ _ _ _ _ _ HB3.out⟩
              rw [HV4.out]
              rfl
            | true =>
              have hV := HV3.out
              rw [if_pos rfl] at hV
              have HV4 := Lib.hid hV
              clear hV HV3
              go_wp2
              have hst := six_stored HX3.out (.string p3) (.string p4) (.string p5) (.string p0) (.string p1) (.string p2)
              refine bodyPost_ret (ret_six rfl rfl hst) rfl ⟨?_, six_store (Nat.le_refl _) _ _ _ _ _ _ HB3.out⟩
              rw [HV4.out]
              rfl
          · have hz8 := not_empty hz
            have hV : tupV key = noneV := by rw [hv, if_neg (fun h => by rw [← hz7, decide_eq_false hz] at h; simp at h)]
            have HV := Lib.hid hV
            clear hv hbk hV hrd hz7 hc114 hcheck hz
            go_wp2
            have hst := six_stored HX.out (.string ⟨#[]⟩) (.string ⟨#[]⟩) (.string ⟨#[]⟩) (.string ⟨#[]⟩) (.string ⟨#[]⟩) (.string ⟨#[]⟩)
            refine bodyPost_ret (ret_six rfl rfl hst) rfl ⟨?_, six_store (Nat.le_refl _) _ _ _ _ _ _ HB.out⟩
            rw [HV.out]
            rfl
        · have hV : tupV key = noneV := by rw [hv, if_neg (fun h => by rw [decide_eq_false h6] at h; simp at h)]
          have hcn : ((c.toNat : Int) != 114) = false := by rw [hcz, hc114]; rfl
          have hne : ((ps.length : Int) != 6) = true := by
            rw [hlen]
            simpa using fun e => h6 (by omega)
          have HV := Lib.hid hV
          clear hv hbk hcz hV hfr hrd hall hz6 hx3 hlen hc114
          go_wp2
          have hst := six_stored HX.out (.string ⟨#[]⟩) (.string ⟨#[]⟩) (.string ⟨#[]⟩) (.string ⟨#[]⟩) (.string ⟨#[]⟩) (.string ⟨#[]⟩)
          refine bodyPost_ret (ret_six rfl rfl hst) rfl ⟨?_, six_store (Nat.le_refl _) _ _ _ _ _ _ HB.out⟩
          rw [HV.out]
          rfl
      · have hV : tupV key = noneV := by rw [hv, if_neg (fun h => hc114 h.1)]
        have hcn : ((c.toNat : Int) != 114) = true := by rw [hcz]; simpa using hc114
        have HV := Lib.hid hV
        clear hv hbk hcz hV hfr hrd hall hz6 hx3 hlen hc114
        go_wp2
        have hst := six_stored HX.out (.string ⟨#[]⟩) (.string ⟨#[]⟩) (.string ⟨#[]⟩) (.string ⟨#[]⟩) (.string ⟨#[]⟩) (.string ⟨#[]⟩)
        refine bodyPost_ret (ret_six rfl rfl hst) rfl ⟨?_, six_store (Nat.le_refl _) _ _ _ _ _ _ HB.out⟩
        rw [HV.out]
        rfl

theorem reftuple_any (w : World) (key : ByteArray) (hs : key.size ≤ 1000000) : Calls Tryd.prog 13 #[.string key] w (GivesVal w (tupV key)) := by
  cases h : startsB key 102 with
  | true => exact reftuple_fwd w key h hs
  | false =>
    by_cases hp : 0 < key.size
    · exact reftuple_back w key h hp hs
    · rw [tup_empty (by omega)]
      exact reftuple_none w key (isEmpty_of (by omega))

theorem tup_form (key : ByteArray) : ∃ (t : Six) (b : Bool) (n : Int), tupV key = .tuple #[t.val, .bool b, .int .i64 n] := by
  unfold tupV noneV
  split
  · split
    · exact ⟨_, _, _, rfl⟩
    · exact ⟨_, _, _, rfl⟩
  · split
    · exact ⟨_, _, _, rfl⟩
    · exact ⟨_, _, _, rfl⟩
end Go.Proofs.YtkcaadkamaogbaaDoor
