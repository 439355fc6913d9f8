/- The reference's Right: all numbers of an edit. -/
import Derived.Test.YthjimldojdhccaaZEditFew
namespace Go.Proofs.Ythjimldojdhccaa
open Go Go.RowKit Go.Lib

def numsOf (l : List Tb) : List Int := l.flatMap fun t => [t.num, t.lev, t.size]
def allNums (e : Ed) : List Int := [e.log, e.next] ++ e.drop ++ numsOf e.add

theorem all_right (e : Ed) : (allNums e).all inB = right e := by
  have h : ∀ l : List Tb, (numsOf l).all inB = l.all inT := by
    intro l
    induction l with
    | nil => rfl
    | cons a r ih =>
      unfold numsOf at *
      rw [List.flatMap_cons, List.all_append, ih, List.all_cons]
      simp [inT, Bool.and_assoc]
  unfold allNums right
  rw [List.all_append, List.all_append, h]
  simp [Bool.and_assoc]

theorem nums_snoc' {l : List Tb} {k : Nat} {t : Tb} (h : l[k]? = some t) : numsOf (l.take (k + 1)) = numsOf (l.take k) ++ [t.num, t.lev, t.size] := by
  unfold numsOf
  rw [List.take_add_one, h]
  simp

theorem nums_length (l : List Tb) : (numsOf l).length = 3 * l.length := by
  induction l with
  | nil => rfl
  | cons a r ih =>
    unfold numsOf at *
    rw [List.flatMap_cons, List.length_append, ih, List.length_cons]
    simp
    omega

theorem infoI' : (Try.prog.info? 3).map (fun i => (i.zero, i.size, i.bytes)) = some (some (.int .i64 0), 1, 8) := by kernel_rfl

/-- Numbers of one's own are told. -/
def GivesNums (w : World) (l : List Int) (e : Ending) (w' : World) : Prop := ∃ v, e = .returned v ∧ w'.ownsRow w.heap.size 3 1 v l.length (ncells l) ∧ Below w.heap.size w w'

def NumRel (w W1 : World) (l0 : List Int) (add : List Tb) (lv iv : Value) (wr : World) : Prop :=
  ∃ k : Nat, iv = .int .i64 (k : Int) ∧ k ≤ add.length ∧ wr.ownsRow (w.heap.size + 1) 3 1 lv (l0 ++ numsOf (add.take k)).length (ncells (l0 ++ numsOf (add.take k))) ∧ Below (w.heap.size + 1) W1 wr

theorem ncells_append (a b : List Int) : ncells (a ++ b) = ncells a ++ ncells b := List.map_append ..
theorem ncells_one' (l : List Int) : ∀ u ∈ ncells l, u.oneCell' = true := by
  intro u hu
  obtain ⟨t, _, rfl⟩ := List.mem_map.1 hu
  rfl

set_option maxRecDepth 100000 in
set_option maxHeartbeats 2000000 in
theorem numbers_any (w : World) (e : Ed) (a1 a2 : Option Addr) (n1 c1 n2 c2 : Nat) (h1 : TRows w (.slice a1 n1 c1) e.add) (h2 : Reads w 1 (.slice a2 n2 c2) n2 (ncells e.drop)) (hl1 : n1 ≤ 1000) (hl2 : n2 ≤ 1000) :
    Calls Try.prog 22 #[ev e a1 a2 n1 c1 n2 c2] w (GivesNums w (allNums e)) := by
  obtain ⟨i0, hi, hz0, hz1, hz2⟩ := info_parts infoI'
  have hall : allNums e = [e.log, e.next] ++ e.drop ++ numsOf e.add := rfl
  obtain ⟨add, drop, ef, eh, el, en⟩ := e
  simp only [ev] at *
  obtain ⟨la1, la2, la3⟩ := h1.len
  obtain ⟨ld1, ld2, ld3⟩ := num_len h2
  have HA := Lib.hid h1
  have HD := Lib.hid h2
  have LA := Lib.hid la1
  have LD := Lib.hid ld1
  have HAll := Lib.hid hall
  clear h1 h2 la1 ld1 hall
  have hx0 := heap_alloc_new w (.cells #[.slice a1 n1 c1, .slice a2 n2 c2, .int .u64 (ef : Int), .int .u64 (eh : Int), .int .i64 el, .int .i64 en] 26)
  have hb0 : Below w.heap.size w (w.alloc (.cells #[.slice a1 n1 c1, .slice a2 n2 c2, .int .u64 (ef : Int), .int .u64 (eh : Int), .int .i64 el, .int .i64 en] 26)) := (Below.refl _ w).alloc (Nat.le_refl _) _
  have hs0 : (w.alloc (.cells #[.slice a1 n1 c1, .slice a2 n2 c2, .int .u64 (ef : Int), .int .u64 (eh : Int), .int .i64 el, .int .i64 en] 26)).heap.size = w.heap.size + 1 := by simp
  have HX0 := Lib.hid hx0
  have HB0 := Lib.hid hb0
  have HS0 := Lib.hid hs0
  have hown : ((w.alloc (.cells #[.slice a1 n1 c1, .slice a2 n2 c2, .int .u64 (ef : Int), .int .u64 (eh : Int), .int .i64 el, .int .i64 en] 26)).alloc (.cells #[.int .i64 el, .int .i64 en] 3)).ownsRow (w.heap.size + 1) 3 1 (.slice (some ⟨w.heap.size + 1, 0, none⟩) 2 2) 2 (ncells [el, en]) := by
    refine ⟨rfl, .inr ⟨w.heap.size + 1, 2, #[.int .i64 el, .int .i64 en], rfl, Nat.le_refl _, ?_, Nat.le_refl _, by decide, rfl, rfl⟩⟩
    have := heap_alloc_new (w.alloc (.cells #[.slice a1 n1 c1, .slice a2 n2 c2, .int .u64 (ef : Int), .int .u64 (eh : Int), .int .i64 el, .int .i64 en] 26)) (.cells #[.int .i64 el, .int .i64 en] 3)
    rw [hs0] at this
    exact this
  have hsrc := Reads.src (P := Try.prog) Try.underlying23 (((HD.out.below' hb0).below' ((Below.refl _ _).alloc (Nat.le_refl _) (.cells #[.int .i64 el, .int .i64 en] 3)))) (ncells_one' drop)
  have HOw := Lib.hid hown
  have HSr := Lib.hid hsrc
  clear hx0 hb0 hs0 hown hsrc
  go_enter Try.func22, Try.ntmps22
  go_wp2_with (at_builtin; go_must (refine wpList_append_owns rfl _ _ 23 23 rfl (w.heap.size + 1) 3 i0 _ 1 8 Try.underlying23 hi hz0 hz1 hz2 rfl _ 2 _ rfl HOw.out _ n2 _ rfl HSr.out (by unfold maxLen; omega) (by omega) (by simp) ?_))
  intro v1 w1 o1 g1 b1 _
  rw [← ncells_append, show 2 + n2 = ([el, en] ++ drop).length by rw [List.length_append, LD.out]; rfl] at o1
  have hb1 : Below (w.heap.size + 1) (w.alloc (.cells #[.slice a1 n1 c1, .slice a2 n2 c2, .int .u64 (ef : Int), .int .u64 (eh : Int), .int .i64 el, .int .i64 en] 26)) w1 := ((Below.refl _ _).alloc (by simp) _).trans b1
  generalize w.alloc (.cells #[.slice a1 n1 c1, .slice a2 n2 c2, .int .u64 (ef : Int), .int .u64 (eh : Int), .int .i64 el, .int .i64 en] 26) = W1 at *
  have hx1 := (hb1.block w.heap.size (by omega)).trans HX0.out
  have hs1 := hb1.size
  rw [HS0.out] at hs1
  have e0 := Lib.cell_of_heap hx1 0
  simp at e0
  have l0 : w.heap.size < w1.heap.size := by omega
  have HO1 := Lib.hid o1
  have HB1 := Lib.hid hb1
  clear o1 g1 b1 hb1 hx1 HOw HSr
  go_wp2
  clear e0
  go_loopw [3, 17] (fun lv iv wr => NumRel w W1 ([el, en] ++ drop) add lv iv wr) (fun _ iv _ => n1 - (intOf iv).toNat)
  case atStart => exact ⟨0, rfl, Nat.zero_le _, by rw [show numsOf (add.take 0) = [] from rfl, List.append_nil]; exact HO1.out, HB1.out⟩
  case round =>
    obtain ⟨k, rfl, hk, ho, hb⟩ := hrel
    rw [LA.out] at hk
    have HO := Lib.hid ho
    have HB := Lib.hid hb
    have hbs := hb.size
    rw [HS0.out] at hbs
    have hbw : Below w.heap.size w wr := HB0.out.trans (hb.mono (by omega))
    have hlen : ([el, en] ++ drop ++ numsOf (add.take k)).length ≤ 10000 := by
      rw [List.length_append, List.length_append, nums_length, List.length_take, LA.out, LD.out]
      simp
      omega
    clear ho
    by_cases hlt : k < n1
    · have hkI : (k : Int) < n1 := by omega
      obtain ⟨x, hx⟩ : ∃ x, add[k]? = some x := ⟨add[k]'(by rw [LA.out]; exact hlt), List.getElem?_eq_getElem _⟩
      obtain ⟨g, off, rfl, hg, k0, k1, k2, k3, k4⟩ := (TRows.below HA.out hbw).row hx
      have hsn := nums_snoc' hx
      have HSn := Lib.hid hsn
      obtain ⟨xn, xl, xz, xf, xt⟩ := x
      simp only at k0 k1 k2 k3 k4
      obtain ⟨L, hL⟩ : ∃ L, [el, en] ++ drop ++ numsOf (add.take k) = L := ⟨_, rfl⟩
      rw [hL] at HO hlen
      have HL := Lib.hid hL
      clear hL
      have hon := HO.out.alloc (.cells #[.int .i64 xn, .int .i64 xl, .int .i64 xz, .string xf, .string xt] 45)
      have hN : (wr.alloc (.cells #[.int .i64 xn, .int .i64 xl, .int .i64 xz, .string xf, .string xt] 45)).heap.size = wr.heap.size + 1 := by simp
      have HOn := Lib.hid hon
      have HN := Lib.hid hN
      clear hx hsn hon hN hb hbw
      go_wp2_with (at_builtin; go_must (refine wpList_append_rows_at (w0 := wr.alloc (.cells #[.int .i64 xn, .int .i64 xl, .int .i64 xz, .string xf, .string xt] 45)) rfl _ _ 23 rfl (w.heap.size + 1) 3 i0 _ 1 8 Try.underlying23 hi hz0 hz1 hz2 rfl (ncells [xn, xl, xz]) 3 rfl HN.out HOn.out rfl rfl (ncells_one' _) (by unfold maxLen; omega) (by omega) (by rw [HN.out]; omega) ?_))
      intro v6 w6 o6 g6 b6 _
      rw [← ncells_append] at o6
      have HO6 := Lib.hid o6
      have HB6 := Lib.hid (HB.out.trans ((((Below.refl _ wr).alloc (Nat.le_refl _) (.cells #[.int .i64 xn, .int .i64 xl, .int .i64 xz, .string xf, .string xt] 45)).mono (by omega)).trans b6))
      clear o6 g6 b6
      go_wp2
      have hfin : [el, en] ++ drop ++ numsOf (add.take (k + 1)) = L ++ [xn, xl, xz] := by rw [HSn.out, ← HL.out]; simp [List.append_assoc]
      refine ⟨⟨k + 1, by go_num, by rw [LA.out]; omega, ?_, HB6.out⟩, by simp [intOf]; omega⟩
      rw [hfin, List.length_append]
      exact HO6.out
    · obtain rfl : k = n1 := by omega
      rw [List.take_of_length_le (by rw [LA.out]; exact Nat.le_refl _)] at HO
      have HBw := Lib.hid hbw
      clear hb hbw
      go_wp2
      go_ret
      refine ⟨u3, rfl, ?_, HBw.out⟩
      rw [HAll.out]
      have := HO.out
      exact ⟨this.1, this.2.imp_right fun ⟨g, cap, cur, q1, q2, q3⟩ => ⟨g, cap, cur, q1, Nat.le_of_succ_le q2, q3⟩⟩

def RightRel (w0 : World) (l : List Int) (iv : Value) (wr : World) : Prop :=
  ∃ k : Nat, iv = .int .i64 (k : Int) ∧ k ≤ l.length ∧ (l.take k).all inB = true ∧ Below w0.heap.size w0 wr

set_option maxRecDepth 100000 in
set_option maxHeartbeats 2000000 in
theorem right_any (w : World) (e : Ed) (a1 a2 : Option Addr) (n1 c1 n2 c2 : Nat) (h1 : TRows w (.slice a1 n1 c1) e.add) (h2 : Reads w 1 (.slice a2 n2 c2) n2 (ncells e.drop)) (hl1 : n1 ≤ 1000) (hl2 : n2 ≤ 1000) :
    Calls Try.prog 9 #[ev e a1 a2 n1 c1 n2 c2] w (GivesBool w (right e)) := by
  have hnm := fun W (hb : Below w.heap.size w W) => numbers_any W e a1 a2 n1 c1 n2 c2 (h1.below hb) (h2.below' hb) hl1 hl2
  have hrt := all_right e
  have hlen : (allNums e).length ≤ 5000 := by
    have h3 := h1.len.1
    have h4 := (num_len h2).1
    unfold allNums
    rw [List.length_append, List.length_append, nums_length, h3, h4]
    simp
    omega
  generalize allNums e = L at *
  have HRt := Lib.hid hrt
  obtain ⟨add, drop, ef, eh, el, en⟩ := e
  simp only [ev] at *
  have HNm := Lib.hid hnm
  clear h1 h2 hnm hrt
  go_enter Try.func9, Try.ntmps9
  go_wp2_with (go_at_call 22; go_must (refine (HNm.out _ ((Below.refl _ w).alloc (Nat.le_refl _) _)).mono ?_))
  rintro e w1 ⟨v, rfl, o1, b1⟩
  obtain ⟨a, c, rfl, hc1, hc2⟩ := (ownsRow.reads o1).le
  unfold maxLen at hc2
  have HR := Lib.hid (ownsRow.reads o1)
  have HB := Lib.hid (((Below.refl _ w).alloc (Nat.le_refl _) (.cells #[.slice a1 n1 c1, .slice a2 n2 c2, .int .u64 (ef : Int), .int .u64 (eh : Int), .int .i64 el, .int .i64 en] 26)).trans (b1.mono (by simp)))
  clear o1 b1
  obtain ⟨n, hn⟩ : ∃ n, L.length = n := ⟨_, rfl⟩
  have HN := Lib.hid hn
  rw [hn] at hc1 HR hlen
  simp only [hn]
  clear hn
  go_wp2
  go_loopw [8] (fun iv wr => RightRel w1 L iv wr) (fun iv _ => n - (intOf iv).toNat)
  case atStart => exact ⟨0, rfl, Nat.zero_le _, rfl, Below.refl _ _⟩
  case round =>
    obtain ⟨k, rfl, hk, hal, hb⟩ := hrel
    rw [HN.out] at hk
    have HAl := Lib.hid hal
    have HBw := Lib.hid (HB.out.trans (hb.mono HB.out.size))
    have HBr := Lib.hid hb
    clear hal
    by_cases hlt : k < n
    · have hkI : (k : Int) < n := by omega
      obtain ⟨x, hx⟩ : ∃ x, L[k]? = some x := ⟨L[k]'(by rw [HN.out]; exact hlt), List.getElem?_eq_getElem _⟩
      obtain ⟨g, off, rfl, hg, c0⟩ := num_cell (HR.out.below' hb) hx
      have hsn := all_snoc' (p := inB) hx
      have hmem := List.mem_of_getElem? hx
      have HSn := Lib.hid hsn
      have HMem := Lib.hid hmem
      clear hx hb hsn hmem
      by_cases h1 : x < 0
      · have hbad : inB x = false := by simp [inB]; omega
        have HE := Lib.hid (HRt.out.symm.trans (List.all_eq_false.2 ⟨x, HMem.out, by simp [hbad]⟩))
        clear hbad
        go_wp2
        go_ret
        exact ⟨by rw [HE.out]; rfl, HBw.out⟩
      · by_cases h2 : x < 4611686018427387904
        · have h3 : ¬ (4611686018427387904 : Int) ≤ x := by omega
          have hgood : inB x = true := by simp [inB]; omega
          have HG := Lib.hid hgood
          clear hgood
          go_wp2
          exact ⟨⟨k + 1, by go_num, by rw [HN.out]; omega, by rw [HSn.out, HAl.out, HG.out]; rfl, HBr.out⟩, by simp [intOf]; omega⟩
        · have h3 : (4611686018427387904 : Int) ≤ x := by omega
          have hbad : inB x = false := by simp [inB]; omega
          have HE := Lib.hid (HRt.out.symm.trans (List.all_eq_false.2 ⟨x, HMem.out, by simp [hbad]⟩))
          clear hbad
          go_wp2
          go_ret
          exact ⟨by rw [HE.out]; rfl, HBw.out⟩
    · obtain rfl : k = n := by omega
      rw [List.take_of_length_le (by rw [HN.out]; exact Nat.le_refl _)] at HAl
      have HE := Lib.hid (HRt.out.symm.trans HAl.out)
      clear hb
      go_wp2
      go_ret
      exact ⟨by rw [HE.out]; rfl, HBw.out⟩
end Go.Proofs.Ythjimldojdhccaa
