import Derived.Test.YtkcaadkamaogbaaDoorIndexCut
import Derived.Test.YtkcaadkamaogbaaDoorIndexParts
import Derived.Test.YtkcaadkamaogbaaDoorTupleUnkey
namespace Go.Proofs.YtkcaadkamaogbaaDoor
open Go Go.RowKit

def isBack (s : ByteArray) : Bool := decide (Lib.countB s zB = 6) && decide (zrest s 6 = ⟨#[]⟩) && (Six.unk s).turned.ok

def noneV : Value := .tuple #[Six.none.val, .bool false, .int .i64 9]

/-- What a key tells. -/
def tupV (key : ByteArray) : Value :=
  if startsB key 102 = true then
    if isKey (restB key) = true then .tuple #[(Six.unk (restB key)).val, .bool true, .int .i64 0] else noneV
  else if startsB key 114 = true ∧ isBack (restB key) = true then .tuple #[(Six.unk (restB key)).turned.val, .bool false, .int .i64 0] else noneV

theorem restB_size (s : ByteArray) : (restB s).size ≤ s.size := by
  unfold restB
  rw [ByteArray.size_extract]
  omega

theorem six_store {w w3 : World} {g : Nat} (hg : w.heap.size ≤ g) (v0 v1 v2 v3 v4 v5 : Value) (h : Below w.heap.size w w3) : Below w.heap.size w ((((((w3.setCell ⟨g, 0, none⟩ v0).setCell ⟨g, 1, none⟩ v1).setCell ⟨g, 2, none⟩ v2).setCell ⟨g, 3, none⟩ v3).setCell ⟨g, 4, none⟩ v4).setCell ⟨g, 5, none⟩ v5) :=
  (((((h.setCell (p := ⟨g, 0, none⟩) hg _).setCell (p := ⟨g, 1, none⟩) hg _).setCell (p := ⟨g, 2, none⟩) hg _).setCell (p := ⟨g, 3, none⟩) hg _).setCell (p := ⟨g, 4, none⟩) hg _).setCell (p := ⟨g, 5, none⟩) hg _

def emptyC : Array Value := #[.string ⟨#[]⟩, .string ⟨#[]⟩, .string ⟨#[]⟩, .string ⟨#[]⟩, .string ⟨#[]⟩, .string ⟨#[]⟩]

theorem six_stored {w : World} {g : Nat} (h : w.heap[g]? = some (.cells emptyC 27 (0, 0))) (v0 v1 v2 v3 v4 v5 : Value) :
    ((((((w.setCell ⟨g, 0, none⟩ v0).setCell ⟨g, 1, none⟩ v1).setCell ⟨g, 2, none⟩ v2).setCell ⟨g, 3, none⟩ v3).setCell ⟨g, 4, none⟩ v4).setCell ⟨g, 5, none⟩ v5).heap[g]? = some (.cells #[v0, v1, v2, v3, v4, v5] 27 (0, 0)) := by
  rw [heap_setCell_same _ _ 5 _ _ _ (heap_setCell_same _ _ 4 _ _ _ (heap_setCell_same _ _ 3 _ _ _ (heap_setCell_same _ _ 2 _ _ _ (heap_setCell_same _ _ 1 _ _ _ (heap_setCell_same _ _ 0 _ _ _ h)))))]
  rfl

theorem ret_six {w' : World} {g : Nat} {s0 s1 s2 s3 s4 s5 : ByteArray} {fn : Func} {p q r : Tmp} {tmps : Array Value} (hf : fn.results = #[.cell p 27, .tmp q, .tmp r]) (hp : tmps.getD p undef = .pointer (some ⟨g, 0, none⟩))
    (ht : w'.heap[g]? = some (.cells #[.string s0, .string s1, .string s2, .string s3, .string s4, .string s5] 27 (0, 0))) :
    (results fn tmps).run Tryd.prog w' = .ok (.tuple #[.agg #[.string s0, .string s1, .string s2, .string s3, .string s4, .string s5], tmps.getD q undef, tmps.getD r undef]) w' := by
  have hp' : tmps[p]?.getD undef = .pointer (some ⟨g, 0, none⟩) := by simpa using hp
  have hl := run_loadVar_row (P := Tryd.prog) w' g _ 27 _ _ _ ht Tryd.underlying27 rfl (by kernel_rfl)
  simp [results, hf, hp', asAddr, hl]

set_option maxRecDepth 100000 in
set_option maxHeartbeats 1000000 in
theorem ituple_fwd (w : World) (key : ByteArray) (hf : startsB key 102 = true) (hs : key.size ≤ 1000000) (hm : MaxInt w) :
    Calls Tryd.prog 12 #[.string key] w (GivesVal w (tupV key)) := by
  have hcp := fun w => cutp_any w key 102
  rw [hf] at hcp
  simp only [if_true] at hcp
  have hv : tupV key = if isKey (restB key) = true then .tuple #[(Six.unk (restB key)).val, .bool true, .int .i64 0] else noneV := by
    unfold tupV
    rw [if_pos hf]
  have hrs := restB_size key
  have hun := fun w (h : MaxInt w) => unkey_any w (restB key) (by omega) h
  have hval : (Six.unk (restB key)).val = .agg #[.string (zpart (restB key) 0), .string (zpart (restB key) 1), .string (zpart (restB key) 2), .string (zpart (restB key) 3), .string (zpart (restB key) 4), .string (zpart (restB key) 5)] := rfl
  unfold unkeyV at hun
  rw [hval] at hv hun
  generalize restB key = r at *
  generalize zpart r 0 = p0 at *
  generalize zpart r 1 = p1 at *
  generalize zpart r 2 = p2 at *
  generalize zpart r 3 = p3 at *
  generalize zpart r 4 = p4 at *
  generalize zpart r 5 = p5 at *
  cases hk : isKey r with
  | true =>
    rw [hk] at hv hun
    simp only [if_true] at hv hun
    have HV := Lib.hid hv
    have HU := Lib.hid hun
    have HC := Lib.hid hcp
    have HM := Lib.hid hm
    clear hv hun hcp hm hk hval hrs hf
    go_enter Tryd.func12, Tryd.ntmps12
    go_wp2_with (go_at_call 26; go_must (refine (HC.out _).mono ?_))
    rintro e w1 ⟨rfl, b1⟩
    have hx1 : w1.heap[w.heap.size]? = some (.cells emptyC 27 (0, 0)) := (b1.block _ (by simp)).trans (heap_alloc_new w _)
    have hb1 := ((Below.refl _ w).alloc (Nat.le_refl _) (.cells emptyC 27)).trans (b1.mono (by simp))
    have HX1 := Lib.hid hx1
    have HB1 := Lib.hid hb1
    clear b1 hx1 hb1
    go_wp2_with (go_at_call 27; go_must (refine (HU.out _ (HM.out.below HB1.out)).mono ?_))
    rintro e w2 ⟨rfl, b2⟩
    have hx2 := below_block b2 HX1.out (Array.getElem?_eq_some_iff.1 HX1.out).1
    have hsz : w.heap.size < w2.heap.size := (Array.getElem?_eq_some_iff.1 hx2).1
    have hb2 := HB1.out.trans (b2.mono HB1.out.size)
    have c0 := Lib.cell_of_heap hx2 0
    have c1 := Lib.cell_of_heap hx2 1
    have c2 := Lib.cell_of_heap hx2 2
    have c3 := Lib.cell_of_heap hx2 3
    have c4 := Lib.cell_of_heap hx2 4
    have c5 := Lib.cell_of_heap hx2 5
    have f0 := Lib.frozen_of_heap hx2
    simp [emptyC] at c0 c1 c2 c3 c4 c5
    have HB2 := Lib.hid hb2
    have HX2 := Lib.hid hx2
    clear b2 hx2 hb2 HX1 HB1
    go_wp2
    have hst := six_stored HX2.out (.string p0) (.string p1) (.string p2) (.string p3) (.string p4) (.string p5)
    refine bodyPost_ret (ret_six rfl rfl ((heap_alloc_old _ _ (Array.getElem?_eq_some_iff.1 hst).1).trans hst)) rfl ⟨?_, (six_store (Nat.le_refl _) _ _ _ _ _ _ HB2.out).alloc (six_store (Nat.le_refl _) _ _ _ _ _ _ HB2.out).size _⟩
    rw [HV.out]
    rfl
  | false =>
    rw [hk] at hv hun
    simp only [if_neg (show ¬ (false = true) by decide)] at hv hun
    have hn : Six.none.val = .agg #[.string ⟨#[]⟩, .string ⟨#[]⟩, .string ⟨#[]⟩, .string ⟨#[]⟩, .string ⟨#[]⟩, .string ⟨#[]⟩] := rfl
    rw [hn] at hun
    have HV := Lib.hid hv
    have HU := Lib.hid hun
    have HC := Lib.hid hcp
    have HM := Lib.hid hm
    clear hv hun hcp hm hk hval hrs hf
    go_enter Tryd.func12, Tryd.ntmps12
    go_wp2_with (go_at_call 26; go_must (refine (HC.out _).mono ?_))
    rintro e w1 ⟨rfl, b1⟩
    have hx1 : w1.heap[w.heap.size]? = some (.cells emptyC 27 (0, 0)) := (b1.block _ (by simp)).trans (heap_alloc_new w _)
    have hb1 := ((Below.refl _ w).alloc (Nat.le_refl _) (.cells emptyC 27)).trans (b1.mono (by simp))
    have HX1 := Lib.hid hx1
    have HB1 := Lib.hid hb1
    clear b1 hx1 hb1
    go_wp2_with (go_at_call 27; go_must (refine (HU.out _ (HM.out.below HB1.out)).mono ?_))
    rintro e w2 ⟨rfl, b2⟩
    have hx2 := below_block b2 HX1.out (Array.getElem?_eq_some_iff.1 HX1.out).1
    have hsz : w.heap.size < w2.heap.size := (Array.getElem?_eq_some_iff.1 hx2).1
    have hb2 := HB1.out.trans (b2.mono HB1.out.size)
    have c0 := Lib.cell_of_heap hx2 0
    have c1 := Lib.cell_of_heap hx2 1
    have c2 := Lib.cell_of_heap hx2 2
    have c3 := Lib.cell_of_heap hx2 3
    have c4 := Lib.cell_of_heap hx2 4
    have c5 := Lib.cell_of_heap hx2 5
    have f0 := Lib.frozen_of_heap hx2
    simp [emptyC] at c0 c1 c2 c3 c4 c5
    have HB2 := Lib.hid hb2
    have HX2 := Lib.hid hx2
    clear b2 hx2 hb2 HX1 HB1
    go_wp2
    have hst := six_stored HX2.out (.string ⟨#[]⟩) (.string ⟨#[]⟩) (.string ⟨#[]⟩) (.string ⟨#[]⟩) (.string ⟨#[]⟩) (.string ⟨#[]⟩)
    refine bodyPost_ret (ret_six rfl rfl ((heap_alloc_old _ _ (Array.getElem?_eq_some_iff.1 hst).1).trans hst)) rfl ⟨?_, (six_store (Nat.le_refl _) _ _ _ _ _ _ HB2.out).alloc (six_store (Nat.le_refl _) _ _ _ _ _ _ HB2.out).size _⟩
    rw [HV.out]
    rfl

set_option maxRecDepth 100000 in
set_option maxHeartbeats 1000000 in
theorem ituple_back (w : World) (key : ByteArray) (hf : startsB key 102 = false) (hs : key.size ≤ 1000000) (hm : MaxInt w) :
    Calls Tryd.prog 12 #[.string key] w (GivesVal w (tupV key)) := by
  have hcp := fun w => cutp_any w key 102
  have hcr := fun w => cutp_any w key 114
  rw [hf] at hcp
  simp only [if_neg (show ¬ (false = true) by decide)] at hcp
  have hv : tupV key = if startsB key 114 = true ∧ isBack (restB key) = true then .tuple #[(Six.unk (restB key)).turned.val, .bool false, .int .i64 0] else noneV := by
    unfold tupV
    rw [if_neg (by rw [hf]; decide)]
  have hrs := restB_size key
  obtain ⟨r, hr⟩ : ∃ r, (if startsB key 114 = true then restB key else key) = r := ⟨_, rfl⟩
  rw [hr] at hcr
  have hrz : r.size ≤ 1000000 := by
    rw [← hr]
    split <;> omega
  have hv2 : tupV key = if startsB key 114 = true ∧ isBack r = true then .tuple #[(Six.unk r).turned.val, .bool false, .int .i64 0] else noneV := by
    rw [hv, ← hr]
    by_cases hb : startsB key 114 = true
    · rw [if_pos hb]
    · rw [if_neg (fun h => hb h.1), if_neg (fun h => hb h.1)]
  clear hv hr hrs
  have hcnt : Lib.countB r zB ≤ 1000001 := by
    have := Lib.count_le r.data.toList zB.data.toList
    rw [size_data] at this
    show Lib.count r.data.toList zB.data.toList ≤ 1000001
    omega
  have hsplit := fun w (h : MaxInt w) => split_any w r h hrz
  have hcells := fun h => (split_of_count 6 r h).1
  have hsh := unk_short r 1000000000 (by omega)
  have hcheck := fun w => check_any w (Six.unk r).turned ⟨hsh.2.2.2.1, hsh.2.2.2.2.1, hsh.2.2.2.2.2, hsh.1, hsh.2.1, hsh.2.2.1⟩
  have hturn := fun w => turn_any w (Six.unk r)
  have hjoin := fun w => ijoin_any w (Six.unk r).turned
  have hval : (Six.unk r).val = .agg #[.string (zpart r 0), .string (zpart r 1), .string (zpart r 2), .string (zpart r 3), .string (zpart r 4), .string (zpart r 5)] := rfl
  have hval2 : (Six.unk r).turned.val = .agg #[.string (zpart r 3), .string (zpart r 4), .string (zpart r 5), .string (zpart r 0), .string (zpart r 1), .string (zpart r 2)] := rfl
  have hbk : isBack r = (decide (Lib.countB r zB = 6) && decide (zrest r 6 = ⟨#[]⟩) && (Six.unk r).turned.ok) := rfl
  rw [hval2] at hv2 hcheck hturn hjoin
  rw [hval] at hturn
  rw [hbk] at hv2
  generalize Lib.countB r zB = n at *
  generalize (Six.unk r).turned.ok = ok at *
  generalize startsB key 114 = sb at *
  generalize tupV key = V at *
  have HV := Lib.hid hv2
  have HC := Lib.hid hcp
  have HCR := Lib.hid hcr
  have HSp := Lib.hid hsplit
  have HCe := Lib.hid hcells
  have HCk := Lib.hid hcheck
  have HTu := Lib.hid hturn
  have HJo := Lib.hid hjoin
  have HM := Lib.hid hm
  clear hv2 hcp hcr hsplit hcells hcheck hturn hjoin hm hval hval2 hbk hsh hf hs hrz
  go_enter Tryd.func12, Tryd.ntmps12
  go_wp2_with (go_at_call 26; go_must (refine (HC.out _).mono ?_))
  rintro e w1 ⟨rfl, b1⟩
  have hx1 : w1.heap[w.heap.size]? = some (.cells emptyC 27 (0, 0)) := (b1.block _ (by simp)).trans (heap_alloc_new w _)
  have hb1 := ((Below.refl _ w).alloc (Nat.le_refl _) (.cells emptyC 27)).trans (b1.mono (by simp))
  have HX1 := Lib.hid hx1
  have HB1 := Lib.hid hb1
  clear b1 hx1 hb1 HC
  go_wp2_with (go_at_call 26; go_must (refine (HCR.out _).mono ?_))
  rintro e w2 ⟨rfl, b2⟩
  have hx2 := below_block b2 HX1.out (Array.getElem?_eq_some_iff.1 HX1.out).1
  have hb2 := HB1.out.trans (b2.mono HB1.out.size)
  have HX2 := Lib.hid hx2
  have HB2 := Lib.hid hb2
  clear b2 hx2 hb2 HX1 HB1 HCR
  go_wp2_with (go_at_call 28; go_must (refine (HSp.out _ (HM.out.below HB2.out)).mono ?_))
  rintro e w3 ⟨rfl, rfl⟩
  have hsz2 : w.heap.size < w2.heap.size := (Array.getElem?_eq_some_iff.1 HX2.out).1
  have hx3 : (w2.alloc (.cells ((Lib.splitB zB 0 n r).map Value.string).toArray 9)).heap[w.heap.size]? = some (.cells emptyC 27 (0, 0)) := (heap_alloc_old _ _ hsz2).trans HX2.out
  have hy3 := heap_alloc_new w2 (.cells ((Lib.splitB zB 0 n r).map Value.string).toArray 9)
  have hb3 := HB2.out.alloc HB2.out.size (.cells ((Lib.splitB zB 0 n r).map Value.string).toArray 9)
  have hgs : w.heap.size ≠ w2.heap.size := by omega
  generalize w2.alloc (.cells ((Lib.splitB zB 0 n r).map Value.string).toArray 9) = w3 at *
  have hgl : w2.heap.size < w3.heap.size := (Array.getElem?_eq_some_iff.1 hy3).1
  generalize w2.heap.size = gs at *
  have c0 := Lib.cell_of_heap hx3 0
  have c1 := Lib.cell_of_heap hx3 1
  have c2 := Lib.cell_of_heap hx3 2
  have c3 := Lib.cell_of_heap hx3 3
  have c4 := Lib.cell_of_heap hx3 4
  have c5 := Lib.cell_of_heap hx3 5
  have f0 := Lib.frozen_of_heap hx3
  simp [emptyC] at c0 c1 c2 c3 c4 c5
  have HX3 := Lib.hid hx3
  have HB3 := Lib.hid hb3
  clear HX2 HB2 HSp hx3 hb3
  cases sb with
  | false =>
    have hV : V = noneV := by rw [HV.out, if_neg (fun h => absurd h.1 (by decide))]
    have HV2 := Lib.hid hV
    clear hV HV hy3
    go_wp2
    have hst := six_stored HX3.out (.string ⟨#[]⟩) (.string ⟨#[]⟩) (.string ⟨#[]⟩) (.string ⟨#[]⟩) (.string ⟨#[]⟩) (.string ⟨#[]⟩)
    refine bodyPost_ret (ret_six rfl rfl hst) rfl ⟨?_, six_store (Nat.le_refl _) _ _ _ _ _ _ HB3.out⟩
    rw [HV2.out]
    rfl
  | true =>
    by_cases h6 : n = 6
    · subst h6
      rw [HCe.out rfl] at hy3
      have e0 := Lib.cell_of_heap hy3 0
      have e1 := Lib.cell_of_heap hy3 1
      have e2 := Lib.cell_of_heap hy3 2
      have e3 := Lib.cell_of_heap hy3 3
      have e4 := Lib.cell_of_heap hy3 4
      have e5 := Lib.cell_of_heap hy3 5
      have e6 := Lib.cell_of_heap hy3 6
      simp at e0 e1 e2 e3 e4 e5 e6
      clear hy3 HCe
      generalize zpart r 0 = p0 at *
      generalize zpart r 1 = p1 at *
      generalize zpart r 2 = p2 at *
      generalize zpart r 3 = p3 at *
      generalize zpart r 4 = p4 at *
      generalize zpart r 5 = p5 at *
      generalize zrest r 6 = z at *
      by_cases hz : z = ⟨#[]⟩
      · subst hz
        have hV : V = if ok = true then .tuple #[.agg #[.string p3, .string p4, .string p5, .string p0, .string p1, .string p2], .bool false, .int .i64 0] else noneV := by
          rw [HV.out, decide_eq_true rfl, decide_eq_true rfl]
          cases ok
          · rw [if_neg (by decide), if_neg (by decide)]
          · rw [if_pos (by decide), if_pos rfl]
        have HV1 := Lib.hid hV
        clear hV HV
        have hat := run_arrayAt (P := Tryd.prog) w3 57 9 6 (some ⟨gs, 0, none⟩) 6 7 Tryd.underlying57 (by decide)
        go_wp2_with (go_at_call 22; go_must (refine (HTu.out _).mono ?_))
        rintro e w4 ⟨rfl, b4⟩
        have hx4 := below_block b4 HX3.out (Array.getElem?_eq_some_iff.1 HX3.out).1
        have hb4 := HB3.out.trans (b4.mono HB3.out.size)
        have HX4 := Lib.hid hx4
        have HB4 := Lib.hid hb4
        clear b4 hx4 hb4 HX3 HB3 hat e0 e1 e2 e3 e4 e5 e6 c0 c1 c2 c3 c4 c5 f0 HTu
        go_wp2_with (go_at_call 29; go_must (refine (HJo.out _).mono ?_))
        rintro e w5 ⟨rfl, b5⟩
        have hx5 := below_block b5 HX4.out (Array.getElem?_eq_some_iff.1 HX4.out).1
        have hb5 := HB4.out.trans (b5.mono HB4.out.size)
        have hsz5 : w.heap.size < w5.heap.size := (Array.getElem?_eq_some_iff.1 hx5).1
        have HX5 := Lib.hid hx5
        have HB5 := Lib.hid hb5
        clear b5 hx5 hb5 HX4 HB4 HJo
        go_wp2_with (go_at_call 20; go_must (refine (HCk.out _).mono ?_))
        rintro e w6 ⟨rfl, b6⟩
        have hy6 := below_block b6 (heap_alloc_new w5 _) (by simp)
        have hx6 := below_block b6 ((heap_alloc_old w5 _ hsz5).trans HX5.out) (by simp; omega)
        have hb6 : Below w.heap.size w w6 := (HB5.out.alloc HB5.out.size _).trans (b6.mono (by simp; omega))
        have d0 := Lib.cell_of_heap hy6 0
        have d1 := Lib.cell_of_heap hy6 1
        have d2 := Lib.cell_of_heap hy6 2
        have d3 := Lib.cell_of_heap hy6 3
        have d4 := Lib.cell_of_heap hy6 4
        have d5 := Lib.cell_of_heap hy6 5
        have c0 := Lib.cell_of_heap hx6 0
        have c1 := Lib.cell_of_heap hx6 1
        have c2 := Lib.cell_of_heap hx6 2
        have c3 := Lib.cell_of_heap hx6 3
        have c4 := Lib.cell_of_heap hx6 4
        have c5 := Lib.cell_of_heap hx6 5
        have f0 := Lib.frozen_of_heap hx6
        simp [emptyC] at c0 c1 c2 c3 c4 c5 d0 d1 d2 d3 d4 d5
        have HX3 := Lib.hid hx6
        have HB3 := Lib.hid hb6
        clear b6 hy6 hx6 hb6 HX5 HB5 HCk
        unfold checkV
        cases ok with
        | false =>
          have hV := HV1.out
          rw [if_neg (by decide)] at hV
          have HV2 := Lib.hid hV
          clear hV HV1
          go_wp2
          have hst := six_stored HX3.out (.string ⟨#[]⟩) (.string ⟨#[]⟩) (.string ⟨#[]⟩) (.string ⟨#[]⟩) (.string ⟨#[]⟩) (.string ⟨#[]⟩)
          refine bodyPost_ret (ret_six rfl rfl hst) rfl ⟨?_, six_store (Nat.le_refl _) _ _ _ _ _ _ HB3.out⟩
          rw [HV2.out]
          rfl
        | true =>
          have hV := HV1.out
          rw [if_pos rfl] at hV
          have HV2 := Lib.hid hV
          clear hV HV1
          go_wp2
          have hst := six_stored HX3.out (.string p3) (.string p4) (.string p5) (.string p0) (.string p1) (.string p2)
          refine bodyPost_ret (ret_six rfl rfl hst) rfl ⟨?_, six_store (Nat.le_refl _) _ _ _ _ _ _ HB3.out⟩
          rw [HV2.out]
          rfl
      · have h00 := not_empty hz
        have hV : V = noneV := by rw [HV.out, if_neg (fun h => by simp [hz] at h)]
        have HV2 := Lib.hid hV
        clear hV HV hz
        go_wp2
        have hst := six_stored HX3.out (.string ⟨#[]⟩) (.string ⟨#[]⟩) (.string ⟨#[]⟩) (.string ⟨#[]⟩) (.string ⟨#[]⟩) (.string ⟨#[]⟩)
        refine bodyPost_ret (ret_six rfl rfl hst) rfl ⟨?_, six_store (Nat.le_refl _) _ _ _ _ _ _ HB3.out⟩
        rw [HV2.out]
        rfl
    · have hne : ((n : Int) + 1 != 7) = true := by simp; omega
      have hV : V = noneV := by rw [HV.out, if_neg (fun h => by simp [h6] at h)]
      have HV2 := Lib.hid hV
      clear hV HV hy3
      go_wp2
      have hst := six_stored HX3.out (.string ⟨#[]⟩) (.string ⟨#[]⟩) (.string ⟨#[]⟩) (.string ⟨#[]⟩) (.string ⟨#[]⟩) (.string ⟨#[]⟩)
      refine bodyPost_ret (ret_six rfl rfl hst) rfl ⟨?_, six_store (Nat.le_refl _) _ _ _ _ _ _ HB3.out⟩
      rw [HV2.out]
      rfl

theorem ituple_any (w : World) (key : ByteArray) (hs : key.size ≤ 1000000) (hm : MaxInt w) : Calls Tryd.prog 12 #[.string key] w (GivesVal w (tupV key)) := by
  cases h : startsB key 102 with
  | true => exact ituple_fwd w key h hs hm
  | false => exact ituple_back w key h hs hm
end Go.Proofs.YtkcaadkamaogbaaDoor
