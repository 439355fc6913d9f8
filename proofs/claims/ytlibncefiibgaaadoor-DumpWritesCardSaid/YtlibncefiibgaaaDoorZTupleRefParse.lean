import Derived.Test.YtlibncefiibgaaaDoorZTupleRefUnkM
import Derived.Test.YtlibncefiibgaaaDoorZTupleUpTo
import Derived.Test.YtlibncefiibgaaaDoorZTupleOf
import Derived.Test.YtlibncefiibgaaaDoorZTupleRefPrint
import Derived.Test.YtlibncefiibgaaaDoorZTupleTextMath
import Derived.Lib.SlBytesConst
namespace Go.Proofs.YtlibncefiibgaaaDoor
open Go Go.RowKit

/-- Are the first k marks there? -/
def okAt (s : ByteArray) : Nat → Bool
  | 0 => true
  | k + 1 => okAt s k && hasB (restAt s k) (mark k)

theorem has_of {s : ByteArray} {c : UInt8} {x r : List UInt8} (h : s.data.toList = x ++ c :: r) : hasB s c = true := by
  unfold hasB
  rw [h]
  simp

theorem okAt_text {t : Six} (h : t.ok = true) : okAt t.text 4 = true := by
  simp only [Six.ok, nameB, Bool.and_eq_true, Bool.or_eq_true, decide_eq_true_eq] at h
  obtain ⟨⟨⟨⟨⟨h1, h2⟩, h3⟩, h4⟩, h5⟩, h6⟩ := h
  have hb := text_bytes t
  have r0 := cut_bytes (s := restAt t.text 0) (c := 58) hb (free_name h1 (by decide))
  have r1 := cut_bytes (s := restAt t.text 1) (c := 35) r0.2 (free_name h2 (by decide))
  have r2 := cut_bytes (s := restAt t.text 2) (c := 64) r1.2 (free_name h3 (by decide))
  have e0 : hasB (restAt t.text 0) (mark 0) = true := has_of hb
  have e1 : hasB (restAt t.text 1) (mark 1) = true := has_of r0.2
  have e2 : hasB (restAt t.text 2) (mark 2) = true := has_of r1.2
  have e3 : hasB (restAt t.text 3) (mark 3) = true := has_of r2.2
  simp [okAt, e0, e1, e2, e3]

theorem okAt_isText {s : ByteArray} (h : isText s = true) : okAt s 4 = true := by
  unfold isText at h
  simp only [Bool.and_eq_true, decide_eq_true_eq] at h
  have := okAt_text h.1
  rwa [h.2] at this

theorem parse_no {s : ByteArray} (h : okAt s 4 = false) : parseV s = .tuple #[Six.none.val, .int .i64 9] := by
  unfold parseV
  cases ht : isText s with
  | false => rfl
  | true => rw [okAt_isText ht] at h; cases h

def marks : Array Value := #[.int .u8 58, .int .u8 35, .int .u8 64, .int .u8 58]

def RparRel (w : World) (s : ByteArray) (o r i : Value) (wr : World) : Prop :=
  ∃ k : Nat, i = .int .i64 (k : Int) ∧ k ≤ 4 ∧ o = .bool (okAt s k) ∧ r = .string (restAt s k) ∧ Below w.heap.size w wr ∧
    wr.heap[w.heap.size + 1]? = some (.cells (arrAt s k) 9 (0, 0)) ∧
    wr.heap[w.heap.size]? = some (.cells (arrAt s 0) 37 (0, 0)) ∧
    wr.heap[w.heap.size + 2]? = some (.cells marks 5 (4, 5))

set_option maxRecDepth 100000 in
set_option maxHeartbeats 2000000 in
theorem refparse_any (w : World) (s : ByteArray) (hs : s.size ≤ 1000000) :
    Calls Tryd.prog 31 #[.string s] w (GivesVal w (parseV s)) := by
  have hupto := fun (k : Nat) (w : World) => upto_any w (restAt s k) (mark k) (by have := restAt_size s k; omega)
  have HU := Lib.hid hupto
  clear hupto
  have hmk := make_six
  have kc := Lib.run_convert_bytes_const (P := Tryd.prog) ((w.alloc (.cells (arrAt s 0) 37)).alloc (.cells (arrAt s 0) 9)) 41 5 marks 4 4 Tryd.underlying41 Tryd.underlying5
  simp [arrAt, marks] at kc
  go_enter Tryd.func31, Tryd.ntmps31
  go_wp2
  clear hmk kc
  go_loopw [5, 6, 17] (fun o r i wr => RparRel w s o r i wr) (fun _ _ i _ => 4 - (intOf i).toNat)
  case atStart =>
    refine ⟨0, rfl, by decide, rfl, rfl, ((Below.refl _ _).alloc (Nat.le_refl _) _ |>.alloc (by simp) _) |>.alloc (by simp; omega) _, ?_, ?_, ?_⟩
    · have := heap_alloc_new (w.alloc (.cells (arrAt s 0) 37)) (.cells (arrAt s 0) 9)
      refine (Below.heap_alloc _ _ _ (by simp)).trans ?_
      simpa [arrAt] using this
    · have := heap_alloc_new w (.cells (arrAt s 0) 37)
      exact (Below.heap_alloc _ _ _ (by simp; omega)).trans ((Below.heap_alloc (w.alloc (.cells (arrAt s 0) 37)) _ _ (by simp)).trans this)
    · have := heap_alloc_new ((w.alloc (.cells (arrAt s 0) 37)).alloc (.cells (arrAt s 0) 9)) (.cells marks 5 (4, 5))
      simpa [arrAt, marks] using this
  case round =>
    obtain ⟨k, rfl, hk, rfl, rfl, hb, hg, ht, hmr⟩ := hrel
    have HB := Lib.hid hb
    have HG := Lib.hid hg
    have HT := Lib.hid ht
    have HM := Lib.hid hmr
    clear hb hg ht hmr
    by_cases hlt : k < 4
    · have hn := arr_next s k (by omega)
      have hup := fun w => HU.out k w
      have hpa : cutA (restAt s k) (mark k) = partAt s k := rfl
      have hre : cutR (restAt s k) (mark k) = restAt s (k + 1) := rfl
      unfold UpToPost at hup
      rw [hpa, hre] at hup
      have hmc : wr.cell? ⟨w.heap.size + 2, k, none⟩ = some (.int .u8 ((mark k).toNat : Int)) := by
        rw [Lib.cell_of_heap HM.out k]
        have : k = 0 ∨ k = 1 ∨ k = 2 ∨ k = 3 := by omega
        rcases this with rfl | rfl | rfl | rfl <;> rfl
      have hok : okAt s (k + 1) = (okAt s k && hasB (restAt s k) (mark k)) := rfl
      generalize hasB (restAt s k) (mark k) = hB at *
      generalize ((mark k).toNat : Int) = mk at *
      have HC' := Lib.hid hup
      have HN := Lib.hid hn.1
      have hk6 := hn.2
      clear hup hn hpa hre HU
      generalize restAt s k = r0 at *
      generalize hr1 : restAt s (k + 1) = r1 at *
      have HR1 := Lib.hid hr1
      clear hr1
      generalize partAt s k = p0 at *
      generalize arrAt s k = A0 at *
      generalize hA1 : arrAt s (k + 1) = A1 at *
      have HA1 := Lib.hid hA1
      have HO := Lib.hid hok
      clear hA1 hok
      generalize okAt s k = o0 at *
      have hsz := HB.out.size
      have hm3 : w.heap.size + 2 < wr.heap.size := (Array.getElem?_eq_some_iff.1 HM.out).1
      have hidx : ∀ (W : World), (W.alloc (.cells #[.int .i64 0, .int .i64 1, .int .i64 2, .int .i64 3] 3)).cell? ⟨W.heap.size, k, none⟩ = some (.int .i64 (k : Int)) := by
        intro W
        have : k = 0 ∨ k = 1 ∨ k = 2 ∨ k = 3 := by omega
        rw [World.cell?_alloc_new]
        rcases this with rfl | rfl | rfl | rfl <;> rfl
      have hidx' := hidx wr
      clear hidx
      go_wp2_with (go_at_call 43; go_must (refine (HC'.out _).mono ?_))
      rintro e w2 ⟨rfl, b2⟩
      have hgl : w.heap.size + 1 < wr.heap.size := (Array.getElem?_eq_some_iff.1 HG.out).1
      have htl : w.heap.size < wr.heap.size := by omega
      have hg2 := below_block b2 ((Below.heap_alloc wr _ _ hgl).trans HG.out) (by simp; omega)
      have ht2 := below_block b2 ((Below.heap_alloc wr _ _ htl).trans HT.out) (by simp; omega)
      have hm2 := below_block b2 ((Below.heap_alloc wr _ _ hm3).trans HM.out) (by simp; omega)
      have c0 := Lib.cell_of_heap hg2 k
      rw [Array.getElem?_eq_getElem hk6] at c0
      have f0 := Lib.frozen_of_heap hg2 k
      have hb2 := (HB.out.alloc hsz _).trans (b2.mono (by simp; omega))
      have HB2 := Lib.hid hb2
      have HG2 := Lib.hid hg2
      have HT2 := Lib.hid ht2
      have HM2 := Lib.hid hm2
      clear b2 hg2 ht2 hm2 hb2 hmc hidx'
      cases o0 <;> cases hB
      all_goals
        go_wp2
        refine ⟨⟨k + 1, by go_num, by omega, by rw [HO.out]; rfl, by rw [HR1.out], HB2.out.setCell (by simp) _, ?_, ?_, ?_⟩, by simp [intOf]; omega⟩
        · rw [heap_setCell_same _ _ k _ _ _ HG2.out, HN.out, HA1.out]
        · rw [heap_setCell_other _ ⟨w.heap.size + 1, k, none⟩ _ _ (by simp)]
          exact HT2.out
        · rw [heap_setCell_other _ ⟨w.heap.size + 1, k, none⟩ _ _ (by simp)]
          exact HM2.out
    · obtain rfl : k = 4 := by omega
      clear hlt hk HM
      have hup := HU.out 4 wr
      have hpa : cutA (restAt s 4) (mark 4) = partAt s 4 := rfl
      have hre : cutR (restAt s 4) (mark 4) = restAt s 5 := rfl
      have hm4 : ((mark 4).toNat : Int) = 35 := rfl
      unfold UpToPost at hup
      rw [hpa, hre, hm4] at hup
      have hset : ∀ (W : World), W.heap[w.heap.size + 1]? = some (.cells (arrAt s 4) 9 (0, 0)) →
          ((W.setCell ⟨w.heap.size + 1, 4, none⟩ (.string (partAt s 4))).setCell ⟨w.heap.size + 1, 5, none⟩ (.string (restAt s 5))).heap[w.heap.size + 1]? = some (.cells (scells (Six.of s).list).toArray 9 (0, 0)) := by
        intro W hW
        rw [heap_setCell_same _ _ 5 _ _ _ (heap_setCell_same _ _ 4 _ _ _ hW)]
        rfl
      have hof := fun W (h : W.heap[w.heap.size + 1]? = some (.cells (scells (Six.of s).list).toArray 9 (0, 0))) => of_any W _ (Six.of s) (reads_block (n := 6) h rfl (by decide))
      have hsh := of_short s _ hs
      have hsh9 := of_short s 1000000000 (by omega)
      have hcheck := fun w => refcheck_any w (Six.of s) hsh9
      have hprint := fun w => refprint_any w (Six.of s) hsh
      have hv : (Six.of s).val = .agg #[.string (partAt s 0), .string (partAt s 1), .string (partAt s 2), .string (partAt s 3), .string (partAt s 4), .string (restAt s 5)] := rfl
      have hno := @parse_no s
      have hp : parseV s = if ((Six.of s).ok && decide ((Six.of s).text = s)) then .tuple #[(Six.of s).val, .int .i64 0] else .tuple #[Six.none.val, .int .i64 9] := rfl
      have harr : arrAt s 4 = #[.string (partAt s 0), .string (partAt s 1), .string (partAt s 2), .string (partAt s 3), .string ⟨#[]⟩, .string ⟨#[]⟩] := rfl
      rw [hv] at hof hcheck hprint hp
      have HUp := Lib.hid hup
      have HOf := Lib.hid hof
      have HCh := Lib.hid hcheck
      have HPr := Lib.hid hprint
      have HNo := Lib.hid hno
      have HPv := Lib.hid hp
      have HSe := Lib.hid hset
      have HAr := Lib.hid harr
      clear hup hof hcheck hprint hno hp hset hpa hre hm4 hv hsh hsh9 harr HU
      generalize (Six.of s).text = tx at *
      generalize (Six.of s).ok = ok at *
      generalize scells (Six.of s).list = fl at *
      generalize arrAt s 4 = A4 at *
      generalize okAt s 4 = o4 at *
      generalize restAt s 4 = r4 at *
      generalize partAt s 0 = p0 at *
      generalize partAt s 1 = p1 at *
      generalize partAt s 2 = p2 at *
      generalize partAt s 3 = p3 at *
      generalize partAt s 4 = p4 at *
      generalize restAt s 5 = p5 at *
      generalize hasB r4 (mark 4) = hB at *
      go_wp2_with (go_at_call 43; go_must (refine HUp.out.mono ?_))
      rintro e w2 ⟨rfl, b2⟩
      have hg2 := below_block b2 HG.out (Array.getElem?_eq_some_iff.1 HG.out).1
      have ht2 := below_block b2 HT.out (Array.getElem?_eq_some_iff.1 HT.out).1
      have hb2 := HB.out.trans (b2.mono HB.out.size)
      have hg2' := hg2
      rw [HAr.out] at hg2'
      have c4 := Lib.cell_of_heap hg2' 4
      have c5 := Lib.cell_of_heap hg2' 5
      have f0 := Lib.frozen_of_heap hg2'
      simp at c4 c5
      have HB2 := Lib.hid hb2
      have HG2 := Lib.hid hg2
      have HT2 := Lib.hid ht2
      clear b2 hg2 ht2 hb2 hg2'
      go_wp2_with (go_at_call 44; go_must (refine (HOf.out _ (HSe.out _ ?_)).mono ?_))
      · exact HG2.out
      rintro e w3 ⟨rfl, b3⟩
      have hbm := (HB2.out.setCell (p := ⟨w.heap.size + 1, 4, none⟩) (by simp) (.string p4)).setCell (p := ⟨w.heap.size + 1, 5, none⟩) (by simp) (.string p5)
      have htm : ((w2.setCell ⟨w.heap.size + 1, 4, none⟩ (.string p4)).setCell ⟨w.heap.size + 1, 5, none⟩ (.string p5)).heap[w.heap.size]? = some (.cells (arrAt s 0) 37 (0, 0)) := by
        rw [heap_setCell_other _ ⟨w.heap.size + 1, 5, none⟩ _ _ (by simp), heap_setCell_other _ ⟨w.heap.size + 1, 4, none⟩ _ _ (by simp)]
        exact HT2.out
      have hb3 := hbm.trans (b3.mono hbm.size)
      have ht3 := below_block b3 htm (Array.getElem?_eq_some_iff.1 htm).1
      have HB3 := Lib.hid hb3
      have HT3 := Lib.hid ht3
      clear b3 hb3 ht3 hbm htm c4 c5 f0
      cases o4 with
      | false =>
        have hsz : w.heap.size < w3.heap.size := (Array.getElem?_eq_some_iff.1 HT3.out).1
        have ht := HT3.out
        have c0 := Lib.cell_of_heap ht 0
        have c1 := Lib.cell_of_heap ht 1
        have c2 := Lib.cell_of_heap ht 2
        have c3 := Lib.cell_of_heap ht 3
        have c4 := Lib.cell_of_heap ht 4
        have c5 := Lib.cell_of_heap ht 5
        have f0 := Lib.frozen_of_heap ht
        simp [arrAt] at c0 c1 c2 c3 c4 c5
        clear ht
        go_wp2
        refine bodyPost_ret (v := .tuple #[.agg #[.string ⟨#[]⟩, .string ⟨#[]⟩, .string ⟨#[]⟩, .string ⟨#[]⟩, .string ⟨#[]⟩, .string ⟨#[]⟩], .int .i64 9]) ?_ rfl ⟨?_, ?_⟩
        · simp [results, Tryd.results31, go_sem, c0, c1, c2, c3, c4, c5, hsz]
        · rw [HNo.out (by trivial)]; rfl
        · exact ((((((HB3.out.setCell (p := ⟨w.heap.size, 0, none⟩) (Nat.le_refl _) _).setCell (p := ⟨w.heap.size, 1, none⟩) (Nat.le_refl _) _).setCell (p := ⟨w.heap.size, 2, none⟩) (Nat.le_refl _) _).setCell (p := ⟨w.heap.size, 3, none⟩) (Nat.le_refl _) _).setCell (p := ⟨w.heap.size, 4, none⟩) (Nat.le_refl _) _).setCell (p := ⟨w.heap.size, 5, none⟩) (Nat.le_refl _) _).alloc (by simp [World.setCell]; omega) _
      | true =>
        go_wp2_with (go_at_call 29; go_must (refine (HCh.out _).mono ?_))
        rintro e w4 ⟨rfl, b4⟩
        have hsz : w.heap.size < w3.heap.size := (Array.getElem?_eq_some_iff.1 HT3.out).1
        have hb4 : Below w.heap.size w w4 := (HB3.out.alloc HB3.out.size _).trans (b4.mono (by simp; omega))
        have ht4 : w4.heap[w.heap.size]? = some (.cells (arrAt s 0) 37 (0, 0)) :=
          below_block b4 ((Below.heap_alloc w3 _ _ hsz).trans HT3.out) (by simp; omega)
        have hk4 : w4.heap[w3.heap.size]? = some (.cells #[.string p0, .string p1, .string p2, .string p3, .string p4, .string p5] 37 (0, 0)) :=
          below_block b4 (heap_alloc_new w3 _) (by simp)
        have HB4 := Lib.hid hb4
        have HT4 := Lib.hid ht4
        have HK4 := Lib.hid hk4
        clear b4 hb4 ht4 hk4
        unfold checkV
        have fin : ∀ (w4 : World) (v0 v1 v2 v3 v4 v5 : Value), Below w.heap.size w w4 → Below w.heap.size w ((((((w4.setCell ⟨w.heap.size, 0, none⟩ v0).setCell ⟨w.heap.size, 1, none⟩ v1).setCell ⟨w.heap.size, 2, none⟩ v2).setCell ⟨w.heap.size, 3, none⟩ v3).setCell ⟨w.heap.size, 4, none⟩ v4).setCell ⟨w.heap.size, 5, none⟩ v5) := by
          intro w4 v0 v1 v2 v3 v4 v5 h
          exact (((((h.setCell (p := ⟨w.heap.size, 0, none⟩) (Nat.le_refl _) _).setCell (p := ⟨w.heap.size, 1, none⟩) (Nat.le_refl _) _).setCell (p := ⟨w.heap.size, 2, none⟩) (Nat.le_refl _) _).setCell (p := ⟨w.heap.size, 3, none⟩) (Nat.le_refl _) _).setCell (p := ⟨w.heap.size, 4, none⟩) (Nat.le_refl _) _).setCell (p := ⟨w.heap.size, 5, none⟩) (Nat.le_refl _) _
        have FI := Lib.hid fin
        clear fin
        cases ok with
        | false =>
          have ht := HT4.out
          have c0 := Lib.cell_of_heap ht 0
          have c1 := Lib.cell_of_heap ht 1
          have c2 := Lib.cell_of_heap ht 2
          have c3 := Lib.cell_of_heap ht 3
          have c4 := Lib.cell_of_heap ht 4
          have c5 := Lib.cell_of_heap ht 5
          have f0 := Lib.frozen_of_heap ht
          simp [arrAt] at c0 c1 c2 c3 c4 c5
          clear ht
          go_wp2
          refine bodyPost_ret (v := .tuple #[.agg #[.string ⟨#[]⟩, .string ⟨#[]⟩, .string ⟨#[]⟩, .string ⟨#[]⟩, .string ⟨#[]⟩, .string ⟨#[]⟩], .int .i64 9]) ?_ rfl ⟨?_, FI.out _ _ _ _ _ _ _ HB4.out⟩
          · simp [results, Tryd.results31, go_sem, c0, c1, c2, c3, c4, c5]
          · rw [HPv.out]; rfl
        | true =>
          have hk4 := HK4.out
          have e0 := Lib.cell_of_heap hk4 0
          have e1 := Lib.cell_of_heap hk4 1
          have e2 := Lib.cell_of_heap hk4 2
          have e3 := Lib.cell_of_heap hk4 3
          have e4 := Lib.cell_of_heap hk4 4
          have e5 := Lib.cell_of_heap hk4 5
          simp at e0 e1 e2 e3 e4 e5
          clear hk4
          go_wp2_with (go_at_call 27; go_must (refine (HPr.out _).mono ?_))
          rintro e w5 ⟨rfl, b5⟩
          have hb5 := HB4.out.trans (b5.mono HB4.out.size)
          have ht := below_block b5 HT4.out (Array.getElem?_eq_some_iff.1 HT4.out).1
          have hk5 := below_block b5 HK4.out (Array.getElem?_eq_some_iff.1 HK4.out).1
          have HB5 := Lib.hid hb5
          clear e0 e1 e2 e3 e4 e5 b5 hb5
          have c0 := Lib.cell_of_heap ht 0
          have c1 := Lib.cell_of_heap ht 1
          have c2 := Lib.cell_of_heap ht 2
          have c3 := Lib.cell_of_heap ht 3
          have c4 := Lib.cell_of_heap ht 4
          have c5 := Lib.cell_of_heap ht 5
          have f0 := Lib.frozen_of_heap ht
          simp [arrAt] at c0 c1 c2 c3 c4 c5
          have e0 := Lib.cell_of_heap hk5 0
          have e1 := Lib.cell_of_heap hk5 1
          have e2 := Lib.cell_of_heap hk5 2
          have e3 := Lib.cell_of_heap hk5 3
          have e4 := Lib.cell_of_heap hk5 4
          have e5 := Lib.cell_of_heap hk5 5
          simp at e0 e1 e2 e3 e4 e5
          clear ht hk5
          by_cases heq : tx = s
          · have hps : (tx.toList == s.toList) = true := by rw [heq]; simp
            have hpv : parseV s = .tuple #[.agg #[.string p0, .string p1, .string p2, .string p3, .string p4, .string p5], .int .i64 0] := by rw [HPv.out, decide_eq_true heq]; rfl
            have HPV := Lib.hid hpv
            clear HPv hpv heq
            go_wp2
            refine bodyPost_ret (v := .tuple #[.agg #[.string p0, .string p1, .string p2, .string p3, .string p4, .string p5], .int .i64 0]) ?_ rfl ⟨?_, FI.out _ _ _ _ _ _ _ HB5.out⟩
            · simp [results, Tryd.results31, go_sem, c0, c1, c2, c3, c4, c5]
            · rw [HPV.out]
          · have hps : (tx.toList == s.toList) = false := by
              simpa [Go.ByteArray.toList_eq] using fun h => heq (congrArg ByteArray.mk (Array.toList_inj.1 h))
            have hpv : parseV s = .tuple #[Six.none.val, .int .i64 9] := by rw [HPv.out, decide_eq_false heq]; rfl
            have HPV := Lib.hid hpv
            clear HPv hpv heq
            go_wp2
            refine bodyPost_ret (v := .tuple #[.agg #[.string ⟨#[]⟩, .string ⟨#[]⟩, .string ⟨#[]⟩, .string ⟨#[]⟩, .string ⟨#[]⟩, .string ⟨#[]⟩], .int .i64 9]) ?_ rfl ⟨?_, FI.out _ _ _ _ _ _ _ HB5.out⟩
            · simp [results, Tryd.results31, go_sem, c0, c1, c2, c3, c4, c5]
            · rw [HPV.out]; rfl
end Go.Proofs.YtlibncefiibgaaaDoor
