import Derived.Test.YtlibncefiibgaaaDoorZTupleCut
import Derived.Test.YtlibncefiibgaaaDoorMga
namespace Go.Proofs.YtlibncefiibgaaaDoor
open Go Go.RowKit

def Six.of (s : ByteArray) : Six := ⟨partAt s 0, partAt s 1, partAt s 2, partAt s 3, partAt s 4, restAt s 5⟩

/-- Is the text that of the tuple it is read as? -/
def isText (s : ByteArray) : Bool := (Six.of s).ok && decide ((Six.of s).text = s)

def parseV (s : ByteArray) : Value := if isText s then .tuple #[(Six.of s).val, .int .i64 0] else .tuple #[Six.none.val, .int .i64 9]

theorem of_short (s : ByteArray) (n : Nat) (h : s.size ≤ n) : (Six.of s).short n :=
  ⟨Nat.le_trans (partAt_size s 0) h, Nat.le_trans (partAt_size s 1) h, Nat.le_trans (partAt_size s 2) h, Nat.le_trans (partAt_size s 3) h, Nat.le_trans (partAt_size s 4) h, Nat.le_trans (restAt_size s 5) h⟩

def ParseRel (w : World) (s : ByteArray) (r i : Value) (wr : World) : Prop :=
  ∃ k : Nat, i = .int .i64 (k : Int) ∧ k ≤ 5 ∧ r = .string (restAt s k) ∧ Below w.heap.size w wr ∧
    wr.heap[w.heap.size + 1]? = some (.cells (arrAt s k) 70 (0, 0)) ∧
    wr.heap[w.heap.size]? = some (.cells (arrAt s 0) 37 (0, 0))

theorem run_mark (w : World) : ∀ (j : Nat), j < 5 → (Instr.index 84 (Value.agg #[Value.string ⟨#[58]⟩, Value.string ⟨#[35]⟩, Value.string ⟨#[64]⟩, Value.string ⟨#[58]⟩, Value.string ⟨#[35]⟩]) (Value.int IntKind.i64 (j : Int))).run Tryd.prog w = .ok (.string ⟨#[mark j]⟩) w := by
  intro j hj
  have h := Tryd.underlying84
  have : j = 0 ∨ j = 1 ∨ j = 2 ∨ j = 3 ∨ j = 4 := by omega
  rcases this with rfl | rfl | rfl | rfl | rfl <;> simp [Instr.index, run_underlying h, asIntOf, go_sem, mark]

theorem arr_next (s : ByteArray) : ∀ k, k < 5 → (arrAt s k).setIfInBounds k (.string (partAt s k)) = arrAt s (k + 1) ∧ k < (arrAt s k).size
  | 0, _ => ⟨rfl, by simp [arrAt]⟩
  | 1, _ => ⟨rfl, by simp [arrAt]⟩
  | 2, _ => ⟨rfl, by simp [arrAt]⟩
  | 3, _ => ⟨rfl, by simp [arrAt]⟩
  | 4, _ => ⟨rfl, by simp [arrAt]⟩

set_option maxRecDepth 100000 in
set_option maxHeartbeats 1000000 in
theorem parse_any (w : World) (s : ByteArray) (hs : s.size ≤ 1000000) :
    Calls Tryd.prog 41 #[.string s] w (GivesVal w (parseV s)) := by
  have hcut := fun (k : Nat) (w : World) => cut_any w (restAt s k) (mark k) (by have := restAt_size s k; omega)
  have HC := Lib.hid hcut
  clear hcut
  go_enter Tryd.func41, Tryd.ntmps41
  go_wp2
  go_loopw [5, 13] (fun r i wr => ParseRel w s r i wr) (fun _ i _ => 5 - (intOf i).toNat)
  case atStart =>
    refine ⟨0, rfl, by decide, rfl, (Below.refl _ _).alloc (Nat.le_refl _) _ |>.alloc (by simp) _, ?_, ?_⟩
    · have := heap_alloc_new (w.alloc (.cells (arrAt s 0) 37)) (.cells (arrAt s 0) 70)
      simpa [arrAt] using this
    · have := heap_alloc_new w (.cells (arrAt s 0) 37)
      exact (Below.heap_alloc (w.alloc (.cells (arrAt s 0) 37)) _ _ (by simp)).trans this
  case round =>
    obtain ⟨k, rfl, hk, rfl, hb, hg, ht⟩ := hrel
    have HB := Lib.hid hb
    have HG := Lib.hid hg
    have HT := Lib.hid ht
    clear hb hg ht
    by_cases hlt : k < 5
    · have hn := arr_next s k hlt
      have hcut := fun w => HC.out k w
      have hpa : cutA (restAt s k) (mark k) = partAt s k := rfl
      have hre : cutR (restAt s k) (mark k) = restAt s (k + 1) := rfl
      unfold CutPost at hcut
      rw [hpa, hre] at hcut
      have hrun := run_mark wr k hlt
      generalize mark k = m at *
      have HC' := Lib.hid hcut
      have HN := Lib.hid hn.1
      have hk6 := hn.2
      clear hcut hn hpa hre HC
      generalize restAt s k = r0 at *
      generalize hr1 : restAt s (k + 1) = r1 at *
      have HR1 := Lib.hid hr1
      clear hr1
      generalize partAt s k = p0 at *
      generalize arrAt s k = A0 at *
      generalize hA1 : arrAt s (k + 1) = A1 at *
      have HA1 := Lib.hid hA1
      clear hA1
      go_wp2_with (go_at_call 25; go_must (refine (HC'.out _).mono ?_))
      rintro e w2 ⟨b, rfl, b2⟩
      have hg2 := below_block b2 HG.out (Array.getElem?_eq_some_iff.1 HG.out).1
      have ht2 := below_block b2 HT.out (Array.getElem?_eq_some_iff.1 HT.out).1
      have c0 := Lib.cell_of_heap hg2 k
      rw [Array.getElem?_eq_getElem hk6] at c0
      have f0 := Lib.frozen_of_heap hg2 k
      have hb2 := HB.out.trans (b2.mono HB.out.size)
      have HB2 := Lib.hid hb2
      have HG2 := Lib.hid hg2
      have HT2 := Lib.hid ht2
      clear b2 hg2 ht2 hb2 hrun
      go_wp2
      refine ⟨⟨k + 1, by go_num, by omega, by rw [HR1.out], HB2.out.setCell (by simp) _, ?_, ?_⟩, by simp [intOf]; omega⟩
      · rw [heap_setCell_same _ _ k _ _ _ HG2.out, HN.out, HA1.out]
      · rw [heap_setCell_other _ ⟨w.heap.size + 1, k, none⟩ _ _ (by simp)]
        exact HT2.out
    · obtain rfl : k = 5 := by omega
      have hg := HG.out
      have c0 := Lib.cell_of_heap hg 0
      have c1 := Lib.cell_of_heap hg 1
      have c2 := Lib.cell_of_heap hg 2
      have c3 := Lib.cell_of_heap hg 3
      have c4 := Lib.cell_of_heap hg 4
      have c5 := Lib.cell_of_heap hg 5
      simp [arrAt] at c0 c1 c2 c3 c4 c5
      have f0 := Lib.frozen_of_heap hg 5
      have hwhole := fun w => whole_any w (Six.of s)
      have hprint := fun w => print_any w (Six.of s) (of_short s _ hs)
      have ht : (Six.of s).printed = if (Six.of s).ok then (Six.of s).text else ⟨#[]⟩ := rfl
      have hv : (Six.of s).val = .agg #[.string (partAt s 0), .string (partAt s 1), .string (partAt s 2), .string (partAt s 3), .string (partAt s 4), .string (restAt s 5)] := rfl
      have hp : parseV s = if ((Six.of s).ok && decide ((Six.of s).text = s)) then .tuple #[(Six.of s).val, .int .i64 0] else .tuple #[Six.none.val, .int .i64 9] := rfl
      rw [hv] at hwhole hprint hp
      generalize (Six.of s).printed = pr at *
      generalize (Six.of s).text = tx at *
      generalize (Six.of s).ok = ok at *
      have HW := Lib.hid hwhole
      have HPr := Lib.hid hprint
      have HTx := Lib.hid ht
      have HPv := Lib.hid hp
      clear hwhole hprint ht hv hp hg HC
      generalize partAt s 0 = p0 at *
      generalize partAt s 1 = p1 at *
      generalize partAt s 2 = p2 at *
      generalize partAt s 3 = p3 at *
      generalize partAt s 4 = p4 at *
      generalize restAt s 5 = p5 at *
      go_wp2_with (go_at_call 51; go_must (refine (HW.out _).mono ?_))
      rintro e w2 ⟨rfl, b2⟩
      have hb2 := (HB.out.setCell (p := ⟨w.heap.size + 1, 5, none⟩) (by simp) (.string p5)).trans (b2.mono (by simpa using HB.out.size))
      have ht1 : (wr.setCell ⟨w.heap.size + 1, 5, none⟩ (.string p5)).heap[w.heap.size]? = some (.cells (arrAt s 0) 37 (0, 0)) := by
        rw [heap_setCell_other _ ⟨w.heap.size + 1, 5, none⟩ _ _ (by simp)]
        exact HT.out
      have ht2 := below_block b2 ht1 (Array.getElem?_eq_some_iff.1 ht1).1
      have HB2 := Lib.hid hb2
      have HT2 := Lib.hid ht2
      clear b2 hb2 ht1 ht2 c0 c1 c2 c3 c4 c5 f0 HW
      go_wp2_with (go_at_call 22; go_must (refine (HPr.out _).mono ?_))
      rintro e w3 ⟨rfl, b3⟩
      have hbox := (entryBox (w := w2) (w1 := w3) (b3.mono (by simp))).1
      have d0 := hbox 0
      have d1 := hbox 1
      have d2 := hbox 2
      have d3 := hbox 3
      have d4 := hbox 4
      have d5 := hbox 5
      simp at d0 d1 d2 d3 d4 d5
      have hsz : w.heap.size < w2.heap.size := (Array.getElem?_eq_some_iff.1 HT2.out).1
      have hb3 : Below w.heap.size w w3 := (HB2.out.alloc HB2.out.size _).trans (b3.mono (by simp; omega))
      have ht3 : w3.heap[w.heap.size]? = some (.cells (arrAt s 0) 37 (0, 0)) :=
        below_block b3 ((Below.heap_alloc w2 _ _ hsz).trans HT2.out) (by simp; omega)
      have c0 := Lib.cell_of_heap ht3 0
      have c1 := Lib.cell_of_heap ht3 1
      have c2 := Lib.cell_of_heap ht3 2
      have c3 := Lib.cell_of_heap ht3 3
      have c4 := Lib.cell_of_heap ht3 4
      have c5 := Lib.cell_of_heap ht3 5
      have f0 := Lib.frozen_of_heap ht3 0
      have f1 := Lib.frozen_of_heap ht3 1
      have f2 := Lib.frozen_of_heap ht3 2
      have f3 := Lib.frozen_of_heap ht3 3
      have f4 := Lib.frozen_of_heap ht3 4
      have f5 := Lib.frozen_of_heap ht3 5
      simp [arrAt] at c0 c1 c2 c3 c4 c5
      have HB3 := Lib.hid hb3
      have HT3 := Lib.hid ht3
      clear b3 hbox ht3 hb3
      unfold checkV
      have fin : ∀ (v0 v1 v2 v3 v4 v5 : Value), Below w.heap.size w ((((((w3.setCell ⟨w.heap.size, 0, none⟩ v0).setCell ⟨w.heap.size, 1, none⟩ v1).setCell ⟨w.heap.size, 2, none⟩ v2).setCell ⟨w.heap.size, 3, none⟩ v3).setCell ⟨w.heap.size, 4, none⟩ v4).setCell ⟨w.heap.size, 5, none⟩ v5) := by
        intro v0 v1 v2 v3 v4 v5
        exact (((((HB3.out.setCell (p := ⟨w.heap.size, 0, none⟩) (Nat.le_refl _) _).setCell (p := ⟨w.heap.size, 1, none⟩) (Nat.le_refl _) _).setCell (p := ⟨w.heap.size, 2, none⟩) (Nat.le_refl _) _).setCell (p := ⟨w.heap.size, 3, none⟩) (Nat.le_refl _) _).setCell (p := ⟨w.heap.size, 4, none⟩) (Nat.le_refl _) _).setCell (p := ⟨w.heap.size, 5, none⟩) (Nat.le_refl _) _
      have FI := Lib.hid fin
      clear fin
      cases ok with
      | false =>
        rw [if_neg (by decide)] at HTx
        clear HTx
        go_wp2
        refine bodyPost_ret (v := .tuple #[.agg #[.string ⟨#[]⟩, .string ⟨#[]⟩, .string ⟨#[]⟩, .string ⟨#[]⟩, .string ⟨#[]⟩, .string ⟨#[]⟩], .int .i64 9]) ?_ rfl ⟨?_, FI.out _ _ _ _ _ _⟩
        · simp [results, Tryd.results41, go_sem, c0, c1, c2, c3, c4, c5]
        · rw [HPv.out]; rfl
      | true =>
        rw [if_pos rfl] at HTx
        by_cases heq : tx = s
        · have hps : (pr.toList == s.toList) = true := by rw [HTx.out, heq]; simp
          have hpv : parseV s = .tuple #[.agg #[.string p0, .string p1, .string p2, .string p3, .string p4, .string p5], .int .i64 0] := by rw [HPv.out, decide_eq_true heq]; rfl
          have HPV := Lib.hid hpv
          clear HPv HTx hpv heq
          go_wp2
          refine bodyPost_ret (v := .tuple #[.agg #[.string p0, .string p1, .string p2, .string p3, .string p4, .string p5], .int .i64 0]) ?_ rfl ⟨?_, FI.out _ _ _ _ _ _⟩
          · simp [results, Tryd.results41, go_sem, c0, c1, c2, c3, c4, c5]
          · rw [HPV.out]
        · have hps : (pr.toList == s.toList) = false := by
            rw [HTx.out]
            simpa [Go.ByteArray.toList_eq] using fun h => heq (congrArg ByteArray.mk (Array.toList_inj.1 h))
          have hpv : parseV s = .tuple #[Six.none.val, .int .i64 9] := by rw [HPv.out, decide_eq_false heq]; rfl
          have HPV := Lib.hid hpv
          clear HPv HTx hpv heq
          go_wp2
          refine bodyPost_ret (v := .tuple #[.agg #[.string ⟨#[]⟩, .string ⟨#[]⟩, .string ⟨#[]⟩, .string ⟨#[]⟩, .string ⟨#[]⟩, .string ⟨#[]⟩], .int .i64 9]) ?_ rfl ⟨?_, FI.out _ _ _ _ _ _⟩
          · simp [results, Tryd.results41, go_sem, c0, c1, c2, c3, c4, c5]
          · rw [HPV.out]; rfl
end Go.Proofs.YtlibncefiibgaaaDoor
