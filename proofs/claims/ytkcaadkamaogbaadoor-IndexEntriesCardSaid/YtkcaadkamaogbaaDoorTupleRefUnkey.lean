import Derived.Test.YtkcaadkamaogbaaDoorTupleUpTo
import Derived.Test.YtkcaadkamaogbaaDoorTupleOf
import Derived.Test.YtkcaadkamaogbaaDoorTupleUnkey
namespace Go.Proofs.YtkcaadkamaogbaaDoor
open Go Go.RowKit

/-- A row that lies in a block of its own is read whole. -/
theorem reads_block {w : World} {b n : Nat} {xs : List Value} {e : TypeId} {fz : Nat × Nat} (h : w.heap[b]? = some (.cells xs.toArray e fz)) (hl : xs.length = n) (hn : n ≤ maxLen) :
    Reads w 1 (.slice (some ⟨b, 0, none⟩) n n) n xs := by
  refine ⟨by omega, _, n, rfl, Nat.le_refl _, hn, fun j u hj => ⟨b, 0, rfl, (Array.getElem?_eq_some_iff.1 h).1, ?_⟩⟩
  rw [Nat.zero_add, Lib.cell_of_heap h j]
  simpa using hj

def zarr (s : ByteArray) : Nat → Array Value
  | 0 => #[.string ⟨#[]⟩, .string ⟨#[]⟩, .string ⟨#[]⟩, .string ⟨#[]⟩, .string ⟨#[]⟩, .string ⟨#[]⟩]
  | 1 => #[.string (zpart s 0), .string ⟨#[]⟩, .string ⟨#[]⟩, .string ⟨#[]⟩, .string ⟨#[]⟩, .string ⟨#[]⟩]
  | 2 => #[.string (zpart s 0), .string (zpart s 1), .string ⟨#[]⟩, .string ⟨#[]⟩, .string ⟨#[]⟩, .string ⟨#[]⟩]
  | 3 => #[.string (zpart s 0), .string (zpart s 1), .string (zpart s 2), .string ⟨#[]⟩, .string ⟨#[]⟩, .string ⟨#[]⟩]
  | 4 => #[.string (zpart s 0), .string (zpart s 1), .string (zpart s 2), .string (zpart s 3), .string ⟨#[]⟩, .string ⟨#[]⟩]
  | 5 => #[.string (zpart s 0), .string (zpart s 1), .string (zpart s 2), .string (zpart s 3), .string (zpart s 4), .string ⟨#[]⟩]
  | _ => #[.string (zpart s 0), .string (zpart s 1), .string (zpart s 2), .string (zpart s 3), .string (zpart s 4), .string (zpart s 5)]

theorem zarr_next (s : ByteArray) : ∀ k, k < 6 → (zarr s k).setIfInBounds k (.string (zpart s k)) = zarr s (k + 1) ∧ k < (zarr s k).size
  | 0, _ => ⟨rfl, by simp [zarr]⟩
  | 1, _ => ⟨rfl, by simp [zarr]⟩
  | 2, _ => ⟨rfl, by simp [zarr]⟩
  | 3, _ => ⟨rfl, by simp [zarr]⟩
  | 4, _ => ⟨rfl, by simp [zarr]⟩
  | 5, _ => ⟨rfl, by simp [zarr]⟩

theorem zarr_list (s : ByteArray) : zarr s 6 = (scells (Six.unk s).list).toArray := rfl

def RunkRel (w : World) (s : ByteArray) (r i : Value) (wr : World) : Prop :=
  ∃ k : Nat, i = .int .i64 (k : Int) ∧ k ≤ 6 ∧ r = .string (zrest s k) ∧ Below w.heap.size w wr ∧
    wr.heap[w.heap.size + 1]? = some (.cells (zarr s k) 9 (0, 0)) ∧
    wr.heap[w.heap.size]? = some (.cells (zarr s 0) 27 (0, 0))

theorem make_six (w : World) : (Instr.makeSlice 30 (.int .i64 6) (.int .i64 6)).run Tryd.prog w =
    .ok (.slice (some ⟨w.heap.size, 0, none⟩) 6 6) (w.alloc (.cells #[.string ⟨#[]⟩, .string ⟨#[]⟩, .string ⟨#[]⟩, .string ⟨#[]⟩, .string ⟨#[]⟩, .string ⟨#[]⟩] 9)) := by kernel_rfl

set_option maxRecDepth 100000 in
set_option maxHeartbeats 1000000 in
theorem refunkey_any (w : World) (s : ByteArray) (hs : s.size ≤ 1000000) :
    Calls Tryd.prog 30 #[.string s] w (GivesVal w (unkeyV s)) := by
  have hupto := fun (k : Nat) (w : World) => upto_any w (zrest s k) 0 (by have := zrest_size k s; omega)
  have HU := Lib.hid hupto
  clear hupto
  have hmk := make_six
  go_enter Tryd.func30, Tryd.ntmps30
  go_wp2
  go_loopw [5, 12] (fun r i wr => RunkRel w s r i wr) (fun _ i _ => 6 - (intOf i).toNat)
  case atStart =>
    refine ⟨0, rfl, by decide, rfl, (Below.refl _ _).alloc (Nat.le_refl _) _ |>.alloc (by simp) _, ?_, ?_⟩
    · have := heap_alloc_new (w.alloc (.cells (zarr s 0) 27)) (.cells (zarr s 0) 9)
      simpa [zarr] using this
    · have := heap_alloc_new w (.cells (zarr s 0) 27)
      exact (Below.heap_alloc (w.alloc (.cells (zarr s 0) 27)) _ _ (by simp)).trans this
  case round =>
    obtain ⟨k, rfl, hk, rfl, hb, hg, ht⟩ := hrel
    have HB := Lib.hid hb
    have HG := Lib.hid hg
    have HT := Lib.hid ht
    clear hb hg ht hmk
    by_cases hlt : k < 6
    · have hn := zarr_next s k hlt
      have hup := fun w => HU.out k w
      have hpa : cutA (zrest s k) 0 = zpart s k := rfl
      have hre : cutR (zrest s k) 0 = zrest s (k + 1) := (zrest_succ k s).symm
      unfold UpToPost at hup
      rw [hpa, hre] at hup
      have HC' := Lib.hid hup
      have HN := Lib.hid hn.1
      have hk6 := hn.2
      clear hup hn hpa hre HU
      generalize zrest s k = r0 at *
      generalize hr1 : zrest s (k + 1) = r1 at *
      have HR1 := Lib.hid hr1
      clear hr1
      generalize zpart s k = p0 at *
      generalize zarr s k = A0 at *
      generalize hA1 : zarr s (k + 1) = A1 at *
      have HA1 := Lib.hid hA1
      clear hA1
      go_wp2_with (go_at_call 39; go_must (refine (HC'.out _).mono ?_))
      rintro e w2 ⟨rfl, b2⟩
      have hg2 := below_block b2 HG.out (Array.getElem?_eq_some_iff.1 HG.out).1
      have ht2 := below_block b2 HT.out (Array.getElem?_eq_some_iff.1 HT.out).1
      have c0 := Lib.cell_of_heap hg2 k
      rw [Array.getElem?_eq_getElem hk6] at c0
      have f0 := Lib.frozen_of_heap hg2 k
      have hb2 := HB.out.trans (b2.mono HB.out.size)
      have HB2 := Lib.hid hb2
      have HG2 := Lib.hid hg2
      have HT2 := Lib.hid ht2
      clear b2 hg2 ht2 hb2
      go_wp2
      refine ⟨⟨k + 1, by go_num, by omega, by rw [HR1.out], HB2.out.setCell (by simp) _, ?_, ?_⟩, by simp [intOf]; omega⟩
      · rw [heap_setCell_same _ _ k _ _ _ HG2.out, HN.out, HA1.out]
      · rw [heap_setCell_other _ ⟨w.heap.size + 1, k, none⟩ _ _ (by simp)]
        exact HT2.out
    · obtain rfl : k = 6 := by omega
      clear HU hlt hk
      have hrd := reads_block (n := 6) HG.out rfl (by decide)
      have hof := of_any wr _ (Six.unk s) hrd
      have hsh := unk_short s _ hs
      have hsh9 := unk_short s 1000000000 (by omega)
      have hcheck := fun w => refcheck_any w (Six.unk s) hsh9
      have hkey := fun w => refkey_any w (Six.unk s) hsh
      have hbk : bytesOf (keyL (Six.unk s).bytes) = keyB' (Six.unk s) := rfl
      rw [hbk] at hkey
      have hv : (Six.unk s).val = .agg #[.string (zpart s 0), .string (zpart s 1), .string (zpart s 2), .string (zpart s 3), .string (zpart s 4), .string (zpart s 5)] := rfl
      have hu : unkeyV s = if ((Six.unk s).ok && decide (keyB' (Six.unk s) = s)) then .tuple #[(Six.unk s).val, .int .i64 0] else .tuple #[Six.none.val, .int .i64 9] := rfl
      rw [hv] at hof hcheck hkey hu
      have HOf := Lib.hid hof
      have HCh := Lib.hid hcheck
      have HKe := Lib.hid hkey
      have HUn := Lib.hid hu
      clear hrd hof hcheck hkey hu hbk hv hsh hsh9
      generalize keyB' (Six.unk s) = ky at *
      generalize (Six.unk s).ok = ok at *
      generalize zpart s 0 = p0 at *
      generalize zpart s 1 = p1 at *
      generalize zpart s 2 = p2 at *
      generalize zpart s 3 = p3 at *
      generalize zpart s 4 = p4 at *
      generalize zpart s 5 = p5 at *
      go_wp2_with (go_at_call 31; go_must (refine HOf.out.mono ?_))
      rintro e w2 ⟨rfl, b2⟩
      have hb2 := HB.out.trans (b2.mono HB.out.size)
      have ht2 := below_block b2 HT.out (Array.getElem?_eq_some_iff.1 HT.out).1
      have HB2 := Lib.hid hb2
      have HT2 := Lib.hid ht2
      clear b2 hb2 ht2
      go_wp2_with (go_at_call 10; go_must (refine (HCh.out _).mono ?_))
      rintro e w3 ⟨rfl, b3⟩
      have hsz : w.heap.size < w2.heap.size := (Array.getElem?_eq_some_iff.1 HT2.out).1
      have hb3 : Below w.heap.size w w3 := (HB2.out.alloc HB2.out.size _).trans (b3.mono (by simp; omega))
      have ht3 : w3.heap[w.heap.size]? = some (.cells (zarr s 0) 27 (0, 0)) :=
        below_block b3 ((Below.heap_alloc w2 _ _ hsz).trans HT2.out) (by simp; omega)
      have hk3 : w3.heap[w2.heap.size]? = some (.cells #[.string p0, .string p1, .string p2, .string p3, .string p4, .string p5] 27 (0, 0)) :=
        below_block b3 (heap_alloc_new w2 _) (by simp)
      have HB3 := Lib.hid hb3
      have HT3 := Lib.hid ht3
      have HK3 := Lib.hid hk3
      clear b3 hb3 ht3 hk3
      unfold checkV
      have fin : ∀ (w3 : World) (v0 v1 v2 v3 v4 v5 : Value), Below w.heap.size w w3 → Below w.heap.size w ((((((w3.setCell ⟨w.heap.size, 0, none⟩ v0).setCell ⟨w.heap.size, 1, none⟩ v1).setCell ⟨w.heap.size, 2, none⟩ v2).setCell ⟨w.heap.size, 3, none⟩ v3).setCell ⟨w.heap.size, 4, none⟩ v4).setCell ⟨w.heap.size, 5, none⟩ v5) := by
        intro w3 v0 v1 v2 v3 v4 v5 h
        exact (((((h.setCell (p := ⟨w.heap.size, 0, none⟩) (Nat.le_refl _) _).setCell (p := ⟨w.heap.size, 1, none⟩) (Nat.le_refl _) _).setCell (p := ⟨w.heap.size, 2, none⟩) (Nat.le_refl _) _).setCell (p := ⟨w.heap.size, 3, none⟩) (Nat.le_refl _) _).setCell (p := ⟨w.heap.size, 4, none⟩) (Nat.le_refl _) _).setCell (p := ⟨w.heap.size, 5, none⟩) (Nat.le_refl _) _
      have FI := Lib.hid fin
      clear fin
      cases ok with
      | false =>
        have ht := HT3.out
        have c0 := Lib.cell_of_heap ht 0
        have c1 := Lib.cell_of_heap ht 1
        have c2 := Lib.cell_of_heap ht 2
        have c3 := Lib.cell_of_heap ht 3
        have c4 := Lib.cell_of_heap ht 4
        have c5 := Lib.cell_of_heap ht 5
        have f0 := Lib.frozen_of_heap ht
        simp [zarr] at c0 c1 c2 c3 c4 c5
        clear ht
        go_wp2
        refine bodyPost_ret (v := .tuple #[.agg #[.string ⟨#[]⟩, .string ⟨#[]⟩, .string ⟨#[]⟩, .string ⟨#[]⟩, .string ⟨#[]⟩, .string ⟨#[]⟩], .int .i64 9]) ?_ rfl ⟨?_, FI.out _ _ _ _ _ _ _ HB3.out⟩
        · simp [results, Tryd.results30, go_sem, c0, c1, c2, c3, c4, c5]
        · rw [HUn.out]; rfl
      | true =>
        have hk3 := HK3.out
        have e0 := Lib.cell_of_heap hk3 0
        have e1 := Lib.cell_of_heap hk3 1
        have e2 := Lib.cell_of_heap hk3 2
        have e3 := Lib.cell_of_heap hk3 3
        have e4 := Lib.cell_of_heap hk3 4
        have e5 := Lib.cell_of_heap hk3 5
        simp at e0 e1 e2 e3 e4 e5
        clear hk3
        go_wp2_with (go_at_call 25; go_must (refine (HKe.out _).mono ?_))
        rintro e w4 ⟨rfl, b4⟩
        have hb4 := HB3.out.trans (b4.mono HB3.out.size)
        have ht := below_block b4 HT3.out (Array.getElem?_eq_some_iff.1 HT3.out).1
        have hk4 := below_block b4 HK3.out (Array.getElem?_eq_some_iff.1 HK3.out).1
        have HB4 := Lib.hid hb4
        clear e0 e1 e2 e3 e4 e5 b4 hb4
        have c0 := Lib.cell_of_heap ht 0
        have c1 := Lib.cell_of_heap ht 1
        have c2 := Lib.cell_of_heap ht 2
        have c3 := Lib.cell_of_heap ht 3
        have c4 := Lib.cell_of_heap ht 4
        have c5 := Lib.cell_of_heap ht 5
        have f0 := Lib.frozen_of_heap ht
        simp [zarr] at c0 c1 c2 c3 c4 c5
        have e0 := Lib.cell_of_heap hk4 0
        have e1 := Lib.cell_of_heap hk4 1
        have e2 := Lib.cell_of_heap hk4 2
        have e3 := Lib.cell_of_heap hk4 3
        have e4 := Lib.cell_of_heap hk4 4
        have e5 := Lib.cell_of_heap hk4 5
        simp at e0 e1 e2 e3 e4 e5
        clear ht hk4
        by_cases heq : ky = s
        · have hps : (ky.toList == s.toList) = true := by rw [heq]; simp
          have hpv : unkeyV s = .tuple #[.agg #[.string p0, .string p1, .string p2, .string p3, .string p4, .string p5], .int .i64 0] := by rw [HUn.out, decide_eq_true heq]; rfl
          have HPV := Lib.hid hpv
          clear HUn hpv heq
          go_wp2
          refine bodyPost_ret (v := .tuple #[.agg #[.string p0, .string p1, .string p2, .string p3, .string p4, .string p5], .int .i64 0]) ?_ rfl ⟨?_, FI.out _ _ _ _ _ _ _ HB4.out⟩
          · simp [results, Tryd.results30, go_sem, c0, c1, c2, c3, c4, c5]
          · rw [HPV.out]
        · have hps : (ky.toList == s.toList) = false := by
            simpa [Go.ByteArray.toList_eq] using fun h => heq (congrArg ByteArray.mk (Array.toList_inj.1 h))
          have hpv : unkeyV s = .tuple #[Six.none.val, .int .i64 9] := by rw [HUn.out, decide_eq_false heq]; rfl
          have HPV := Lib.hid hpv
          clear HUn hpv heq
          go_wp2
          refine bodyPost_ret (v := .tuple #[.agg #[.string ⟨#[]⟩, .string ⟨#[]⟩, .string ⟨#[]⟩, .string ⟨#[]⟩, .string ⟨#[]⟩, .string ⟨#[]⟩], .int .i64 9]) ?_ rfl ⟨?_, FI.out _ _ _ _ _ _ _ HB4.out⟩
          · simp [results, Tryd.results30, go_sem, c0, c1, c2, c3, c4, c5]
          · rw [HPV.out]; rfl
end Go.Proofs.YtkcaadkamaogbaaDoor
