import Derived.Test.YtodjgdaaggajcaaDoorFrameRefSeal
import Derived.Test.YtodjgdaaggajcaaDoorDrawn
namespace Go.Proofs.YtodjgdaaggajcaaDoor
open Go Go.RowKit

set_option maxRecDepth 100000 in
set_option maxHeartbeats 1000000 in
theorem frameSums_walk (w : World) (a : Option Addr) (n cap : Nat) (l : List UInt8) (a2 : Option Addr) (n2 cap2 : Nat) (mo : List UInt8) (h : Reads w 1 (.slice a n cap) n (bcells l)) (hm : Reads w 1 (.slice a2 n2 cap2) n2 (bcells mo)) (hst : Steps w) :
    Calls Tryd.prog 3 #[.slice a n cap, .slice a2 n2 cap2] w (SaysTrue w) := by
  obtain ⟨i0, hi, hz0, hz1, hz2⟩ := info_parts info5
  obtain ⟨_, _, hv, h1, h2⟩ := h.le
  cases hv
  unfold maxLen at h2
  obtain ⟨_, _, hv, h12, h22⟩ := hm.le
  cases hv
  unfold maxLen at h22
  have hl : l.length = n := by have := h.1; simpa [bcells_length] using this
  have Hl := Lib.hid hl
  have HR := Lib.hid h
  have HM := Lib.hid hm
  have ST := Lib.hid hst
  clear hl h hm hst
  have ways : (3000 : Int) < n ∨ (¬ (3000 : Int) < n ∧ (3000 : Int) < n2) ∨ (¬ (3000 : Int) < n ∧ ¬ (3000 : Int) < n2) := by omega
  rcases ways with hn | ⟨hn, hn2⟩ | ⟨hn, hn2⟩
  · go_enter Tryd.func3, Tryd.ntmps3
    go_wp2_with (go_at_call 7; go_must (refine (frame_fixed w ST.out).mono ?_))
    rintro e w1 ⟨rfl, b1⟩
    go_wp2
    go_ret
    exact ⟨rfl, b1⟩
  · go_enter Tryd.func3, Tryd.ntmps3
    go_wp2_with (go_at_call 7; go_must (refine (frame_fixed w ST.out).mono ?_))
    rintro e w1 ⟨rfl, b1⟩
    go_wp2
    go_ret
    exact ⟨rfl, b1⟩
  · have hn' : n ≤ 3000 := by omega
    have hn2' : n2 ≤ 3000 := by omega
    have hnx := next_seal (l := l) (by rw [Hl.out]; omega) mo
    have hnn := nextN_seal (l := l) (by rw [Hl.out]; omega) mo
    rw [Hl.out] at hnn
    have hsl := sealL_length l
    rw [Hl.out] at hsl
    have Hnx := Lib.hid hnx
    have Hnn := Lib.hid hnn
    have Hsl := Lib.hid hsl
    clear hnx hnn hsl
    go_enter Tryd.func3, Tryd.ntmps3
    go_wp2_with (go_at_call 7; go_must (refine (frame_fixed w ST.out).mono ?_))
    rintro e w1 ⟨rfl, b1⟩
    have r1 := HR.out.below' b1
    have st1 := ST.out.below b1
    have bs1 := b1.size
    go_wp2_with (go_at_call 8; go_must (refine (seal_own w1 _ n l r1 (by omega) st1).mono ?_))
    rintro e w2 ⟨g, cp, rfl, own2, b2⟩
    rw [Hsl.out] at own2 ⊢
    have rs2 := ownsRow.reads own2
    have bs2 := b2.size
    have b12 : Below w.heap.size w w2 := b1.trans (b2.mono bs1)
    have RS2 := Lib.hid rs2
    have hsrc := Reads.src (P := Tryd.prog) (tx := 22) Tryd.underlying22 (rs2.alloc (.cells #[] 5)) (bcells_one (sealL l))
    have hf0 := fresh_empty w2 5 1
    clear own2 rs2 b1 b2 r1 st1
    go_wp2_with (at_builtin; go_must (refine wpList_append_fresh rfl _ _ 22 22 rfl w2.heap.size 5 i0 (.int .u8 0) 1 1 Tryd.underlying22 hi hz0 hz1 hz2 rfl _ _ _ rfl hf0 _ _ _ rfl hsrc ?_ ?_ ?_ ?_))
    · unfold maxLen; omega
    · omega
    · simp
    intro v3 w3 f3 g3 b3 m3
    have b23 : Below w2.heap.size w2 w3 := ((Below.refl _ _).alloc (Nat.le_refl _) _).trans b3
    have bs3 := b23.size
    have b13 : Below w.heap.size w w3 := b12.trans (b23.mono (by omega))
    have rm3 := HM.out.below' b13
    have hsrc2 := Reads.src (P := Tryd.prog) (tx := 22) Tryd.underlying22 rm3 (bcells_one mo)
    clear hsrc hf0 g3 m3 b3
    go_wp2_with (at_builtin; go_must (refine wpList_append_fresh rfl _ _ 22 22 rfl w2.heap.size 5 i0 (.int .u8 0) 1 1 Tryd.underlying22 hi hz0 hz1 hz2 rfl _ _ _ rfl f3 _ _ _ rfl hsrc2 ?_ ?_ ?_ ?_))
    · unfold maxLen; omega
    · omega
    · omega
    intro v4 w4 f4 g4 b4 m4
    simp only [List.nil_append, ← bcells_append] at f4
    have b24 := b23.trans b4
    have bs4 := b24.size
    have b14 : Below w.heap.size w w4 := b12.trans (b24.mono (by omega))
    have st4 := ST.out.below b14
    have F4 := Lib.hid f4
    clear f3 hsrc2 rm3 g4 m4 b4 f4 b23 b13
    go_wp2_with (go_at_call 9; go_must (refine (fnext_any w4 v4 _ (sealL l ++ mo) F4.out.1 (by omega) st4).mono ?_))
    rintro e w5 ⟨v6, rfl, f6, b5⟩
    rw [Hnx.out] at f6 ⊢
    rw [Hnn.out]
    have b25 := b24.trans (b5.mono bs4)
    have b15 : Below w.heap.size w w5 := b14.trans (b5.mono (by omega))
    have r5 := Lib.hid (HR.out.below' b15)
    have rs5 := Lib.hid (RS2.out.below' b25)
    have rp5 := Lib.hid f6.1
    have st5 := Lib.hid (ST.out.below b15)
    have B15 := Lib.hid b15
    clear f6 b5 b24 b25 b12 b14 b15 st4
    go_wp2_with fail
    refine wp_region_all (by kernel_rfl) [eqF (.slice a n cap), eqF (.int .u32 (sumL l : Int)), eqF (.slice a n cap), eqF (.int .u32 (sumL l : Int)), eqF (.bool true), eqF (.bool true), eqF (.slice (some ⟨g, 0, none⟩) (8 + n) cp), eqF (.string ⟨(sealL l).toArray⟩), eqF (.slice a n cap), bytesF (sealL l), eqF (.string ⟨(sealL l).toArray⟩), eqF (.bool true), eqF (.bool true), eqF (.bool true), eqF (.int .i64 0), eqF (.bool true), eqF (.bool true), eqF (.bool true), eqF (.int .i64 (8 + (n : Int))), eqF (.slice (some ⟨g, 0, none⟩) (8 + n) cp), eqF (.int .i64 (8 + (n : Int))), eqF (.bool true), eqF (.bool true), eqF (.bool true), eqF (v6), eqF (.string ⟨l.toArray⟩), eqF (.slice a n cap), eqF (.string ⟨l.toArray⟩), eqF (.bool true), eqF (.bool true), eqF (.bool true)] (by kernel_rfl) ⟨?_, ?_, ?_, ?_, ?_, ?_, ?_, ?_, ?_, ?_, ?_, ?_, ?_, ?_, ?_, ?_, ?_, ?_, ?_, ?_, ?_, ?_, ?_, ?_, ?_, ?_, ?_, ?_, ?_, ?_, ?_, trivial⟩ ⟨trivial, trivial, trivial, trivial, trivial, trivial, fun _ _ h => h, fun _ _ h => h, fun _ _ h => h, fun _ _ h => h, fun _ _ h => h, fun _ _ h => h, trivial, trivial, fun _ _ h => h, fun _ _ h => h, trivial, trivial, fun _ _ h => h, fun _ _ h => h, fun _ _ h => h, fun _ _ h => h, trivial, trivial, fun _ _ h => h, fun _ _ h => h, fun _ _ h => h, fun _ _ h => h, fun _ _ h => h, trivial, trivial, trivial⟩ ?_
    · intro ρ wx hρ hbx hl
      have e0 : ρ (.tmp 0) = .slice a n cap := hρ.tmp 0 (by decide +kernel)
      refine y_val (v := .slice a n cap) ?_ rfl
      simp [execOp, go_sem, e0]
    · intro ρ wx hρ hbx hl
      have e31 : ρ (.tmp 31) = .slice a n cap := hl 0 (by decide +kernel) 31 rfl
      refine y_call (f := 10) (args := #[.slice a n cap]) (by simp [execOp, resolve, invoke, hρ.func, go_sem, e31]) ?_
      refine (sum_any wx _ n l (r5.out.below' hbx) (st5.out.below hbx)).mono ?_
      rintro e w6 ⟨rfl, rfl⟩
      exact ⟨_, rfl, rfl, Below.refl _ _⟩
    · intro ρ wx hρ hbx hl
      have e0 : ρ (.tmp 0) = .slice a n cap := hρ.tmp 0 (by decide +kernel)
      refine y_val (v := .slice a n cap) ?_ rfl
      simp [execOp, go_sem, e0]
    · intro ρ wx hρ hbx hl
      have e33 : ρ (.tmp 33) = .slice a n cap := hl 2 (by decide +kernel) 33 rfl
      refine y_call (f := 11) (args := #[.slice a n cap]) (by simp [execOp, resolve, invoke, hρ.func, go_sem, e33]) ?_
      refine (refsum_any wx _ n l (r5.out.below' hbx)).mono ?_
      rintro e w6 ⟨rfl, rfl⟩
      exact ⟨_, rfl, rfl, Below.refl _ _⟩
    · intro ρ wx hρ hbx hl
      have e32 : ρ (.tmp 32) = .int .u32 (sumL l : Int) := hl 1 (by decide +kernel) 32 rfl
      have e34 : ρ (.tmp 34) = .int .u32 (sumL l : Int) := hl 3 (by decide +kernel) 34 rfl
      refine y_val (v := .bool true) ?_ rfl
      simp [execOp, go_sem, e32, e34]
    · intro ρ wx hρ hbx hl
      have e35 : ρ (.tmp 35) = .bool true := hl 4 (by decide +kernel) 35 rfl
      refine y_val (v := .bool true) ?_ rfl
      simp [execOp, go_sem, e35]
    · intro ρ wx hρ hbx hl
      have e5 : ρ (.tmp 5) = .slice (some ⟨g, 0, none⟩) (8 + n) cp := hρ.tmp 5 (by decide +kernel)
      refine y_val (v := .slice (some ⟨g, 0, none⟩) (8 + n) cp) ?_ rfl
      simp [execOp, go_sem, e5]
    · intro ρ wx hρ hbx hl
      have e37 : ρ (.tmp 37) = .slice (some ⟨g, 0, none⟩) (8 + n) cp := hl 6 (by decide +kernel) 37 rfl
      have hc := Reads.conv (P := Tryd.prog) (src := 22) (e := 5) (dst := 9) Tryd.underlying22 Tryd.underlying5 Tryd.underlying9 (rs5.out.below' hbx)
      refine y_val (v := .string ⟨(sealL l).toArray⟩) ?_ rfl
      simp [execOp, e37, hc]
    · intro ρ wx hρ hbx hl
      have e0 : ρ (.tmp 0) = .slice a n cap := hρ.tmp 0 (by decide +kernel)
      refine y_val (v := .slice a n cap) ?_ rfl
      simp [execOp, go_sem, e0]
    · intro ρ wx hρ hbx hl
      have e39 : ρ (.tmp 39) = .slice a n cap := hl 8 (by decide +kernel) 39 rfl
      refine y_call (f := 12) (args := #[.slice a n cap]) (by simp [execOp, resolve, invoke, hρ.func, go_sem, e39]) ?_
      refine (refseal_any wx _ n l (r5.out.below' hbx) (by omega)).mono ?_
      rintro e w6 ⟨v7, rfl, f7, b7⟩
      exact ⟨v7, rfl, ⟨_, f7.1⟩, b7⟩
    · intro ρ wx hρ hbx hl
      have e40 := hl 9 (by decide +kernel) 40 rfl
      obtain ⟨k, hk⟩ := e40
      have hc := Reads.conv (P := Tryd.prog) (src := 22) (e := 5) (dst := 9) Tryd.underlying22 Tryd.underlying5 Tryd.underlying9 (hk)
      refine y_val (v := .string ⟨(sealL l).toArray⟩) ?_ rfl
      simp [execOp, hc]
    · intro ρ wx hρ hbx hl
      have e38 : ρ (.tmp 38) = .string ⟨(sealL l).toArray⟩ := hl 7 (by decide +kernel) 38 rfl
      have e41 : ρ (.tmp 41) = .string ⟨(sealL l).toArray⟩ := hl 10 (by decide +kernel) 41 rfl
      refine y_val (v := .bool true) ?_ rfl
      simp [execOp, go_sem, e38, e41]
    · intro ρ wx hρ hbx hl
      have e36 : ρ (.tmp 36) = .bool true := hl 5 (by decide +kernel) 36 rfl
      have e42 : ρ (.tmp 42) = .bool true := hl 11 (by decide +kernel) 42 rfl
      refine y_val (v := .bool true) ?_ rfl
      simp [execOp, go_sem, e36, e42]
    · intro ρ wx hρ hbx hl
      have e43 : ρ (.tmp 43) = .bool true := hl 12 (by decide +kernel) 43 rfl
      refine y_val (v := .bool true) ?_ rfl
      simp [execOp, go_sem, e43]
    · intro ρ wx hρ hbx hl
      have e8 : ρ (.tmp 8) = .int .i64 0 := hρ.tmp 8 (by decide +kernel)
      refine y_val (v := .int .i64 0) ?_ rfl
      simp [execOp, go_sem, e8]
    · intro ρ wx hρ hbx hl
      have e45 : ρ (.tmp 45) = .int .i64 0 := hl 14 (by decide +kernel) 45 rfl
      refine y_val (v := .bool true) ?_ rfl
      simp [execOp, hρ.const, go_sem, e45]
    · intro ρ wx hρ hbx hl
      have e44 : ρ (.tmp 44) = .bool true := hl 13 (by decide +kernel) 44 rfl
      have e46 : ρ (.tmp 46) = .bool true := hl 15 (by decide +kernel) 46 rfl
      refine y_val (v := .bool true) ?_ rfl
      simp [execOp, go_sem, e44, e46]
    · intro ρ wx hρ hbx hl
      have e47 : ρ (.tmp 47) = .bool true := hl 16 (by decide +kernel) 47 rfl
      refine y_val (v := .bool true) ?_ rfl
      simp [execOp, go_sem, e47]
    · intro ρ wx hρ hbx hl
      have e7 : ρ (.tmp 7) = .int .i64 (8 + (n : Int)) := hρ.tmp 7 (by decide +kernel)
      refine y_val (v := .int .i64 (8 + (n : Int))) ?_ rfl
      simp [execOp, go_sem, e7]
    · intro ρ wx hρ hbx hl
      have e5 : ρ (.tmp 5) = .slice (some ⟨g, 0, none⟩) (8 + n) cp := hρ.tmp 5 (by decide +kernel)
      refine y_val (v := .slice (some ⟨g, 0, none⟩) (8 + n) cp) ?_ rfl
      simp [execOp, go_sem, e5]
    · intro ρ wx hρ hbx hl
      have e50 : ρ (.tmp 50) = .slice (some ⟨g, 0, none⟩) (8 + n) cp := hl 19 (by decide +kernel) 50 rfl
      refine y_val (v := .int .i64 (8 + (n : Int))) ?_ rfl
      simp [execOp, go_sem, e50]
    · intro ρ wx hρ hbx hl
      have e49 : ρ (.tmp 49) = .int .i64 (8 + (n : Int)) := hl 18 (by decide +kernel) 49 rfl
      have e51 : ρ (.tmp 51) = .int .i64 (8 + (n : Int)) := hl 20 (by decide +kernel) 51 rfl
      refine y_val (v := .bool true) ?_ rfl
      simp [execOp, go_sem, e49, e51]
    · intro ρ wx hρ hbx hl
      have e48 : ρ (.tmp 48) = .bool true := hl 17 (by decide +kernel) 48 rfl
      have e52 : ρ (.tmp 52) = .bool true := hl 21 (by decide +kernel) 52 rfl
      refine y_val (v := .bool true) ?_ rfl
      simp [execOp, go_sem, e48, e52]
    · intro ρ wx hρ hbx hl
      have e53 : ρ (.tmp 53) = .bool true := hl 22 (by decide +kernel) 53 rfl
      refine y_val (v := .bool true) ?_ rfl
      simp [execOp, go_sem, e53]
    · intro ρ wx hρ hbx hl
      have e6 : ρ (.tmp 6) = v6 := hρ.tmp 6 (by decide +kernel)
      refine y_val (v := v6) ?_ rfl
      simp [execOp, go_sem, e6]
    · intro ρ wx hρ hbx hl
      have e55 : ρ (.tmp 55) = v6 := hl 24 (by decide +kernel) 55 rfl
      have hc := Reads.conv (P := Tryd.prog) (src := 22) (e := 5) (dst := 9) Tryd.underlying22 Tryd.underlying5 Tryd.underlying9 (rp5.out.below' hbx)
      refine y_val (v := .string ⟨l.toArray⟩) ?_ rfl
      simp [execOp, e55, hc]
    · intro ρ wx hρ hbx hl
      have e0 : ρ (.tmp 0) = .slice a n cap := hρ.tmp 0 (by decide +kernel)
      refine y_val (v := .slice a n cap) ?_ rfl
      simp [execOp, go_sem, e0]
    · intro ρ wx hρ hbx hl
      have e57 : ρ (.tmp 57) = .slice a n cap := hl 26 (by decide +kernel) 57 rfl
      have hc := Reads.conv (P := Tryd.prog) (src := 22) (e := 5) (dst := 9) Tryd.underlying22 Tryd.underlying5 Tryd.underlying9 (r5.out.below' hbx)
      refine y_val (v := .string ⟨l.toArray⟩) ?_ rfl
      simp [execOp, e57, hc]
    · intro ρ wx hρ hbx hl
      have e56 : ρ (.tmp 56) = .string ⟨l.toArray⟩ := hl 25 (by decide +kernel) 56 rfl
      have e58 : ρ (.tmp 58) = .string ⟨l.toArray⟩ := hl 27 (by decide +kernel) 58 rfl
      refine y_val (v := .bool true) ?_ rfl
      simp [execOp, go_sem, e56, e58]
    · intro ρ wx hρ hbx hl
      have e54 : ρ (.tmp 54) = .bool true := hl 23 (by decide +kernel) 54 rfl
      have e59 : ρ (.tmp 59) = .bool true := hl 28 (by decide +kernel) 59 rfl
      refine y_val (v := .bool true) ?_ rfl
      simp [execOp, go_sem, e54, e59]
    · intro ρ wx hρ hbx hl
      have e60 : ρ (.tmp 60) = .bool true := hl 29 (by decide +kernel) 60 rfl
      refine y_val (v := .bool true) ?_ rfl
      simp [execOp, go_sem, e60]
    · intro aa wz hdef hsz hlk hbz hf
      have h4 : aa.tmps.getD 4 undef = .bool true := hf 30 _ 4 rfl rfl
      have hbz' : Below w.heap.size w wz := B15.out.trans (hbz.mono B15.out.size)
      have H4 := Lib.hid h4
      clear h4
      go_wp2
      have h4 := H4.out
      refine bodyPost_ret (v := .bool true) ?_ hdef ⟨rfl, hbz'⟩
      rw [Array.getD_eq_getD_getElem?] at h4
      simp [results, Tryd.results3, go_sem, h4]
end Go.Proofs.YtodjgdaaggajcaaDoor
