/- What the proof stands on, part 9. -/
import Derived.Test.YtoibhkmlebcepaaDoorMg8
namespace Go.Proofs.YtoibhkmlebcepaaDoor
open Go Go.RowKit

theorem enc_yes {w : World} {e : Ending} {w' : World} (h : EncPost w 1 oneE e w') : ∃ a cap, e = .returned (.tuple #[.slice a 13 cap, .int .i64 0]) ∧ Reads w' 1 (.slice a 13 cap) 13 (bcells (sealL [1, 1, 0, 1, 97])) ∧ Below w.heap.size w w' := by
  unfold EncPost at h
  rw [if_pos right_one, rec_one] at h
  obtain ⟨v, rfl, hf, hb⟩ := h
  rw [sealL_length] at hf
  obtain ⟨a, cap, rfl, _, _⟩ := hf.1.le
  exact ⟨a, cap, rfl, hf.1, hb⟩

theorem enc_no {w : World} {e : Ending} {w' : World} (h : EncPost w 0 [] e w') : GivesVal w (.tuple #[.slice none 0 0, .int .i64 9]) e w' := by
  unfold EncPost at h
  rw [if_neg (by rw [right_none]; decide)] at h
  exact h

theorem rep_one {w : World} {e : Ending} {w' : World} (h : RepPost w (sealL [1, 1, 0, 1, 97]) e w') : ∃ g cap sa scap, e = .returned (.tuple #[.slice (some ⟨g, 0, none⟩) 1 cap, .int .i64 13]) ∧ 1 ≤ cap ∧ cap ≤ maxLen ∧ g < w'.heap.size ∧
    w'.cell? ⟨g, 0, none⟩ = some (.int .u64 1) ∧ w'.cell? ⟨g, 1, none⟩ = some (.slice sa 1 scap) ∧ Reads w' 3 (.slice sa 1 scap) 1 (ecells oneE) ∧ Below w.heap.size w w' := by
  obtain ⟨v, rfl, hc, hb⟩ := h
  rw [repl_one (by decide) dec_one] at hc ⊢
  obtain ⟨a, cap, rfl, h1, h2, h3⟩ := hc.see
  obtain ⟨g, sa, scap, rfl, hg, c0, c1, hr⟩ := h3 0 _ rfl
  exact ⟨g, cap, sa, scap, by rw [sealL_length]; rfl, h1, h2, hg, c0, c1, hr, hb⟩

theorem rep_none {w : World} {e : Ending} {w' : World} (h : RepPost w [] e w') : ∃ a cap, e = .returned (.tuple #[.slice a 0 cap, .int .i64 0]) ∧ Below w.heap.size w w' := by
  obtain ⟨v, rfl, hc, hb⟩ := h
  rw [repl_none] at hc ⊢
  obtain ⟨a, cap, rfl, _, _⟩ := hc.form
  exact ⟨a, cap, rfl, hb⟩

theorem ereads_nil (w : World) : Reads w 3 (.slice none 0 0) 0 (ecells []) :=
  ⟨rfl, none, 0, rfl, Nat.le_refl _, by decide, fun j u hj => by simp [ecells] at hj⟩

set_option maxRecDepth 100000 in
set_option maxHeartbeats 2000000 in
theorem wal_fixed (w : World) (hst : Steps w) : Calls Tryd.prog 7 #[] w (GivesVal w (.bool true)) := by
  have r0 := (one_reads w).below' ((Below.refl _ (w.alloc (.cells #[.string ⟨#[97]⟩, .int .u64 1, .bool false] 48))).alloc (Nat.le_refl _) (.cells #[.int .u64 1, .slice (some ⟨w.heap.size, 0, none⟩) 1 1] 25))
  have b0 : Below w.heap.size w ((w.alloc (.cells #[.string ⟨#[97]⟩, .int .u64 1, .bool false] 48)).alloc (.cells #[.int .u64 1, .slice (some ⟨w.heap.size, 0, none⟩) 1 1] 25)) :=
    ((Below.refl _ w).alloc (Nat.le_refl _) _).alloc (by simp) _
  have g0 := (two_boxes w #[.string ⟨#[97]⟩, .int .u64 1, .bool false] #[.int .u64 1, .slice (some ⟨w.heap.size, 0, none⟩) 1 1] 48 25).2
  have s0 := hst.below b0
  have R0 := Lib.hid r0
  have B0 := Lib.hid b0
  have ST0 := Lib.hid s0
  clear r0 b0 s0 hst
  go_enter Tryd.func7, Tryd.ntmps7
  have henc := encode_any ((w.alloc (.cells #[.string ⟨#[97]⟩, .int .u64 1, .bool false] 48)).alloc (.cells #[.int .u64 1, .slice (some ⟨w.heap.size, 0, none⟩) 1 1] 25)) 1 _ 1 1 oneE R0.out rfl ⟨Nat.le_refl _, by decide⟩ (by decide) (by decide) ST0.out
  have he2 := fun w h => encode_any w 0 none 0 0 [] (ereads_nil w) rfl ⟨Nat.le_refl _, by decide⟩ (by decide) (by decide) h
  have HE := Lib.hid henc
  have HE2 := Lib.hid he2
  clear henc he2
  go_wp2_with (go_at_call 9; go_must (refine HE.out.mono ?_))
  intro e w1 hp1
  obtain ⟨a1, cap1, rfl, r1, b1⟩ := enc_yes hp1
  have G0 := Lib.hid g0
  have HV := Lib.hid r1
  clear hp1 r1 HE g0
  obtain ⟨_, _, hv, hc11, hc12⟩ := HV.out.le
  cases hv
  unfold maxLen at hc12
  replace B0 := Lib.hid (B0.out.trans (b1.mono B0.out.size))
  replace ST0 := Lib.hid (ST0.out.below b1)
  replace R0 := Lib.hid (R0.out.below' b1)
  replace G0 := Lib.hid (below_block b1 G0.out (Array.getElem?_eq_some_iff.1 G0.out).1)
  clear b1
  have hrp := replay_any w1 _ _ (Sl.of_reads (l := sealL [1, 1, 0, 1, 97]) HV.out (by decide)) (by decide) ST0.out
  have HP := Lib.hid hrp
  clear hrp
  go_wp2_with (go_at_call 16; go_must (refine HP.out.mono ?_))
  intro e w2 hp2
  obtain ⟨g, gcap, sa, scap, rfl, hg1, hg2, hgl, c0, c1, hr, b2⟩ := rep_one hp2
  unfold maxLen at hg2
  have HQ := Lib.hid hr
  have C0 := Lib.hid (And.intro hgl (And.intro c0 c1))
  clear hp2 HP hr HV hgl c0 c1
  replace B0 := Lib.hid (B0.out.trans (b2.mono B0.out.size))
  replace ST0 := Lib.hid (ST0.out.below b2)
  replace R0 := Lib.hid (R0.out.below' b2)
  replace G0 := Lib.hid (below_block b2 G0.out (Array.getElem?_eq_some_iff.1 G0.out).1)
  clear b2
  go_wp2_with (go_at_call 9; go_must (refine (HE2.out _ ST0.out).mono ?_))
  intro e w3 hp3
  obtain ⟨rfl, b3⟩ := enc_no hp3
  clear hp3
  have hc3 : g < w3.heap.size ∧ w3.cell? ⟨g, 0, none⟩ = some (.int .u64 1) ∧ w3.cell? ⟨g, 1, none⟩ = some (.slice sa 1 scap) :=
    ⟨by have := b3.size; have := C0.out.1; omega, (b3.cell (p := ⟨g, 0, none⟩) C0.out.1).trans C0.out.2.1, (b3.cell (p := ⟨g, 1, none⟩) C0.out.1).trans C0.out.2.2⟩
  clear C0
  have C0 := Lib.hid hc3
  clear hc3
  replace B0 := Lib.hid (B0.out.trans (b3.mono B0.out.size))
  replace ST0 := Lib.hid (ST0.out.below b3)
  replace R0 := Lib.hid (R0.out.below' b3)
  replace G0 := Lib.hid (below_block b3 G0.out (Array.getElem?_eq_some_iff.1 G0.out).1)
  replace HQ := Lib.hid (HQ.out.below' b3)
  clear b3
  have hrp := replay_any w3 (.slice none 0 0) [] (.inl ⟨⟨_, rfl⟩, rfl⟩) (by decide) ST0.out
  have HP := Lib.hid hrp
  clear hrp
  go_wp2_with (go_at_call 16; go_must (refine HP.out.mono ?_))
  intro e w4 hp4
  obtain ⟨a3, cap3, rfl, b4⟩ := rep_none hp4
  clear hp4
  have hgl : g < w4.heap.size := by have := b4.size; have := C0.out.1; omega
  have c0 := (b4.cell (p := ⟨g, 0, none⟩) C0.out.1).trans C0.out.2.1
  have c1 := (b4.cell (p := ⟨g, 1, none⟩) C0.out.1).trans C0.out.2.2
  clear C0
  replace B0 := Lib.hid (B0.out.trans (b4.mono B0.out.size))
  replace R0 := Lib.hid (R0.out.below' b4)
  replace G0 := Lib.hid (below_block b4 G0.out (Array.getElem?_eq_some_iff.1 G0.out).1)
  replace HQ := Lib.hid (HQ.out.below' b4)
  clear b4
  have hpl : w.heap.size + 1 < w4.heap.size := (Array.getElem?_eq_some_iff.1 G0.out).1
  have d0 := Lib.cell_of_heap G0.out 0
  have d1 := Lib.cell_of_heap G0.out 1
  simp at d0 d1
  have HR := R0
  clear R0 G0 HP HE2 ST0
  have hBs := B0.out.size
  generalize hp0 : w.heap.size + 1 = p0 at *
  generalize he0 : w.heap.size = e0 at *
  go_wp2_with fail
  refine wp_region_all (by kernel_rfl) [eqF (.int .i64 0), eqF (.bool true), eqF (.bool true), eqF (.int .i64 9), eqF (.bool true), eqF (.bool true), eqF (.bool true), eqF (.slice (some ⟨g, 0, none⟩) 1 gcap), eqF (.int .i64 1), eqF (.bool true), eqF (.bool true), eqF (.bool true), eqF (.int .i64 13), eqF (.slice a1 13 cap1), eqF (.int .i64 13), eqF (.bool true), eqF (.bool true), eqF (.bool true), eqF (.slice a3 0 cap3), eqF (.int .i64 0), eqF (.bool true), eqF (.bool true), eqF (.bool true), eqF (.int .i64 0), eqF (.bool true), eqF (.bool true), eqF (.bool true), eqF (.slice (some ⟨g, 0, none⟩) 1 gcap), eqF (.pointer (some ⟨g, 0, none⟩)), eqF (.agg #[.int .u64 1, .slice sa 1 scap]), eqF (.agg #[.int .u64 1, .slice (some ⟨e0, 0, none⟩) 1 1]), eqF (.bool true), eqF (.bool true), eqF (.bool true)] (by kernel_rfl) ⟨?_, ?_, ?_, ?_, ?_, ?_, ?_, ?_, ?_, ?_, ?_, ?_, ?_, ?_, ?_, ?_, ?_, ?_, ?_, ?_, ?_, ?_, ?_, ?_, ?_, ?_, ?_, ?_, ?_, ?_, ?_, ?_, ?_, ?_, trivial⟩ ⟨trivial, trivial, trivial, fun _ _ h => h, fun _ _ h => h, trivial, trivial, fun _ _ h => h, fun _ _ h => h, fun _ _ h => h, trivial, trivial, fun _ _ h => h, fun _ _ h => h, fun _ _ h => h, fun _ _ h => h, trivial, trivial, fun _ _ h => h, fun _ _ h => h, fun _ _ h => h, trivial, trivial, fun _ _ h => h, fun _ _ h => h, trivial, trivial, fun _ _ h => h, fun _ _ h => h, fun _ _ h => h, fun _ _ h => h, fun _ _ h => h, trivial, trivial, trivial⟩ ?_
  · intro ρ wx hρ hbx hl
    have e3 : ρ (.tmp 3) = .int .i64 0 := hρ.tmp 3 (by decide +kernel)
    refine y_val (v := .int .i64 0) ?_ rfl
    simp [execOp, go_sem, e3]
  · intro ρ wx hρ hbx hl
    have e32 : ρ (.tmp 32) = .int .i64 0 := hl 0 (by decide +kernel) 32 rfl
    refine y_val (v := .bool true) ?_ rfl
    simp [execOp, hρ.const, go_sem, e32]
  · intro ρ wx hρ hbx hl
    have e33 : ρ (.tmp 33) = .bool true := hl 1 (by decide +kernel) 33 rfl
    refine y_val (v := .bool true) ?_ rfl
    simp [execOp, go_sem, e33]
  · intro ρ wx hρ hbx hl
    have e7 : ρ (.tmp 7) = .int .i64 9 := hρ.tmp 7 (by decide +kernel)
    refine y_val (v := .int .i64 9) ?_ rfl
    simp [execOp, go_sem, e7]
  · intro ρ wx hρ hbx hl
    have e35 : ρ (.tmp 35) = .int .i64 9 := hl 3 (by decide +kernel) 35 rfl
    refine y_val (v := .bool true) ?_ rfl
    simp [execOp, hρ.const, go_sem, e35]
  · intro ρ wx hρ hbx hl
    have e34 : ρ (.tmp 34) = .bool true := hl 2 (by decide +kernel) 34 rfl
    have e36 : ρ (.tmp 36) = .bool true := hl 4 (by decide +kernel) 36 rfl
    refine y_val (v := .bool true) ?_ rfl
    simp [execOp, go_sem, e34, e36]
  · intro ρ wx hρ hbx hl
    have e37 : ρ (.tmp 37) = .bool true := hl 5 (by decide +kernel) 37 rfl
    refine y_val (v := .bool true) ?_ rfl
    simp [execOp, go_sem, e37]
  · intro ρ wx hρ hbx hl
    have e4 : ρ (.tmp 4) = .slice (some ⟨g, 0, none⟩) 1 gcap := hρ.tmp 4 (by decide +kernel)
    refine y_val (v := .slice (some ⟨g, 0, none⟩) 1 gcap) ?_ rfl
    simp [execOp, go_sem, e4]
  · intro ρ wx hρ hbx hl
    have e39 : ρ (.tmp 39) = .slice (some ⟨g, 0, none⟩) 1 gcap := hl 7 (by decide +kernel) 39 rfl
    refine y_val (v := .int .i64 1) ?_ rfl
    simp [execOp, go_sem, e39]
  · intro ρ wx hρ hbx hl
    have e40 : ρ (.tmp 40) = .int .i64 1 := hl 8 (by decide +kernel) 40 rfl
    refine y_val (v := .bool true) ?_ rfl
    simp [execOp, hρ.const, go_sem, e40]
  · intro ρ wx hρ hbx hl
    have e38 : ρ (.tmp 38) = .bool true := hl 6 (by decide +kernel) 38 rfl
    have e41 : ρ (.tmp 41) = .bool true := hl 9 (by decide +kernel) 41 rfl
    refine y_val (v := .bool true) ?_ rfl
    simp [execOp, go_sem, e38, e41]
  · intro ρ wx hρ hbx hl
    have e42 : ρ (.tmp 42) = .bool true := hl 10 (by decide +kernel) 42 rfl
    refine y_val (v := .bool true) ?_ rfl
    simp [execOp, go_sem, e42]
  · intro ρ wx hρ hbx hl
    have e5 : ρ (.tmp 5) = .int .i64 13 := hρ.tmp 5 (by decide +kernel)
    refine y_val (v := .int .i64 13) ?_ rfl
    simp [execOp, go_sem, e5]
  · intro ρ wx hρ hbx hl
    have e2 : ρ (.tmp 2) = .slice a1 13 cap1 := hρ.tmp 2 (by decide +kernel)
    refine y_val (v := .slice a1 13 cap1) ?_ rfl
    simp [execOp, go_sem, e2]
  · intro ρ wx hρ hbx hl
    have e45 : ρ (.tmp 45) = .slice a1 13 cap1 := hl 13 (by decide +kernel) 45 rfl
    refine y_val (v := .int .i64 13) ?_ rfl
    simp [execOp, go_sem, e45]
  · intro ρ wx hρ hbx hl
    have e44 : ρ (.tmp 44) = .int .i64 13 := hl 12 (by decide +kernel) 44 rfl
    have e46 : ρ (.tmp 46) = .int .i64 13 := hl 14 (by decide +kernel) 46 rfl
    refine y_val (v := .bool true) ?_ rfl
    simp [execOp, go_sem, e44, e46]
  · intro ρ wx hρ hbx hl
    have e43 : ρ (.tmp 43) = .bool true := hl 11 (by decide +kernel) 43 rfl
    have e47 : ρ (.tmp 47) = .bool true := hl 15 (by decide +kernel) 47 rfl
    refine y_val (v := .bool true) ?_ rfl
    simp [execOp, go_sem, e43, e47]
  · intro ρ wx hρ hbx hl
    have e48 : ρ (.tmp 48) = .bool true := hl 16 (by decide +kernel) 48 rfl
    refine y_val (v := .bool true) ?_ rfl
    simp [execOp, go_sem, e48]
  · intro ρ wx hρ hbx hl
    have e8 : ρ (.tmp 8) = .slice a3 0 cap3 := hρ.tmp 8 (by decide +kernel)
    refine y_val (v := .slice a3 0 cap3) ?_ rfl
    simp [execOp, go_sem, e8]
  · intro ρ wx hρ hbx hl
    have e50 : ρ (.tmp 50) = .slice a3 0 cap3 := hl 18 (by decide +kernel) 50 rfl
    refine y_val (v := .int .i64 0) ?_ rfl
    simp [execOp, go_sem, e50]
  · intro ρ wx hρ hbx hl
    have e51 : ρ (.tmp 51) = .int .i64 0 := hl 19 (by decide +kernel) 51 rfl
    refine y_val (v := .bool true) ?_ rfl
    simp [execOp, hρ.const, go_sem, e51]
  · intro ρ wx hρ hbx hl
    have e49 : ρ (.tmp 49) = .bool true := hl 17 (by decide +kernel) 49 rfl
    have e52 : ρ (.tmp 52) = .bool true := hl 20 (by decide +kernel) 52 rfl
    refine y_val (v := .bool true) ?_ rfl
    simp [execOp, go_sem, e49, e52]
  · intro ρ wx hρ hbx hl
    have e53 : ρ (.tmp 53) = .bool true := hl 21 (by decide +kernel) 53 rfl
    refine y_val (v := .bool true) ?_ rfl
    simp [execOp, go_sem, e53]
  · intro ρ wx hρ hbx hl
    have e9 : ρ (.tmp 9) = .int .i64 0 := hρ.tmp 9 (by decide +kernel)
    refine y_val (v := .int .i64 0) ?_ rfl
    simp [execOp, go_sem, e9]
  · intro ρ wx hρ hbx hl
    have e55 : ρ (.tmp 55) = .int .i64 0 := hl 23 (by decide +kernel) 55 rfl
    refine y_val (v := .bool true) ?_ rfl
    simp [execOp, hρ.const, go_sem, e55]
  · intro ρ wx hρ hbx hl
    have e54 : ρ (.tmp 54) = .bool true := hl 22 (by decide +kernel) 54 rfl
    have e56 : ρ (.tmp 56) = .bool true := hl 24 (by decide +kernel) 56 rfl
    refine y_val (v := .bool true) ?_ rfl
    simp [execOp, go_sem, e54, e56]
  · intro ρ wx hρ hbx hl
    have e57 : ρ (.tmp 57) = .bool true := hl 25 (by decide +kernel) 57 rfl
    refine y_val (v := .bool true) ?_ rfl
    simp [execOp, go_sem, e57]
  · intro ρ wx hρ hbx hl
    have e4 : ρ (.tmp 4) = .slice (some ⟨g, 0, none⟩) 1 gcap := hρ.tmp 4 (by decide +kernel)
    refine y_val (v := .slice (some ⟨g, 0, none⟩) 1 gcap) ?_ rfl
    simp [execOp, go_sem, e4]
  · intro ρ wx hρ hbx hl
    have e59 : ρ (.tmp 59) = .slice (some ⟨g, 0, none⟩) 1 gcap := hl 27 (by decide +kernel) 59 rfl
    refine y_val (v := .pointer (some ⟨g, 0, none⟩)) ?_ rfl
    simp [execOp, hρ.const, go_sem, e59]
  · intro ρ wx hρ hbx hl
    have e60 : ρ (.tmp 60) = .pointer (some ⟨g, 0, none⟩) := hl 28 (by decide +kernel) 60 rfl
    have k0 := (hbx.cell (p := ⟨g, 0, none⟩) hgl).trans c0
    have k1 := (hbx.cell (p := ⟨g, 1, none⟩) hgl).trans c1
    refine y_val (v := .agg #[.int .u64 1, .slice sa 1 scap]) ?_ rfl
    simp [execOp, go_sem, e60, k0, k1]
  · intro ρ wx hρ hbx hl
    have e1 : ρ (.tmp 1) = .pointer (some ⟨p0, 0, none⟩) := hρ.tmp 1 (by decide +kernel)
    have k0 := (hbx.cell (p := ⟨p0, 0, none⟩) hpl).trans d0
    have k1 := (hbx.cell (p := ⟨p0, 1, none⟩) hpl).trans d1
    refine y_val (v := .agg #[.int .u64 1, .slice (some ⟨e0, 0, none⟩) 1 1]) ?_ rfl
    simp [execOp, go_sem, e1, k0, k1]
  · intro ρ wx hρ hbx hl
    have e61 : ρ (.tmp 61) = .agg #[.int .u64 1, .slice sa 1 scap] := hl 29 (by decide +kernel) 61 rfl
    have e62 : ρ (.tmp 62) = .agg #[.int .u64 1, .slice (some ⟨e0, 0, none⟩) 1 1] := hl 30 (by decide +kernel) 62 rfl
    refine y_call (f := 14) (args := #[.agg #[.int .u64 1, .slice sa 1 scap], .agg #[.int .u64 1, .slice (some ⟨e0, 0, none⟩) 1 1]]) (by simp [execOp, resolve, invoke, hρ.func, go_sem, e61, e62]) ?_
    refine (same_any wx 1 sa (some ⟨e0, 0, none⟩) 1 scap 1 oneE (HQ.out.below' hbx) (HR.out.below' hbx) rfl).mono ?_
    rintro e w6 ⟨rfl, b6⟩
    exact ⟨_, rfl, rfl, b6⟩
  · intro ρ wx hρ hbx hl
    have e58 : ρ (.tmp 58) = .bool true := hl 26 (by decide +kernel) 58 rfl
    have e63 : ρ (.tmp 63) = .bool true := hl 31 (by decide +kernel) 63 rfl
    refine y_val (v := .bool true) ?_ rfl
    simp [execOp, go_sem, e58, e63]
  · intro ρ wx hρ hbx hl
    have e64 : ρ (.tmp 64) = .bool true := hl 32 (by decide +kernel) 64 rfl
    refine y_val (v := .bool true) ?_ rfl
    simp [execOp, go_sem, e64]
  intro aa wz hdef hsz hlk hbz hf
  have ha := act_of_like hdef hsz hlk [32, 33, 34, 35, 36, 37, 38, 39, 40, 41, 42, 43, 44, 45, 46, 47, 48, 49, 50, 51, 52, 53, 54, 55, 56, 57, 58, 59, 60, 61, 62, 63, 64, 0] 65 rfl (by decide +kernel)
  have e32 : aa.tmps.getD 32 undef = .int .i64 0 := hf 0 _ 32 rfl rfl
  have e33 : aa.tmps.getD 33 undef = .bool true := hf 1 _ 33 rfl rfl
  have e34 : aa.tmps.getD 34 undef = .bool true := hf 2 _ 34 rfl rfl
  have e35 : aa.tmps.getD 35 undef = .int .i64 9 := hf 3 _ 35 rfl rfl
  have e36 : aa.tmps.getD 36 undef = .bool true := hf 4 _ 36 rfl rfl
  have e37 : aa.tmps.getD 37 undef = .bool true := hf 5 _ 37 rfl rfl
  have e38 : aa.tmps.getD 38 undef = .bool true := hf 6 _ 38 rfl rfl
  have e39 : aa.tmps.getD 39 undef = .slice (some ⟨g, 0, none⟩) 1 gcap := hf 7 _ 39 rfl rfl
  have e40 : aa.tmps.getD 40 undef = .int .i64 1 := hf 8 _ 40 rfl rfl
  have e41 : aa.tmps.getD 41 undef = .bool true := hf 9 _ 41 rfl rfl
  have e42 : aa.tmps.getD 42 undef = .bool true := hf 10 _ 42 rfl rfl
  have e43 : aa.tmps.getD 43 undef = .bool true := hf 11 _ 43 rfl rfl
  have e44 : aa.tmps.getD 44 undef = .int .i64 13 := hf 12 _ 44 rfl rfl
  have e45 : aa.tmps.getD 45 undef = .slice a1 13 cap1 := hf 13 _ 45 rfl rfl
  have e46 : aa.tmps.getD 46 undef = .int .i64 13 := hf 14 _ 46 rfl rfl
  have e47 : aa.tmps.getD 47 undef = .bool true := hf 15 _ 47 rfl rfl
  have e48 : aa.tmps.getD 48 undef = .bool true := hf 16 _ 48 rfl rfl
  have e49 : aa.tmps.getD 49 undef = .bool true := hf 17 _ 49 rfl rfl
  have e50 : aa.tmps.getD 50 undef = .slice a3 0 cap3 := hf 18 _ 50 rfl rfl
  have e51 : aa.tmps.getD 51 undef = .int .i64 0 := hf 19 _ 51 rfl rfl
  have e52 : aa.tmps.getD 52 undef = .bool true := hf 20 _ 52 rfl rfl
  have e53 : aa.tmps.getD 53 undef = .bool true := hf 21 _ 53 rfl rfl
  have e54 : aa.tmps.getD 54 undef = .bool true := hf 22 _ 54 rfl rfl
  have e55 : aa.tmps.getD 55 undef = .int .i64 0 := hf 23 _ 55 rfl rfl
  have e56 : aa.tmps.getD 56 undef = .bool true := hf 24 _ 56 rfl rfl
  have e57 : aa.tmps.getD 57 undef = .bool true := hf 25 _ 57 rfl rfl
  have e58 : aa.tmps.getD 58 undef = .bool true := hf 26 _ 58 rfl rfl
  have e59 : aa.tmps.getD 59 undef = .slice (some ⟨g, 0, none⟩) 1 gcap := hf 27 _ 59 rfl rfl
  have e60 : aa.tmps.getD 60 undef = .pointer (some ⟨g, 0, none⟩) := hf 28 _ 60 rfl rfl
  have e61 : aa.tmps.getD 61 undef = .agg #[.int .u64 1, .slice sa 1 scap] := hf 29 _ 61 rfl rfl
  have e62 : aa.tmps.getD 62 undef = .agg #[.int .u64 1, .slice (some ⟨e0, 0, none⟩) 1 1] := hf 30 _ 62 rfl rfl
  have e63 : aa.tmps.getD 63 undef = .bool true := hf 31 _ 63 rfl rfl
  have e64 : aa.tmps.getD 64 undef = .bool true := hf 32 _ 64 rfl rfl
  have e0 : aa.tmps.getD 0 undef = .bool true := hf 33 _ 0 rfl rfl
  simp only [putAll, List.foldl_cons, List.foldl_nil, e32, e33, e34, e35, e36, e37, e38, e39, e40, e41, e42, e43, e44, e45, e46, e47, e48, e49, e50, e51, e52, e53, e54, e55, e56, e57, e58, e59, e60, e61, e62, e63, e64, e0] at ha
  simp [Act.put] at ha
  subst ha
  clear hdef hsz hlk hf e32 e33 e34 e35 e36 e37 e38 e39 e40 e41 e42 e43 e44 e45 e46 e47 e48 e49 e50 e51 e52 e53 e54 e55 e56 e57 e58 e59 e60 e61 e62 e63 e64 e0
  have HBz := Lib.hid (B0.out.trans (hbz.mono (by first | exact hBs | omega)))
  clear hbz
  go_wp2
  go_ret
  first
    | exact ⟨rfl, HBz.out⟩
    | (subst he0; exact ⟨rfl, HBz.out⟩)
end Go.Proofs.YtoibhkmlebcepaaDoor

namespace Go.Proofs.YtoibhkmlebcepaaDoor
open Go Go.RowKit

/-- the slot holds new bytes l -/
def freshF (B : Nat) (l : List UInt8) : SlotFact := ⟨fun v w => Fresh B w 5 1 v l.length (bcells l), fun _ _ _ h hb => h.keep hb⟩

set_option maxRecDepth 100000 in
set_option maxHeartbeats 2000000 in
theorem record_any (w : World) (rev : Nat) (a : Option Addr) (n cap : Nat) (l : List Ent) (h : Reads w 3 (.slice a n cap) n (ecells l)) (hl : l.length = n) (hcap : n ≤ cap ∧ cap ≤ maxLen) (hrb : rightB rev l = true) (hrv : rev < 18446744073709551616) :
    Calls Tryd.prog 12 #[.agg #[.int .u64 (rev : Int), .slice a n cap]] w (GivesBytes w (recL rev l)) := by
  obtain ⟨i0, hi, hz0, hz1, hz2⟩ := info_parts info5
  have HL := Lib.hid hl
  unfold maxLen at hcap
  have hg0 := heap_alloc_new w (.cells #[.int .u64 (rev : Int), .slice a n cap] 25)
  have hb0 : Below w.heap.size w (w.alloc (.cells #[.int .u64 (rev : Int), .slice a n cap] 25)) := (Below.refl _ w).alloc (Nat.le_refl _) _
  have HR := Lib.hid h
  have HG := Lib.hid hg0
  have HB := Lib.hid hb0
  have hel1 := enc_length_le 9 rev (by omega)
  obtain ⟨hk6, _, _, _, hn6⟩ := right_keys hrb
  have HK6 := Lib.hid hk6
  have hn256 : n ≤ 256 := by rw [← hl]; exact hn6
  have hel2 := enc_length_le 9 n (by omega)
  have hlt0 := (Array.getElem?_eq_some_iff.1 hg0).1
  have hBw : w.heap.size + 1 ≤ (w.alloc (.cells #[.int .u64 (rev : Int), .slice a n cap] 25)).heap.size := by simp
  clear h hl hb0 hk6 hn6 hrb
  go_enter Tryd.func12, Tryd.ntmps12
  go_wp2_with fail
  generalize w.alloc (.cells #[.int .u64 (rev : Int), .slice a n cap] 25) = w0 at *
  have q0 := Lib.cell_of_heap hg0 0
  have q1 := Lib.cell_of_heap hg0 1
  simp at q0 q1
  clear hg0
  generalize hgc : w.heap.size = gc at q0 q1 hlt0 ⊢
  generalize hB : w.heap.size + 1 = B at hBw
  refine wp_region_all (by kernel_rfl) [eqF (.pointer (some ⟨gc, 0, none⟩)), eqF (.int .u64 (rev : Int)), bytesF (enc rev), eqF (.pointer (some ⟨gc, 1, none⟩)), eqF (.slice a n cap), eqF (.int .i64 (n : Int)), eqF (.int .u64 (n : Int)), freshF B (enc rev ++ enc n), freshF B (enc rev ++ enc n)] (by kernel_rfl) ⟨?_, ?_, ?_, ?_, ?_, ?_, ?_, ?_, ?_, trivial⟩ ⟨trivial, trivial, trivial, trivial, trivial, trivial, trivial, trivial, trivial, trivial⟩ ?_
  · intro ρ wx hρ hbx hl
    have e1 : ρ (.tmp 1) = .pointer (some ⟨gc, 0, none⟩) := hρ.tmp 1 (by decide +kernel)
    refine y_val (v := .pointer (some ⟨gc, 0, none⟩)) ?_ rfl
    simp [execOp, go_sem, e1]
  · intro ρ wx hρ hbx hl
    have e6 : ρ (.tmp 6) = .pointer (some ⟨gc, 0, none⟩) := hl 0 (by decide +kernel) 6 rfl
    have kk := (hbx.cell (hlt0)).trans q0
    refine y_val (v := .int .u64 (rev : Int)) ?_ rfl
    simp [execOp, go_sem, e6, kk]
  · intro ρ wx hρ hbx hl
    have e7 : ρ (.tmp 7) = .int .u64 (rev : Int) := hl 1 (by decide +kernel) 7 rfl
    refine y_call (f := 26) (args := #[.slice none 0 0, .int .u64 (rev : Int)]) (by simp [execOp, resolve, invoke, hρ.func, hρ.const, go_sem, e7]) ?_
    refine (refput_any wx _ [] rev (reads_nil _) (by decide) hrv).mono ?_
    rintro e w6 ⟨v6, rfl, f6, b6⟩
    exact ⟨v6, rfl, ⟨_, f6.1⟩, b6⟩
  · intro ρ wx hρ hbx hl
    have e1 : ρ (.tmp 1) = .pointer (some ⟨gc, 0, none⟩) := hρ.tmp 1 (by decide +kernel)
    refine y_val (v := .pointer (some ⟨gc, 1, none⟩)) ?_ rfl
    simp [execOp, go_sem, e1]
  · intro ρ wx hρ hbx hl
    have e9 : ρ (.tmp 9) = .pointer (some ⟨gc, 1, none⟩) := hl 3 (by decide +kernel) 9 rfl
    have kk := (hbx.cell (hlt0)).trans q1
    refine y_val (v := .slice a n cap) ?_ rfl
    simp [execOp, go_sem, e9, kk]
  · intro ρ wx hρ hbx hl
    have e10 : ρ (.tmp 10) = .slice a n cap := hl 4 (by decide +kernel) 10 rfl
    refine y_val (v := .int .i64 (n : Int)) ?_ rfl
    simp [execOp, resolve, invoke, builtin, go_sem, e10]
  · intro ρ wx hρ hbx hl
    have e11 : ρ (.tmp 11) = .int .i64 (n : Int) := hl 5 (by decide +kernel) 11 rfl
    refine y_val (v := .int .u64 (n : Int)) ?_ rfl
    simp [execOp, go_sem, e11, IntKind.wrap_u64]
    omega
  · intro ρ wx hρ hbx hl
    have e8 := hl 2 (by decide +kernel) 8 rfl
    have e12 : ρ (.tmp 12) = .int .u64 (n : Int) := hl 6 (by decide +kernel) 12 rfl
    obtain ⟨k, hk⟩ := e8
    have hkl : (enc rev).length = k := by have := hk.1; simpa [bcells_length] using this
    subst hkl
    refine y_call (f := 26) (args := #[ρ (.tmp 8), .int .u64 (n : Int)]) (by simp [execOp, resolve, invoke, hρ.func, go_sem, e12]) ?_
    refine (refput_any wx _ (enc rev) n hk (by omega) (by omega)).mono ?_
    rintro e w6 ⟨v6, rfl, f6, b6⟩
    exact ⟨v6, rfl, f6.mono (Nat.le_trans hBw hbx.size), b6⟩
  · intro ρ wx hρ hbx hl
    have e13 := hl 7 (by decide +kernel) 13 rfl
    refine y_val (v := ρ (.tmp 13)) ?_ e13
    simp [execOp, go_sem]
  intro aa wz hdef hsz hlk hbz hf
  have ha := act_of_like hdef hsz hlk [6, 7, 8, 9, 10, 11, 12, 13, 3] 35 rfl (by decide +kernel)
  have e6 : aa.tmps.getD 6 undef = .pointer (some ⟨gc, 0, none⟩) := hf 0 _ 6 rfl rfl
  have e7 : aa.tmps.getD 7 undef = .int .u64 (rev : Int) := hf 1 _ 7 rfl rfl
  have e9 : aa.tmps.getD 9 undef = .pointer (some ⟨gc, 1, none⟩) := hf 3 _ 9 rfl rfl
  have e10 : aa.tmps.getD 10 undef = .slice a n cap := hf 4 _ 10 rfl rfl
  have e11 : aa.tmps.getD 11 undef = .int .i64 (n : Int) := hf 5 _ 11 rfl rfl
  have e12 : aa.tmps.getD 12 undef = .int .u64 (n : Int) := hf 6 _ 12 rfl rfl
  have e13 : (freshF B (enc rev ++ enc n)).1 (aa.tmps.getD 13 undef) wz := hf 7 _ 13 rfl rfl
  generalize hv13 : aa.tmps.getD 13 undef = v13 at e13
  have e3 : (freshF B (enc rev ++ enc n)).1 (aa.tmps.getD 3 undef) wz := hf 8 _ 3 rfl rfl
  generalize hv3 : aa.tmps.getD 3 undef = v3 at e3
  simp only [putAll, List.foldl_cons, List.foldl_nil, e6, e7, e9, e10, e11, e12, hv13, hv3] at ha
  generalize aa.tmps.getD 8 undef = v8 at ha
  simp [Act.put] at ha
  subst ha
  clear hdef hsz hlk hf e6 e7 e9 e10 e11 e12 hv13 hv3
  subst hgc
  subst hB
  have HG4 := Lib.hid (below_block hbz HG.out hlt0)
  have HB4 := Lib.hid (HB.out.trans (hbz.mono HB.out.size))
  have HF4 := Lib.hid e3
  have hg4 := HG4.out
  have q0 := Lib.cell_of_heap hg4 0
  have q1 := Lib.cell_of_heap hg4 1
  simp at q0 q1
  have hlt4 : w.heap.size < wz.heap.size := (Array.getElem?_eq_some_iff.1 hg4).1
  clear e3 e13 hbz HG HB hg4 hlt0 hBw
  go_wp2
  go_loopw [3, 17] (fun bv i wr => EncRel w rev n (.slice a n cap) l bv i wr) (fun _ i _ => n - (intOf i).toNat)
  case atStart =>
    refine ⟨0, rfl, Nat.zero_le _, ?_, HB4.out, HG4.out⟩
    have e : recTo rev n (l.take 0) = enc rev ++ enc n := by simp [recTo]
    rw [e]
    exact HF4.out
  case round =>
    obtain ⟨k, rfl, hk, hfr, hb, hg⟩ := hrel
    clear HF4 HG4 HB4
    have hlen : (recTo rev n (l.take k)).length ≤ 20000000 := recTo_le hrv hn256 (by rw [List.length_take, HL.out]; omega) (fun x hx => HK6.out x (List.mem_of_mem_take hx))
    have hpos : 0 < (recTo rev n (l.take k)).length := by
      have := enc_pos rev
      unfold recTo
      simp only [List.length_append]
      omega
    have hlt0 : w.heap.size < wr.heap.size := (Array.getElem?_eq_some_iff.1 hg).1
    have HB := Lib.hid hb
    have HG := Lib.hid hg
    have HF := Lib.hid hfr
    clear hb hg hfr
    by_cases hlt : k < n
    · obtain ⟨x, hx⟩ : ∃ x, l[k]? = some x := ⟨l[k]'(by rw [HL.out]; exact hlt), List.getElem?_eq_getElem _⟩
      obtain ⟨g, off, rfl, hgl, c0, c1, c2⟩ := ent_cells (HR.out.below' HB.out) hx
      have hsz := HK6.out x (List.mem_of_getElem? hx)
      have hsu := recTo_succ (rev := rev) (n := n) hx
      have hkI : (k : Int) < n := by omega
      obtain ⟨key, r, d⟩ := x
      dsimp only at c0 c1 c2 hsz hsu
      have HSu := Lib.hid hsu
      clear hsu hx
      generalize hT : recTo rev n (l.take k) = T at *
      generalize hT1 : recTo rev n (l.take (k + 1)) = T1 at *
      have HT1 := Lib.hid hT1
      clear hT hT1
      have hbx : Below w.heap.size w (wr.alloc (.cells #[.string key, .int .u64 (r : Int), .bool d] 48)) := HB.out.alloc (by omega) _
      have hfx := HF.out.alloc (.cells #[.string key, .int .u64 (r : Int), .bool d] 48)
      have hgx := (heap_alloc_old wr (.cells #[.string key, .int .u64 (r : Int), .bool d] 48) hlt0).trans HG.out
      have hxx := heap_alloc_new wr (.cells #[.string key, .int .u64 (r : Int), .bool d] 48)
      have how := HF.out.1.own_lt hpos
      have HBx := Lib.hid hbx
      have HGx := Lib.hid hgx
      have HXx := Lib.hid hxx
      have HOw := Lib.hid how
      have hlx : (wr.alloc (.cells #[.string key, .int .u64 (r : Int), .bool d] 48)).heap.size = wr.heap.size + 1 := by simp
      have HLx := Lib.hid hlx
      clear hbx hgx hxx how hlx HF HG HB
      have hbit : ∃ bt : UInt8, bt = (if d then 1 else 0) := ⟨_, rfl⟩
      obtain ⟨bt, hbt⟩ := hbit
      rw [← hbt] at HSu
      have hbsx : w.heap.size + 1 ≤ (wr.alloc (.cells #[.string key, .int .u64 (r : Int), .bool d] 48)).heap.size := by simp; omega
      cases d
      · go_wp2_with (at_builtin; go_must (refine wpList_append_one_at (w0 := wr.alloc (.cells #[.string key, .int .u64 (r : Int), .bool false] 48)) rfl _ _ 28 rfl (w.heap.size + 1) 5 i0 (.int .u8 0) 1 Tryd.underlying28 hi hz0 hz1 hz2 rfl HLx.out hfx rfl rfl rfl ?_ ?_ hbsx ?_))
        · unfold maxLen; omega
        · omega
        intro v5 w5 f5 g5 b5 _
        have e5 : bcells T ++ [Value.int .u8 0] = bcells (T ++ [bt]) := bcells_snoc T bt (by rw [hbt]; rfl)
        have l5 : T.length + 1 = (T ++ [bt]).length := by simp
        rw [e5, l5] at f5
        have hg5 := below_block b5 HGx.out (by omega)
        have hx5 := (g5.block wr.heap.size (by rw [HLx.out]; omega) (fun h => by have := HOw.out _ h.symm; omega)).trans HXx.out
        have hb5 := HBx.out.trans (b5.mono (by omega))
        have d0 := Lib.cell_of_heap hx5 0
        simp at d0
        have HF5 := Lib.hid f5
        have HG5 := Lib.hid hg5
        have HB5 := Lib.hid hb5
        have hlt5 : wr.heap.size < w5.heap.size := (Array.getElem?_eq_some_iff.1 hx5).1
        have hw5 := hb5.size
        clear f5 g5 b5 hg5 hb5 hx5 hfx c0 c1 c2 e5 l5 HGx HBx HXx HOw
        have htz : (T ++ [bt]).length ≤ 20000001 := by rw [List.length_append]; simp; omega
        generalize hTB : T ++ [bt] = TB at *
        have HTB := Lib.hid hTB
        clear hTB
        go_wp2_with (go_at_call 27; go_must (refine (refputtext_any _ _ TB key HF5.out.1 (by omega) (by omega)).mono ?_))
        rintro e w6 ⟨v6, rfl, f6, b6⟩
        rw [List.append_assoc] at f6
        have HF6 := Lib.hid (f6.mono (B := w.heap.size + 1) (by omega))
        have HG6 := Lib.hid (below_block b6 HG5.out (by omega))
        have HB6 := Lib.hid (HB5.out.trans (b6.mono HB5.out.size))
        clear f6 b6 d0 HF5 HG5 HB5
        go_wp2
        refine ⟨⟨k + 1, by go_num, by omega, ?_, HB6.out, HG6.out⟩, by simp [intOf]; omega⟩
        rw [HT1.out, HSu.out]
        exact HF6.out
      · go_wp2_with (at_builtin; go_must (refine wpList_append_one_at (w0 := wr.alloc (.cells #[.string key, .int .u64 (r : Int), .bool true] 48)) rfl _ _ 28 rfl (w.heap.size + 1) 5 i0 (.int .u8 0) 1 Tryd.underlying28 hi hz0 hz1 hz2 rfl HLx.out hfx rfl rfl rfl ?_ ?_ hbsx ?_))
        · unfold maxLen; omega
        · omega
        intro v5 w5 f5 g5 b5 _
        have e5 : bcells T ++ [Value.int .u8 1] = bcells (T ++ [bt]) := bcells_snoc T bt (by rw [hbt]; rfl)
        have l5 : T.length + 1 = (T ++ [bt]).length := by simp
        rw [e5, l5] at f5
        have hg5 := below_block b5 HGx.out (by omega)
        have hx5 := (g5.block wr.heap.size (by rw [HLx.out]; omega) (fun h => by have := HOw.out _ h.symm; omega)).trans HXx.out
        have hb5 := HBx.out.trans (b5.mono (by omega))
        have d0 := Lib.cell_of_heap hx5 0
        simp at d0
        have HF5 := Lib.hid f5
        have HG5 := Lib.hid hg5
        have HB5 := Lib.hid hb5
        have hlt5 : wr.heap.size < w5.heap.size := (Array.getElem?_eq_some_iff.1 hx5).1
        have hw5 := hb5.size
        clear f5 g5 b5 hg5 hb5 hx5 hfx c0 c1 c2 e5 l5 HGx HBx HXx HOw
        have htz : (T ++ [bt]).length ≤ 20000001 := by rw [List.length_append]; simp; omega
        generalize hTB : T ++ [bt] = TB at *
        have HTB := Lib.hid hTB
        clear hTB
        go_wp2_with (go_at_call 27; go_must (refine (refputtext_any _ _ TB key HF5.out.1 (by omega) (by omega)).mono ?_))
        rintro e w6 ⟨v6, rfl, f6, b6⟩
        rw [List.append_assoc] at f6
        have HF6 := Lib.hid (f6.mono (B := w.heap.size + 1) (by omega))
        have HG6 := Lib.hid (below_block b6 HG5.out (by omega))
        have HB6 := Lib.hid (HB5.out.trans (b6.mono HB5.out.size))
        clear f6 b6 d0 HF5 HG5 HB5
        go_wp2
        refine ⟨⟨k + 1, by go_num, by omega, ?_, HB6.out, HG6.out⟩, by simp [intOf]; omega⟩
        rw [HT1.out, HSu.out]
        exact HF6.out
    · obtain rfl : k = n := by omega
      have hkI : ¬ ((k : Int) < k) := by omega
      have htk : l.take k = l := by rw [← HL.out]; exact List.take_length
      have hf := HF.out
      rw [htk] at hf
      have hrl : recTo rev k l = recL rev l := by unfold recL; rw [HL.out]
      rw [hrl] at hf
      have HF5 := Lib.hid (hf.mono (B := w.heap.size) (by omega))
      clear htk hf hrl HF hpos hlen
      go_wp2
      go_ret
      exact ⟨_, rfl, HF5.out, HB.out⟩
end Go.Proofs.YtoibhkmlebcepaaDoor

namespace Go.Proofs.YtoibhkmlebcepaaDoor
open Go Go.RowKit

theorem encp_yes {w : World} {rev : Nat} {l : List Ent} {e : Ending} {w' : World} (h : EncPost w rev l e w') (hr : rightB rev l = true) :
    ∃ a cap, e = .returned (.tuple #[.slice a (sealL (recL rev l)).length cap, .int .i64 0]) ∧ Reads w' 1 (.slice a (sealL (recL rev l)).length cap) (sealL (recL rev l)).length (bcells (sealL (recL rev l))) ∧ Below w.heap.size w w' := by
  unfold EncPost at h
  rw [if_pos hr] at h
  obtain ⟨v, rfl, hf, hb⟩ := h
  obtain ⟨a, cap, rfl, _, _⟩ := hf.1.le
  exact ⟨a, cap, rfl, hf.1, hb⟩

theorem encp_no {w : World} {rev : Nat} {l : List Ent} {e : Ending} {w' : World} (h : EncPost w rev l e w') (hr : rightB rev l = false) : GivesVal w (.tuple #[.slice none 0 0, .int .i64 9]) e w' := by
  unfold EncPost at h
  rw [if_neg (by rw [hr]; decide)] at h
  exact h

theorem flat_low : ∀ l : List Ent, (∀ x ∈ l, x.key.size ≤ 200) → (l.flatMap entB).length ≤ l.length * 211
  | [], _ => by simp
  | x :: l, h => by
    have ih := flat_low l (fun y hy => h y (by simp [hy]))
    have hx := h x (by simp)
    have he := enc_length_le 9 x.key.size (by omega)
    rw [List.flatMap_cons, List.length_append, entB_len, List.length_cons]
    omega

theorem rec_low {rev : Nat} {l : List Ent} (hr : rev < 18446744073709551616) (hn : l.length ≤ 256) (h : fewB l = true) : (recL rev l).length ≤ 60000 := by
  unfold fewB lowB at h
  simp only [Bool.and_eq_true, List.all_eq_true, decide_eq_true_eq] at h
  have h1 := enc_length_le 9 rev (by omega)
  have h2 := enc_length_le 9 l.length (by omega)
  have h3 := flat_low l h.1
  unfold recL recTo
  simp only [List.length_append]
  omega

set_option maxRecDepth 100000 in
set_option maxHeartbeats 2000000 in
theorem walEncodes_walk (w : World) (rev : Nat) (a : Option Addr) (n cap : Nat) (l : List Ent) (h : Reads w 3 (.slice a n cap) n (ecells l)) (hl : l.length = n) (hcap : n ≤ cap ∧ cap ≤ maxLen) (hks : ∀ x ∈ l, x.key.size ≤ maxLen) (hrv : rev < 18446744073709551616) (hst : Steps w) :
    Calls Tryd.prog 3 #[.agg #[.int .u64 (rev : Int), .slice a n cap]] w (SaysTrue w) := by
  have hb0 : Below w.heap.size w (w.alloc (.cells #[.int .u64 (rev : Int), .slice a n cap] 25)) := (Below.refl _ w).alloc (Nat.le_refl _) _
  have HG := Lib.hid (heap_alloc_new w (.cells #[.int .u64 (rev : Int), .slice a n cap] 25))
  have HB := Lib.hid hb0
  have HR := Lib.hid (h.below' hb0)
  have ST := Lib.hid (hst.below hb0)
  have hfw := fun w' h => cfew_any w' rev a n cap l h hl hcap hks
  have hen := fun w' h hst => encode_any w' rev a n cap l h hl hcap hks hrv hst
  have hri := fun w' h => refright_any w' rev a n cap l h hl hcap hks
  have hre := fun w' h hrb => record_any w' rev a n cap l h hl hcap hrb hrv
  have HFw := Lib.hid hfw
  have HEn := Lib.hid hen
  have HRi := Lib.hid hri
  have HRe := Lib.hid hre
  have HL := Lib.hid hl
  have HRv := Lib.hid hrv
  clear h hl hks hrv hst hfw hen hri hre hb0
  unfold maxLen at hcap
  go_enter Tryd.func3, Tryd.ntmps3
  go_wp2_with fail
  generalize w.alloc (.cells #[.int .u64 (rev : Int), .slice a n cap] 25) = w0 at *
  have hbw := HB.out.size
  generalize hp0 : w.heap.size = p0 at HG ⊢
  go_wp2_with (go_at_call 7; go_must (refine (wal_fixed _ ST.out).mono ?_))
  rintro e w1 ⟨rfl, b1⟩
  replace HB := Lib.hid (HB.out.trans (b1.mono HB.out.size))
  replace ST := Lib.hid (ST.out.below b1)
  replace HR := Lib.hid (HR.out.below' b1)
  replace HG := Lib.hid (below_block b1 HG.out (Array.getElem?_eq_some_iff.1 HG.out).1)
  clear b1
  have hpl := (Array.getElem?_eq_some_iff.1 HG.out).1
  have q0 := Lib.cell_of_heap HG.out 0
  have q1 := Lib.cell_of_heap HG.out 1
  simp at q0 q1
  go_wp2_with (go_at_call 8; go_must (refine (HFw.out _ HR.out).mono ?_))
  rintro e w2 ⟨rfl, b2⟩
  clear q0 q1 hpl HFw
  replace HB := Lib.hid (HB.out.trans (b2.mono HB.out.size))
  replace ST := Lib.hid (ST.out.below b2)
  replace HR := Lib.hid (HR.out.below' b2)
  replace HG := Lib.hid (below_block b2 HG.out (Array.getElem?_eq_some_iff.1 HG.out).1)
  clear b2
  have hpl := (Array.getElem?_eq_some_iff.1 HG.out).1
  have q0 := Lib.cell_of_heap HG.out 0
  have q1 := Lib.cell_of_heap HG.out 1
  simp at q0 q1
  cases hfew : fewB l with
  | false =>
    clear hfew
    go_wp2
    go_ret
    subst hp0
    exact ⟨rfl, HB.out⟩
  | true =>
    have HFe := Lib.hid hfew
    clear hfew
    cases hrb : rightB rev l with
    | false =>
      have HRb := Lib.hid hrb
      clear hrb
      go_wp2_with (go_at_call 9; go_must (refine (HEn.out _ HR.out ST.out).mono ?_))
      intro e w3 hp
      obtain ⟨rfl, b3⟩ := encp_no hp HRb.out
      clear q0 q1 hpl hp HEn
      replace HB := Lib.hid (HB.out.trans (b3.mono HB.out.size))
      replace HR := Lib.hid (HR.out.below' b3)
      replace HG := Lib.hid (below_block b3 HG.out (Array.getElem?_eq_some_iff.1 HG.out).1)
      clear b3
      have hpl := (Array.getElem?_eq_some_iff.1 HG.out).1
      have q0 := Lib.cell_of_heap HG.out 0
      have q1 := Lib.cell_of_heap HG.out 1
      simp at q0 q1
      go_wp2_with (go_at_call 10; go_must (refine (HRi.out _ HR.out).mono ?_))
      rw [HRb.out]
      rintro e w4 ⟨rfl, b4⟩
      clear q0 q1 hpl HRi HR HG
      replace HB := Lib.hid (HB.out.trans (b4.mono HB.out.size))
      clear b4
      go_wp2
      go_ret
      subst hp0
      exact ⟨rfl, HB.out⟩
    | true =>
      have HRb := Lib.hid hrb
      obtain ⟨hk6, _, _, _, hn6⟩ := right_keys hrb
      have HRl := Lib.hid (rec_low HRv.out hn6 HFe.out)
      clear hrb hk6 hn6
      have HRec := Lib.hid (fun w' h => HRe.out w' h HRb.out)
      clear HRe
      go_wp2_with (go_at_call 9; go_must (refine (HEn.out _ HR.out ST.out).mono ?_))
      intro e w3 hp
      obtain ⟨a1, cap1, rfl, r1, b3⟩ := encp_yes hp HRb.out
      have HV := Lib.hid r1
      clear q0 q1 hpl hp HEn r1
      obtain ⟨_, _, hv, hc1, hc2⟩ := HV.out.le
      cases hv
      unfold maxLen at hc2
      generalize hR : (sealL (recL rev l)).length = R at *
      replace HB := Lib.hid (HB.out.trans (b3.mono HB.out.size))
      replace HR := Lib.hid (HR.out.below' b3)
      replace HG := Lib.hid (below_block b3 HG.out (Array.getElem?_eq_some_iff.1 HG.out).1)
      clear b3
      have hpl := (Array.getElem?_eq_some_iff.1 HG.out).1
      have q0 := Lib.cell_of_heap HG.out 0
      have q1 := Lib.cell_of_heap HG.out 1
      simp at q0 q1
      go_wp2_with (go_at_call 10; go_must (refine (HRi.out _ HR.out).mono ?_))
      rw [HRb.out]
      rintro e w4 ⟨rfl, b4⟩
      clear q0 q1 hpl HRi hR
      replace HB := Lib.hid (HB.out.trans (b4.mono HB.out.size))
      replace HR := Lib.hid (HR.out.below' b4)
      replace HG := Lib.hid (below_block b4 HG.out (Array.getElem?_eq_some_iff.1 HG.out).1)
      replace HV := Lib.hid (HV.out.below' b4)
      clear b4
      have hpl := (Array.getElem?_eq_some_iff.1 HG.out).1
      have q0 := Lib.cell_of_heap HG.out 0
      have q1 := Lib.cell_of_heap HG.out 1
      simp at q0 q1
      go_wp2_with fail
      refine wp_region_all (by kernel_rfl) [eqF (.int .i64 0), eqF (.bool false), eqF (.bool false), eqF (.slice a1 R cap1), eqF (.string ⟨(sealL (recL rev l)).toArray⟩), eqF (.agg #[.int .u64 (rev : Int), .slice a n cap]), bytesF (recL rev l), bytesF (sealL (recL rev l)), eqF (.string ⟨(sealL (recL rev l)).toArray⟩), eqF (.bool false), eqF (.bool false)] (by kernel_rfl) ⟨?_, ?_, ?_, ?_, ?_, ?_, ?_, ?_, ?_, ?_, ?_, trivial⟩ ⟨trivial, trivial, trivial, fun _ _ h => h, fun _ _ h => h, fun _ _ h => h, fun _ _ h => h, fun _ _ h => h, fun _ _ h => h, fun _ _ h => h, trivial, trivial⟩ ?_
      · intro ρ wx hρ hbx hl
        have e4 : ρ (.tmp 4) = .int .i64 0 := hρ.tmp 4 (by decide +kernel)
        refine y_val (v := .int .i64 0) ?_ rfl
        simp [execOp, go_sem, e4]
      · intro ρ wx hρ hbx hl
        have e27 : ρ (.tmp 27) = .int .i64 0 := hl 0 (by decide +kernel) 27 rfl
        refine y_val (v := .bool false) ?_ rfl
        simp [execOp, hρ.const, go_sem, e27]
      · intro ρ wx hρ hbx hl
        have e28 : ρ (.tmp 28) = .bool false := hl 1 (by decide +kernel) 28 rfl
        refine y_val (v := .bool false) ?_ rfl
        simp [execOp, go_sem, e28]
      · intro ρ wx hρ hbx hl
        have e3 : ρ (.tmp 3) = .slice a1 R cap1 := hρ.tmp 3 (by decide +kernel)
        refine y_val (v := .slice a1 R cap1) ?_ rfl
        simp [execOp, go_sem, e3]
      · intro ρ wx hρ hbx hl
        have e30 : ρ (.tmp 30) = .slice a1 R cap1 := hl 3 (by decide +kernel) 30 rfl
        have hc := Reads.conv (P := Tryd.prog) (src := 28) (e := 5) (dst := 9) Tryd.underlying28 Tryd.underlying5 Tryd.underlying9 (HV.out.below' hbx)
        refine y_val (v := .string ⟨(sealL (recL rev l)).toArray⟩) ?_ rfl
        simp [execOp, e30, hc]
      · intro ρ wx hρ hbx hl
        have e1 : ρ (.tmp 1) = .pointer (some ⟨p0, 0, none⟩) := hρ.tmp 1 (by decide +kernel)
        have k0 := (hbx.cell (p := ⟨p0, 0, none⟩) hpl).trans q0
        have k1 := (hbx.cell (p := ⟨p0, 1, none⟩) hpl).trans q1
        refine y_val (v := .agg #[.int .u64 (rev : Int), .slice a n cap]) ?_ rfl
        simp [execOp, go_sem, e1, k0, k1]
      · intro ρ wx hρ hbx hl
        have e32 : ρ (.tmp 32) = .agg #[.int .u64 (rev : Int), .slice a n cap] := hl 5 (by decide +kernel) 32 rfl
        refine y_call (f := 12) (args := #[.agg #[.int .u64 (rev : Int), .slice a n cap]]) (by simp [execOp, resolve, invoke, hρ.func, go_sem, e32]) ?_
        refine (HRec.out wx (HR.out.below' hbx)).mono ?_
        rintro e w6 ⟨v7, rfl, f7, b7⟩
        exact ⟨v7, rfl, ⟨_, f7.1⟩, b7⟩
      · intro ρ wx hρ hbx hl
        have e33 := hl 6 (by decide +kernel) 33 rfl
        obtain ⟨k, hk⟩ := e33
        refine y_call (f := 11) (args := #[ρ (.tmp 33)]) (by simp [execOp, resolve, invoke, hρ.func, go_sem]) ?_
        refine (refseal_any wx _ k (recL rev l) hk (by have := hk.1; have := HRl.out; simp [bcells_length] at *; omega)).mono ?_
        rintro e w6 ⟨v7, rfl, f7, b7⟩
        exact ⟨v7, rfl, ⟨_, f7.1⟩, b7⟩
      · intro ρ wx hρ hbx hl
        have e34 := hl 7 (by decide +kernel) 34 rfl
        obtain ⟨k, hk⟩ := e34
        have hc := Reads.conv (P := Tryd.prog) (src := 28) (e := 5) (dst := 9) Tryd.underlying28 Tryd.underlying5 Tryd.underlying9 (hk)
        refine y_val (v := .string ⟨(sealL (recL rev l)).toArray⟩) ?_ rfl
        simp [execOp, hc]
      · intro ρ wx hρ hbx hl
        have e31 : ρ (.tmp 31) = .string ⟨(sealL (recL rev l)).toArray⟩ := hl 4 (by decide +kernel) 31 rfl
        have e35 : ρ (.tmp 35) = .string ⟨(sealL (recL rev l)).toArray⟩ := hl 8 (by decide +kernel) 35 rfl
        refine y_val (v := .bool false) ?_ rfl
        simp [execOp, go_sem, e31, e35]
      · intro ρ wx hρ hbx hl
        have e29 : ρ (.tmp 29) = .bool false := hl 2 (by decide +kernel) 29 rfl
        have e36 : ρ (.tmp 36) = .bool false := hl 9 (by decide +kernel) 36 rfl
        refine y_val (v := .bool false) ?_ rfl
        simp [execOp, go_sem, e29, e36]
      intro aa wz hdef hsz hlk hbz hf
      have ha := act_of_like hdef hsz hlk [27, 28, 29, 30, 31, 32, 33, 34, 35, 36, 37] 51 rfl (by decide +kernel)
      have e27 : aa.tmps.getD 27 undef = .int .i64 0 := hf 0 _ 27 rfl rfl
      have e28 : aa.tmps.getD 28 undef = .bool false := hf 1 _ 28 rfl rfl
      have e29 : aa.tmps.getD 29 undef = .bool false := hf 2 _ 29 rfl rfl
      have e30 : aa.tmps.getD 30 undef = .slice a1 R cap1 := hf 3 _ 30 rfl rfl
      have e31 : aa.tmps.getD 31 undef = .string ⟨(sealL (recL rev l)).toArray⟩ := hf 4 _ 31 rfl rfl
      have e32 : aa.tmps.getD 32 undef = .agg #[.int .u64 (rev : Int), .slice a n cap] := hf 5 _ 32 rfl rfl
      have e35 : aa.tmps.getD 35 undef = .string ⟨(sealL (recL rev l)).toArray⟩ := hf 8 _ 35 rfl rfl
      have e36 : aa.tmps.getD 36 undef = .bool false := hf 9 _ 36 rfl rfl
      have e37 : aa.tmps.getD 37 undef = .bool false := hf 10 _ 37 rfl rfl
      simp only [putAll, List.foldl_cons, List.foldl_nil, e27, e28, e29, e30, e31, e32, e35, e36, e37] at ha
      generalize aa.tmps.getD 33 undef = v33 at ha
      generalize aa.tmps.getD 34 undef = v34 at ha
      simp [Act.put] at ha
      subst ha
      clear hdef hsz hlk hf e27 e28 e29 e30 e31 e32 e35 e36 e37
      clear q0 q1 hpl
      replace HB := Lib.hid (HB.out.trans (hbz.mono HB.out.size))
      replace HR := Lib.hid (HR.out.below' hbz)
      replace HG := Lib.hid (below_block hbz HG.out (Array.getElem?_eq_some_iff.1 HG.out).1)
      clear hbz
      have hpl := (Array.getElem?_eq_some_iff.1 HG.out).1
      have q0 := Lib.cell_of_heap HG.out 0
      have q1 := Lib.cell_of_heap HG.out 1
      simp at q0 q1
      go_wp2_with (go_at_call 12; go_must (refine (HRec.out _ HR.out).mono ?_))
      rintro e w5 ⟨v5, rfl, f5, b5⟩
      have HF := Lib.hid f5.1
      clear q0 q1 hpl f5
      replace HB := Lib.hid (HB.out.trans (b5.mono HB.out.size))
      replace HR := Lib.hid (HR.out.below' b5)
      replace HG := Lib.hid (below_block b5 HG.out (Array.getElem?_eq_some_iff.1 HG.out).1)
      clear b5
      have hpos : 0 < (recL rev l).length := by
        have := enc_pos rev
        unfold recL recTo
        simp only [List.length_append]
        omega
      have hdc := decode_any w5 v5 (recL rev l) (Sl.of_reads HF.out hpos) (by have := HRl.out; omega)
      rw [dec_rec HRb.out HRv.out] at hdc
      have HD := Lib.hid hdc
      clear hdc hpos
      go_wp2_with (go_at_call 13; go_must (refine HD.out.mono ?_))
      rintro e w6 ⟨a6, cap6, rfl, o6, b6⟩
      have HQ := Lib.hid (ownsRow.reads o6)
      clear o6 HD HF
      replace HB := Lib.hid (HB.out.trans (b6.mono HB.out.size))
      replace HR := Lib.hid (HR.out.below' b6)
      replace HG := Lib.hid (below_block b6 HG.out (Array.getElem?_eq_some_iff.1 HG.out).1)
      clear b6
      have b7 := (Below.refl w6.heap.size w6).alloc (Nat.le_refl _) (.cells #[.int .u64 (rev : Int), .slice a6 l.length cap6] 25)
      have HH := Lib.hid (heap_alloc_new w6 (.cells #[.int .u64 (rev : Int), .slice a6 l.length cap6] 25))
      replace HB := Lib.hid (HB.out.trans (b7.mono HB.out.size))
      replace HR := Lib.hid (HR.out.below' b7)
      replace HG := Lib.hid (below_block b7 HG.out (Array.getElem?_eq_some_iff.1 HG.out).1)
      replace HQ := Lib.hid (HQ.out.below' b7)
      clear b7
      have hpl := (Array.getElem?_eq_some_iff.1 HG.out).1
      have hpl2 := (Array.getElem?_eq_some_iff.1 HH.out).1
      have q0 := Lib.cell_of_heap HG.out 0
      have q1 := Lib.cell_of_heap HG.out 1
      have d0 := Lib.cell_of_heap HH.out 0
      have d1 := Lib.cell_of_heap HH.out 1
      simp at q0 q1 d0 d1
      go_wp2_with fail
      generalize w6.alloc (.cells #[.int .u64 (rev : Int), .slice a6 l.length cap6] 25) = w7 at *
      generalize w6.heap.size = p6 at *
      have hll := HL.out
      have hq7 := HQ.out
      rw [hll] at hq7
      have hsm : Calls Tryd.prog 14 #[.agg #[.int .u64 (rev : Int), .slice a n cap], .agg #[.int .u64 (rev : Int), .slice a6 l.length cap6]] w7 (GivesVal w7 (.bool true)) := by
        rw [hll]
        exact same_any w7 rev a a6 n cap cap6 l HR.out hq7 hll
      have HSm := Lib.hid hsm
      clear hsm
      go_wp2_with (go_at_call 14; go_must (refine HSm.out.mono ?_))
      rintro e w8 ⟨rfl, b8⟩
      clear q0 q1 d0 d1 HSm HR HQ HG HH hq7
      replace HB := Lib.hid (HB.out.trans (b8.mono HB.out.size))
      clear b8
      go_wp2
      go_ret
      subst hp0
      exact ⟨rfl, HB.out⟩
end Go.Proofs.YtoibhkmlebcepaaDoor

namespace Go.Proofs.YtoibhkmlebcepaaDoor
open Go Go.RowKit

theorem CSee.take {w : World} {a : Option Addr} {n cap : Nat} {cs : List (Nat × List Ent)} (h : CSee w (.slice a n cap) cs) (k : Nat) (hk : k ≤ n) : CSee w (.slice a k cap) (cs.take k) := by
  obtain ⟨a', cap', hv, h1, h2, h3⟩ := h
  cases hv
  have hl : (cs.take k).length = k := by rw [List.length_take]; omega
  refine ⟨a, cap, by rw [hl], by rw [hl]; omega, h2, fun i c hi => ?_⟩
  rw [List.getElem?_take] at hi
  split at hi
  · exact h3 i c hi
  · cases hi

theorem rec_low60 {rev : Nat} {l : List Ent} (hr : rev < 18446744073709551616) (hn : l.length ≤ 60) (h : fewB l = true) : (recL rev l).length ≤ 12680 := by
  unfold fewB lowB at h
  simp only [Bool.and_eq_true, List.all_eq_true, decide_eq_true_eq] at h
  have h1 := enc_length_le 9 rev (by omega)
  have h2 := enc_length_le 9 l.length (by omega)
  have h3 := flat_low l h.1
  unfold recL recTo
  simp only [List.length_append]
  omega

theorem recs_at {cs : List (Nat × List Ent)} {j : Nat} {c : Nat × List Ent} (h : cs[j]? = some c) : (recs cs)[j]? = some (recL c.1 c.2) := by
  simp [recs, h]

/-- A cell of a row. -/
theorem owns_cell {w : World} {B n : Nat} {e : TypeId} {a : Option Addr} {m cap : Nat} {xs : List Value} (h : w.ownsRow B e 1 (.slice a m cap) n xs) {j : Nat} {u : Value} (hj : xs[j]? = some u) : ∃ g, a = some ⟨g, 0, none⟩ ∧ g < w.heap.size ∧ w.cell? ⟨g, j, none⟩ = some u := by
  rcases h.2 with ⟨_, h0⟩ | ⟨g, cap', cur, hv, _, hg, _, _, _, ht⟩
  · have h1 := h.1
    rw [h0] at h1
    have := (List.getElem?_eq_some_iff.1 hj).1
    omega
  · cases hv
    have := h.cells (g := g) rfl j u hj
    rw [Addr.add_lit, Nat.zero_add] at this
    exact ⟨g, rfl, (Array.getElem?_eq_some_iff.1 hg).1, this⟩

/-- A row that lies below a block. -/
theorem owns_below_lt {w w' : World} {B0 B n s : Nat} {e : TypeId} {v : Value} {xs : List Value} (h : w.ownsRow B0 e s v n xs) (hlt : ∀ b, v.ownBlock = some b → b < B) (hb : Below B w w') : w'.ownsRow B0 e s v n xs := by
  refine ⟨h.1, ?_⟩
  rcases h.2 with h0 | ⟨g, cap, cur, rfl, hB, hg, h3⟩
  · exact .inl h0
  · exact .inr ⟨g, cap, cur, rfl, hB, (hb.block g (hlt g rfl)).trans hg, h3⟩

theorem owns_empty (w : World) (e : TypeId) (size : Nat) : (w.alloc (.cells #[] e)).ownsRow w.heap.size e size (.slice (some ⟨w.heap.size, 0, none⟩) 0 0) 0 [] :=
  ⟨by simp, .inr ⟨w.heap.size, 0, #[], rfl, Nat.le_refl _, heap_alloc_new w _, Nat.le_refl _, Nat.zero_le _, by simp, by simp⟩⟩

theorem ecells_one (l : List Ent) : ∀ u ∈ ecells l, u.oneCell' = true := by
  intro u hu
  obtain ⟨x, _, hx⟩ := List.mem_flatMap.1 hu
  simp [ecell] at hx
  rcases hx with rfl | rfl | rfl <;> rfl
end Go.Proofs.YtoibhkmlebcepaaDoor

namespace Go.Proofs.YtoibhkmlebcepaaDoor
open Go Go.RowKit

theorem Sl.up {w w' : World} {v : Value} {l : List UInt8} (h : Sl w.heap.size w v l) (hb : Below w.heap.size w w') : Sl w'.heap.size w' v l := by
  rcases h.below hb with h | ⟨b, off, cap, rfl, h1, h2, h3⟩
  · exact .inl h
  · exact .inr ⟨b, off, cap, rfl, h2, h2, h3⟩

def decOut : Option (Nat × List Ent) → Nat × List Ent × Nat
  | none => (0, [], 9)
  | some (rev, es) => (rev, es, 0)

theorem dec_out {w : World} {o : Option (Nat × List Ent)} {e : Ending} {w' : World} (h : DecPost w o e w') :
    ∃ a cap, e = .returned (.tuple #[.agg #[.int .u64 ((decOut o).1 : Int), .slice a (decOut o).2.1.length cap], .int .i64 ((decOut o).2.2 : Int)]) ∧ Reads w' 3 (.slice a (decOut o).2.1.length cap) (decOut o).2.1.length (ecells (decOut o).2.1) ∧ Below w.heap.size w w' := by
  cases o with
  | none => exact ⟨none, 0, h.1, ereads_nil w', h.2⟩
  | some p =>
    obtain ⟨rev, es⟩ := p
    obtain ⟨a, cap, he, ho, hb⟩ := h
    exact ⟨a, cap, he, ownsRow.reads ho, hb⟩

theorem rep_out {w : World} {b : List UInt8} {e : Ending} {w' : World} (h : RepPost w b e w') : ∃ v, e = .returned (.tuple #[v, .int .i64 ((replGo none b).2 : Int)]) ∧ CSee w' v (replGo none b).1 ∧ Below w.heap.size w w' := by
  obtain ⟨v, he, hc, hb⟩ := h
  exact ⟨v, he, hc.see, hb⟩

set_option maxRecDepth 100000 in
set_option maxHeartbeats 2000000 in
theorem walReads_walk (w : World) (v : Value) (b : List UInt8) (hs : Sl w.heap.size w v b) (hst : Steps w) :
    Calls Tryd.prog 4 #[v] w (SaysTrue w) := by
  obtain ⟨va, vcap, rfl⟩ := hs.form
  obtain ⟨_, _, hv, hc1, hc2⟩ := hs.reads.le
  cases hv
  unfold maxLen at hc2
  have HS := Lib.hid hs
  have ST := Lib.hid hst
  clear hs hst
  go_enter Tryd.func4, Tryd.ntmps4
  go_wp2_with (go_at_call 7; go_must (refine (wal_fixed w ST.out).mono ?_))
  rintro e w1 ⟨rfl, b1⟩
  have HB := Lib.hid b1
  replace HS := Lib.hid (HS.out.up b1)
  replace ST := Lib.hid (ST.out.below b1)
  clear b1
  by_cases hn : b.length ≤ 3000
  · have hnI : ¬ (3000 : Int) < b.length := by omega
    have hd1 := fun w' (h : Sl w'.heap.size w' (.slice va b.length vcap) b) => decode_any w' _ b h (by omega)
    have hd2 := fun w' (h : Sl w'.heap.size w' (.slice va b.length vcap) b) => refdecode_any w' _ b h (by omega)
    have hr1 := fun w' (h : Sl w'.heap.size w' (.slice va b.length vcap) b) hst => replay_any w' _ b h (by omega) hst
    have hr2 := fun w' (h : Sl w'.heap.size w' (.slice va b.length vcap) b) => refreplay_any w' _ b h (by omega)
    have HD1 := Lib.hid hd1
    have HD2 := Lib.hid hd2
    have HR1 := Lib.hid hr1
    have HR2 := Lib.hid hr2
    clear hd1 hd2 hr1 hr2
    go_wp2_with (go_at_call 13; go_must (refine (HD1.out _ HS.out).mono ?_))
    intro e w2 hp
    obtain ⟨a1, cap1, rfl, r1, b2⟩ := dec_out hp
    have HQ1 := Lib.hid r1
    clear hp r1 HD1
    replace HS := Lib.hid (HS.out.up b2)
    replace HB := Lib.hid (HB.out.trans (b2.mono HB.out.size))
    replace ST := Lib.hid (ST.out.below b2)
    clear b2
    generalize hrev : (decOut (decL b)).1 = rev at *
    generalize hes : (decOut (decL b)).2.1 = es at *
    generalize her : (decOut (decL b)).2.2 = er at *
    have b3 := (Below.refl w2.heap.size w2).alloc (Nat.le_refl _) (.cells #[.int .u64 (rev : Int), .slice a1 es.length cap1] 25)
    have g3 := heap_alloc_new w2 (.cells #[.int .u64 (rev : Int), .slice a1 es.length cap1] 25)
    replace HS := Lib.hid (HS.out.up b3)
    have HG := Lib.hid g3
    clear g3
    replace HB := Lib.hid (HB.out.trans (b3.mono HB.out.size))
    replace ST := Lib.hid (ST.out.below b3)
    replace HQ1 := Lib.hid (HQ1.out.below' b3)
    clear b3
    go_wp2_with fail
    generalize w2.alloc (.cells #[.int .u64 (rev : Int), .slice a1 es.length cap1] 25) = w3 at *
    generalize w2.heap.size = p1 at *
    go_wp2_with (go_at_call 15; go_must (refine (HD2.out _ HS.out).mono ?_))
    intro e w4 hp
    obtain ⟨a2, cap2, rfl, r2, b4⟩ := dec_out hp
    rw [hrev, hes, her] at *
    have HQ2 := Lib.hid r2
    clear hp r2 HD2 hrev hes her
    replace HS := Lib.hid (HS.out.up b4)
    replace HB := Lib.hid (HB.out.trans (b4.mono HB.out.size))
    replace ST := Lib.hid (ST.out.below b4)
    replace HQ1 := Lib.hid (HQ1.out.below' b4)
    replace HG := Lib.hid (below_block b4 HG.out (Array.getElem?_eq_some_iff.1 HG.out).1)
    clear b4
    have b5 := (Below.refl w4.heap.size w4).alloc (Nat.le_refl _) (.cells #[.int .u64 (rev : Int), .slice a2 es.length cap2] 25)
    have g5 := heap_alloc_new w4 (.cells #[.int .u64 (rev : Int), .slice a2 es.length cap2] 25)
    replace HS := Lib.hid (HS.out.up b5)
    have HH := Lib.hid g5
    clear g5
    replace HB := Lib.hid (HB.out.trans (b5.mono HB.out.size))
    replace ST := Lib.hid (ST.out.below b5)
    replace HQ1 := Lib.hid (HQ1.out.below' b5)
    replace HQ2 := Lib.hid (HQ2.out.below' b5)
    replace HG := Lib.hid (below_block b5 HG.out (Array.getElem?_eq_some_iff.1 HG.out).1)
    clear b5
    go_wp2_with fail
    generalize w4.alloc (.cells #[.int .u64 (rev : Int), .slice a2 es.length cap2] 25) = w5 at *
    generalize w4.heap.size = p2 at *
    go_wp2_with (go_at_call 16; go_must (refine (HR1.out _ HS.out ST.out).mono ?_))
    intro e w6 hp
    obtain ⟨v6, rfl, s6, b6⟩ := rep_out hp
    have HC6 := Lib.hid s6
    clear hp s6 HR1
    replace HS := Lib.hid (HS.out.up b6)
    replace HB := Lib.hid (HB.out.trans (b6.mono HB.out.size))
    replace ST := Lib.hid (ST.out.below b6)
    replace HQ1 := Lib.hid (HQ1.out.below' b6)
    replace HQ2 := Lib.hid (HQ2.out.below' b6)
    replace HG := Lib.hid (below_block b6 HG.out (Array.getElem?_eq_some_iff.1 HG.out).1)
    replace HH := Lib.hid (below_block b6 HH.out (Array.getElem?_eq_some_iff.1 HH.out).1)
    clear b6
    go_wp2_with (go_at_call 17; go_must (refine (HR2.out _ HS.out).mono ?_))
    intro e w7 hp
    obtain ⟨v7, rfl, s7, b7⟩ := rep_out hp
    have HC7 := Lib.hid s7
    clear hp s7 HR2
    replace HC6 := Lib.hid (HC6.out.below b7)
    replace HB := Lib.hid (HB.out.trans (b7.mono HB.out.size))
    replace HQ1 := Lib.hid (HQ1.out.below' b7)
    replace HQ2 := Lib.hid (HQ2.out.below' b7)
    replace HG := Lib.hid (below_block b7 HG.out (Array.getElem?_eq_some_iff.1 HG.out).1)
    replace HH := Lib.hid (below_block b7 HH.out (Array.getElem?_eq_some_iff.1 HH.out).1)
    clear b7
    have q0 := Lib.cell_of_heap HG.out 0
    have q1 := Lib.cell_of_heap HG.out 1
    have d0 := Lib.cell_of_heap HH.out 0
    have d1 := Lib.cell_of_heap HH.out 1
    simp at q0 q1 d0 d1
    have hq := (Array.getElem?_eq_some_iff.1 HG.out).1
    have hd := (Array.getElem?_eq_some_iff.1 HH.out).1
    generalize (replGo none b).1 = cs at *
    generalize (replGo none b).2 = rn at *
    have hsm := same_any w7 rev a1 a2 es.length cap1 cap2 es HQ1.out HQ2.out rfl
    have HSm := Lib.hid hsm
    clear hsm
    go_wp2_with (go_at_call 14; go_must (refine HSm.out.mono ?_))
    rintro e w8 ⟨rfl, b8⟩
    have hsa := sameall_any w8 v6 v7 cs (HC6.out.below b8) (HC7.out.below b8)
    have HSa := Lib.hid hsa
    replace HB := Lib.hid (HB.out.trans (b8.mono HB.out.size))
    clear b8
    clear hsa q0 q1 d0 d1 HSm HC6 HC7 HG HH HQ1 HQ2
    go_wp2_with (go_at_call 18; go_must (refine HSa.out.mono ?_))
    rintro e w9 ⟨rfl, b9⟩
    replace HB := Lib.hid (HB.out.trans (b9.mono HB.out.size))
    clear b9
    go_wp2
    go_ret
    exact ⟨rfl, HB.out⟩
  · have hnI : (3000 : Int) < b.length := by omega
    go_wp2
    go_ret
    exact ⟨rfl, HB.out⟩
end Go.Proofs.YtoibhkmlebcepaaDoor
