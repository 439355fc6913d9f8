import Derived.Test.YtoibhkmlebcepaaDoorWalFixM
namespace Go.Proofs.YtoibhkmlebcepaaDoor
open Go Go.RowKit

theorem enc_yes {w : World} {e : Ending} {w' : World} (h : EncPost w 1 oneE e w') : ∃ a cap, e = .returned (.tuple #[.slice a 13 cap, .int .i64 0]) ∧ Reads w' 1 (.slice a 13 cap) 13 (bcells (sealL [1, 1, 0, 1, 97])) ∧ Below w.heap.size w w' := by
  unfold EncPost at h
  rw [if_pos right_one, rec_one] at h
  obtain ⟨v, rfl, hf, hb⟩ := h
  rw [sealL_length] at hf
  obtain ⟨a, cap, rfl, _, _⟩ := hf.1.le
  exact ⟨a, cap, rfl, hf.1, hb⟩

theorem enc_no {w : World} {e : Ending} {w' : World} (h : EncPost w 0 [] e w') : GivesVal w (.tuple #[.slice none 0 0, .int .i64 9]) e w' := by
  unfold EncPost at h
  rw [if_neg (by rw [right_none]; decide)] at h
  exact h

theorem rep_one {w : World} {e : Ending} {w' : World} (h : RepPost w (sealL [1, 1, 0, 1, 97]) e w') : ∃ g cap sa scap, e = .returned (.tuple #[.slice (some ⟨g, 0, none⟩) 1 cap, .int .i64 13]) ∧ 1 ≤ cap ∧ cap ≤ maxLen ∧ g < w'.heap.size ∧
    w'.cell? ⟨g, 0, none⟩ = some (.int .u64 1) ∧ w'.cell? ⟨g, 1, none⟩ = some (.slice sa 1 scap) ∧ Reads w' 3 (.slice sa 1 scap) 1 (ecells oneE) ∧ Below w.heap.size w w' := by
  obtain ⟨v, rfl, hc, hb⟩ := h
  rw [repl_one (by decide) dec_one] at hc ⊢
  obtain ⟨a, cap, rfl, h1, h2, h3⟩ := hc.see
  obtain ⟨g, sa, scap, rfl, hg, c0, c1, hr⟩ := h3 0 _ rfl
  exact ⟨g, cap, sa, scap, by rw [sealL_length]; rfl, h1, h2, hg, c0, c1, hr, hb⟩

theorem rep_none {w : World} {e : Ending} {w' : World} (h : RepPost w [] e w') : ∃ a cap, e = .returned (.tuple #[.slice a 0 cap, .int .i64 0]) ∧ Below w.heap.size w w' := by
  obtain ⟨v, rfl, hc, hb⟩ := h
  rw [repl_none] at hc ⊢
  obtain ⟨a, cap, rfl, _, _⟩ := hc.form
  exact ⟨a, cap, rfl, hb⟩

theorem ereads_nil (w : World) : Reads w 3 (.slice none 0 0) 0 (ecells []) :=
  ⟨rfl, none, 0, rfl, Nat.le_refl _, by decide, fun j u hj => by simp [ecells] at hj⟩

set_option maxRecDepth 100000 in
set_option maxHeartbeats 2000000 in
theorem wal_fixed (w : World) (hst : Steps w) : Calls Tryd.prog 7 #[] w (GivesVal w (.bool true)) := by
  have r0 := (one_reads w).below' ((Below.refl _ (w.alloc (.cells #[.string ⟨#[97]⟩, .int .u64 1, .bool false] 48))).alloc (Nat.le_refl _) (.cells #[.int .u64 1, .slice (some ⟨w.heap.size, 0, none⟩) 1 1] 25))
  have b0 : Below w.heap.size w ((w.alloc (.cells #[.string ⟨#[97]⟩, .int .u64 1, .bool false] 48)).alloc (.cells #[.int .u64 1, .slice (some ⟨w.heap.size, 0, none⟩) 1 1] 25)) :=
    ((Below.refl _ w).alloc (Nat.le_refl _) _).alloc (by simp) _
  have g0 := (two_boxes w #[.string ⟨#[97]⟩, .int .u64 1, .bool false] #[.int .u64 1, .slice (some ⟨w.heap.size, 0, none⟩) 1 1] 48 25).2
  have s0 := hst.below b0
  have R0 := Lib.hid r0
  have B0 := Lib.hid b0
  have ST0 := Lib.hid s0
  clear r0 b0 s0 hst
  go_enter Tryd.func7, Tryd.ntmps7
  have henc := encode_any ((w.alloc (.cells #[.string ⟨#[97]⟩, .int .u64 1, .bool false] 48)).alloc (.cells #[.int .u64 1, .slice (some ⟨w.heap.size, 0, none⟩) 1 1] 25)) 1 _ 1 1 oneE R0.out rfl ⟨Nat.le_refl _, by decide⟩ (by decide) (by decide) ST0.out
  have he2 := fun w h => encode_any w 0 none 0 0 [] (ereads_nil w) rfl ⟨Nat.le_refl _, by decide⟩ (by decide) (by decide) h
  have HE := Lib.hid henc
  have HE2 := Lib.hid he2
  clear henc he2
  go_wp2_with (go_at_call 9; go_must (refine HE.out.mono ?_))
  intro e w1 hp1
  obtain ⟨a1, cap1, rfl, r1, b1⟩ := enc_yes hp1
  have G0 := Lib.hid g0
  have HV := Lib.hid r1
  clear hp1 r1 HE g0
  obtain ⟨_, _, hv, hc11, hc12⟩ := HV.out.le
  cases hv
  unfold maxLen at hc12
  replace B0 := Lib.hid (B0.out.trans (b1.mono B0.out.size))
  replace ST0 := Lib.hid (ST0.out.below b1)
  replace R0 := Lib.hid (R0.out.below' b1)
  replace G0 := Lib.hid (below_block b1 G0.out (Array.getElem?_eq_some_iff.1 G0.out).1)
  clear b1
  have hrp := replay_any w1 _ _ (Sl.of_reads (l := sealL [1, 1, 0, 1, 97]) HV.out (by decide)) (by decide) ST0.out
  have HP := Lib.hid hrp
  clear hrp
  go_wp2_with (go_at_call 16; go_must (refine HP.out.mono ?_))
  intro e w2 hp2
  obtain ⟨g, gcap, sa, scap, rfl, hg1, hg2, hgl, c0, c1, hr, b2⟩ := rep_one hp2
  unfold maxLen at hg2
  have HQ := Lib.hid hr
  have C0 := Lib.hid (And.intro hgl (And.intro c0 c1))
  clear hp2 HP hr HV hgl c0 c1
  replace B0 := Lib.hid (B0.out.trans (b2.mono B0.out.size))
  replace ST0 := Lib.hid (ST0.out.below b2)
  replace R0 := Lib.hid (R0.out.below' b2)
  replace G0 := Lib.hid (below_block b2 G0.out (Array.getElem?_eq_some_iff.1 G0.out).1)
  clear b2
  go_wp2_with (go_at_call 9; go_must (refine (HE2.out _ ST0.out).mono ?_))
  intro e w3 hp3
  obtain ⟨rfl, b3⟩ := enc_no hp3
  clear hp3
  have hc3 : g < w3.heap.size ∧ w3.cell? ⟨g, 0, none⟩ = some (.int .u64 1) ∧ w3.cell? ⟨g, 1, none⟩ = some (.slice sa 1 scap) :=
    ⟨by have := b3.size; have := C0.out.1; omega, (b3.cell (p := ⟨g, 0, none⟩) C0.out.1).trans C0.out.2.1, (b3.cell (p := ⟨g, 1, none⟩) C0.out.1).trans C0.out.2.2⟩
  clear C0
  have C0 := Lib.hid hc3
  clear hc3
  replace B0 := Lib.hid (B0.out.trans (b3.mono B0.out.size))
  replace ST0 := Lib.hid (ST0.out.below b3)
  replace R0 := Lib.hid (R0.out.below' b3)
  replace G0 := Lib.hid (below_block b3 G0.out (Array.getElem?_eq_some_iff.1 G0.out).1)
  replace HQ := Lib.hid (HQ.out.below' b3)
  clear b3
  have hrp := replay_any w3 (.slice none 0 0) [] (.inl ⟨⟨_, rfl⟩, rfl⟩) (by decide) ST0.out
  have HP := Lib.hid hrp
  clear hrp
  go_wp2_with (go_at_call 16; go_must (refine HP.out.mono ?_))
  intro e w4 hp4
  obtain ⟨a3, cap3, rfl, b4⟩ := rep_none hp4
  clear hp4
  have hgl : g < w4.heap.size := by have := b4.size; have := C0.out.1; omega
  have c0 := (b4.cell (p := ⟨g, 0, none⟩) C0.out.1).trans C0.out.2.1
  have c1 := (b4.cell (p := ⟨g, 1, none⟩) C0.out.1).trans C0.out.2.2
  clear C0
  replace B0 := Lib.hid (B0.out.trans (b4.mono B0.out.size))
  replace R0 := Lib.hid (R0.out.below' b4)
  replace G0 := Lib.hid (below_block b4 G0.out (Array.getElem?_eq_some_iff.1 G0.out).1)
  replace HQ := Lib.hid (HQ.out.below' b4)
  clear b4
  have hpl : w.heap.size + 1 < w4.heap.size := (Array.getElem?_eq_some_iff.1 G0.out).1
  have d0 := Lib.cell_of_heap G0.out 0
  have d1 := Lib.cell_of_heap G0.out 1
  simp at d0 d1
  have HR := R0
  clear R0 G0 HP HE2 ST0
  have hBs := B0.out.size
  generalize hp0 : w.heap.size + 1 = p0 at *
  generalize he0 : w.heap.size = e0 at *
  go_wp2_with fail
  refine wp_region_all (by kernel_rfl) [eqF (.int .i64 0), eqF (.bool true), eqF (.bool true), eqF (.int .i64 9), eqF (.bool true), eqF (.bool true), eqF (.bool true), eqF (.slice (some ⟨g, 0, none⟩) 1 gcap), eqF (.int .i64 1), eqF (.bool true), eqF (.bool true), eqF (.bool true), eqF (.int .i64 13), eqF (.slice a1 13 cap1), eqF (.int .i64 13), eqF (.bool true), eqF (.bool true), eqF (.bool true), eqF (.slice a3 0 cap3), eqF (.int .i64 0), eqF (.bool true), eqF (.bool true), eqF (.bool true), eqF (.int .i64 0), eqF (.bool true), eqF (.bool true), eqF (.bool true), eqF (.slice (some ⟨g, 0, none⟩) 1 gcap), eqF (.pointer (some ⟨g, 0, none⟩)), eqF (.agg #[.int .u64 1, .slice sa 1 scap]), eqF (.agg #[.int .u64 1, .slice (some ⟨e0, 0, none⟩) 1 1]), eqF (.bool true), eqF (.bool true), eqF (.bool true)] (by kernel_rfl) ⟨?_, ?_, ?_, ?_, ?_, ?_, ?_, ?_, ?_, ?_, ?_, ?_, ?_, ?_, ?_, ?_, ?_, ?_, ?_, ?_, ?_, ?_, ?_, ?_, ?_, ?_, ?_, ?_, ?_, ?_, ?_, ?_, ?_, ?_, trivial⟩ ⟨trivial, trivial, trivial, fun _ _ h => h, fun _ _ h => h, trivial, trivial, fun _ _ h => h, fun _ _ h => h, fun _ _ h => h, trivial, trivial, fun _ _ h => h, fun _ _ h => h, fun _ _ h => h, fun _ _ h => h, trivial, trivial, fun _ _ h => h, fun _ _ h => h, fun _ _ h => h, trivial, trivial, fun _ _ h => h, fun _ _ h => h, trivial, trivial, fun _ _ h => h, fun _ _ h => h, fun _ _ h => h, fun _ _ h => h, fun _ _ h => h, trivial, trivial, trivial⟩ ?_
  · intro ρ wx hρ hbx hl
    have e3 : ρ (.tmp 3) = .int .i64 0 := hρ.tmp 3 (by decide +kernel)
    refine y_val (v := .int .i64 0) ?_ rfl
    simp [execOp, go_sem, e3]
  · intro ρ wx hρ hbx hl
    have e32 : ρ (.tmp 32) = .int .i64 0 := hl 0 (by decide +kernel) 32 rfl
    refine y_val (v := .bool true) ?_ rfl
    simp [execOp, hρ.const, go_sem, e32]
  · intro ρ wx hρ hbx hl
    have e33 : ρ (.tmp 33) = .bool true := hl 1 (by decide +kernel) 33 rfl
    refine y_val (v := .bool true) ?_ rfl
    simp [execOp, go_sem, e33]
  · intro ρ wx hρ hbx hl
    have e7 : ρ (.tmp 7) = .int .i64 9 := hρ.tmp 7 (by decide +kernel)
    refine y_val (v := .int .i64 9) ?_ rfl
    simp [execOp, go_sem, e7]
  · intro ρ wx hρ hbx hl
    have e35 : ρ (.tmp 35) = .int .i64 9 := hl 3 (by decide +kernel) 35 rfl
    refine y_val (v := .bool true) ?_ rfl
    simp [execOp, hρ.const, go_sem, e35]
  · intro ρ wx hρ hbx hl
    have e34 : ρ (.tmp 34) = .bool true := hl 2 (by decide +kernel) 34 rfl
    have e36 : ρ (.tmp 36) = .bool true := hl 4 (by decide +kernel) 36 rfl
    refine y_val (v := .bool true) ?_ rfl
    simp [execOp, go_sem, e34, e36]
  · intro ρ wx hρ hbx hl
    have e37 : ρ (.tmp 37) = .bool true := hl 5 (by decide +kernel) 37 rfl
    refine y_val (v := .bool true) ?_ rfl
    simp [execOp, go_sem, e37]
  · intro ρ wx hρ hbx hl
    have e4 : ρ (.tmp 4) = .slice (some ⟨g, 0, none⟩) 1 gcap := hρ.tmp 4 (by decide +kernel)
    refine y_val (v := .slice (some ⟨g, 0, none⟩) 1 gcap) ?_ rfl
    simp [execOp, go_sem, e4]
  · intro ρ wx hρ hbx hl
    have e39 : ρ (.tmp 39) = .slice (some ⟨g, 0, none⟩) 1 gcap := hl 7 (by decide +kernel) 39 rfl
    refine y_val (v := .int .i64 1) ?_ rfl
    simp [execOp, go_sem, e39]
  · intro ρ wx hρ hbx hl
    have e40 : ρ (.tmp 40) = .int .i64 1 := hl 8 (by decide +kernel) 40 rfl
    refine y_val (v := .bool true) ?_ rfl
    simp [execOp, hρ.const, go_sem, e40]
  · intro ρ wx hρ hbx hl
    have e38 : ρ (.tmp 38) = .bool true := hl 6 (by decide +kernel) 38 rfl
    have e41 : ρ (.tmp 41) = .bool true := hl 9 (by decide +kernel) 41 rfl
    refine y_val (v := .bool true) ?_ rfl
    simp [execOp, go_sem, e38, e41]
  · intro ρ wx hρ hbx hl
    have e42 : ρ (.tmp 42) = .bool true := hl 10 (by decide +kernel) 42 rfl
    refine y_val (v := .bool true) ?_ rfl
    simp [execOp, go_sem, e42]
  · intro ρ wx hρ hbx hl
    have e5 : ρ (.tmp 5) = .int .i64 13 := hρ.tmp 5 (by decide +kernel)
    refine y_val (v := .int .i64 13) ?_ rfl
    simp [execOp, go_sem, e5]
  · intro ρ wx hρ hbx hl
    have e2 : ρ (.tmp 2) = .slice a1 13 cap1 := hρ.tmp 2 (by decide +kernel)
    refine y_val (v := .slice a1 13 cap1) ?_ rfl
    simp [execOp, go_sem, e2]
  · intro ρ wx hρ hbx hl
    have e45 : ρ (.tmp 45) = .slice a1 13 cap1 := hl 13 (by decide +kernel) 45 rfl
    refine y_val (v := .int .i64 13) ?_ rfl
    simp [execOp, go_sem, e45]
  · intro ρ wx hρ hbx hl
    have e44 : ρ (.tmp 44) = .int .i64 13 := hl 12 (by decide +kernel) 44 rfl
    have e46 : ρ (.tmp 46) = .int .i64 13 := hl 14 (by decide +kernel) 46 rfl
    refine y_val (v := .bool true) ?_ rfl
    simp [execOp, go_sem, e44, e46]
  · intro ρ wx hρ hbx hl
    have e43 : ρ (.tmp 43) = .bool true := hl 11 (by decide +kernel) 43 rfl
    have e47 : ρ (.tmp 47) = .bool true := hl 15 (by decide +kernel) 47 rfl
    refine y_val (v := .bool true) ?_ rfl
    simp [execOp, go_sem, e43, e47]
  · intro ρ wx hρ hbx hl
    have e48 : ρ (.tmp 48) = .bool true := hl 16 (by decide +kernel) 48 rfl
    refine y_val (v := .bool true) ?_ rfl
    simp [execOp, go_sem, e48]
  · intro ρ wx hρ hbx hl
    have e8 : ρ (.tmp 8) = .slice a3 0 cap3 := hρ.tmp 8 (by decide +kernel)
    refine y_val (v := .slice a3 0 cap3) ?_ rfl
    simp [execOp, go_sem, e8]
  · intro ρ wx hρ hbx hl
    have e50 : ρ (.tmp 50) = .slice a3 0 cap3 := hl 18 (by decide +kernel) 50 rfl
    refine y_val (v := .int .i64 0) ?_ rfl
    simp [execOp, go_sem, e50]
  · intro ρ wx hρ hbx hl
    have e51 : ρ (.tmp 51) = .int .i64 0 := hl 19 (by decide +kernel) 51 rfl
    refine y_val (v := .bool true) ?_ rfl
    simp [execOp, hρ.const, go_sem, e51]
  · intro ρ wx hρ hbx hl
    have e49 : ρ (.tmp 49) = .bool true := hl 17 (by decide +kernel) 49 rfl
    have e52 : ρ (.tmp 52) = .bool true := hl 20 (by decide +kernel) 52 rfl
    refine y_val (v := .bool true) ?_ rfl
    simp [execOp, go_sem, e49, e52]
  · intro ρ wx hρ hbx hl
    have e53 : ρ (.tmp 53) = .bool true := hl 21 (by decide +kernel) 53 rfl
    refine y_val (v := .bool true) ?_ rfl
    simp [execOp, go_sem, e53]
  · intro ρ wx hρ hbx hl
    have e9 : ρ (.tmp 9) = .int .i64 0 := hρ.tmp 9 (by decide +kernel)
    refine y_val (v := .int .i64 0) ?_ rfl
    simp [execOp, go_sem, e9]
  · intro ρ wx hρ hbx hl
    have e55 : ρ (.tmp 55) = .int .i64 0 := hl 23 (by decide +kernel) 55 rfl
    refine y_val (v := .bool true) ?_ rfl
    simp [execOp, hρ.const, go_sem, e55]
  · intro ρ wx hρ hbx hl
    have e54 : ρ (.tmp 54) = .bool true := hl 22 (by decide +kernel) 54 rfl
    have e56 : ρ (.tmp 56) = .bool true := hl 24 (by decide +kernel) 56 rfl
    refine y_val (v := .bool true) ?_ rfl
    simp [execOp, go_sem, e54, e56]
  · intro ρ wx hρ hbx hl
    have e57 : ρ (.tmp 57) = .bool true := hl 25 (by decide +kernel) 57 rfl
    refine y_val (v := .bool true) ?_ rfl
    simp [execOp, go_sem, e57]
  · intro ρ wx hρ hbx hl
    have e4 : ρ (.tmp 4) = .slice (some ⟨g, 0, none⟩) 1 gcap := hρ.tmp 4 (by decide +kernel)
    refine y_val (v := .slice (some ⟨g, 0, none⟩) 1 gcap) ?_ rfl
    simp [execOp, go_sem, e4]
  · intro ρ wx hρ hbx hl
    have e59 : ρ (.tmp 59) = .slice (some ⟨g, 0, none⟩) 1 gcap := hl 27 (by decide +kernel) 59 rfl
    refine y_val (v := .pointer (some ⟨g, 0, none⟩)) ?_ rfl
    simp [execOp, hρ.const, go_sem, e59]
  · intro ρ wx hρ hbx hl
    have e60 : ρ (.tmp 60) = .pointer (some ⟨g, 0, none⟩) := hl 28 (by decide +kernel) 60 rfl
    have k0 := (hbx.cell (p := ⟨g, 0, none⟩) hgl).trans c0
    have k1 := (hbx.cell (p := ⟨g, 1, none⟩) hgl).trans c1
    refine y_val (v := .agg #[.int .u64 1, .slice sa 1 scap]) ?_ rfl
    simp [execOp, go_sem, e60, k0, k1]
  · intro ρ wx hρ hbx hl
    have e1 : ρ (.tmp 1) = .pointer (some ⟨p0, 0, none⟩) := hρ.tmp 1 (by decide +kernel)
    have k0 := (hbx.cell (p := ⟨p0, 0, none⟩) hpl).trans d0
    have k1 := (hbx.cell (p := ⟨p0, 1, none⟩) hpl).trans d1
    refine y_val (v := .agg #[.int .u64 1, .slice (some ⟨e0, 0, none⟩) 1 1]) ?_ rfl
    simp [execOp, go_sem, e1, k0, k1]
  · intro ρ wx hρ hbx hl
    have e61 : ρ (.tmp 61) = .agg #[.int .u64 1, .slice sa 1 scap] := hl 29 (by decide +kernel) 61 rfl
    have e62 : ρ (.tmp 62) = .agg #[.int .u64 1, .slice (some ⟨e0, 0, none⟩) 1 1] := hl 30 (by decide +kernel) 62 rfl
    refine y_call (f := 14) (args := #[.agg #[.int .u64 1, .slice sa 1 scap], .agg #[.int .u64 1, .slice (some ⟨e0, 0, none⟩) 1 1]]) (by simp [execOp, resolve, invoke, hρ.func, go_sem, e61, e62]) ?_
    refine (same_any wx 1 sa (some ⟨e0, 0, none⟩) 1 scap 1 oneE (HQ.out.below' hbx) (HR.out.below' hbx) rfl).mono ?_
    rintro e w6 ⟨rfl, b6⟩
    exact ⟨_, rfl, rfl, b6⟩
  · intro ρ wx hρ hbx hl
    have e58 : ρ (.tmp 58) = .bool true := hl 26 (by decide +kernel) 58 rfl
    have e63 : ρ (.tmp 63) = .bool true := hl 31 (by decide +kernel) 63 rfl
    refine y_val (v := .bool true) ?_ rfl
    simp [execOp, go_sem, e58, e63]
  · intro ρ wx hρ hbx hl
    have e64 : ρ (.tmp 64) = .bool true := hl 32 (by decide +kernel) 64 rfl
    refine y_val (v := .bool true) ?_ rfl
    simp [execOp, go_sem, e64]
  intro aa wz hdef hsz hlk hbz hf
  have ha := act_of_like hdef hsz hlk [32, 33, 34, 35, 36, 37, 38, 39, 40, 41, 42, 43, 44, 45, 46, 47, 48, 49, 50, 51, 52, 53, 54, 55, 56, 57, 58, 59, 60, 61, 62, 63, 64, 0] 65 rfl (by decide +kernel)
  have e32 : aa.tmps.getD 32 undef = .int .i64 0 := hf 0 _ 32 rfl rfl
  have e33 : aa.tmps.getD 33 undef = .bool true := hf 1 _ 33 rfl rfl
  have e34 : aa.tmps.getD 34 undef = .bool true := hf 2 _ 34 rfl rfl
  have e35 : aa.tmps.getD 35 undef = .int .i64 9 := hf 3 _ 35 rfl rfl
  have e36 : aa.tmps.getD 36 undef = .bool true := hf 4 _ 36 rfl rfl
  have e37 : aa.tmps.getD 37 undef = .bool true := hf 5 _ 37 rfl rfl
  have e38 : aa.tmps.getD 38 undef = .bool true := hf 6 _ 38 rfl rfl
  have e39 : aa.tmps.getD 39 undef = .slice (some ⟨g, 0, none⟩) 1 gcap := hf 7 _ 39 rfl rfl
  have e40 : aa.tmps.getD 40 undef = .int .i64 1 := hf 8 _ 40 rfl rfl
  have e41 : aa.tmps.getD 41 undef = .bool true := hf 9 _ 41 rfl rfl
  have e42 : aa.tmps.getD 42 undef = .bool true := hf 10 _ 42 rfl rfl
  have e43 : aa.tmps.getD 43 undef = .bool true := hf 11 _ 43 rfl rfl
  have e44 : aa.tmps.getD 44 undef = .int .i64 13 := hf 12 _ 44 rfl rfl
  have e45 : aa.tmps.getD 45 undef = .slice a1 13 cap1 := hf 13 _ 45 rfl rfl
  have e46 : aa.tmps.getD 46 undef = .int .i64 13 := hf 14 _ 46 rfl rfl
  have e47 : aa.tmps.getD 47 undef = .bool true := hf 15 _ 47 rfl rfl
  have e48 : aa.tmps.getD 48 undef = .bool true := hf 16 _ 48 rfl rfl
  have e49 : aa.tmps.getD 49 undef = .bool true := hf 17 _ 49 rfl rfl
  have e50 : aa.tmps.getD 50 undef = .slice a3 0 cap3 := hf 18 _ 50 rfl rfl
  have e51 : aa.tmps.getD 51 undef = .int .i64 0 := hf 19 _ 51 rfl rfl
  have e52 : aa.tmps.getD 52 undef = .bool true := hf 20 _ 52 rfl rfl
  have e53 : aa.tmps.getD 53 undef = .bool true := hf 21 _ 53 rfl rfl
  have e54 : aa.tmps.getD 54 undef = .bool true := hf 22 _ 54 rfl rfl
  have e55 : aa.tmps.getD 55 undef = .int .i64 0 := hf 23 _ 55 rfl rfl
  have e56 : aa.tmps.getD 56 undef = .bool true := hf 24 _ 56 rfl rfl
  have e57 : aa.tmps.getD 57 undef = .bool true := hf 25 _ 57 rfl rfl
  have e58 : aa.tmps.getD 58 undef = .bool true := hf 26 _ 58 rfl rfl
  have e59 : aa.tmps.getD 59 undef = .slice (some ⟨g, 0, none⟩) 1 gcap := hf 27 _ 59 rfl rfl
  have e60 : aa.tmps.getD 60 undef = .pointer (some ⟨g, 0, none⟩) := hf 28 _ 60 rfl rfl
  have e61 : aa.tmps.getD 61 undef = .agg #[.int .u64 1, .slice sa 1 scap] := hf 29 _ 61 rfl rfl
  have e62 : aa.tmps.getD 62 undef = .agg #[.int .u64 1, .slice (some ⟨e0, 0, none⟩) 1 1] := hf 30 _ 62 rfl rfl
  have e63 : aa.tmps.getD 63 undef = .bool true := hf 31 _ 63 rfl rfl
  have e64 : aa.tmps.getD 64 undef = .bool true := hf 32 _ 64 rfl rfl
  have e0 : aa.tmps.getD 0 undef = .bool true := hf 33 _ 0 rfl rfl
  simp only [putAll, List.foldl_cons, List.foldl_nil, e32, e33, e34, e35, e36, e37, e38, e39, e40, e41, e42, e43, e44, e45, e46, e47, e48, e49, e50, e51, e52, e53, e54, e55, e56, e57, e58, e59, e60, e61, e62, e63, e64, e0] at ha
  simp [Act.put] at ha
  subst ha
  clear hdef hsz hlk hf e32 e33 e34 e35 e36 e37 e38 e39 e40 e41 e42 e43 e44 e45 e46 e47 e48 e49 e50 e51 e52 e53 e54 e55 e56 e57 e58 e59 e60 e61 e62 e63 e64 e0
  have HBz := Lib.hid (B0.out.trans (hbz.mono (by first | exact hBs | omega)))
  clear hbz
  go_wp2
  go_ret
  first
    | exact ⟨rfl, HBz.out⟩
    | (subst he0; exact ⟨rfl, HBz.out⟩)
end Go.Proofs.YtoibhkmlebcepaaDoor
