import Derived.Test.YtoibhkmlebcepaaDoorWalFixed
import Derived.Test.YtoibhkmlebcepaaDoorWalTrip
import Derived.Test.YtoibhkmlebcepaaDoorWalFew
import Derived.Test.YtoibhkmlebcepaaDoorWalRefMay
import Derived.Test.YtoibhkmlebcepaaDoorWalRecord
import Derived.Test.YtoibhkmlebcepaaDoorFrameRefSeal
import Derived.Test.YtoibhkmlebcepaaDoorDrawnAct
namespace Go.Proofs.YtoibhkmlebcepaaDoor
open Go Go.RowKit

theorem encp_yes {w : World} {rev : Nat} {l : List Ent} {e : Ending} {w' : World} (h : EncPost w rev l e w') (hr : rightB rev l = true) :
    ∃ a cap, e = .returned (.tuple #[.slice a (sealL (recL rev l)).length cap, .int .i64 0]) ∧ Reads w' 1 (.slice a (sealL (recL rev l)).length cap) (sealL (recL rev l)).length (bcells (sealL (recL rev l))) ∧ Below w.heap.size w w' := by
  unfold EncPost at h
  rw [if_pos hr] at h
  obtain ⟨v, rfl, hf, hb⟩ := h
  obtain ⟨a, cap, rfl, _, _⟩ := hf.1.le
  exact ⟨a, cap, rfl, hf.1, hb⟩

theorem encp_no {w : World} {rev : Nat} {l : List Ent} {e : Ending} {w' : World} (h : EncPost w rev l e w') (hr : rightB rev l = false) : GivesVal w (.tuple #[.slice none 0 0, .int .i64 9]) e w' := by
  unfold EncPost at h
  rw [if_neg (by rw [hr]; decide)] at h
  exact h

theorem flat_low : ∀ l : List Ent, (∀ x ∈ l, x.key.size ≤ 200) → (l.flatMap entB).length ≤ l.length * 211
  | [], _ => by simp
  | x :: l, h => by
    have ih := flat_low l (fun y hy => h y (by simp [hy]))
    have hx := h x (by simp)
    have he := enc_length_le 9 x.key.size (by omega)
    rw [List.flatMap_cons, List.length_append, entB_len, List.length_cons]
    omega

theorem rec_low {rev : Nat} {l : List Ent} (hr : rev < 18446744073709551616) (hn : l.length ≤ 256) (h : fewB l = true) : (recL rev l).length ≤ 60000 := by
  unfold fewB lowB at h
  simp only [Bool.and_eq_true, List.all_eq_true, decide_eq_true_eq] at h
  have h1 := enc_length_le 9 rev (by omega)
  have h2 := enc_length_le 9 l.length (by omega)
  have h3 := flat_low l h.1
  unfold recL recTo
  simp only [List.length_append]
  omega

set_option maxRecDepth 100000 in
set_option maxHeartbeats 2000000 in
theorem walEncodes_walk (w : World) (rev : Nat) (a : Option Addr) (n cap : Nat) (l : List Ent) (h : Reads w 3 (.slice a n cap) n (ecells l)) (hl : l.length = n) (hcap : n ≤ cap ∧ cap ≤ maxLen) (hks : ∀ x ∈ l, x.key.size ≤ maxLen) (hrv : rev < 18446744073709551616) (hst : Steps w) :
    Calls Tryd.prog 3 #[.agg #[.int .u64 (rev : Int), .slice a n cap]] w (SaysTrue w) := by
  have hb0 : Below w.heap.size w (w.alloc (.cells #[.int .u64 (rev : Int), .slice a n cap] 25)) := (Below.refl _ w).alloc (Nat.le_refl _) _
  have HG := Lib.hid (heap_alloc_new w (.cells #[.int .u64 (rev : Int), .slice a n cap] 25))
  have HB := Lib.hid hb0
  have HR := Lib.hid (h.below' hb0)
  have ST := Lib.hid (hst.below hb0)
  have hfw := fun w' h => cfew_any w' rev a n cap l h hl hcap hks
  have hen := fun w' h hst => encode_any w' rev a n cap l h hl hcap hks hrv hst
  have hri := fun w' h => refright_any w' rev a n cap l h hl hcap hks
  have hre := fun w' h hrb => record_any w' rev a n cap l h hl hcap hrb hrv
  have HFw := Lib.hid hfw
  have HEn := Lib.hid hen
  have HRi := Lib.hid hri
  have HRe := Lib.hid hre
  have HL := Lib.hid hl
  have HRv := Lib.hid hrv
  clear h hl hks hrv hst hfw hen hri hre hb0
  unfold maxLen at hcap
  go_enter Tryd.func3, Tryd.ntmps3
  go_wp2_with fail
  generalize w.alloc (.cells #[.int .u64 (rev : Int), .slice a n cap] 25) = w0 at *
  have hbw := HB.out.size
  generalize hp0 : w.heap.size = p0 at HG ⊢
  go_wp2_with (go_at_call 7; go_must (refine (wal_fixed _ ST.out).mono ?_))
  rintro e w1 ⟨rfl, b1⟩
  replace HB := Lib.hid (HB.out.trans (b1.mono HB.out.size))
  replace ST := Lib.hid (ST.out.below b1)
  replace HR := Lib.hid (HR.out.below' b1)
  replace HG := Lib.hid (below_block b1 HG.out (Array.getElem?_eq_some_iff.1 HG.out).1)
  clear b1
  have hpl := (Array.getElem?_eq_some_iff.1 HG.out).1
  have q0 := Lib.cell_of_heap HG.out 0
  have q1 := Lib.cell_of_heap HG.out 1
  simp at q0 q1
  go_wp2_with (go_at_call 8; go_must (refine (HFw.out _ HR.out).mono ?_))
  rintro e w2 ⟨rfl, b2⟩
  clear q0 q1 hpl HFw
  replace HB := Lib.hid (HB.out.trans (b2.mono HB.out.size))
  replace ST := Lib.hid (ST.out.below b2)
  replace HR := Lib.hid (HR.out.below' b2)
  replace HG := Lib.hid (below_block b2 HG.out (Array.getElem?_eq_some_iff.1 HG.out).1)
  clear b2
  have hpl := (Array.getElem?_eq_some_iff.1 HG.out).1
  have q0 := Lib.cell_of_heap HG.out 0
  have q1 := Lib.cell_of_heap HG.out 1
  simp at q0 q1
  cases hfew : fewB l with
  | false =>
    clear hfew
    go_wp2
    go_ret
    subst hp0
    exact ⟨rfl, HB.out⟩
  | true =>
    have HFe := Lib.hid hfew
    clear hfew
    cases hrb : rightB rev l with
    | false =>
      have HRb := Lib.hid hrb
      clear hrb
      go_wp2_with (go_at_call 9; go_must (refine (HEn.out _ HR.out ST.out).mono ?_))
      intro e w3 hp
      obtain ⟨rfl, b3⟩ := encp_no hp HRb.out
      clear q0 q1 hpl hp HEn
      replace HB := Lib.hid (HB.out.trans (b3.mono HB.out.size))
      replace HR := Lib.hid (HR.out.below' b3)
      replace HG := Lib.hid (below_block b3 HG.out (Array.getElem?_eq_some_iff.1 HG.out).1)
      clear b3
      have hpl := (Array.getElem?_eq_some_iff.1 HG.out).1
      have q0 := Lib.cell_of_heap HG.out 0
      have q1 := Lib.cell_of_heap HG.out 1
      simp at q0 q1
      go_wp2_with (go_at_call 10; go_must (refine (HRi.out _ HR.out).mono ?_))
      rw [HRb.out]
      rintro e w4 ⟨rfl, b4⟩
      clear q0 q1 hpl HRi HR HG
      replace HB := Lib.hid (HB.out.trans (b4.mono HB.out.size))
      clear b4
      go_wp2
      go_ret
      subst hp0
      exact ⟨rfl, HB.out⟩
    | true =>
      have HRb := Lib.hid hrb
      obtain ⟨hk6, _, _, _, hn6⟩ := right_keys hrb
      have HRl := Lib.hid (rec_low HRv.out hn6 HFe.out)
      clear hrb hk6 hn6
      have HRec := Lib.hid (fun w' h => HRe.out w' h HRb.out)
      clear HRe
      go_wp2_with (go_at_call 9; go_must (refine (HEn.out _ HR.out ST.out).mono ?_))
      intro e w3 hp
      obtain ⟨a1, cap1, rfl, r1, b3⟩ := encp_yes hp HRb.out
      have HV := Lib.hid r1
      clear q0 q1 hpl hp HEn r1
      obtain ⟨_, _, hv, hc1, hc2⟩ := HV.out.le
      cases hv
      unfold maxLen at hc2
      generalize hR : (sealL (recL rev l)).length = R at *
      replace HB := Lib.hid (HB.out.trans (b3.mono HB.out.size))
      replace HR := Lib.hid (HR.out.below' b3)
      replace HG := Lib.hid (below_block b3 HG.out (Array.getElem?_eq_some_iff.1 HG.out).1)
      clear b3
      have hpl := (Array.getElem?_eq_some_iff.1 HG.out).1
      have q0 := Lib.cell_of_heap HG.out 0
      have q1 := Lib.cell_of_heap HG.out 1
      simp at q0 q1
      go_wp2_with (go_at_call 10; go_must (refine (HRi.out _ HR.out).mono ?_))
      rw [HRb.out]
      rintro e w4 ⟨rfl, b4⟩
      clear q0 q1 hpl HRi hR
      replace HB := Lib.hid (HB.out.trans (b4.mono HB.out.size))
      replace HR := Lib.hid (HR.out.below' b4)
      replace HG := Lib.hid (below_block b4 HG.out (Array.getElem?_eq_some_iff.1 HG.out).1)
      replace HV := Lib.hid (HV.out.below' b4)
      clear b4
      have hpl := (Array.getElem?_eq_some_iff.1 HG.out).1
      have q0 := Lib.cell_of_heap HG.out 0
      have q1 := Lib.cell_of_heap HG.out 1
      simp at q0 q1
      go_wp2_with fail
      refine wp_region_all (by kernel_rfl) [eqF (.int .i64 0), eqF (.bool false), eqF (.bool false), eqF (.slice a1 R cap1), eqF (.string ⟨(sealL (recL rev l)).toArray⟩), eqF (.agg #[.int .u64 (rev : Int), .slice a n cap]), bytesF (recL rev l), bytesF (sealL (recL rev l)), eqF (.string ⟨(sealL (recL rev l)).toArray⟩), eqF (.bool false), eqF (.bool false)] (by kernel_rfl) ⟨?_, ?_, ?_, ?_, ?_, ?_, ?_, ?_, ?_, ?_, ?_, trivial⟩ ⟨trivial, trivial, trivial, fun _ _ h => h, fun _ _ h => h, fun _ _ h => h, fun _ _ h => h, fun _ _ h => h, fun _ _ h => h, fun _ _ h => h, trivial, trivial⟩ ?_
      · intro ρ wx hρ hbx hl
        have e4 : ρ (.tmp 4) = .int .i64 0 := hρ.tmp 4 (by decide +kernel)
        refine y_val (v := .int .i64 0) ?_ rfl
        simp [execOp, go_sem, e4]
      · intro ρ wx hρ hbx hl
        have e27 : ρ (.tmp 27) = .int .i64 0 := hl 0 (by decide +kernel) 27 rfl
        refine y_val (v := .bool false) ?_ rfl
        simp [execOp, hρ.const, go_sem, e27]
      · intro ρ wx hρ hbx hl
        have e28 : ρ (.tmp 28) = .bool false := hl 1 (by decide +kernel) 28 rfl
        refine y_val (v := .bool false) ?_ rfl
        simp [execOp, go_sem, e28]
      · intro ρ wx hρ hbx hl
        have e3 : ρ (.tmp 3) = .slice a1 R cap1 := hρ.tmp 3 (by decide +kernel)
        refine y_val (v := .slice a1 R cap1) ?_ rfl
        simp [execOp, go_sem, e3]
      · intro ρ wx hρ hbx hl
        have e30 : ρ (.tmp 30) = .slice a1 R cap1 := hl 3 (by decide +kernel) 30 rfl
        have hc := Reads.conv (P := Tryd.prog) (src := 28) (e := 5) (dst := 9) Tryd.underlying28 Tryd.underlying5 Tryd.underlying9 (HV.out.below' hbx)
        refine y_val (v := .string ⟨(sealL (recL rev l)).toArray⟩) ?_ rfl
        simp [execOp, e30, hc]
      · intro ρ wx hρ hbx hl
        have e1 : ρ (.tmp 1) = .pointer (some ⟨p0, 0, none⟩) := hρ.tmp 1 (by decide +kernel)
        have k0 := (hbx.cell (p := ⟨p0, 0, none⟩) hpl).trans q0
        have k1 := (hbx.cell (p := ⟨p0, 1, none⟩) hpl).trans q1
        refine y_val (v := .agg #[.int .u64 (rev : Int), .slice a n cap]) ?_ rfl
        simp [execOp, go_sem, e1, k0, k1]
      · intro ρ wx hρ hbx hl
        have e32 : ρ (.tmp 32) = .agg #[.int .u64 (rev : Int), .slice a n cap] := hl 5 (by decide +kernel) 32 rfl
        refine y_call (f := 12) (args := #[.agg #[.int .u64 (rev : Int), .slice a n cap]]) (by simp [execOp, resolve, invoke, hρ.func, go_sem, e32]) ?_
        refine (HRec.out wx (HR.out.below' hbx)).mono ?_
        rintro e w6 ⟨v7, rfl, f7, b7⟩
        exact ⟨v7, rfl, ⟨_, f7.1⟩, b7⟩
      · intro ρ wx hρ hbx hl
        have e33 := hl 6 (by decide +kernel) 33 rfl
        obtain ⟨k, hk⟩ := e33
        refine y_call (f := 11) (args := #[ρ (.tmp 33)]) (by simp [execOp, resolve, invoke, hρ.func, go_sem]) ?_
        refine (refseal_any wx _ k (recL rev l) hk (by have := hk.1; have := HRl.out; simp [bcells_length] at *; omega)).mono ?_
        rintro e w6 ⟨v7, rfl, f7, b7⟩
        exact ⟨v7, rfl, ⟨_, f7.1⟩, b7⟩
      · intro ρ wx hρ hbx hl
        have e34 := hl 7 (by decide +kernel) 34 rfl
        obtain ⟨k, hk⟩ := e34
        have hc := Reads.conv (P := Tryd.prog) (src := 28) (e := 5) (dst := 9) Tryd.underlying28 Tryd.underlying5 Tryd.underlying9 (hk)
        refine y_val (v := .string ⟨(sealL (recL rev l)).toArray⟩) ?_ rfl
        simp [execOp, hc]
      · intro ρ wx hρ hbx hl
        have e31 : ρ (.tmp 31) = .string ⟨(sealL (recL rev l)).toArray⟩ := hl 4 (by decide +kernel) 31 rfl
        have e35 : ρ (.tmp 35) = .string ⟨(sealL (recL rev l)).toArray⟩ := hl 8 (by decide +kernel) 35 rfl
        refine y_val (v := .bool false) ?_ rfl
        simp [execOp, go_sem, e31, e35]
      · intro ρ wx hρ hbx hl
        have e29 : ρ (.tmp 29) = .bool false := hl 2 (by decide +kernel) 29 rfl
        have e36 : ρ (.tmp 36) = .bool false := hl 9 (by decide +kernel) 36 rfl
        refine y_val (v := .bool false) ?_ rfl
        simp [execOp, go_sem, e29, e36]
      intro aa wz hdef hsz hlk hbz hf
      have ha := act_of_like hdef hsz hlk [27, 28, 29, 30, 31, 32, 33, 34, 35, 36, 37] 51 rfl (by decide +kernel)
      have e27 : aa.tmps.getD 27 undef = .int .i64 0 := hf 0 _ 27 rfl rfl
      have e28 : aa.tmps.getD 28 undef = .bool false := hf 1 _ 28 rfl rfl
      have e29 : aa.tmps.getD 29 undef = .bool false := hf 2 _ 29 rfl rfl
      have e30 : aa.tmps.getD 30 undef = .slice a1 R cap1 := hf 3 _ 30 rfl rfl
      have e31 : aa.tmps.getD 31 undef = .string ⟨(sealL (recL rev l)).toArray⟩ := hf 4 _ 31 rfl rfl
      have e32 : aa.tmps.getD 32 undef = .agg #[.int .u64 (rev : Int), .slice a n cap] := hf 5 _ 32 rfl rfl
      have e35 : aa.tmps.getD 35 undef = .string ⟨(sealL (recL rev l)).toArray⟩ := hf 8 _ 35 rfl rfl
      have e36 : aa.tmps.getD 36 undef = .bool false := hf 9 _ 36 rfl rfl
      have e37 : aa.tmps.getD 37 undef = .bool false := hf 10 _ 37 rfl rfl
      simp only [putAll, List.foldl_cons, List.foldl_nil, e27, e28, e29, e30, e31, e32, e35, e36, e37] at ha
      generalize aa.tmps.getD 33 undef = v33 at ha
      generalize aa.tmps.getD 34 undef = v34 at ha
      simp [Act.put] at ha
      subst ha
      clear hdef hsz hlk hf e27 e28 e29 e30 e31 e32 e35 e36 e37
      clear q0 q1 hpl
      replace HB := Lib.hid (HB.out.trans (hbz.mono HB.out.size))
      replace HR := Lib.hid (HR.out.below' hbz)
      replace HG := Lib.hid (below_block hbz HG.out (Array.getElem?_eq_some_iff.1 HG.out).1)
      clear hbz
      have hpl := (Array.getElem?_eq_some_iff.1 HG.out).1
      have q0 := Lib.cell_of_heap HG.out 0
      have q1 := Lib.cell_of_heap HG.out 1
      simp at q0 q1
      go_wp2_with (go_at_call 12; go_must (refine (HRec.out _ HR.out).mono ?_))
      rintro e w5 ⟨v5, rfl, f5, b5⟩
      have HF := Lib.hid f5.1
      clear q0 q1 hpl f5
      replace HB := Lib.hid (HB.out.trans (b5.mono HB.out.size))
      replace HR := Lib.hid (HR.out.below' b5)
      replace HG := Lib.hid (below_block b5 HG.out (Array.getElem?_eq_some_iff.1 HG.out).1)
      clear b5
      have hpos : 0 < (recL rev l).length := by
        have := enc_pos rev
        unfold recL recTo
        simp only [List.length_append]
        omega
      have hdc := decode_any w5 v5 (recL rev l) (Sl.of_reads HF.out hpos) (by have := HRl.out; omega)
      rw [dec_rec HRb.out HRv.out] at hdc
      have HD := Lib.hid hdc
      clear hdc hpos
      go_wp2_with (go_at_call 13; go_must (refine HD.out.mono ?_))
      rintro e w6 ⟨a6, cap6, rfl, o6, b6⟩
      have HQ := Lib.hid (ownsRow.reads o6)
      clear o6 HD HF
      replace HB := Lib.hid (HB.out.trans (b6.mono HB.out.size))
      replace HR := Lib.hid (HR.out.below' b6)
      replace HG := Lib.hid (below_block b6 HG.out (Array.getElem?_eq_some_iff.1 HG.out).1)
      clear b6
      have b7 := (Below.refl w6.heap.size w6).alloc (Nat.le_refl _) (.cells #[.int .u64 (rev : Int), .slice a6 l.length cap6] 25)
      have HH := Lib.hid (heap_alloc_new w6 (.cells #[.int .u64 (rev : Int), .slice a6 l.length cap6] 25))
      replace HB := Lib.hid (HB.out.trans (b7.mono HB.out.size))
      replace HR := Lib.hid (HR.out.below' b7)
      replace HG := Lib.hid (below_block b7 HG.out (Array.getElem?_eq_some_iff.1 HG.out).1)
      replace HQ := Lib.hid (HQ.out.below' b7)
      clear b7
      have hpl := (Array.getElem?_eq_some_iff.1 HG.out).1
      have hpl2 := (Array.getElem?_eq_some_iff.1 HH.out).1
      have q0 := Lib.cell_of_heap HG.out 0
      have q1 := Lib.cell_of_heap HG.out 1
      have d0 := Lib.cell_of_heap HH.out 0
      have d1 := Lib.cell_of_heap HH.out 1
      simp at q0 q1 d0 d1
      go_wp2_with fail
      generalize w6.alloc (.cells #[.int .u64 (rev : Int), .slice a6 l.length cap6] 25) = w7 at *
      generalize w6.heap.size = p6 at *
      have hll := HL.out
      have hq7 := HQ.out
      rw [hll] at hq7
      have hsm : Calls Tryd.prog 14 #[.agg #[.int .u64 (rev : Int), .slice a n cap], .agg #[.int .u64 (rev : Int), .slice a6 l.length cap6]] w7 (GivesVal w7 (.bool true)) := by
        rw [hll]
        exact same_any w7 rev a a6 n cap cap6 l HR.out hq7 hll
      have HSm := Lib.hid hsm
      clear hsm
      go_wp2_with (go_at_call 14; go_must (refine HSm.out.mono ?_))
      rintro e w8 ⟨rfl, b8⟩
      clear q0 q1 d0 d1 HSm HR HQ HG HH hq7
      replace HB := Lib.hid (HB.out.trans (b8.mono HB.out.size))
      clear b8
      go_wp2
      go_ret
      subst hp0
      exact ⟨rfl, HB.out⟩
end Go.Proofs.YtoibhkmlebcepaaDoor
