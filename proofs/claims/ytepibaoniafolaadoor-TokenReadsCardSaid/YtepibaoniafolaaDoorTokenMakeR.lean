import Derived.Test.YtepibaoniafolaaDoorTokenRead
import Derived.Test.YtepibaoniafolaaDoorDrawnAct
import Derived.Stop.BytesEq
namespace Go.Proofs.YtepibaoniafolaaDoor
open Go Go.RowKit

set_option maxRecDepth 100000 in
set_option maxHeartbeats 1000000 in
theorem mk_any (w : World) (id rev : Nat) (hid : id < 4294967296) (hrev : rev ≤ 18446744073709551615) (hst : Steps w) :
    Calls Tryd.prog 8 #[.int .u32 (id : Int), .int .u64 (rev : Int)] w (GivesVal w (.string ⟨(textL (tokL id rev)).toArray⟩)) := by
  have hm := make_any w id rev hid hrev hst
  have hw := fun w => write_any w (tokL id rev) rfl
  generalize tokL id rev = T at *
  have HM := Lib.hid hm
  have HW := Lib.hid hw
  clear hm hw hid hrev hst
  go_enter Tryd.func8, Tryd.ntmps8
  go_wp2_with (go_at_call 16; go_must (refine HM.out.mono ?_))
  rintro e w1 ⟨rfl, b1⟩
  have B1 := Lib.hid b1
  clear b1
  go_wp2_with (go_at_call 17; go_must (refine (HW.out _).mono ?_))
  rintro e w2 ⟨rfl, b2⟩
  have B2 := Lib.hid (B1.out.trans (b2.mono B1.out.size))
  clear b2
  go_wp2
  go_ret
  exact ⟨rfl, B2.out⟩

theorem tok_eq (w : World) (l m : List UInt8) (hl : l.length = 16) (hm : m.length = 16) : (Op.equalIn 10000 40 (.agg (bcells l).toArray) (.agg (bcells m).toArray)).run Tryd.prog w = .ok (l == m) w :=
  run_equalIn_bytes w 9998 40 5 16 Tryd.underlying40 Tryd.underlying5 (fun w => by kernel_rfl) l m hl hm

theorem TokAt.keep {w w' : World} {g : Nat} {l : List UInt8} (h : TokAt w g l) (hb : Below w.heap.size w w') : TokAt w' g l :=
  (hb.block g (Array.getElem?_eq_some_iff.1 h).1).trans h

theorem tok_load {w : World} {g : Nat} {l : List UInt8} (h : TokAt w g l) (hl : l.length = 16) : (loadVar 40 ⟨g, 0, none⟩).run Tryd.prog w = .ok (.agg (bcells l).toArray) w :=
  run_loadVar_row w g _ _ _ _ _ h Tryd.underlying40 rfl (tok_info hl)

theorem ex_load {ρ : Operand → Value} {o : Oper} {w : World} {k g : Nat} {l : List UInt8} (ho : o.op = .load 40 (.tmp k)) (he : ρ (.tmp k) = .pointer (some ⟨g, 0, none⟩)) (h : TokAt w g l) (hl : l.length = 16) : (execOp ρ o).run Tryd.prog w = .ok (.value (.agg (bcells l).toArray)) w := by
  unfold execOp
  simp only [ho, he, Instr.loadAt, Instr.sureAddr, Sem.run_bind, Sem.run_pure, Result.andThen_ok, tok_load h hl]

/-- What a token tells. -/
def readR (s : List UInt8) : Nat × Nat × Nat :=
  if goodT s = true then
    if bytesD (digsT s) = tokL (numB ((bytesD (digsT s)).take 4)) (numB (((bytesD (digsT s)).drop 4).take 8)) then (numB ((bytesD (digsT s)).take 4), numB (((bytesD (digsT s)).drop 4).take 8), 0) else (0, 0, 8)
  else (0, 0, 9)

def readV (s : List UInt8) : Value := .tuple #[.int .u32 ((readR s).1 : Int), .int .u64 ((readR s).2.1 : Int), .int .i64 ((readR s).2.2 : Int)]

set_option maxRecDepth 100000 in
set_option maxHeartbeats 1000000 in
theorem readT_any (w : World) (s : ByteArray) (hs : s.size ≤ 9223372036854775807) (hst : Steps w) :
    Calls Tryd.prog 9 #[.string s] w (GivesVal w (readV s.data.toList)) := by
  have hr := read_any w s hs
  have ST := Lib.hid hst
  have HR := Lib.hid hr
  clear hr hst
  go_enter Tryd.func9, Tryd.ntmps9
  go_wp2_with (go_at_call 18; go_must (refine HR.out.mono ?_))
  rintro e w1 ⟨l, hl, rfl, hg, b1⟩
  have hb1 := Below.setRow (b1.alloc b1.size (.cells (bcells zeros).toArray 40)) (g := w1.heap.size) b1.size (bcells l).toArray
  have ht1 : TokAt ((w1.alloc (.cells (bcells zeros).toArray 40)).setRow w1.heap.size (bcells l).toArray) w1.heap.size l := setRow_heap _ w1.heap.size _ (bcells l).toArray _ _ (heap_alloc_new w1 (.cells (bcells zeros).toArray 40))
  have hst1 := (ST.out.below (hb1.mono (Nat.le_refl _)))
  have HB1 := Lib.hid hb1
  have HT1 := Lib.hid ht1
  have ST1 := Lib.hid hst1
  have HL := Lib.hid hl
  cases hgd : goodT s.data.toList with
  | false =>
    have hv : readV s.data.toList = .tuple #[.int .u32 0, .int .u64 0, .int .i64 9] := by
      unfold readV readR
      rw [hgd, if_neg (by decide)]; rfl
    have HV := Lib.hid hv
    clear hv hgd hg b1 hb1 ht1 hst1 hl
    go_wp2_with (refine wpList_store_row rfl 40 _ _ rfl w1.heap.size (bcells l).toArray rfl rfl 40 (bcells zeros).toArray (heap_alloc_new w1 (.cells (bcells zeros).toArray 40)) (tok_info HL.out) (tok_size rfl HL.out) (tok_one l) ?_)
    go_ret3
    rw [HV.out]
    exact ⟨rfl, HB1.out⟩
  | true =>
    have hle := hg hgd
    have hNl := numB_lt (l.take 4)
    have hVl := numB_lt ((l.drop 4).take 8)
    rw [List.length_take, hl] at hNl
    rw [List.length_take, List.length_drop, hl] at hVl
    have hNl2 : numB (l.take 4) < 4294967296 := hNl
    have hVl2 : numB ((l.drop 4).take 8) ≤ 18446744073709551615 := Nat.le_of_lt_succ hVl
    have hn := fun w => number_any w l hl
    have hv := fun w => rev_any w l hl
    have hmk := fun w (hs : Steps w) => make_any w _ _ hNl2 hVl2 hs
    have heq := fun w => tok_eq w l _ hl (tokL_length (numB (l.take 4)) (numB ((l.drop 4).take 8)))
    have hrd : readV s.data.toList = if l = tokL (numB (l.take 4)) (numB ((l.drop 4).take 8)) then .tuple #[.int .u32 (numB (l.take 4) : Int), .int .u64 (numB ((l.drop 4).take 8) : Int), .int .i64 0] else .tuple #[.int .u32 0, .int .u64 0, .int .i64 8] := by
      unfold readV readR
      rw [if_pos hgd, ← hle]
      by_cases h : l = tokL (numB (l.take 4)) (numB ((l.drop 4).take 8))
      · rw [if_pos h, if_pos h]; rfl
      · rw [if_neg h, if_neg h]; rfl
    generalize numB (l.take 4) = I at *
    generalize numB ((l.drop 4).take 8) = R at *
    have HN := Lib.hid hn
    have HV := Lib.hid hv
    have HMk := Lib.hid hmk
    have HEq := Lib.hid heq
    have HRd := Lib.hid hrd
    clear hg b1 hb1 ht1 hst1 hl hle hNl hVl hNl2 hVl2 hn hv hmk heq hrd
    go_wp2_with (refine wpList_store_row rfl 40 _ _ rfl w1.heap.size (bcells l).toArray rfl rfl 40 (bcells zeros).toArray (heap_alloc_new w1 (.cells (bcells zeros).toArray 40)) (tok_info HL.out) (tok_size rfl HL.out) (tok_one l) ?_)
    obtain ⟨wt, hwt⟩ : ∃ wt, wt = (w1.alloc (.cells #[.int .u8 0, .int .u8 0, .int .u8 0, .int .u8 0, .int .u8 0, .int .u8 0, .int .u8 0, .int .u8 0, .int .u8 0, .int .u8 0, .int .u8 0, .int .u8 0, .int .u8 0, .int .u8 0, .int .u8 0, .int .u8 0] 40)).setRow w1.heap.size (bcells l).toArray := ⟨_, rfl⟩
    rw [← hwt]
    have HTt := Lib.hid (show TokAt wt w1.heap.size l by rw [hwt]; exact HT1.out)
    have HBt := Lib.hid (show Below w.heap.size w wt by rw [hwt]; exact HB1.out)
    have STt := Lib.hid (show Steps wt by rw [hwt]; exact ST1.out)
    clear hwt HT1 HB1 ST1
    generalize w1.heap.size = g at *
    refine wp_region_all (by kernel_rfl) [eqF (.agg (bcells l).toArray), eqF (.agg (bcells l).toArray), eqF (.int .u32 (I : Int)), eqF (.agg (bcells l).toArray), eqF (.int .u64 (R : Int)), eqF (.agg (bcells (tokL I R)).toArray), eqF (.bool (!(l == tokL I R)))] (by kernel_rfl) ⟨?_, ?_, ?_, ?_, ?_, ?_, ?_, trivial⟩ ⟨trivial, trivial, trivial, trivial, trivial, trivial, trivial, trivial⟩ ?_
    · intro ρ wx hρ hbx hl
      have e5 : ρ (.tmp 5) = .pointer (some ⟨g, 0, none⟩) := hρ.tmp 5 (by decide +kernel)
      refine y_val (v := .agg (bcells l).toArray) ?_ rfl
      exact ex_load rfl e5 (HTt.out.keep hbx) HL.out
    · intro ρ wx hρ hbx hl
      have e5 : ρ (.tmp 5) = .pointer (some ⟨g, 0, none⟩) := hρ.tmp 5 (by decide +kernel)
      refine y_val (v := .agg (bcells l).toArray) ?_ rfl
      exact ex_load rfl e5 (HTt.out.keep hbx) HL.out
    · intro ρ wx hρ hbx hl
      have e15 : ρ (.tmp 15) = .agg (bcells l).toArray := hl 1 (by decide +kernel) 15 rfl
      refine y_call (f := 19) (args := #[.agg (bcells l).toArray]) (by simp [execOp, resolve, invoke, hρ.func, go_sem, e15]) ?_
      refine (HN.out wx).mono ?_
      rintro e w6 ⟨rfl, b6⟩
      exact ⟨_, rfl, rfl, b6⟩
    · intro ρ wx hρ hbx hl
      have e5 : ρ (.tmp 5) = .pointer (some ⟨g, 0, none⟩) := hρ.tmp 5 (by decide +kernel)
      refine y_val (v := .agg (bcells l).toArray) ?_ rfl
      exact ex_load rfl e5 (HTt.out.keep hbx) HL.out
    · intro ρ wx hρ hbx hl
      have e17 : ρ (.tmp 17) = .agg (bcells l).toArray := hl 3 (by decide +kernel) 17 rfl
      refine y_call (f := 20) (args := #[.agg (bcells l).toArray]) (by simp [execOp, resolve, invoke, hρ.func, go_sem, e17]) ?_
      refine (HV.out wx).mono ?_
      rintro e w6 ⟨rfl, b6⟩
      exact ⟨_, rfl, rfl, b6⟩
    · intro ρ wx hρ hbx hl
      have e16 : ρ (.tmp 16) = .int .u32 (I : Int) := hl 2 (by decide +kernel) 16 rfl
      have e18 : ρ (.tmp 18) = .int .u64 (R : Int) := hl 4 (by decide +kernel) 18 rfl
      refine y_call (f := 16) (args := #[.int .u32 (I : Int), .int .u64 (R : Int)]) (by simp [execOp, resolve, invoke, hρ.func, go_sem, e16, e18]) ?_
      refine (HMk.out wx (STt.out.below hbx)).mono ?_
      rintro e w6 ⟨rfl, b6⟩
      exact ⟨_, rfl, rfl, b6⟩
    · intro ρ wx hρ hbx hl
      have e14 : ρ (.tmp 14) = .agg (bcells l).toArray := hl 0 (by decide +kernel) 14 rfl
      have e19 : ρ (.tmp 19) = .agg (bcells (tokL I R)).toArray := hl 5 (by decide +kernel) 19 rfl
      refine y_val (v := .bool (!(l == tokL I R))) ?_ rfl
      simp [execOp, go_sem, e14, e19, HEq.out wx]
    intro aa w3 hdef hsz hlk hbz hf
    have ha := act_of_like hdef hsz hlk [14, 15, 16, 17, 18, 19, 20] 25 rfl (by decide +kernel)
    have e14 : aa.tmps.getD 14 undef = .agg (bcells l).toArray := hf 0 _ 14 rfl rfl
    have e15 : aa.tmps.getD 15 undef = .agg (bcells l).toArray := hf 1 _ 15 rfl rfl
    have e16 : aa.tmps.getD 16 undef = .int .u32 (I : Int) := hf 2 _ 16 rfl rfl
    have e17 : aa.tmps.getD 17 undef = .agg (bcells l).toArray := hf 3 _ 17 rfl rfl
    have e18 : aa.tmps.getD 18 undef = .int .u64 (R : Int) := hf 4 _ 18 rfl rfl
    have e19 : aa.tmps.getD 19 undef = .agg (bcells (tokL I R)).toArray := hf 5 _ 19 rfl rfl
    have e20 : aa.tmps.getD 20 undef = .bool (!(l == tokL I R)) := hf 6 _ 20 rfl rfl
    simp only [putAll, List.foldl_cons, List.foldl_nil, e14, e15, e16, e17, e18, e19, e20] at ha
    simp [Act.put] at ha
    subst ha
    have HT3 := Lib.hid (HTt.out.keep hbz)
    have HB3 := Lib.hid (HBt.out.trans (hbz.mono HBt.out.size))
    clear hdef hsz hlk hf e14 e15 e16 e17 e18 e19 e20 hbz HTt HBt
    have HTt := HT3
    have HBt := HB3
    clear HT3 HB3
    by_cases hcmp : l = tokL I R
    · have hb : (l == tokL I R) = true := by simpa using hcmp
      rw [hb]
      rw [if_pos hcmp] at HRd
      clear hcmp hb
      go_wp2
      refine wp_region_all (by kernel_rfl) [eqF (.agg (bcells l).toArray), eqF (.int .u32 (I : Int)), eqF (.agg (bcells l).toArray), eqF (.int .u64 (R : Int)), eqF (.int .u32 (I : Int)), eqF (.int .u64 (R : Int)), eqF (.int .i64 0)] (by kernel_rfl) ⟨?_, ?_, ?_, ?_, ?_, ?_, ?_, trivial⟩ ⟨trivial, trivial, trivial, trivial, trivial, trivial, trivial, trivial⟩ ?_
      · intro ρ wx hρ hbx hl
        have e5 : ρ (.tmp 5) = .pointer (some ⟨g, 0, none⟩) := hρ.tmp 5 (by decide +kernel)
        refine y_val (v := .agg (bcells l).toArray) ?_ rfl
        exact ex_load rfl e5 (HTt.out.keep hbx) HL.out
      · intro ρ wx hρ hbx hl
        have e21 : ρ (.tmp 21) = .agg (bcells l).toArray := hl 0 (by decide +kernel) 21 rfl
        refine y_call (f := 19) (args := #[.agg (bcells l).toArray]) (by simp [execOp, resolve, invoke, hρ.func, go_sem, e21]) ?_
        refine (HN.out wx).mono ?_
        rintro e w6 ⟨rfl, b6⟩
        exact ⟨_, rfl, rfl, b6⟩
      · intro ρ wx hρ hbx hl
        have e5 : ρ (.tmp 5) = .pointer (some ⟨g, 0, none⟩) := hρ.tmp 5 (by decide +kernel)
        refine y_val (v := .agg (bcells l).toArray) ?_ rfl
        exact ex_load rfl e5 (HTt.out.keep hbx) HL.out
      · intro ρ wx hρ hbx hl
        have e23 : ρ (.tmp 23) = .agg (bcells l).toArray := hl 2 (by decide +kernel) 23 rfl
        refine y_call (f := 20) (args := #[.agg (bcells l).toArray]) (by simp [execOp, resolve, invoke, hρ.func, go_sem, e23]) ?_
        refine (HV.out wx).mono ?_
        rintro e w6 ⟨rfl, b6⟩
        exact ⟨_, rfl, rfl, b6⟩
      · intro ρ wx hρ hbx hl
        have e22 : ρ (.tmp 22) = .int .u32 (I : Int) := hl 1 (by decide +kernel) 22 rfl
        refine y_val (v := .int .u32 (I : Int)) ?_ rfl
        simp [execOp, go_sem, e22]
      · intro ρ wx hρ hbx hl
        have e24 : ρ (.tmp 24) = .int .u64 (R : Int) := hl 3 (by decide +kernel) 24 rfl
        refine y_val (v := .int .u64 (R : Int)) ?_ rfl
        simp [execOp, go_sem, e24]
      · intro ρ wx hρ hbx hl
        refine y_val (v := .int .i64 0) ?_ rfl
        simp [execOp, hρ.const, go_sem]
      intro aa w4 hdef hsz hlk hbz hf
      have ha := act_of_like hdef hsz hlk [21, 22, 23, 24, 2, 3, 4] 25 rfl (by decide +kernel)
      have e21 : aa.tmps.getD 21 undef = .agg (bcells l).toArray := hf 0 _ 21 rfl rfl
      have e22 : aa.tmps.getD 22 undef = .int .u32 (I : Int) := hf 1 _ 22 rfl rfl
      have e23 : aa.tmps.getD 23 undef = .agg (bcells l).toArray := hf 2 _ 23 rfl rfl
      have e24 : aa.tmps.getD 24 undef = .int .u64 (R : Int) := hf 3 _ 24 rfl rfl
      have e2 : aa.tmps.getD 2 undef = .int .u32 (I : Int) := hf 4 _ 2 rfl rfl
      have e3 : aa.tmps.getD 3 undef = .int .u64 (R : Int) := hf 5 _ 3 rfl rfl
      have e4 : aa.tmps.getD 4 undef = .int .i64 0 := hf 6 _ 4 rfl rfl
      simp only [putAll, List.foldl_cons, List.foldl_nil, e21, e22, e23, e24, e2, e3, e4] at ha
      simp [Act.put] at ha
      subst ha
      have HB4 := Lib.hid (HBt.out.trans (hbz.mono HBt.out.size))
      clear hdef hsz hlk hf e21 e22 e23 e24 e2 e3 e4 hbz HTt HBt
      go_wp2
      go_ret3
      rw [HRd.out]
      exact ⟨rfl, HB4.out⟩
    · have hb : (l == tokL I R) = false := by simpa using hcmp
      rw [hb]
      rw [if_neg hcmp] at HRd
      clear hcmp hb
      go_wp2
      go_ret3
      rw [HRd.out]
      exact ⟨rfl, HBt.out⟩
end Go.Proofs.YtepibaoniafolaaDoor
