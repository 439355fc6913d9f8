import Derived.Test.YtepibaoniafolaaDoorTokenWrite
import Derived.Lib.IndexLaws
import Derived.Laws.ResultCell
namespace Go.Proofs.YtepibaoniafolaaDoor
open Go Go.RowKit

/-- The digit of a sign; below 0: it is none. -/
def digZ (c : UInt8) : Int := Lib.indexByte signsB.data.toList c
def digOf (c : UInt8) : Nat := (digZ c).toNat
def isSign (c : UInt8) : Bool := decide (0 ≤ digZ c)

theorem dig_all_bytes : ∀ c : Fin 256, (-1 ≤ digZ (UInt8.ofNat c.val) ∧ digZ (UInt8.ofNat c.val) < 32) := by decide +kernel

theorem digZ_bd (c : UInt8) : -1 ≤ digZ c ∧ digZ c < 32 := by
  have := dig_all_bytes ⟨c.toNat, c.toNat_lt⟩
  simpa using this

theorem dig_sgn : ∀ v : Fin 32, digZ (sgn v.val) = v.val := by decide +kernel

/-- The digits of a text. -/
def digsT (s : List UInt8) : List Nat := s.map digOf

theorem digsT_lt (s : List UInt8) (k : Nat) : (digsT s).getD k 0 < 32 := by
  unfold digsT
  rw [List.getD_eq_getElem?_getD, List.getElem?_map]
  cases s[k]? with
  | none => decide
  | some c =>
    have := digZ_bd c
    show digOf c < 32
    unfold digOf
    omega

/-- Sixteen bytes that a text tells, or that it is none. -/
def goodT (s : List UInt8) : Bool := decide (s.length = 26) && s.all isSign && decide (bitsN (digBit (digsT s)) 128 2 = 0)

def zeros : List UInt8 := List.replicate 16 0

def ReadPost (w : World) (s : ByteArray) (e : Ending) (w' : World) : Prop :=
  ∃ l : List UInt8, l.length = 16 ∧ e = .returned (.tuple #[.agg (bcells l).toArray, .bool (goodT s.data.toList)]) ∧ (goodT s.data.toList = true → l = bytesD (digsT s.data.toList)) ∧ Below w.heap.size w w'

def RdRel (w w1 : World) (s : ByteArray) (bits n at' i : Value) (wr : World) : Prop :=
  ∃ k a m : Nat, i = .int .i64 (k : Int) ∧ k ≤ 26 ∧ n = .int .i64 (m : Int) ∧ at' = .int .i64 (a : Int) ∧ bits = .int .i64 (bitsN (digBit (digsT s.data.toList)) (8 * a) m : Int) ∧ 8 * a + m = 5 * k ∧ m < 8 ∧
    (s.data.toList.take k).all isSign = true ∧ TokAt wr (w.heap.size + 1) (upto (bytesD (digsT s.data.toList)) a) ∧ TokAt wr w.heap.size zeros ∧ Below w.heap.size w wr ∧ wr.heap[w.heap.size + 2]? = w1.heap[w.heap.size + 2]?

theorem goodT_no {s : List UInt8} {k : Nat} {c : UInt8} (hc : s[k]? = some c) (h : digZ c = -1) : goodT s = false := by
  unfold goodT
  have : s.all isSign = false := List.all_eq_false.2 ⟨c, List.mem_of_getElem? hc, by unfold isSign; rw [h]; decide⟩
  rw [this]
  simp

theorem take_snoc_all (s : List UInt8) (k : Nat) (p : UInt8 → Bool) (h : k < s.length) : (s.take (k + 1)).all p = ((s.take k).all p && p (s.getD k 0)) := by
  rw [List.take_add_one, List.all_append, List.getElem?_eq_getElem h]
  simp [List.getD, h]

theorem tok_one (l : List UInt8) : (bcells l).toArray.all (·.oneCell') = true := by
  rw [Array.all_eq_true_iff_forall_mem]
  intro x hx
  exact bcells_one l x (by simpa using hx)

theorem tok_info {l : List UInt8} (hl : l.length = 16) : (Tryd.prog.info? 40).map (·.size) = some (bcells l).toArray.size := by
  rw [show (bcells l).toArray.size = 16 by simp [bcells_length, hl]]; kernel_rfl

theorem tok_size {l m : List UInt8} (hl : l.length = 16) (hm : m.length = 16) : (bcells l).toArray.size = (bcells m).toArray.size := by simp [bcells_length, hl, hm]

theorem zeros_cells : (bcells zeros).toArray = #[.int .u8 0, .int .u8 0, .int .u8 0, .int .u8 0, .int .u8 0, .int .u8 0, .int .u8 0, .int .u8 0, .int .u8 0, .int .u8 0, .int .u8 0, .int .u8 0, .int .u8 0, .int .u8 0, .int .u8 0, .int .u8 0] := rfl

/-- The token's value and a truth are handed back. -/
theorem ret_tok {w' : World} {g : Nat} {l : List UInt8} {fn : Func} {p u : Tmp} {tmps : Array Value} (hf : fn.results = #[.cell p 40, .tmp u]) (hp : tmps.getD p undef = .pointer (some ⟨g, 0, none⟩)) (hl : l.length = 16) (ht : TokAt w' g l) :
    (results fn tmps).run Tryd.prog w' = .ok (.tuple #[.agg (bcells l).toArray, tmps.getD u undef]) w' := by
  have hinfo : (Tryd.prog.info? 40).map (·.size) = some (bcells l).toArray.size := by
    rw [show (bcells l).toArray.size = 16 by simp [bcells_length, hl]]; kernel_rfl
  rw [results_cell_tmp hf, hp]
  simp [asAddr, run_loadVar_row w' g _ _ _ _ _ ht Tryd.underlying40 rfl hinfo, Result.andThen]

set_option maxRecDepth 100000 in
set_option maxHeartbeats 2000000 in
theorem read_any (w : World) (s : ByteArray) (hs : s.size ≤ 9223372036854775807) :
    Calls Tryd.prog 18 #[.string s] w (ReadPost w s) := by
  have hsl : s.data.toList.length = s.size := Array.length_toList
  have HSl := Lib.hid hsl
  clear hsl
  have h0w : ∀ (o : Obj), TokAt ((w.alloc (.cells (bcells zeros).toArray 40)).alloc o) w.heap.size zeros := fun o => heap_alloc2_old w _ o
  by_cases h26 : s.size = 26
  · have hmx : s.size ≤ maxLen := by unfold maxLen; omega
    go_enter Tryd.func18, Tryd.ntmps18
    go_wp2_with (refine wpList_bytes rfl _ 9 33 5 rfl Tryd.underlying9 Tryd.underlying33 Tryd.underlying5 s rfl ?_ ?_)
    · exact hmx
    intro cap w1 r1 g1 b1 lt1
    have ht0 : TokAt w1 w.heap.size zeros := below_block b1 (heap_alloc2_old w _ _) (by omega)
    have ht1 : TokAt w1 (w.heap.size + 1) (upto (bytesD (digsT s.data.toList)) 0) := below_block b1 (heap_alloc2_new w _ (.cells (bcells zeros).toArray 40)) (by omega)
    have hb1 : Below w.heap.size w w1 := (((Below.refl _ w).alloc (Nat.le_refl _) _).alloc (by simp) _).trans (b1.mono (by omega))
    have hcell : ∀ wr : World, wr.heap[w.heap.size + 2]? = w1.heap[w.heap.size + 2]? → ∀ k, k < 26 → wr.cell? ⟨w.heap.size + 1 + 1, k, none⟩ = some (.int .u8 ((s.data.toList.getD k 0).toNat : Int)) := by
      intro wr hwr k hk
      have h1 := r1.bcell k hk
      rw [Nat.zero_add] at h1
      rw [← h1]
      exact World.cell?_of_block (w := w1) hwr
    have HC := Lib.hid hcell
    have HT0 := Lib.hid ht0
    have HT1 := Lib.hid ht1
    have HB1 := Lib.hid hb1
    have H26 := Lib.hid h26
    clear ht0 ht1 hb1 hcell r1 g1 b1 lt1 h0w hmx
    go_wp2
    go_loopw [5, 6, 7, 18] (fun x n a i wr => RdRel w w1 s x n a i wr) (fun _ _ _ i _ => 26 - (intOf i).toNat)
    case atStart => exact ⟨0, 0, 0, rfl, by decide, rfl, rfl, rfl, rfl, by decide, rfl, HT1.out, HT0.out, HB1.out, rfl⟩
    case round =>
      obtain ⟨k, a, m, rfl, hk, rfl, rfl, rfl, ham, hm8, hall, ht1, ht0, hb, hw1⟩ := hrel
      clear HT0 HT1 HB1
      have HT1 := Lib.hid ht1
      have HT0 := Lib.hid ht0
      have HB := Lib.hid hb
      have HW1 := Lib.hid hw1
      have HAl := Lib.hid hall
      clear ht1 ht0 hb hw1 hall
      by_cases hlt : k < 26
      · have hltI : (k : Int) < 26 := by omega
        have hck := HC.out wr HW1.out k hlt
        have hkl : k < s.data.toList.length := by have h1 := HSl.out; have h2 := H26.out; omega
        have hget : s.data.toList[k]? = some (s.data.toList.getD k 0) := by
          rw [List.getD_eq_getElem?_getD, List.getElem?_eq_getElem hkl]; rfl
        have hts := take_snoc_all s.data.toList k isSign hkl
        rw [HAl.out] at hts
        have hdk : (digsT s.data.toList).getD k 0 = digOf (s.data.toList.getD k 0) := by
          unfold digsT
          rw [List.getD_eq_getElem?_getD, List.getElem?_map, hget]; rfl
        have hno := @goodT_no s.data.toList k _ hget
        have hdl := digsT_lt s.data.toList k
        have hdig := digBit_dig (digsT s.data.toList) k hdl
        rw [hdk] at hdig hdl
        generalize s.data.toList.getD k 0 = c at *
        have hix : ∀ W, Calls Tryd.prog 25 #[.string signsB, .int .u8 (c.toNat : Int)] W fun e w' => e = .returned (.int .i64 (digZ c)) ∧ W = w' := by
          intro W
          refine (Tryd.strings_IndexByte signsB (c.toNat : Int) W).mono fun e w' ⟨he, hw⟩ => ⟨?_, hw.symm⟩
          rw [he]
          simp [digZ]
        have hbd := digZ_bd c
        have HIx := Lib.hid hix
        have HTs := Lib.hid hts
        have HDg := Lib.hid hdig
        have HNo := Lib.hid hno
        clear hix hts hdig hno hget hdk hkl
        by_cases hz : digZ c = -1
        · have Hz := Lib.hid hz
          have hix2 := HIx.out
          rw [hz] at hix2
          have HIx2 := Lib.hid hix2
          clear hz hix2 hbd
          go_wp2_with (go_at_call 25; go_must (refine (HIx2.out _).mono ?_))
          rintro e w2 ⟨rfl, rfl⟩
          have hT0 : wr.heap[w.heap.size]? = some (.cells (bcells zeros).toArray 40 (0, 0)) := HT0.out
          have hrow := setRow_heap wr w.heap.size _ (bcells zeros).toArray _ _ hT0
          have hbel := Below.setRow HB.out (g := w.heap.size) (Nat.le_refl _) (bcells zeros).toArray
          have HT0' := Lib.hid hT0
          have HRo := Lib.hid hrow
          have HBe := Lib.hid hbel
          clear hT0 hrow hbel
          go_wp2_with (refine wpList_store_row rfl 40 _ _ rfl w.heap.size (bcells zeros).toArray rfl rfl _ _ HT0'.out (tok_info rfl) rfl (tok_one zeros) ?_)
          refine bodyPost_ret (ret_tok rfl rfl rfl HRo.out) rfl ⟨zeros, rfl, ?_, fun h => ?_, HBe.out⟩
          · rw [HNo.out Hz.out]; rfl
          · rw [HNo.out Hz.out] at h; cases h
        · obtain ⟨v, hv⟩ : ∃ v : Nat, digZ c = (v : Int) := ⟨(digZ c).toNat, by omega⟩
          have hsg : isSign c = true := by unfold isSign; rw [hv]; simp
          have hdo : digOf c = v := by unfold digOf; rw [hv]; rfl
          have hix2 := HIx.out
          rw [hv] at hix2
          have hts := HTs.out
          rw [hsg] at hts
          have hdig := HDg.out
          rw [hdo] at hdig
          have hv32 : v < 32 := by rw [hdo] at hdl; exact hdl
          have HIx2 := Lib.hid hix2
          have HTs2 := Lib.hid hts
          have hadd := bitsN_add (digBit (digsT s.data.toList)) (8 * a) m 5
          rw [ham, hdig] at hadd
          have hX := bitsN_lt (digBit_le (digsT s.data.toList)) (8 * a) m
          have hp : 2 ^ m ≤ 2 ^ 7 := Nat.pow_le_pow_right (by decide) (by omega)
          have hXc : bitsN (digBit (digsT s.data.toList)) (8 * a) m < 128 := by omega
          generalize bitsN (digBit (digsT s.data.toList)) (8 * a) m = X at *
          have hor : bits BinOp.or .i64 ((X : Int) * 32) (v : Int) = (bitsN (digBit (digsT s.data.toList)) (8 * a) (m + 5) : Int) := by
            have h1 := i64_or_small (X * 32) v (by omega) (by omega)
            rw [or_add X v 5 hv32] at h1
            rw [hadd, ← h1]
            simp
          have hY : bitsN (digBit (digsT s.data.toList)) (8 * a) (m + 5) < 4096 := by rw [hadd]; omega
          clear hix2 hts hadd hX hp hz hdl hbd hdig HDg HTs HNo HIx hdo hsg hv
          by_cases h8 : 8 ≤ m + 5
          · have hbyte := bitsN_div (digBit_le (digsT s.data.toList)) (8 * a) 8 (m - 3)
            have hlow := bitsN_mod (digBit_le (digsT s.data.toList)) (8 * a) 8 (m - 3)
            rw [show 8 + (m - 3) = m + 5 by omega] at hbyte hlow
            have ha16 : a < 16 := by omega
            have hstep := MkRel.step (j := 0) (k := a) (bytesD_length _) (by omega) HB.out (by rw [Nat.zero_add]; exact HT1.out) (by have := HT0.out; exact this)
            have hgd := bytesD_getD (digsT s.data.toList) a ha16
            simp only [Nat.zero_add] at hstep
            have hc1 := HT1.out.cell a (by rw [upto_length _ _ (bytesD_length _) (by omega)]; exact ha16)
            have f1 := Lib.frozen_of_heap HT1.out
            generalize bitsN (digBit (digsT s.data.toList)) (8 * a) (m + 5) = Y at *
            rw [← hgd] at hbyte
            generalize (bytesD (digsT s.data.toList)).getD a 0 = cB at *
            have hst : (Y : Int) / 2 ^ (m - 3) % 256 = (cB.toNat : Int) := by
              have h1 := cB.toNat_lt
              have e : (Y : Int) / 2 ^ (m - 3) = ((Y / 2 ^ (m - 3) : Nat) : Int) := by simp
              rw [e, hbyte]
              omega
            have HSt := Lib.hid hstep
            have HLo := Lib.hid hlow
            clear hstep hgd hbyte hlow
            go_wp2_with (go_at_call 25; go_must (refine (HIx2.out _).mono ?_))
            rintro e w2 ⟨rfl, rfl⟩
            go_wp2
            refine ⟨⟨k + 1, a + 1, m - 3, by go_num, by omega, by congr 1; omega, by go_num, ?_, by omega, by omega, HTs2.out, ?_, ?_, HSt.out.1, ?_⟩, by simp [intOf]; omega⟩
            · rw [mask_low Y (m - 3) _ (by omega) (by omega) HLo.out, show 8 * (a + 1) = 8 * a + 8 by omega]
            · exact HSt.out.2.1
            · exact HSt.out.2.2
            · rw [heap_setCell_other _ ⟨w.heap.size + 1, a, none⟩ _ _ (by simp)]
              exact HW1.out
          · have hlow := bits_low (digBit_le (digsT s.data.toList)) (8 * a) (m + 5) (m + 5) (Nat.le_refl _)
            rw [Nat.sub_self, Nat.add_zero] at hlow
            generalize hYe : bitsN (digBit (digsT s.data.toList)) (8 * a) (m + 5) = Y at *
            have HYe := Lib.hid hYe
            clear hYe
            have HLo := Lib.hid hlow
            clear hlow
            go_wp2_with (go_at_call 25; go_must (refine (HIx2.out _).mono ?_))
            rintro e w2 ⟨rfl, rfl⟩
            go_wp2
            refine ⟨⟨k + 1, a, m + 5, by go_num, by omega, by go_num, rfl, ?_, by omega, by omega, HTs2.out, HT1.out, HT0.out, HB.out, HW1.out⟩, by simp [intOf]; omega⟩
            rw [mask_low Y (m + 5) _ (by omega) (by omega) HLo.out, HYe.out]
      · obtain rfl : k = 26 := by omega
        obtain rfl : a = 16 := by omega
        obtain rfl : m = 2 := by omega
        have hall : s.data.toList.all isSign = true := by
          have h1 := HAl.out
          rwa [List.take_of_length_le (by have h1 := HSl.out; have h2 := H26.out; omega)] at h1
        have hgood : goodT s.data.toList = decide (bitsN (digBit (digsT s.data.toList)) 128 2 = 0) := by
          unfold goodT
          rw [hall, decide_eq_true (show s.data.toList.length = 26 by have h1 := HSl.out; have h2 := H26.out; omega)]
          rfl
        have hX : bitsN (digBit (digsT s.data.toList)) (8 * 16) 2 = bitsN (digBit (digsT s.data.toList)) 128 2 := rfl
        rw [hX]
        have hT1 : wr.heap[w.heap.size + 1]? = some (.cells (bcells (bytesD (digsT s.data.toList))).toArray 40 (0, 0)) := by
          have h1 := HT1.out
          have h2 : upto (bytesD (digsT s.data.toList)) 16 = bytesD (digsT s.data.toList) := by
            unfold upto
            rw [List.take_of_length_le (Nat.le_of_eq (bytesD_length _)), Nat.sub_self, List.replicate_zero, List.append_nil]
          rw [h2] at h1
          exact h1
        have hT0 : wr.heap[w.heap.size]? = some (.cells (bcells zeros).toArray 40 (0, 0)) := HT0.out
        have hrow := setRow_heap wr w.heap.size _ (bcells (bytesD (digsT s.data.toList))).toArray _ _ hT0
        have hbel := Below.setRow HB.out (g := w.heap.size) (Nat.le_refl _) (bcells (bytesD (digsT s.data.toList))).toArray
        have hbl := bytesD_length (digsT s.data.toList)
        generalize hbe : bytesD (digsT s.data.toList) = BD at hT1 hrow hbel hbl
        generalize bitsN (digBit (digsT s.data.toList)) 128 2 = X at *
        have HT1' := Lib.hid hT1
        have HT0' := Lib.hid hT0
        have HRo := Lib.hid hrow
        have HBe := Lib.hid hbel
        have HG := Lib.hid hgood
        have HBl := Lib.hid hbl
        have HBD := Lib.hid hbe
        clear hT1 hT0 hrow hbel hgood hall hX hbl hbe HT1 HT0 HAl HC HW1 hlt hk ham hm8 h26
        go_wp2_with (first
          | (refine wpList_load_row rfl 40 _ rfl (w.heap.size + 1) rfl 40 (bcells BD).toArray (0, 0) _ HT1'.out Tryd.underlying40 rfl (tok_info HBl.out) ?_)
          | (refine wpList_store_row rfl 40 _ _ rfl w.heap.size (bcells BD).toArray rfl rfl _ _ HT0'.out (tok_info HBl.out) (tok_size rfl HBl.out) (tok_one BD) ?_))
        refine bodyPost_ret (ret_tok rfl rfl HBl.out HRo.out) rfl ⟨BD, HBl.out, ?_, fun _ => HBD.out.symm, HBe.out⟩
        rw [HG.out]
        have hx : ((X : Int) == 0) = decide (X = 0) := by
          by_cases h : X = 0
          · subst h; rfl
          · rw [decide_eq_false h]
            simpa using h
        rw [← hx]
        rfl
  · have hgood : goodT s.data.toList = false := by
      unfold goodT
      rw [decide_eq_false (show ¬ s.data.toList.length = 26 by have := HSl.out; omega)]
      rfl
    have h26i : ((s.size : Int) == 26) = false := by
      have : ¬ (s.size : Int) = 26 := by omega
      simpa using this
    have hrow : TokAt (((w.alloc (.cells (bcells zeros).toArray 40)).alloc (.cells (bcells zeros).toArray 40)).setRow w.heap.size (bcells zeros).toArray) w.heap.size zeros := setRow_heap _ w.heap.size _ (bcells zeros).toArray _ _ (heap_alloc2_old w _ _)
    have hbel := Below.setRow (((Below.refl _ w).alloc (Nat.le_refl _) (.cells (bcells zeros).toArray 40)).alloc (by simp) (.cells (bcells zeros).toArray 40)) (g := w.heap.size) (Nat.le_refl _) (bcells zeros).toArray
    have HRo := Lib.hid hrow
    have HBe := Lib.hid hbel
    have HG := Lib.hid hgood
    clear hrow hbel hgood h26 h0w
    go_enter Tryd.func18, Tryd.ntmps18
    go_wp2_with (first
      | (refine wpList_load_row rfl 40 _ rfl (w.heap.size + 1) rfl 40 (bcells zeros).toArray (0, 0) _ (heap_alloc2_new w _ _) Tryd.underlying40 rfl (tok_info rfl) ?_)
      | (refine wpList_store_row rfl 40 _ _ rfl w.heap.size (bcells zeros).toArray rfl rfl _ _ (heap_alloc2_old w _ _) (tok_info rfl) rfl (tok_one zeros) ?_))
    trace_state
    refine bodyPost_ret (ret_tok rfl rfl rfl HRo.out) rfl ⟨zeros, rfl, ?_, fun h => ?_, HBe.out⟩
    · rw [HG.out]; rfl
    · rw [HG.out] at h; cases h
end Go.Proofs.YtepibaoniafolaaDoor
