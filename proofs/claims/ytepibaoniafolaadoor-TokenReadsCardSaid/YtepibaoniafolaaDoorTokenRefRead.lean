import Derived.Test.YtepibaoniafolaaDoorTokenUpB
import Derived.Test.YtepibaoniafolaaDoorTokenRefText
import Derived.Test.YtepibaoniafolaaDoorDrawnAct
import Derived.Lib.OthersKept
import Derived.Laws.RangeString
import Derived.Deep.QuietTactic
import Derived.BigQuiet
namespace Go.Proofs.YtepibaoniafolaaDoor
open Go Go.RowKit

def RRow (w : World) (d : List Nat) (K : Nat) (wr : World) : Prop :=
  wr.ownsRow w.heap.size 5 1 (.slice (some ⟨w.heap.size, 0, none⟩) 17 17) 17 (bcells (upB d K))

def RRel (w : World) (s : ByteArray) (i : Value) (wr : World) : Prop :=
  ∃ k : Nat, i = .int .i64 (k : Int) ∧ k ≤ 26 ∧ (s.data.toList.take k).all isSign = true ∧ RRow w (digsT s.data.toList) (5 * k) wr ∧ Below w.heap.size w wr

def SgIn (w0 : World) (c : UInt8) (v : Value) (wr : World) : Prop :=
  ∃ k : Nat, k ≤ 32 ∧ v = .int .i64 (fndTo c k) ∧ wr.heap[w0.heap.size]? = some (.stringIter signsB k) ∧ Below w0.heap.size w0 wr

def RBit (w : World) (d : List Nat) (i : Nat) (k : Value) (wr : World) : Prop :=
  ∃ j : Nat, k = .int .i64 (j : Int) ∧ j ≤ 5 ∧ RRow w d (5 * i + j) wr ∧ Below w.heap.size w wr

theorem owns_keep {w w' : World} {B n s : Nat} {e : TypeId} {v : Value} {xs : List Value} (h : w.ownsRow B e s v n xs) (hb : Below w.heap.size w w') : w'.ownsRow B e s v n xs :=
  h.kept (row := none) ⟨hb.os, hb.tape, hb.output, hb.size, fun k hk _ => hb.block k hk⟩ (by cases v.ownBlock <;> simp)

theorem iterPos_at {w : World} {g : Nat} {s : ByteArray} {k : Nat} (h : w.heap[g]? = some (.stringIter s k)) : w.iterPos g = k := by
  simp [World.iterPos, h]

theorem signs_next (w : World) (g k : Nat) (hg : w.heap[g]? = some (.stringIter signsB k)) (h : k < 32) (ty : TypeId) :
    (Instr.next (.pointer (some ⟨g, 0, none⟩)) true ty).run Tryd.prog w = .ok (.tuple #[.bool true, .int .i64 (k : Int), .int .i32 ((sgn k).toNat : Int)]) (w.iterAt g signsB (k + 1)) := by
  have hs : k < signsB.size := h
  have ha : ∀ k : Fin 32, (sgn k.val).toNat < 128 := by decide +kernel
  have := Lib.run_next_ascii_at (P := Tryd.prog) w g signsB k ty hg hs (by rw [sgn_at k hs]; exact ha ⟨k, h⟩)
  rw [sgn_at k hs] at this
  exact this

theorem signs_end (w : World) (g : Nat) (hg : w.heap[g]? = some (.stringIter signsB 32)) (ty : TypeId) :
    (Instr.next (.pointer (some ⟨g, 0, none⟩)) true ty).run Tryd.prog w = .ok (.tuple #[.bool false]) w :=
  Lib.run_next_end_at (P := Tryd.prog) w g signsB 32 ty hg (by decide)

theorem sgn_dec {k : Nat} {c : UInt8} {b : Bool} {z : Int} (hk : k < 32) (h : (((signsB[k]'hk).toNat : Int) == (c.toNat : Int)) = b) : (if sgn k = c then (k : Int) else z) = if b = true then (k : Int) else z := by
  rw [sgn_at k hk] at h
  subst h
  by_cases hc : sgn k = c
  · rw [if_pos hc, if_pos (by rw [hc]; simp)]
  · rw [if_neg hc, if_neg]
    intro h
    have h1 : ((sgn k).toNat : Int) = (c.toNat : Int) := eq_of_beq h
    exact hc (UInt8.toNat_inj.1 (Int.ofNat_inj.1 h1))

theorem signs_index (k : Nat) (h : k < 32) (W : World) : (Instr.index 9 (.string signsB) (.int .i64 (k : Int))).run Tryd.prog W = .ok (.int .u8 ((sgn k).toNat : Int)) W := by
  have hs : k < signsB.size := h
  have hu := Tryd.underlying9
  have he := sgn_at k hs
  simp [Instr.index, run_underlying hu, asIntOf, go_sem, hs, he]

theorem str_index (s : ByteArray) (i : Nat) {c : UInt8} (h : i < s.size) (hc : s[i]'h = c) (W : World) : (Instr.index 9 (.string s) (.int .i64 (i : Int))).run Tryd.prog W = .ok (.int .u8 (c.toNat : Int)) W := by
  have hu := Tryd.underlying9
  simp [Instr.index, run_underlying hu, asIntOf, go_sem, h, hc]

set_option maxRecDepth 100000 in
set_option maxHeartbeats 1000000 in
theorem refread_any (w : World) (s : ByteArray) :
    Calls Tryd.prog 11 #[.string s] w (GivesVal w (readV s.data.toList)) := by
  obtain ⟨i0, hi, hz0, hz1, hz2⟩ := info_parts info5
  have hsl : s.data.toList.length = s.size := (Lib.size_eq s).symm
  have HSl := Lib.hid hsl
  by_cases h26 : s.size = 26
  · have h26i : (s.size : Int) = 26 := by omega
    have H26 := Lib.hid h26
    clear hsl h26
    go_enter Tryd.func11, Tryd.ntmps11
    go_wp2_with (at_make; go_must (refine wpList_make_full _ rfl _ _ 33 rfl w.heap.size 5 i0 (.int .u8 0) 1 Tryd.underlying33 hi hz0 hz1 .i64 .i64 _ _ 17 rfl rfl ?_ ?_ ?_ ?_ ?_ ?_))
    · rfl
    · rfl
    · rw [hz2]; omega
    · unfold maxLen; omega
    · exact Nat.le_refl _
    intro w1 own1 gr1
    have b1 : Below w.heap.size w w1 := (Below.refl _ _).grown gr1 (Nat.le_refl _) (fun k hk => by cases hk)
    have own1' : RRow w (digsT s.data.toList) (5 * 0) w1 := by
      have e : (madeCells #[Value.int IntKind.u8 0] 17).toList = bcells (upB (digsT s.data.toList) (5 * 0)) := by
        rw [toList_madeCells_one, upB_zero]
        rfl
      unfold RRow
      rw [← e]
      first | exact own1 | (rw [Nat.mul_one] at own1; exact own1)
    have HO1 := Lib.hid own1'
    have HB1 := Lib.hid b1
    clear own1 own1' b1 gr1
    go_wp2
    go_loopw [6] (fun i wr => RRel w s i wr) (fun i _ => 26 - (intOf i).toNat)
    case atStart => exact ⟨0, rfl, by decide, rfl, HO1.out, HB1.out⟩
    case round =>
      obtain ⟨i, rfl, hi26, hall, hrow, hb⟩ := hrel
      have HO := Lib.hid hrow
      have HB := Lib.hid hb
      have HAl := Lib.hid hall
      clear HO1 HB1 hrow hb hall
      by_cases hlt : i < 26
      · have hltI : (i : Int) < 26 := by omega
        have hkl : i < s.data.toList.length := by have h1 := HSl.out; have h2 := H26.out; omega
        have hget : s.data.toList[i]? = some (s.data.toList.getD i 0) := by
          rw [List.getD_eq_getElem?_getD, List.getElem?_eq_getElem hkl]; rfl
        have hts := take_snoc_all s.data.toList i isSign hkl
        rw [HAl.out] at hts
        have hdk : (digsT s.data.toList).getD i 0 = digOf (s.data.toList.getD i 0) := by
          unfold digsT
          rw [List.getD_eq_getElem?_getD, List.getElem?_map, hget]; rfl
        have hno := @goodT_no s.data.toList i _ hget
        have hdl := digsT_lt s.data.toList i
        have hsi : ∀ h : i < s.size, s[i]'h = s.data.toList.getD i 0 := fun h => by
          rw [List.getD_eq_getElem?_getD, List.getElem?_eq_getElem hkl]; rfl
        generalize hcc : s.data.toList.getD i 0 = c at *
        have HTs := Lib.hid hts
        have HDk := Lib.hid hdk
        have HNo := Lib.hid hno
        have HDl := Lib.hid hdl
        clear hts hdk hno hdl hget hcc
        go_wp2
        obtain ⟨wo, hwo⟩ : ∃ wo : World, wo = wr := ⟨_, rfl⟩
        subst hwo
        go_loopw [7] (fun v wx => SgIn wo c v wx) (fun _ wx => 32 - wx.iterPos wo.heap.size)
        case atStart => exact ⟨0, by decide, by rw [fndTo_zero], World.iter_heap wo signsB 0, (Below.refl _ _).alloc (Nat.le_refl _) _⟩
        case round =>
          obtain ⟨k, hk, rfl, hit, hbi⟩ := hrel
          by_cases hk32 : k < 32
          · have hnx := signs_next _ _ k hit hk32
            have hst := fndTo_step c k hk32
            have hk32I : (k : Int) < 32 := by omega
            have hx1 := signs_index k hk32
            have hin : i < s.size := by have := H26.out; omega
            have hx2 := str_index s i hin (hsi hin)
            have hp0 := iterPos_at hit
            have hit1 := Lib.iterAt_heap _ _ signsB k (k + 1) hit
            have hbi1 := Lib.below_iterAt hbi (Nat.le_refl _) signsB (k + 1)
            generalize wr.iterAt wo.heap.size signsB (k + 1) = W1 at *
            have HP0 := Lib.hid hp0
            have HI1 := Lib.hid hit1
            have HBi := Lib.hid hbi1
            clear hp0 hit1 hbi1 hsi hit hbi
            have HSt := Lib.hid hst
            clear hst
            go_wp2
            go_quiet (fail)
            go_wp2
            all_goals
              rename_i hb
              have hi1 := HI1.out
              have hm := iterPos_at hi1
              refine ⟨⟨k + 1, by omega, ?_, hi1, ⟨HBi.out.os, HBi.out.tape, HBi.out.output, HBi.out.size, HBi.out.block⟩⟩, ?_⟩
              · rw [HSt.out, sgn_dec hk32 hb]
                rfl
              · rw [HP0.out]
                show 32 - W1.iterPos wo.heap.size < 32 - k
                rw [hm]
                omega
          · obtain rfl : k = 32 := by omega
            have hnx := signs_end _ _ hit
            have hbd := digZ_bd c
            rw [fndTo_full]
            have hdo : digOf c = (digZ c).toNat := rfl
            have HSg : isSign c = decide (0 ≤ digZ c) := rfl
            have hrw : RRow w (digsT s.data.toList) (5 * i) wr := owns_keep HO.out hbi
            have hbw : Below w.heap.size w wr := HB.out.trans (hbi.mono HB.out.size)
            have HRw := Lib.hid hrw
            have HBw := Lib.hid hbw
            clear hk hk32 hrw hbw hbi hit
            by_cases hz : digZ c = -1
            · have hgd := HNo.out hz
              have hv : readV s.data.toList = .tuple #[.int .u32 0, .int .u64 0, .int .i64 9] := by
                unfold readV readR
                rw [hgd, if_neg (by decide)]; rfl
              rw [hz]
              have HV := Lib.hid hv
              clear hz hgd hv hbd hdo HSg
              go_wp2
              go_ret3
              rw [HV.out]
              exact ⟨rfl, HBw.out⟩
            · obtain ⟨D, hD⟩ : ∃ D : Nat, digZ c = (D : Int) := ⟨(digZ c).toNat, by omega⟩
              have hD32 : D < 32 := by omega
              have hdD : (digsT s.data.toList).getD i 0 = D := by rw [HDk.out, hdo, hD]; rfl
              rw [hD]
              have hall2 : (s.data.toList.take (i + 1)).all isSign = true := by
                rw [HTs.out, Bool.true_and, HSg, hD]
                exact decide_eq_true (Int.natCast_nonneg _)
              have HAl2 := Lib.hid hall2
              have HDD := Lib.hid hdD
              clear hz hbd hdo HSg hD hdD hall2 hsi
              go_wp2
              go_loopw [9] (fun k wi => RBit w (digsT s.data.toList) i k wi) (fun k _ => 5 - (intOf k).toNat)
              case atStart => exact ⟨0, rfl, by decide, HRw.out, HBw.out⟩
              case round =>
                obtain ⟨j, rfl, hj, hrow, hb⟩ := hrel
                by_cases hj5 : j < 5
                · have hjI : (j : Int) < 5 := by omega
                  have hbt : ((D : Int) / 2 ^ (4 - j)).tmod 2 = (digBit (digsT s.data.toList) (5 * i + j) : Int) := by
                    have e1 : (D : Int) / 2 ^ (4 - j) = ((D / 2 ^ (4 - j) : Nat) : Int) := by simp
                    rw [e1, Int.tmod_eq_emod_of_nonneg (Int.natCast_nonneg _)]
                    unfold digBit
                    rw [show (5 * i + j) / 5 = i by omega, show (5 * i + j) % 5 = j by omega, HDD.out]
                    omega
                  have hB1 := digBit_le (digsT s.data.toList) (5 * i + j)
                  have hon := upB_on (digsT s.data.toList) (5 * i + j)
                  have hoff := upB_off (digsT s.data.toList) (5 * i + j)
                  have hroom := upB_room (digsT s.data.toList) (5 * i + j)
                  have hul := upB_length (digsT s.data.toList) (5 * i + j)
                  generalize digBit (digsT s.data.toList) (5 * i + j) = B at *
                  have hB2 : B = 0 ∨ B = 1 := by omega
                  rcases hB2 with rfl | rfl
                  · have hof := hoff rfl
                    have HRo := Lib.hid hrow
                    have HBo := Lib.hid hb
                    have HOf := Lib.hid hof
                    clear hrow hb hof hon hoff hroom hB1 hul
                    go_wp2
                    refine ⟨⟨j + 1, by go_num, by omega, ?_, HBo.out⟩, by simp [intOf]; omega⟩
                    unfold RRow
                    rw [← Nat.add_assoc, HOf.out]
                    exact HRo.out
                  · have hon1 := hon rfl (by omega)
                    have hro1 := hroom rfl (by omega)
                    clear hon hoff hroom hB1
                    unfold RRow at hrow
                    have cp' := hrow.cellAt ((5 * i + j) / 8) (by omega)
                    have hgc : (bcells (upB (digsT s.data.toList) (5 * i + j)))[(5 * i + j) / 8]? = some (.int .u8 (((upB (digsT s.data.toList) (5 * i + j)).getD ((5 * i + j) / 8) 0).toNat : Int)) := by
                      simp [bcells, List.getD, show (5 * i + j) / 8 < (upB (digsT s.data.toList) (5 * i + j)).length by omega]
                    rw [hgc] at cp'
                    have fp := hrow.frozenAt ((5 * i + j) / 8)
                    have st := fun u => World.ownsRow.stored hrow ((5 * i + j) / 8) u
                    generalize hcc : (upB (digsT s.data.toList) (5 * i + j)).getD ((5 * i + j) / 8) 0 = c' at *
                    obtain ⟨e, he, he7, he8⟩ : ∃ e : Nat, 7 - (5 * i + j) % 8 = e ∧ (7 : Int) - (5 * (i : Int) + (j : Int)) % 8 = (e : Int) ∧ e ≤ 7 := ⟨_, rfl, by omega, by omega⟩
                    rw [he] at hon1 hro1
                    have HSt := Lib.hid st
                    have HOn := Lib.hid hon1
                    have HRoom := Lib.hid hro1
                    have HBb := Lib.hid hb
                    have HCc := Lib.hid hcc
                    clear st hon1 hro1 hgc hrow hb hcc
                    go_wp2
                    have h1 := HSt.out (.int .u8 (((c'.toNat : Int) + 2 ^ e) % 256))
                    have hv : (Value.int .u8 (((c'.toNat : Int) + 2 ^ e) % 256)) = .int .u8 ((UInt8.ofNat (c'.toNat + 2 ^ e)).toNat : Int) := by
                      congr 1
                    rw [hv] at h1 ⊢
                    have hset : (bcells (upB (digsT s.data.toList) (5 * i + j))).set ((5 * i + j) / 8) (.int .u8 ((UInt8.ofNat (c'.toNat + 2 ^ e)).toNat : Int)) = bcells (upB (digsT s.data.toList) (5 * i + (j + 1))) := by
                      rw [← Nat.add_assoc, HOn.out]
                      simp only [bcells, List.map_set]
                    rw [hset] at h1
                    have hbz := HBb.out.size
                    exact ⟨⟨j + 1, by go_num, by omega, h1.1, HBb.out.grown h1.2 hbz (fun k hk => by cases hk; omega)⟩, by simp [intOf]; omega⟩
                · obtain rfl : j = 5 := by omega
                  have HRo := Lib.hid hrow
                  have HBo := Lib.hid hb
                  clear hrow hb
                  go_wp2
                  exact ⟨⟨i + 1, by go_num, by omega, HAl2.out, by rw [Nat.mul_add]; exact HRo.out, HBo.out⟩, by simp [intOf]; omega⟩
      · obtain rfl : i = 26 := by omega
        have hul := upB_length (digsT s.data.toList) 130
        have hu16 := upB_last (digsT s.data.toList)
        have hut := upB_take (digsT s.data.toList)
        have hXlt := bitsN_lt (digBit_le (digsT s.data.toList)) 128 2
        have hrow : RRow w (digsT s.data.toList) 130 wr := HO.out
        have hgd : goodT s.data.toList = decide (bitsN (digBit (digsT s.data.toList)) 128 2 = 0) := by
          have h1 := HAl.out
          rw [List.take_of_length_le (by have h1 := HSl.out; have h2 := H26.out; omega)] at h1
          unfold goodT
          rw [h1, decide_eq_true (show s.data.toList.length = 26 by have h1 := HSl.out; have h2 := H26.out; omega)]
          rfl
        unfold RRow at hrow
        have hrd : readV s.data.toList = if bitsN (digBit (digsT s.data.toList)) 128 2 = 0 then (if bytesD (digsT s.data.toList) = tokL (numB ((bytesD (digsT s.data.toList)).take 4)) (numB (((bytesD (digsT s.data.toList)).drop 4).take 8)) then .tuple #[.int .u32 (numB ((bytesD (digsT s.data.toList)).take 4) : Int), .int .u64 (numB (((bytesD (digsT s.data.toList)).drop 4).take 8) : Int), .int .i64 0] else .tuple #[.int .u32 0, .int .u64 0, .int .i64 8]) else .tuple #[.int .u32 0, .int .u64 0, .int .i64 9] := by
          unfold readV readR
          rw [hgd]
          by_cases hx : bitsN (digBit (digsT s.data.toList)) 128 2 = 0
          · rw [if_pos (decide_eq_true hx), if_pos hx]
            by_cases h : bytesD (digsT s.data.toList) = tokL (numB ((bytesD (digsT s.data.toList)).take 4)) (numB (((bytesD (digsT s.data.toList)).drop 4).take 8))
            · rw [if_pos h, if_pos h]; rfl
            · rw [if_neg h, if_neg h]; rfl
          · rw [if_neg (by rw [decide_eq_false hx]; decide), if_neg hx]; rfl
        generalize readV s.data.toList = V at *
        generalize bytesD (digsT s.data.toList) = BD at *
        generalize upB (digsT s.data.toList) 130 = U at *
        generalize bitsN (digBit (digsT s.data.toList)) 128 2 = X at *
        have hcell : ∀ k, k < 17 → wr.cell? ⟨w.heap.size, k, none⟩ = some (.int .u8 ((U.getD k 0).toNat : Int)) := by
          intro k hk
          rw [hrow.cellAt k hk]
          simp [bcells, List.getD, show k < U.length by omega]
        have hc16 := hcell 16 (by decide)
        rw [hu16] at hc16
        have ht4 : U.take 4 = BD.take 4 := by rw [← hut, List.take_take]; rfl
        have ht8 : (U.drop 4).take 8 = (BD.drop 4).take 8 := by rw [← hut, List.drop_take, List.take_take]; rfl
        have hrd16 : Reads wr 1 (.slice (some ⟨w.heap.size, 0, none⟩) 16 17) 16 (bcells BD) := by
          obtain ⟨a', c', hv', _, _, h5⟩ := (ownsRow.reads hrow).take 16 (by decide)
          cases hv'
          rwa [hut] at h5
        have HC := Lib.hid hcell
        have HRd := Lib.hid hrd16
        have HV := Lib.hid hrd
        have HT4 := Lib.hid ht4
        have HT8 := Lib.hid ht8
        have HUl := Lib.hid hul
        clear hu16 hut hgd hrow hrd hcell ht4 ht8 hul HO HAl hrd16 hlt hi26
        by_cases hX0 : X = 0
        · subst hX0
          have hV := HV.out
          rw [if_pos rfl] at hV
          have HV2 := Lib.hid hV
          clear hV HV hXlt
          go_wp2
          go_loop [11, 75] (fun r i => NumRel U 0 4 .u32 r i) (fun _ i => 4 - (intOf i).toNat)
          case atStart => exact ⟨0, rfl, by decide, rfl⟩
          case round =>
            obtain ⟨k, rfl, hk, rfl⟩ := hrel
            by_cases hlt : k < 4
            · have hltI : (k : Int) < 4 := by omega
              have hst := num_step U 0 k (by have := HUl.out; omega)
              have hz := numB_lt ((U.drop 0).take k)
              have hz2 : numB ((U.drop 0).take k) < 256 ^ 3 := Nat.lt_of_lt_of_le hz (Nat.pow_le_pow_right (by decide) (by rw [List.length_take]; omega))
              have hc := HC.out k (by omega)
              rw [Nat.zero_add] at hst
              have hcl := (U.getD k 0).toNat_lt
              generalize (U.getD k 0).toNat = c at *
              generalize numB ((U.drop 0).take k) = x at *
              have HS := Lib.hid hst
              clear hst hz
              go_wp2
              exact ⟨⟨k + 1, by go_num, by omega, by rw [HS.out]; push_cast; rfl⟩, by simp [intOf]; omega⟩
            · obtain rfl : k = 4 := by omega
              clear hlt hk
              have hI4 : numB ((U.drop 0).take 4) = numB (BD.take 4) := by rw [List.drop_zero, HT4.out]
              rw [hI4]
              clear hI4
              generalize hI : numB (BD.take 4) = I at *
              go_wp2
              go_loop [14, 88] (fun r i => NumRel U 4 8 .u64 r i) (fun _ i => 8 - (intOf i).toNat)
              case atStart => exact ⟨0, rfl, by decide, rfl⟩
              case round =>
                obtain ⟨k, rfl, hk, rfl⟩ := hrel
                by_cases hlt : k < 8
                · have hltI : (k : Int) < 8 := by omega
                  have hst := num_step U 4 k (by have := HUl.out; omega)
                  have hz := numB_lt ((U.drop 4).take k)
                  have hz2 : numB ((U.drop 4).take k) < 256 ^ 7 := Nat.lt_of_lt_of_le hz (Nat.pow_le_pow_right (by decide) (by rw [List.length_take]; omega))
                  have hc := HC.out (4 + k) (by omega)
                  have hcl := (U.getD (4 + k) 0).toNat_lt
                  generalize (U.getD (4 + k) 0).toNat = c at *
                  generalize numB ((U.drop 4).take k) = x at *
                  have HS := Lib.hid hst
                  clear hst hz
                  go_wp2
                  exact ⟨⟨k + 1, by go_num, by omega, by rw [HS.out]; push_cast; rfl⟩, by simp [intOf]; omega⟩
                · obtain rfl : k = 8 := by omega
                  clear hlt hk
                  rw [HT8.out]
                  have hR64 : numB ((BD.drop 4).take 8) ≤ 18446744073709551615 := by
                    have h1 := numB_lt ((BD.drop 4).take 8)
                    have h2 : 256 ^ ((BD.drop 4).take 8).length ≤ 256 ^ 8 := Nat.pow_le_pow_right (by decide) (by rw [List.length_take]; omega)
                    have h3 : (256 : Nat) ^ 8 = 18446744073709551616 := by decide
                    omega
                  generalize hR : numB ((BD.drop 4).take 8) = R at *
                  have hby := fun w => refbytes_any w I R hR64
                  generalize tokL I R = T at *
                  have hE : (T == BD) = decide (BD = T) := by
                    by_cases h : BD = T
                    · subst h
                      simp
                    · rw [decide_eq_false h]
                      simpa using fun e => h e.symm
                  obtain ⟨E, hEE⟩ : ∃ E, decide (BD = T) = E := ⟨_, rfl⟩
                  rw [hEE] at hE
                  have HE := Lib.hid hE
                  have HEE := Lib.hid hEE
                  have HBy := Lib.hid hby
                  clear hE hEE hby hR hI hR64
                  go_wp2
                  refine wp_region_all (by kernel_rfl) [eqF (.int .u32 (I : Int)), eqF (.int .u64 (R : Int)), bytesF T, eqF (.string ⟨T.toArray⟩), eqF (.slice (some ⟨w.heap.size, 0, none⟩) 17 17), eqF (.slice (some ⟨w.heap.size, 0, none⟩) 16 17), eqF (.string ⟨BD.toArray⟩), eqF (.bool (!E))] (by kernel_rfl) ⟨?_, ?_, ?_, ?_, ?_, ?_, ?_, ?_, trivial⟩ ⟨trivial, trivial, trivial, trivial, trivial, trivial, trivial, trivial, trivial⟩ ?_
                  · intro ρ wx hρ hbx hl
                    have e11 : ρ (.tmp 11) = .int .u32 (I : Int) := hρ.tmp 11 (by decide +kernel)
                    refine y_val (v := .int .u32 (I : Int)) ?_ rfl
                    simp [execOp, go_sem, e11]
                  · intro ρ wx hρ hbx hl
                    have e14 : ρ (.tmp 14) = .int .u64 (R : Int) := hρ.tmp 14 (by decide +kernel)
                    refine y_val (v := .int .u64 (R : Int)) ?_ rfl
                    simp [execOp, go_sem, e14]
                  · intro ρ wx hρ hbx hl
                    have e98 : ρ (.tmp 98) = .int .u32 (I : Int) := hl 0 (by decide +kernel) 98 rfl
                    have e99 : ρ (.tmp 99) = .int .u64 (R : Int) := hl 1 (by decide +kernel) 99 rfl
                    refine y_call (f := 14) (args := #[.int .u32 (I : Int), .int .u64 (R : Int)]) (by simp [execOp, resolve, invoke, hρ.func, go_sem, e98, e99]) ?_
                    refine (HBy.out wx).mono ?_
                    rintro e w6 ⟨v6, rfl, f6, b6⟩
                    exact ⟨v6, rfl, ⟨_, f6.1⟩, b6⟩
                  · intro ρ wx hρ hbx hl
                    have e100 := hl 2 (by decide +kernel) 100 rfl
                    obtain ⟨k, hk⟩ := e100
                    have hc := Reads.conv (P := Tryd.prog) (src := 33) (e := 5) (dst := 9) Tryd.underlying33 Tryd.underlying5 Tryd.underlying9 (hk)
                    refine y_val (v := .string ⟨T.toArray⟩) ?_ rfl
                    simp [execOp, hc]
                  · intro ρ wx hρ hbx hl
                    have e5 : ρ (.tmp 5) = .slice (some ⟨w.heap.size, 0, none⟩) 17 17 := hρ.tmp 5 (by decide +kernel)
                    refine y_val (v := .slice (some ⟨w.heap.size, 0, none⟩) 17 17) ?_ rfl
                    simp [execOp, go_sem, e5]
                  · intro ρ wx hρ hbx hl
                    have e102 : ρ (.tmp 102) = .slice (some ⟨w.heap.size, 0, none⟩) 17 17 := hl 4 (by decide +kernel) 102 rfl
                    refine y_val (v := .slice (some ⟨w.heap.size, 0, none⟩) 16 17) ?_ rfl
                    simp [execOp, hρ.const, go_sem, e102]
                  · intro ρ wx hρ hbx hl
                    have e103 : ρ (.tmp 103) = .slice (some ⟨w.heap.size, 0, none⟩) 16 17 := hl 5 (by decide +kernel) 103 rfl
                    have hc := Reads.conv (P := Tryd.prog) (src := 33) (e := 5) (dst := 9) Tryd.underlying33 Tryd.underlying5 Tryd.underlying9 (HRd.out.below' hbx)
                    refine y_val (v := .string ⟨BD.toArray⟩) ?_ rfl
                    simp [execOp, e103, hc]
                  · intro ρ wx hρ hbx hl
                    have e101 : ρ (.tmp 101) = .string ⟨T.toArray⟩ := hl 3 (by decide +kernel) 101 rfl
                    have e104 : ρ (.tmp 104) = .string ⟨BD.toArray⟩ := hl 6 (by decide +kernel) 104 rfl
                    refine y_val (v := .bool (!E)) ?_ rfl
                    simp [execOp, go_sem, e101, e104, HE.out]
                  intro aa w3 hdef hsz hlk hbz hf
                  have ha := act_of_like hdef hsz hlk [98, 99, 100, 101, 102, 103, 104, 105] 108 rfl (by decide +kernel)
                  have e98 : aa.tmps.getD 98 undef = .int .u32 (I : Int) := hf 0 _ 98 rfl rfl
                  have e99 : aa.tmps.getD 99 undef = .int .u64 (R : Int) := hf 1 _ 99 rfl rfl
                  have e101 : aa.tmps.getD 101 undef = .string ⟨T.toArray⟩ := hf 3 _ 101 rfl rfl
                  have e102 : aa.tmps.getD 102 undef = .slice (some ⟨w.heap.size, 0, none⟩) 17 17 := hf 4 _ 102 rfl rfl
                  have e103 : aa.tmps.getD 103 undef = .slice (some ⟨w.heap.size, 0, none⟩) 16 17 := hf 5 _ 103 rfl rfl
                  have e104 : aa.tmps.getD 104 undef = .string ⟨BD.toArray⟩ := hf 6 _ 104 rfl rfl
                  have e105 : aa.tmps.getD 105 undef = .bool (!E) := hf 7 _ 105 rfl rfl
                  simp only [putAll, List.foldl_cons, List.foldl_nil, e98, e99, e101, e102, e103, e104, e105] at ha
                  generalize aa.tmps.getD 100 undef = v100 at ha
                  simp [Act.put] at ha
                  subst ha
                  have HB3 := Lib.hid (HB.out.trans (hbz.mono HB.out.size))
                  clear hdef hsz hlk hf e98 e99 e101 e102 e103 e104 e105 hbz
                  cases E with
                  | true =>
                    have hV := HV2.out
                    rw [if_pos (of_decide_eq_true HEE.out)] at hV
                    have HV3 := Lib.hid hV
                    clear hV HEE
                    go_wp2
                    go_ret3
                    rw [HV3.out]
                    exact ⟨rfl, HB3.out⟩
                  | false =>
                    have hV := HV2.out
                    rw [if_neg (of_decide_eq_false HEE.out)] at hV
                    have HV3 := Lib.hid hV
                    clear hV HEE
                    go_wp2
                    go_ret3
                    rw [HV3.out]
                    exact ⟨rfl, HB3.out⟩
        · have hX1 : ((X : Int) * 64 == 0) = false := by
            have : ¬ (X : Int) * 64 = 0 := by omega
            simpa using this
          have hX4 : X < 4 := hXlt
          have hV := HV.out
          rw [if_neg hX0] at hV
          have HV2 := Lib.hid hV
          clear hV HV hXlt hX0
          go_wp2
          go_ret3
          rw [HV2.out]
          exact ⟨rfl, HB.out⟩
  · have h26i : ((s.size : Int) == 26) = false := by
      have : ¬ (s.size : Int) = 26 := by omega
      simpa using this
    have hv : readV s.data.toList = .tuple #[.int .u32 0, .int .u64 0, .int .i64 9] := by
      have hgd : goodT s.data.toList = false := by
        unfold goodT
        rw [decide_eq_false (show ¬ s.data.toList.length = 26 by omega)]
        rfl
      unfold readV readR
      rw [hgd, if_neg (by decide)]; rfl
    have HV := Lib.hid hv
    clear hv h26 hsl
    go_enter Tryd.func11, Tryd.ntmps11
    go_wp2
    go_ret3
    rw [HV.out]
    exact ⟨rfl, Below.refl _ _⟩
end Go.Proofs.YtepibaoniafolaaDoor
