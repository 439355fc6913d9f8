/- Blanks at lines' ends, empty lines and remarks change nothing: the law's walk. -/
import Derived.Test.YtopnldebekhelaaDoorZSchBlankL
import Derived.Test.YtopnldebekhelaaDoorZSchAgain
namespace Go.Proofs.YtopnldebekhelaaDoor
open Go Go.RowKit

theorem blG_app (how : List Nat) : ∀ (a b : List UInt8) (n : Nat), blG how n (a ++ b) = blG how n a ++ blG how (n + lfs a) b
  | [], b, n => by simp [blG, lfs]
  | c :: a, b, n => by
    rw [List.cons_append, blG, blG]
    by_cases hc : c = 10
    · have h3 : lfs (c :: a) = lfs a + 1 := by rw [hc]; simp [lfs]
      rw [if_pos hc, if_pos hc, blG_app how a b (n + 1), h3, List.append_assoc, show n + 1 + lfs a = n + (lfs a + 1) by omega]
    · have h3 : lfs (c :: a) = lfs a := by simp [lfs, hc]
      rw [if_neg hc, if_neg hc, blG_app how a b n, h3, List.cons_append]

theorem tk_app (a b : List UInt8) : tk a ++ tk b = tk (a ++ b) := by
  apply ByteArray.ext
  simp [tk, ByteArray.data_append]
theorem tk_get {x : List UInt8} {i : Nat} {c : UInt8} (hc : x[i]? = some c) (h : i < (tk x).size) : (tk x)[i]'h = c := by
  have hi : i < x.length := by rw [← tk_size]; exact h
  have : x[i]'hi = c := by rw [List.getElem?_eq_getElem hi] at hc; exact Option.some.inj hc
  rw [← this]
  rfl
theorem tk_ext {x : List UInt8} {i : Nat} {c : UInt8} (hc : x[i]? = some c) : (tk x).extract i (i + 1) = tk [c] := by
  apply ByteArray.ext
  have hi := (List.getElem?_eq_some_iff.1 hc).1
  have he := (List.getElem?_eq_some_iff.1 hc).2
  rw [ByteArray.data_extract]
  apply Array.toList_inj.1
  simp only [tk, Array.toList_extract, List.extract_eq_take_drop]
  rw [show i + 1 - i = 1 by omega, List.drop_eq_getElem_cons hi, he]
  rfl
theorem bw_nl {how : List Nat} {x : List UInt8} {i : Nat} {c : UInt8} (hc : x[i]? = some c) : c = 10 → blG how 0 (x.take (i + 1)) = blG how 0 (x.take i) ++ blE (how.getD (lfs (x.take i)) 0 % 5) ∧ lfs (x.take (i + 1)) = lfs (x.take i) + 1 := by
  rintro rfl
  rw [List.take_add_one, hc, Option.toList_some, blG_app, lfs_app]
  exact ⟨by rw [Nat.zero_add, blG, if_pos rfl, blG, List.append_nil], rfl⟩
theorem bw_ch {how : List Nat} {x : List UInt8} {i : Nat} {c : UInt8} (hc : x[i]? = some c) : c ≠ 10 → blG how 0 (x.take (i + 1)) = blG how 0 (x.take i) ++ [c] ∧ lfs (x.take (i + 1)) = lfs (x.take i) := by
  intro h
  rw [List.take_add_one, hc, Option.toList_some, blG_app, lfs_app]
  exact ⟨by rw [blG, if_neg h, blG], by simp [lfs, h]⟩
theorem blG_take (how : List Nat) (x : List UInt8) (i : Nat) : (blG how 0 (x.take i)).length ≤ (blG how 0 x).length := by
  have : blG how 0 x = blG how 0 (x.take i ++ x.drop i) := by rw [List.take_append_drop]
  rw [this, blG_app, List.length_append]
  omega
theorem lfs_take (x : List UInt8) (i : Nat) : lfs (x.take i) ≤ x.length := by
  unfold lfs
  exact Nat.le_trans List.countP_le_length (by rw [List.length_take]; omega)

def BwRel (w : World) (x : List UInt8) (how : List Nat) (ov nv iv : Value) (wr : World) : Prop := ∃ i : Nat, iv = .int .i64 (i : Int) ∧ i ≤ x.length ∧ ov = .string (tk (blG how 0 (x.take i))) ∧ nv = .int .i64 (lfs (x.take i) : Int) ∧ Below w.heap.size w wr

set_option maxRecDepth 100000 in
set_option maxHeartbeats 8000000 in
theorem blanks_any (w : World) (tv : Value) (S : List Ty) (h : SchAt (· < w.heap.size) w tv S) (hS : wS S ≤ 700000000) (hm : MaxInt w) (h0 : 0 < w.heap.size) (a : Option Addr) (n cap : Nat) (l : List UInt8) (hl : l.length = n) (hr : Reads w 1 (.slice a n cap) n (bcells l)) :
    Calls Tryd.prog 6 #[.agg #[tv], .slice a n cap] w (GivesBool w true) := by
  obtain ⟨q, hq⟩ : ∃ q, S.length = q := ⟨_, rfl⟩
  obtain ⟨ta, tcap, rfl, _, _⟩ := h.shape hq
  obtain ⟨W0, hW0⟩ : ∃ W, W = w.alloc (.cells #[.slice ta q tcap] 25) := ⟨_, rfl⟩
  have b0 : Below w.heap.size w W0 := by rw [hW0]; exact (Below.refl _ _).alloc (Nat.le_refl _) _
  have e0 : W0.heap[w.heap.size]? = some (.cells #[.slice ta q tcap] 25 (0, 0)) := by rw [hW0]; exact heap_alloc_new w _
  have hx0 := (Array.getElem?_eq_some_iff.1 e0).1
  have HS0 := Lib.hid ((h.keep (Keeps.of_below b0)).mono (ok' := (· < W0.heap.size)) (fun _ hx _ => hx))
  have hm0 := hm.keep b0 h0
  have h00 : 0 < W0.heap.size := Nat.lt_of_lt_of_le h0 b0.size
  have HF := Lib.hid (fixed_any W0 hm0 h00)
  have HX := Lib.hid e0
  have HB := Lib.hid b0
  have HW := Lib.hid hW0
  have HM := Lib.hid hm0
  have HR := Lib.hid (hr.below' b0)
  have HWt := Lib.hid hS
  have HL := Lib.hid hl
  clear h b0 e0 hW0 hm hm0 hr hS hl
  go_enter Tryd.func6, Tryd.ntmps6
  go_upto_region 1 with fail
  rw [← HW.out]
  clear HW
  go_wp2_with (go_at_call 7; go_must (refine HF.out.mono ?_))
  rintro e w1 ⟨rfl, hb1⟩
  have hX1 := (hb1.block _ hx0).trans HX.out
  have HS1 := Lib.hid ((HS0.out.keep (Keeps.of_below hb1)).mono (ok' := (· < w1.heap.size)) (fun _ hx _ => hx))
  have HM1 := Lib.hid (HM.out.keep hb1 h00)
  have h1 : 0 < w1.heap.size := Nat.lt_of_lt_of_le h00 hb1.size
  have hx1 := (Array.getElem?_eq_some_iff.1 hX1).1
  have HFw := Lib.hid (few_any w1 _ S HS1.out HWt.out)
  have HR1 := Lib.hid (HR.out.below' hb1)
  have HB1 := Lib.hid (HB.out.trans (hb1.mono HB.out.size))
  have x0 := Lib.cell_of_heap hX1 0
  simp at x0
  have HX1 := Lib.hid hX1
  clear hb1 hX1 HF HX HB HM HR HS0
  go_wp2_with (go_at_call 11; go_must (refine HFw.out.mono ?_))
  rintro e w2 ⟨fb, rfl, hfew, hb2⟩
  have HFe := Lib.hid hfew
  have hX2 := (hb2.block _ hx1).trans HX1.out
  have HS2 := Lib.hid ((HS1.out.keep (Keeps.of_below hb2)).mono (ok' := (· < w2.heap.size)) (fun _ hx _ => hx))
  have HM2 := Lib.hid (HM1.out.keep hb2 h1)
  have h2 : 0 < w2.heap.size := Nat.lt_of_lt_of_le h1 hb2.size
  have hx2 := (Array.getElem?_eq_some_iff.1 hX2).1
  have HR2 := Lib.hid (HR1.out.below' hb2)
  have HB2 := Lib.hid (HB1.out.trans (hb2.mono HB1.out.size))
  have HX2 := Lib.hid hX2
  clear hfew hb2 hX2 x0 HFw HX1 HM1 HS1 HR1 HB1
  cases fb with
  | false =>
    go_wp2
    go_ret
    exact ⟨rfl, HB2.out⟩
  | true =>
    have hf200 := HFe.out rfl
    by_cases hn : (100 : Int) < n
    · go_wp2
      go_ret
      exact ⟨rfl, HB2.out⟩
    · have x0 := Lib.cell_of_heap HX2.out 0
      simp at x0
      have HP := Lib.hid (print_any w2 _ S HS2.out HWt.out)
      go_wp2_with (go_at_call 12; go_must (refine HP.out.mono ?_))
      rintro e w3 ⟨he3, hb3⟩
      cases hpr : printT S with
      | none =>
        rw [hpr] at he3
        dsimp only at he3
        subst he3
        have HB3 := Lib.hid (HB2.out.trans (hb3.mono HB2.out.size))
        clear hb3
        go_wp2
        go_ret
        exact ⟨rfl, HB3.out⟩
      | some x =>
        rw [hpr] at he3
        dsimp only at he3
        subst he3
        obtain ⟨hx22, hx24, hback⟩ := parse_blanks (l.map UInt8.toNat) hpr hf200
        have hX3 := (hb3.block _ hx2).trans HX2.out
        have HS3 := Lib.hid ((HS2.out.keep (Keeps.of_below hb3)).mono (ok' := (· < w3.heap.size)) (fun _ hx _ => hx))
        have HM3 := Lib.hid (HM2.out.keep hb3 h2)
        have h3 : 0 < w3.heap.size := Nat.lt_of_lt_of_le h2 hb3.size
        have hx3 := (Array.getElem?_eq_some_iff.1 hX3).1
        have HR3 := Lib.hid (HR2.out.below' hb3)
        have HB3 := Lib.hid (HB2.out.trans (hb3.mono HB2.out.size))
        have HX3 := Lib.hid hX3
        have HBack := Lib.hid hback
        have HPr := Lib.hid hpr
        have HX24 := Lib.hid hx24
        obtain ⟨how, hhow⟩ : ∃ how, l.map UInt8.toNat = how := ⟨_, rfl⟩
        rw [hhow] at HBack HX24
        have HHow := Lib.hid hhow
        obtain ⟨N, hN⟩ : ∃ N, x.length = N := ⟨_, rfl⟩
        have HN := Lib.hid hN
        rw [hN] at hx22
        have htk : (tk x).size = N := by rw [tk_size, hN]
        clear hb3 hX3 x0 HP HX2 HM2 HS2 HR2 HB2 hback hpr hx24 hhow hN
        go_wp2
        go_loopw [7, 8, 9] (fun ov nv iv wr => BwRel w3 x how ov nv iv wr) (fun _ _ iv _ => N - (intOf iv).toNat)
        case atStart => exact ⟨0, rfl, Nat.zero_le _, rfl, rfl, Below.refl _ _⟩
        case round =>
          obtain ⟨i, rfl, hin, rfl, rfl, hb⟩ := hrel
          rw [HN.out] at hin
          by_cases hlt : i < N
          · have hltI : (i : Int) < N := by omega
            obtain ⟨c, hc⟩ : ∃ c, x[i]? = some c := ⟨x[i]'(by rw [HN.out]; exact hlt), List.getElem?_eq_getElem _⟩
            have hgc : ∀ h : i < (tk x).size, (tk x)[i]'h = c := fun h => tk_get hc h
            have HBz := Lib.hid hb
            have HLe := Lib.hid (blG_take how x i)
            have HNl := Lib.hid (fun e : c = 10 => bw_nl (how := how) hc e)
            have HExt := Lib.hid (tk_ext hc)
            have HCh := Lib.hid (fun e : c ≠ 10 => bw_ch (how := how) hc e)
            obtain ⟨B, hB⟩ : ∃ B, blG how 0 (x.take i) = B := ⟨_, rfl⟩
            obtain ⟨m, hm⟩ : ∃ m, lfs (x.take i) = m := ⟨_, rfl⟩
            have HMi := Lib.hid (lfs_take x i)
            rw [hB, hm] at HNl
            rw [hB, hm] at HCh
            rw [hB] at HLe
            rw [hm] at HMi
            rw [hB, hm]
            have hB24 : B.length ≤ 24000 := Nat.le_trans HLe.out HX24.out
            have hm22 : m ≤ 22000 := by have h1 := HMi.out; have h2 := HN.out; omega
            clear hb hB hm hc
            by_cases h10 : c = 10
            · subst h10
              have hcat : ∀ e : List UInt8, e.length ≤ 20 → ∀ W, (Op.stringOp .add (tk B) (tk e)).run Tryd.prog W = .ok (.string (tk (B ++ e))) W := fun e he W => by
                rw [run_string_add_sum W _ _ (by rw [tk_size, tk_size]; omega), tk_app]
              have q0 : ∀ W, (Op.stringOp .add (tk B) ⟨#[10]⟩).run Tryd.prog W = .ok (.string (tk (B ++ blE 0))) W := hcat [10] (by decide)
              have q1 : ∀ W, (Op.stringOp .add (tk B) ⟨#[32, 9, 10]⟩).run Tryd.prog W = .ok (.string (tk (B ++ blE 1))) W := hcat [32, 9, 10] (by decide)
              have q2 : ∀ W, (Op.stringOp .add (tk B) ⟨#[10, 10]⟩).run Tryd.prog W = .ok (.string (tk (B ++ blE 2))) W := hcat [10, 10] (by decide)
              have q3 : ∀ W, (Op.stringOp .add (tk B) ⟨#[10, 47, 47, 32, 116, 121, 112, 101, 32, 120, 10]⟩).run Tryd.prog W = .ok (.string (tk (B ++ blE 3))) W := hcat [10, 47, 47, 32, 116, 121, 112, 101, 32, 120, 10] (by decide)
              have q4 : ∀ W, (Op.stringOp .add (tk B) ⟨#[10, 32, 9]⟩).run Tryd.prog W = .ok (.string (tk (B ++ blE 4))) W := hcat [10, 32, 9] (by decide)
              clear hcat
              by_cases hk : m < n
              · have hkI : (m : Int) < n := by omega
                have h0m : (0 : Int) ≤ m := by omega
                obtain ⟨b, off, rfl⟩ : ∃ b off, a = some ⟨b, off, none⟩ := by
                  obtain ⟨b, off, e, _⟩ := HR3.out.at (j := m) (u := .int .u8 ((l.getD m 0).toNat : Int)) (by rw [bcells, List.getElem?_map, List.getElem?_eq_getElem (by rw [HL.out]; exact hk)]; simp [List.getD, HL.out, hk])
                  exact ⟨b, off, e⟩
                have c1 := (HR3.out.below' HBz.out).bcell m hk
                have hd : how.getD m 0 = (l.getD m 0).toNat := by rw [← HHow.out]; simp [List.getD, HL.out, hk]
                have HNl2 := HNl
                rw [hd] at HNl2
                have hd8 : (l.getD m 0).toNat < 256 := UInt8.toNat_lt _
                obtain ⟨d, hdd⟩ : ∃ d, (l.getD m 0).toNat = d := ⟨_, rfl⟩
                rw [hdd] at c1 HNl2 hd8
                clear hd hdd HNl HCh
                have hcs : d % 5 = 0 ∨ d % 5 = 1 ∨ d % 5 = 2 ∨ d % 5 = 3 ∨ d % 5 = 4 := by omega
                rcases hcs with hd | hd | hd | hd | hd
                all_goals
                  have hdI : (d : Int) % 5 = ((d % 5 : Nat) : Int) := by omega
                  rw [hd] at hdI HNl2
                  go_wp2
                  exact ⟨⟨i + 1, by go_num, by rw [HN.out]; omega, by rw [(HNl2.out rfl).1], by rw [(HNl2.out rfl).2]; go_num, HBz.out.alloc HBz.out.size _⟩, by simp [intOf]; omega⟩
              · have hkI : ¬ (m : Int) < n := by omega
                have hd : how.getD m 0 = 0 := by rw [← HHow.out]; simp [List.getD, HL.out, hk]
                have HNl2 := HNl
                rw [hd] at HNl2
                clear hd HNl HCh
                go_wp2
                exact ⟨⟨i + 1, by go_num, by rw [HN.out]; omega, by rw [(HNl2.out rfl).1], by rw [(HNl2.out rfl).2]; go_num, HBz.out.alloc HBz.out.size _⟩, by simp [intOf]; omega⟩
            · have hcI : ((c.toNat : Int) == 10) = false := by
                have : c.toNat ≠ 10 := fun e => h10 (by rw [← UInt8.toNat_inj, e]; rfl)
                simp; omega
              have hext : (tk x).extract i (i + 1) = tk [c] := HExt.out
              have hch : ∀ W, (Op.stringOp .add (tk B) (tk [c])).run Tryd.prog W = .ok (.string (tk (B ++ [c]))) W := fun W => by
                rw [run_string_add_sum W _ _ (by rw [tk_size, tk_size, List.length_singleton]; omega), tk_app]
              go_wp2
              exact ⟨⟨i + 1, by go_num, by rw [HN.out]; omega, by rw [(HCh.out h10).1], by rw [(HCh.out h10).2], HBz.out⟩, by simp [intOf]; omega⟩
          · obtain rfl : i = N := by omega
            have hltI : ¬ (i : Int) < i := by omega
            have htx : x.take i = x := by rw [← HN.out]; exact List.take_length
            rw [htx]
            generalize lfs x = m
            have hm4 := HM3.out.keep hb h3
            have h4 : 0 < wr.heap.size := Nat.lt_of_lt_of_le h3 hb.size
            have hc2 := parse_any wr (tk (blG how 0 x)) hm4 h4 (by rw [tk_size]; have := HX24.out; omega)
            rw [HBack.out] at hc2
            have HC2 := Lib.hid hc2
            have HBr := Lib.hid hb
            obtain ⟨G, hG⟩ : ∃ G, tk (blG how 0 x) = G := ⟨_, rfl⟩
            rw [hG] at HC2 ⊢
            clear hm4 hc2 hb hG htx
            go_wp2_with (go_at_call 8; go_must (refine HC2.out.mono ?_))
            rintro e w5 ⟨tv5, rfl, hs5, hb5⟩
            obtain ⟨ta5, tcap5, rfl, _, _⟩ := hs5.shape hq
            obtain ⟨w6, hw6⟩ : ∃ W, W = w5.alloc (.cells #[.slice ta5 q tcap5] 25) := ⟨_, rfl⟩
            have hb6 : Below w5.heap.size w5 w6 := by rw [hw6]; exact (Below.refl _ _).alloc (Nat.le_refl _) _
            have hX6 : w6.heap[w5.heap.size]? = some (.cells #[.slice ta5 q tcap5] 25 (0, 0)) := by rw [hw6]; exact heap_alloc_new w5 _
            have hb36 : Below w3.heap.size w3 w6 := HBr.out.trans ((hb5.trans (hb6.mono hb5.size)).mono HBr.out.size)
            have hX36 := (hb36.block _ hx3).trans HX3.out
            have hsA : SchAt (· < w6.heap.size) w6 (.slice ta q tcap) S := ((HS3.out.mono (ok' := (· < w3.heap.size)) (fun _ hb _ => hb)).keep (Keeps.of_below hb36)).mono (fun _ hb _ => hb)
            have hsB : SchAt (· < w6.heap.size) w6 (.slice ta5 q tcap5) S := ((hs5.mono (ok' := (· < w5.heap.size)) (fun _ hb _ => hb)).keep (Keeps.of_below hb6)).mono (fun _ hb _ => hb)
            have HSame := Lib.hid (same_any w6 _ _ S hsA hsB)
            have HW6 := Lib.hid hw6
            have HB6 := Lib.hid (HB3.out.trans (hb36.mono HB3.out.size))
            have HX6 := Lib.hid hX6
            have HX36 := Lib.hid hX36
            have h36 := (Array.getElem?_eq_some_iff.1 hX36).1
            have h66 := (Array.getElem?_eq_some_iff.1 hX6).1
            clear hs5 hb5 hw6 hb6 hX6 hb36 hX36 hsA hsB HC2
            go_upto_region 21 with fail
            rw [← HW6.out]
            clear HW6
            have x0 := Lib.cell_of_heap HX36.out 0
            have y0 := Lib.cell_of_heap HX6.out 0
            simp at x0 y0
            go_wp2_with (go_at_call 10; go_must (refine HSame.out.mono ?_))
            rintro e w7 ⟨rfl, hb7⟩
            go_wp2
            go_ret
            exact ⟨rfl, HB6.out.trans (hb7.mono HB6.out.size)⟩
theorem maxInt_pos {w : World} (hm : MaxInt w) : 0 < w.heap.size := by
  obtain ⟨m, hm⟩ := hm
  have hg : 0 < w.heap.size ∨ ¬ 0 < w.heap.size := Nat.lt_or_ge _ _ |>.imp id (fun h => by omega)
  rcases hg with h | h
  · exact h
  · have hn : w.heap[0]? = none := by rw [Array.getElem?_eq_none_iff]; omega
    unfold World.cell? at hm
    rw [hn] at hm
    cases hm
end Go.Proofs.YtopnldebekhelaaDoor
