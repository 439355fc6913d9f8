/- What the proof stands on, part 14. -/
import Derived.Test.YtfhdonidgegebaaDoorMg13
import Derived.RegionTactic
import Derived.BigQuiet
namespace Go.Proofs.YtfhdonidgegebaaDoor
open Go Go.RowKit

def zeroEntry : Obj := .cells #[.string ⟨#[]⟩, .int .u64 0, .bool false] 57

def RefOutRel (w : World) (s : ByteArray) (v c : Value) (wr : World) : Prop :=
  ∃ (i : Nat) (ys : List UInt8), c = .int .i64 (i : Int) ∧ i ≤ s.size ∧ ys.length ≤ i ∧ unesc s.data.toList = (unesc (s.data.toList.drop i)).map (fun x => (ys ++ x.1, x.2)) ∧
    Fresh (w.heap.size + 1) wr 5 1 v ys.length (bcells ys) ∧ Below (w.heap.size + 1) (w.alloc zeroEntry) wr

def RefRevRel (r : List UInt8) (v c : Value) : Prop := ∃ k V : Nat, c = .int .i64 (k : Int) ∧ k ≤ 8 ∧ v = .int .u64 (V : Int) ∧ V = 256 ^ k - 1 - beVal (r.take k)

theorem unesc_drop {l : List UInt8} {i : Nat} (h : i + 1 < l.length) : unesc (l.drop i) =
    if l.getD i 0 = 0 then (if l.getD (i + 1) 0 = 1 then some ([], l.drop (i + 2)) else if l.getD (i + 1) 0 = 255 then (unesc (l.drop (i + 2))).map fun x => (0 :: x.1, x.2) else none) else (unesc (l.drop (i + 1))).map fun x => (l.getD i 0 :: x.1, x.2) := by
  have e1 : l.drop i = l.getD i 0 :: l.getD (i + 1) 0 :: l.drop (i + 2) := by
    rw [List.drop_eq_getElem_cons (show i < l.length by omega), List.drop_eq_getElem_cons h]
    simp [List.getD, h, show i < l.length by omega]
  have e2 : l.drop (i + 1) = l.getD (i + 1) 0 :: l.drop (i + 2) := by
    rw [List.drop_eq_getElem_cons h]
    simp [List.getD, h]
  rw [e1, unesc, e2]

theorem unesc_short {l : List UInt8} {i : Nat} (h : l.length ≤ i + 1) : unesc (l.drop i) = none := by
  have hl : (l.drop i).length ≤ 1 := by rw [List.length_drop]; omega
  match l.drop i, hl with
  | [], _ => rfl
  | [_], _ => rfl
  | _ :: _ :: _, h => simp at h

set_option maxRecDepth 100000 in
set_option maxHeartbeats 8000000 in
theorem refouter_any (w : World) (s : ByteArray) (hs : s.size ≤ 1000000000) :
    Calls Tryd.prog 61 #[.string s] w (OuterPost w (outer s.data.toList)) := by
  obtain ⟨i0, hi, hz0, hz1, hz2⟩ := info_parts info5
  have htl : s.data.toList.length = s.size := Array.length_toList
  have Htl := Lib.hid htl
  clear htl
  have hst : RefOutRel w s (.slice none 0 0) (.int .i64 0) (w.alloc zeroEntry) :=
    ⟨0, [], rfl, Nat.zero_le _, Nat.le_refl _, by simp, fresh_nil _ _ _ _, Below.refl _ _⟩
  have Hst := Lib.hid hst
  clear hst
  go_enter Tryd.func61, Tryd.ntmps61
  go_wp2
  go_loopw [4, 5] (fun v c wr => RefOutRel w s v c wr) (fun _ c _ => s.size - (intOf c).toNat)
  case atStart => exact Hst.out
  case round =>
    obtain ⟨i, ys, rfl, hi1, hy, heq, hf, hb⟩ := hrel
    have hbs := hb.size
    simp at hbs
    have Heq := Lib.hid heq
    clear heq
    obtain ⟨hc, hfz⟩ := entryBox hb
    have c0 := hc 0
    have c1 := hc 1
    have c2 := hc 2
    have f0 := hfz 0
    have f1 := hfz 1
    have f2 := hfz 2
    simp at c0 c1 c2
    clear hc hfz
    have hbw : Below w.heap.size w wr := ((Below.refl _ _).alloc (Nat.le_refl _) _).trans (hb.mono (by omega))
    have Hbw := Lib.hid hbw
    clear hbw
    by_cases h1 : i + 1 < s.size
    · have hd := unesc_drop (l := s.data.toList) (i := i) (by rw [Htl.out]; exact h1)
      have hg0 : s.data.toList.getD i 0 = s[i] := by
        rw [List.getD_eq_getElem?_getD, List.getElem?_eq_getElem (by rw [Htl.out]; omega)]
        rfl
      have hg1 : s.data.toList.getD (i + 1) 0 = s[i + 1] := by
        rw [List.getD_eq_getElem?_getD, List.getElem?_eq_getElem (by rw [Htl.out]; omega)]
        rfl
      rw [hg0, hg1] at hd
      have Hd := Lib.hid hd
      clear hd hg0 hg1
      by_cases z0 : s[i] = 0
      · have e0 : ((s[i].toNat : Int) != 0) = false := by rw [z0]; rfl
        have Z0 := Lib.hid z0
        clear z0
        by_cases d1 : s[i + 1] = 1
        · have e1 : ((s[i + 1].toNat : Int) == 1) = true := by rw [d1]; rfl
          have D1 := Lib.hid d1
          clear d1
          have hun : unesc s.data.toList = some (ys, (s.extract (i + 2) s.size).data.toList) := by
            rw [Heq.out, Hd.out, if_pos Z0.out, if_pos D1.out, Lib.extract_to_end]
            simp
          have Hun := Lib.hid hun
          have hts : (s.extract (i + 2) s.size).size = s.size - (i + 2) := by simp [ByteArray.size_extract]
          have htt : (s.extract (i + 2) s.size).data.toList.length = (s.extract (i + 2) s.size).size := Array.length_toList
          have Hts := Lib.hid hts
          have Htt := Lib.hid htt
          have hcv := Reads.conv (P := Tryd.prog) (src := 24) (e := 5) (dst := 9) Tryd.underlying24 Tryd.underlying5 Tryd.underlying9 hf.1
          have Hcv := Lib.hid hcv
          have Hf := Lib.hid hf
          have Hb := Lib.hid hb
          clear hun hts htt hcv hf hb
          by_cases h9 : s.size - (i + 2) = 9
          · have h8 : 8 < (s.extract (i + 2) s.size).size := by rw [Hts.out]; omega
            have hg8 : (s.extract (i + 2) s.size).data.toList.getD 8 0 = (s.extract (i + 2) s.size)[8] := by
              rw [List.getD_eq_getElem?_getD, List.getElem?_eq_getElem (by rw [Htt.out]; exact h8)]
              rfl
            have Hg8 := Lib.hid hg8
            have H9 := Lib.hid h9
            have hne : (((s.size - (i + 2) : Nat) : Int) != 9) = false := by rw [h9]; rfl
            have h8i : 8 < s.size - (i + 2) := by omega
            clear hg8 h9
            by_cases hg : 1 < (s.extract (i + 2) s.size)[8].toNat
            · have hg' : (1 : Int) < (s.extract (i + 2) s.size)[8].toNat := by omega
              have ho : outer s.data.toList = none := by
                unfold outer
                rw [Hun.out]
                simp only
                rw [if_neg]
                rw [Hg8.out]
                omega
              have Ho := Lib.hid ho
              clear ho
              go_wp2
              refine bodyPost_ret (v := entryVal none) (by simp [results, Tryd.results61, go_sem, entryVal, c0, c1, c2]) rfl ⟨by rw [Ho.out], ?_⟩
              exact ((Hbw.out.setCell (p := ⟨w.heap.size, 0, none⟩) (Nat.le_refl _) _).setCell (p := ⟨w.heap.size, 1, none⟩) (Nat.le_refl _) _).setCell (p := ⟨w.heap.size, 2, none⟩) (Nat.le_refl _) _
            · have hg' : ¬ (1 : Int) < (s.extract (i + 2) s.size)[8].toNat := by omega
              have ho : outer s.data.toList = some (ys, 18446744073709551615 - beVal ((s.extract (i + 2) s.size).data.toList.take 8), decide ((s.extract (i + 2) s.size)[8].toNat = 0)) := by
                unfold outer
                rw [Hun.out]
                simp only
                rw [Hg8.out, if_pos ⟨by rw [Htt.out, Hts.out]; exact H9.out, by omega⟩]
              have Ho := Lib.hid ho
              clear ho
              have hg8n : (s.extract (i + 2) s.size)[8].toNat ≤ 1 := by omega
              go_wp2
              go_loop [7, 8] (fun v c => RefRevRel (s.extract (i + 2) s.size).data.toList v c) (fun _ c => 20 - (intOf c).toNat)
              case atStart => exact ⟨0, 0, rfl, by omega, rfl, by simp [beVal]⟩
              case round =>
                obtain ⟨j, V, rfl, hj, rfl, hV⟩ := hrel
                have HV := Lib.hid hV
                clear hV
                have hlt8 : beVal ((s.extract (i + 2) s.size).data.toList.take j) < 256 ^ j := by
                  have h := beVal_lt ((s.extract (i + 2) s.size).data.toList.take j)
                  rwa [List.length_take, Htt.out, Hts.out, H9.out, Nat.min_eq_left (by omega)] at h
                have Hlt := Lib.hid hlt8
                clear hlt8
                by_cases hj8 : j < 8
                · have hjt : j < (s.extract (i + 2) s.size).size := by rw [Hts.out, H9.out]; omega
                  have hjt2 : (j : Int) < ((s.size - (i + 2) : Nat) : Int) := by rw [H9.out]; omega
                  have hsn : beVal ((s.extract (i + 2) s.size).data.toList.take (j + 1)) = beVal ((s.extract (i + 2) s.size).data.toList.take j) * 256 + (s.extract (i + 2) s.size)[j].toNat := by
                    have hjl : j < (s.extract (i + 2) s.size).data.toList.length := by rw [Htt.out]; exact hjt
                    rw [List.take_succ_eq_append_getElem hjl, beVal_snoc]
                    rfl
                  have Hsn := Lib.hid hsn
                  clear hsn
                  have hV7 : V < 72057594037927936 := by
                    have h2 : 256 ^ j ≤ 256 ^ 7 := Nat.pow_le_pow_right (by omega) (by omega)
                    have h3 : (256 : Nat) ^ 7 = 72057594037927936 := by decide
                    have h4 := HV.out
                    have h5 : 0 < 256 ^ j := Nat.pow_pos (by omega)
                    omega
                  have hcj := (s.extract (i + 2) s.size)[j].toNat_lt
                  have ew : IntKind.u64.wrap (IntKind.u64.wrap ((V : Int) * 256) + (255 - ((s.extract (i + 2) s.size)[j].toNat : Int)) % 256) = ((V * 256 + (255 - (s.extract (i + 2) s.size)[j].toNat) : Nat) : Int) := by
                    rw [IntKind.wrap_u64, IntKind.wrap_u64]
                    omega
                  have Ew := Lib.hid ew
                  have H7 := Lib.hid hV7
                  clear ew hV7 hcj
                  go_wp2
                  refine ⟨⟨j + 1, V * 256 + (255 - (s.extract (i + 2) s.size)[j].toNat), by go_num, by omega, by rw [Ew.out], ?_⟩, by simp [intOf]; omega⟩
                  have h1 := Hlt.out
                  have h2 := (s.extract (i + 2) s.size)[j].toNat_lt
                  rw [Hsn.out, HV.out, Nat.pow_succ]
                  omega
                · have hj8' : ¬ ((j : Int) < 8) := by omega
                  obtain rfl : j = 8 := by omega
                  have hcvd := Reads.conv (P := Tryd.prog) (src := 24) (e := 5) (dst := 9) Tryd.underlying24 Tryd.underlying5 Tryd.underlying9 Hf.out.1.drew
                  go_wp2_with fail
                  go_region
                  all_goals
                    go_wp2
                    refine bodyPost_ret (v := entryVal (some (ys, 18446744073709551615 - beVal ((s.extract (i + 2) s.size).data.toList.take 8), decide ((s.extract (i + 2) s.size)[8].toNat = 0)))) ?_ rfl ⟨by rw [Ho.out], ?_⟩
                    · have hv : V = 18446744073709551615 - beVal ((s.extract (i + 2) s.size).data.toList.take 8) := HV.out
                      rw [← hv]
                      simp [results, Tryd.results61, go_sem, entryVal, c0, c1, c2]
                      rw [Bool.eq_iff_iff]
                      simp
                    · exact ((Hbw.out.drew.setCell (p := ⟨w.heap.size, 0, none⟩) (Nat.le_refl _) _).setCell (p := ⟨w.heap.size, 1, none⟩) (Nat.le_refl _) _).setCell (p := ⟨w.heap.size, 2, none⟩) (Nat.le_refl _) _
          · have hne : (((s.size - (i + 2) : Nat) : Int) != 9) = true := by
              rw [bne_iff_ne]
              omega
            have ho : outer s.data.toList = none := by
              unfold outer
              rw [Hun.out]
              simp only
              rw [if_neg]
              rw [Htt.out, Hts.out]
              exact fun h => h9 h.1
            have Ho := Lib.hid ho
            clear ho
            go_wp2
            refine bodyPost_ret (v := entryVal none) (by simp [results, Tryd.results61, go_sem, entryVal, c0, c1, c2]) rfl ⟨by rw [Ho.out], ?_⟩
            exact ((Hbw.out.setCell (p := ⟨w.heap.size, 0, none⟩) (Nat.le_refl _) _).setCell (p := ⟨w.heap.size, 1, none⟩) (Nat.le_refl _) _).setCell (p := ⟨w.heap.size, 2, none⟩) (Nat.le_refl _) _
        · have e1 : ((s[i + 1].toNat : Int) == 1) = false := by
            rw [beq_eq_false_iff_ne]
            intro h
            exact d1 (UInt8.toNat_inj.1 (by simp; omega))
          have D1 := Lib.hid d1
          clear d1
          by_cases d2 : s[i + 1] = 255
          · have e2 : ((s[i + 1].toNat : Int) != 255) = false := by rw [d2]; rfl
            have D2 := Lib.hid d2
            clear d2
            go_wp2_with (at_builtin; go_must (refine wpList_append_one (w0 := wr) rfl _ _ 24 rfl (w.heap.size + 1) 5 i0 (.int .u8 0) 1 Tryd.underlying24 hi hz0 hz1 hz2 rfl hf rfl rfl rfl ?_ ?_ hbs ?_))
            · unfold maxLen; omega
            · omega
            intro v1 w4 f4 g4 b6 m4
            rw [bcells_snoc (z := 0) _ (0 : UInt8) rfl] at f4
            have b7 := hb.trans b6
            clear c0 c1 c2 f0 f1 f2
            go_wp2
            refine ⟨⟨i + 2, ys ++ [0], by go_num, by omega, by simp; omega, ?_, by simpa using f4, b7⟩, by simp [intOf]; omega⟩
            rw [Heq.out, Hd.out, if_pos Z0.out, if_neg D1.out, if_pos D2.out]
            simp [Option.map_map, Function.comp_def]
          · have e2 : ((s[i + 1].toNat : Int) != 255) = true := by
              rw [bne_iff_ne]
              intro h
              exact d2 (UInt8.toNat_inj.1 (by simp; omega))
            have ho : outer s.data.toList = none := by
              unfold outer
              rw [Heq.out, Hd.out, if_pos Z0.out, if_neg D1.out, if_neg d2]
              rfl
            rw [ho]
            clear ho d2
            go_wp2
            refine bodyPost_ret (v := entryVal none) (by simp [results, Tryd.results61, go_sem, entryVal, c0, c1, c2]) rfl ⟨rfl, ?_⟩
            exact ((Hbw.out.setCell (p := ⟨w.heap.size, 0, none⟩) (Nat.le_refl _) _).setCell (p := ⟨w.heap.size, 1, none⟩) (Nat.le_refl _) _).setCell (p := ⟨w.heap.size, 2, none⟩) (Nat.le_refl _) _
      · have e0 : ((s[i].toNat : Int) != 0) = true := by
          rw [bne_iff_ne]
          intro h
          exact z0 (UInt8.toNat_inj.1 (by simp; omega))
        have Z0 := Lib.hid z0
        clear z0
        go_wp2_with (at_builtin; go_must (refine wpList_append_one (w0 := wr) rfl _ _ 24 rfl (w.heap.size + 1) 5 i0 (.int .u8 0) 1 Tryd.underlying24 hi hz0 hz1 hz2 rfl hf rfl rfl rfl ?_ ?_ hbs ?_))
        · unfold maxLen; omega
        · omega
        intro v1 w4 f4 g4 b6 m4
        rw [bcells_snoc _ s[i] rfl] at f4
        have b7 := hb.trans b6
        clear c0 c1 c2 f0 f1 f2
        go_wp2
        refine ⟨⟨i + 1, ys ++ [s[i]], by go_num, by omega, by simp; omega, ?_, by simpa using f4, b7⟩, by simp [intOf]; omega⟩
        rw [Heq.out, Hd.out, if_neg Z0.out]
        simp [Option.map_map, Function.comp_def]
    · have hn := unesc_short (l := s.data.toList) (i := i) (by rw [Htl.out]; omega)
      have ho : outer s.data.toList = none := by unfold outer; rw [Heq.out, hn]; rfl
      rw [ho]
      clear ho hn
      have h1' : (s.size : Int) ≤ (i : Int) + 1 := by omega
      go_wp2
      refine bodyPost_ret (v := entryVal none) (by simp [results, Tryd.results61, go_sem, entryVal, c0, c1, c2]) rfl ⟨rfl, ?_⟩
      exact ((Hbw.out.setCell (p := ⟨w.heap.size, 0, none⟩) (Nat.le_refl _) _).setCell (p := ⟨w.heap.size, 1, none⟩) (Nat.le_refl _) _).setCell (p := ⟨w.heap.size, 2, none⟩) (Nat.le_refl _) _
end Go.Proofs.YtfhdonidgegebaaDoor

/- The reference's Check. -/
namespace Go.Proofs.YtfhdonidgegebaaDoor
open Go Go.RowKit

def ChkC (w : World) (ks : List ByteArray) (iv : Value) (wr : World) : Prop :=
  ∃ i : Nat, iv = .int .i64 (i : Int) ∧ 1 ≤ i ∧ i ≤ ks.length ∧ (∀ j, j + 1 < i → bl (ks.getD j ⟨#[]⟩) (ks.getD (j + 1) ⟨#[]⟩) = true) ∧ Below w.heap.size w wr

set_option maxRecDepth 100000 in
set_option maxHeartbeats 2000000 in
theorem refcheck_any (w : World) (a : Option Addr) (n cap : Nat) (ks : List ByteArray) (split : Int) (h : Reads w 1 (.slice a n cap) n (scells ks)) (hn : n ≤ 60000) (hsz : ∀ x ∈ ks, x.size ≤ 60000) :
    Calls Tryd.prog 33 #[.slice a n cap, .int .i64 split] w (GivesVal w (.int .i64 (checkL ks split : Int))) := by
  have hkl : ks.length = n := by have := h.1; rw [scells_length] at this; omega
  obtain ⟨_, _, hv, hc1, hc2⟩ := h.le
  cases hv
  unfold maxLen at hc2
  by_cases h0 : n = 0
  · have hI : ((n : Int) == 0) = true := by simp [h0]
    have hk : checkL ks split = 1 := by
      unfold checkL
      rw [if_pos (.inl (List.eq_nil_of_length_eq_zero (by omega)))]
    rw [hk]
    clear h hsz
    go_enter Tryd.func33, Tryd.ntmps33
    go_wp2
    go_ret
    exact ⟨rfl, Below.refl _ _⟩
  · have hI : ((n : Int) == 0) = false := by simp [h0]
    by_cases h1 : split < 1
    · have hk : checkL ks split = 1 := by
        unfold checkL
        rw [if_pos (.inr h1)]
      rw [hk]
      clear h hsz
      go_enter Tryd.func33, Tryd.ntmps33
      go_wp2
      go_ret
      exact ⟨rfl, Below.refl _ _⟩
    · have h1I : decide (split < 1) = false := by simpa using h1
      have hne : ks ≠ [] := fun e => by subst e; simp at hkl; omega
      have HR := Lib.hid h
      have HL := Lib.hid hkl
      have HSz := Lib.hid hsz
      have HNe := Lib.hid hne
      clear h hkl hsz hne
      go_enter Tryd.func33, Tryd.ntmps33
      go_wp2
      go_loopw [19] (fun iv wr => ChkA w ks iv wr) (fun iv _ => n - (intOf iv).toNat)
      case atStart => exact ⟨0, rfl, Nat.zero_le _, fun j x hj => by omega, Below.refl _ _⟩
      case round =>
        obtain ⟨i, rfl, hin, hyes, hb⟩ := hrel
        rw [HL.out] at hin
        have HY := Lib.hid hyes
        have HB := Lib.hid hb
        clear hyes
        by_cases hlt : i < n
        · have hltI : (i : Int) < n := by omega
          obtain ⟨g, off, x, rfl, hx, hg, hcx⟩ := (HR.out.below' hb).scell i hlt
          have hxs : x.size ≤ 60000 := HSz.out x (List.mem_of_getElem? hx)
          have HX := Lib.hid hx
          have HO := Lib.hid (refouter_any wr x (by omega))
          obtain ⟨o, ho⟩ : ∃ o, outer x.data.toList = o := ⟨_, rfl⟩
          rw [ho] at HO
          have HOo := Lib.hid ho
          clear hx hb ho
          cases o with
          | none =>
            go_wp2_with (go_at_call 61; go_must (refine HO.out.mono ?_))
            rintro e w1 ⟨rfl, b1⟩
            unfold entryVal
            have HB1 := Lib.hid (HB.out.trans (b1.mono HB.out.size))
            clear b1
            go_wp2
            go_ret
            exact ⟨by rw [chk_nine (by omega) HX.out HOo.out]; rfl, HB1.out.alloc HB1.out.size _⟩
          | some p =>
            obtain ⟨pk, pr, pd⟩ := p
            go_wp2_with (go_at_call 61; go_must (refine HO.out.mono ?_))
            rintro e w1 ⟨rfl, b1⟩
            unfold entryVal
            have HB1 := Lib.hid (HB.out.trans (b1.mono HB.out.size))
            have hyes2 : ∀ j x, j < i + 1 → ks[j]? = some x → (outer x.data.toList).isNone = false := fun j y hj hy => by
              by_cases hji : j = i
              · subst hji
                rw [HX.out] at hy
                cases hy
                rw [HOo.out]
                rfl
              · exact HY.out j y (by omega) hy
            have HY2 := Lib.hid hyes2
            clear b1 hyes2
            go_wp2
            exact ⟨⟨i + 1, by go_num, by rw [HL.out]; omega, HY2.out, HB1.out.alloc HB1.out.size _⟩, by simp [intOf]; omega⟩
        · obtain rfl : i = n := by omega
          have hltI : ¬ (i : Int) < i := by omega
          have hck := chk_good (split := split) HNe.out (by omega) (fun j x hj hx => HY.out j x (by rw [HL.out] at hj; exact hj) hx)
          rw [HL.out] at hck
          have HCk := Lib.hid hck
          have HRr := Lib.hid (HR.out.below' hb)
          clear hck hb HY
          obtain ⟨wo, rfl⟩ : ∃ wo : World, wo = wr := ⟨_, rfl⟩
          go_wp2
          go_loopw [9] (fun iv wi => ChkC wo ks iv wi) (fun iv _ => i - (intOf iv).toNat)
          case atStart => exact ⟨1, rfl, Nat.le_refl _, by rw [HL.out]; omega, fun j hj => by omega, Below.refl _ _⟩
          case round =>
            obtain ⟨m, rfl, hm1, hm2, hup, hbm⟩ := hrel
            rw [HL.out] at hm2
            have HUp := Lib.hid hup
            have HBm := Lib.hid hbm
            have HBw := Lib.hid (HB.out.trans (hbm.mono HB.out.size))
            clear hup hbm
            by_cases hlt2 : m < i
            · have hlt2I : (m : Int) < i := by omega
              obtain ⟨b, off, y, rfl, hy, hby, hcy⟩ := (HRr.out.below' HBm.out).scell m hlt2
              obtain ⟨b2, off2, x, hv, hx, hbx, hcx⟩ := (HRr.out.below' HBm.out).scell (m - 1) (by omega)
              cases hv
              obtain ⟨j, rfl⟩ : ∃ j, m = j + 1 := ⟨m - 1, by omega⟩
              simp only [Nat.add_sub_cancel] at hcx hx
              have hxe : ks.getD j ⟨#[]⟩ = x := by rw [List.getD_eq_getElem?_getD, hx]; rfl
              have hye : ks.getD (j + 1) ⟨#[]⟩ = y := by rw [List.getD_eq_getElem?_getD, hy]; rfl
              have HXe := Lib.hid hxe
              have HYe := Lib.hid hye
              clear hx hy hxe hye
              have hjI : (((j + 1 : Nat) : Int) - 1) = (j : Int) := by omega
              have hw64 : IntKind.i64.wrap (((j + 1 : Nat) : Int) - 1) = (j : Int) := by rw [IntKind.wrap_i64]; omega
              have hjn : (j : Int) < i := by omega
              have e1 := bl_spell x y
              have e2 := bl_spell y x
              cases hb : bl x y with
              | true =>
                have HBl := Lib.hid hb
                rw [hb] at e1
                rw [bl_asymm hb] at e2
                have e3 : (x.toList == y.toList) = false := by
                  rw [beq_eq_false_iff_ne, Go.ByteArray.toList_eq, Go.ByteArray.toList_eq]
                  exact fun e => bl_ne hb (Go.WideShapes.bytes_inj e)
                clear hb
                go_wp2
                go_quiet (fail)
                go_wp2
                refine ⟨⟨j + 1 + 1, by go_num, by omega, by rw [HL.out]; omega, fun k hk => ?_, below_quiet HBm.out _⟩, by simp [intOf]; omega⟩
                by_cases hkj : k = j
                · subst hkj
                  rw [HXe.out, HYe.out]
                  exact HBl.out
                · exact HUp.out k (by omega)
              | false =>
                have hk11 : checkL ks split = 11 := by
                  rw [HCk.out, if_pos]
                  rw [List.any_eq_true]
                  exact ⟨j, List.mem_range.2 (by omega), by rw [HXe.out, HYe.out, hb]; rfl⟩
                have HK11 := Lib.hid hk11
                rw [hb] at e1
                have hl2 : (Op.bytesLess y.toList x.toList || x.toList == y.toList) = true := by
                  rw [bl_spell]
                  cases h2 : bl y x with
                  | true => rfl
                  | false =>
                    have := bl_total h2 hb
                    subst this
                    simp
                clear hb hk11 e2
                go_wp2
                go_quiet (fail)
                go_wp2
                go_ret
                exact ⟨by rw [HK11.out]; rfl, below_quiet HBw.out _⟩
            · obtain rfl : m = i := by omega
              have hlt2I : ¬ (m : Int) < m := by omega
              have hk0 : checkL ks split = 0 := by
                rw [HCk.out, if_neg]
                intro hany
                rw [List.any_eq_true] at hany
                obtain ⟨j, hj, hbj⟩ := hany
                rw [HUp.out j (by have := List.mem_range.1 hj; omega)] at hbj
                cases hbj
              have HK0 := Lib.hid hk0
              clear hk0
              go_wp2
              go_ret
              exact ⟨by rw [HK0.out]; rfl, HBw.out⟩
end Go.Proofs.YtfhdonidgegebaaDoor

/- How the reference cuts keys into blocks: the mathematics. -/
namespace Go.Proofs.YtfhdonidgegebaaDoor
open Go Go.RowKit

/-- What is still to come: cur stands in the open block, s bytes of keys. -/
def restB (split : Int) (s : Nat) (cur l : List ByteArray) : List (List ByteArray) :=
  if l = [] then [] else (cur ++ l.take (cutN split s l)) :: blocksL split (l.drop (cutN split s l))

theorem restB_start (split : Int) (l : List ByteArray) : restB split 0 [] l = blocksL split l := by
  unfold restB
  by_cases h : l = []
  · rw [if_pos h, h, blocksL_nil]
  · rw [if_neg h, blocksL_step split h, List.nil_append]

theorem cutN_last (split : Int) (s : Nat) (k : ByteArray) : cutN split s [k] = 1 := by
  unfold cutN
  split
  · rfl
  · simp [cutN]

theorem restB_flush {split : Int} {s : Nat} {cur : List ByteArray} {k : ByteArray} {r : List ByteArray} (h : split ≤ ((s + k.size : Nat) : Int) ∨ r = []) : restB split s cur (k :: r) = (cur ++ [k]) :: restB split 0 [] r := by
  have hc : cutN split s (k :: r) = 1 := by
    rcases h with h | rfl
    · unfold cutN
      rw [if_pos h]
    · exact cutN_last split s k
  rw [restB_start]
  unfold restB
  rw [if_neg (by simp), hc]
  simp

theorem restB_keep {split : Int} {s : Nat} {cur : List ByteArray} {k : ByteArray} {r : List ByteArray} (h : ¬ split ≤ ((s + k.size : Nat) : Int)) (hr : r ≠ []) : restB split s cur (k :: r) = restB split (s + k.size) (cur ++ [k]) r := by
  have hc : cutN split s (k :: r) = cutN split (s + k.size) r + 1 := by
    conv => lhs; unfold cutN
    rw [if_neg h]
  unfold restB
  rw [if_neg (by simp), if_neg hr, hc, List.take_succ_cons, List.drop_succ_cons]
  simp
end Go.Proofs.YtfhdonidgegebaaDoor

/- The reference's Cut. -/
namespace Go.Proofs.YtfhdonidgegebaaDoor
open Go Go.RowKit

theorem info_srow14 : (Tryd.prog.info? 22).map (fun i => (i.zero, i.size, i.bytes)) = some (some (.slice none 0 0), 1, 24) := by kernel_rfl

theorem owns_two {w : World} {B n m s t : Nat} {e f : TypeId} {v u : Value} {xs ys : List Value} (h : w.ownsRow B e s v n xs) (k : w.ownsRow B f t u m ys) (hef : f ≠ e) : u.ownBlock = none ∨ u.ownBlock ≠ v.ownBlock := by
  rcases k.2 with ⟨rfl, _⟩ | ⟨g, cap, cur, rfl, _, hg, _⟩
  · left; rfl
  · right
    intro hh
    exact owns_other h hg hef hh.symm

/-- Rows of texts, in rows of one's own, apart from a row that grows. -/
def SOwnA (B : Nat) (w : World) (v one : Value) (ls : List (List ByteArray)) : Prop :=
  ∃ svs : List Value, svs.length = ls.length ∧ w.ownsRow B 22 1 v ls.length svs ∧
    ∀ (i : Nat) (l : List ByteArray) (sv : Value), ls[i]? = some l → svs[i]? = some sv → w.ownsRow B 9 1 sv l.length (scells l) ∧ ApartV one sv

theorem SOwnA.grow {B n : Nat} {w w' : World} {v one one' : Value} {ls : List (List ByteArray)} {xs : List Value} (h : SOwnA B w v one ls) (h1 : w.ownsRow B 9 1 one n xs) (g : w.grownBy w' one.ownBlock) (m : Moves w one one') : SOwnA B w' v one' ls := by
  obtain ⟨svs, k1, k2, k3⟩ := h
  refine ⟨svs, k1, k2.kept g (owns_two h1 k2 (by decide)), fun i l sv hi hs => ?_⟩
  obtain ⟨a, b⟩ := k3 i l sv hi hs
  exact ⟨owns_apart a g b, apart_moves b a m⟩

theorem sowna_push {B : Nat} {w w' : World} {v v' one : Value} {ls : List (List ByteArray)} {l : List ByteArray} {svs : List Value} {n : Nat} (h1 : svs.length = ls.length) (h2 : w.ownsRow B 22 1 v ls.length svs)
    (h3 : ∀ (i : Nat) (c : List ByteArray) (sv : Value), ls[i]? = some c → svs[i]? = some sv → w.ownsRow B 9 1 sv c.length (scells c) ∧ ApartV one sv)
    (hl : w.ownsRow B 9 1 one n (scells l)) (hg : w.grownBy w' v.ownBlock) (hown : w'.ownsRow B 22 1 v' (ls.length + 1) (svs ++ [one])) : SOwnA B w' v' (.slice none 0 0) (ls ++ [l]) := by
  have hn : n = l.length := by have := hl.1; rw [scells_length] at this; omega
  subst hn
  refine ⟨svs ++ [one], by simp [h1], by rw [List.length_append]; exact hown, fun i c sv' hi hs => ⟨?_, fun g hg => by simp [Value.ownBlock] at hg⟩⟩
  by_cases hlt : i < ls.length
  · rw [List.getElem?_append_left hlt] at hi
    rw [List.getElem?_append_left (by omega)] at hs
    have ho := (h3 i c sv' hi hs).1
    exact ho.kept hg (owns_two h2 ho (by decide))
  · have hi' : i = ls.length := by
      have := (List.getElem?_eq_some_iff.1 hi).1
      simp at this
      omega
    subst hi'
    simp at hi
    rw [List.getElem?_append_right (by omega)] at hs
    simp [h1] at hs
    subst hi
    subst hs
    exact hl.kept hg (owns_two h2 hl (by decide))

def CutR (w : World) (split : Int) (ks : List ByteArray) (ov one sz iv : Value) (wr : World) : Prop :=
  ∃ (i s : Nat) (done : List (List ByteArray)) (cur : List ByteArray), iv = .int .i64 (i : Int) ∧ i ≤ ks.length ∧ sz = .int .i64 (s : Int) ∧ s ≤ i * 60000 ∧ cur.length ≤ i ∧ done.length ≤ i ∧ SOwnA w.heap.size wr ov one done ∧
    wr.ownsRow w.heap.size 9 1 one cur.length (scells cur) ∧ blocksL split ks = done ++ restB split s cur (ks.drop i) ∧ Below w.heap.size w wr

def CutPost14 (w : World) (split : Int) (ks : List ByteArray) (e : Ending) (w' : World) : Prop :=
  Below w.heap.size w w' ∧ ∃ v, e = .returned v ∧ SOwnA w.heap.size w' v (.slice none 0 0) (blocksL split ks)

set_option maxRecDepth 100000 in
set_option maxHeartbeats 4000000 in
theorem refcut_any (w : World) (a : Option Addr) (n cap : Nat) (ks : List ByteArray) (split : Int) (h : Reads w 1 (.slice a n cap) n (scells ks)) (hn : n ≤ 60000) (hsz : ∀ x ∈ ks, x.size ≤ 60000) :
    Calls Tryd.prog 14 #[.slice a n cap, .int .i64 split] w (CutPost14 w split ks) := by
  obtain ⟨i0, hi, hz0, hz1, hz2⟩ := info_parts info9
  obtain ⟨j0, hj, hy0, hy1, hy2⟩ := info_parts info_srow14
  have hkl : ks.length = n := by have := h.1; rw [scells_length] at this; omega
  obtain ⟨_, _, hv, hc1, hc2⟩ := h.le
  cases hv
  unfold maxLen at hc2
  have HR := Lib.hid h
  have HL := Lib.hid hkl
  have HSz := Lib.hid hsz
  clear h hkl hsz
  go_enter Tryd.func14, Tryd.ntmps14
  go_wp2
  go_loopw [5, 6, 7, 12] (fun ov one sz iv wr => CutR w split ks ov one sz iv wr) (fun _ _ _ iv _ => n - (intOf iv).toNat)
  case atStart => exact ⟨0, 0, [], [], rfl, Nat.zero_le _, rfl, by omega, Nat.le_refl _, Nat.le_refl _, ⟨[], rfl, owns_nil _ _ _ _, fun i l sv h => by simp at h⟩, owns_nil _ _ _ _, by rw [List.drop_zero, restB_start]; rfl, Below.refl _ _⟩
  case round =>
    obtain ⟨i, s, done, cur, rfl, hin, rfl, hs, hcl, hdl, hA, hO, heq, hb⟩ := hrel
    rw [HL.out] at hin
    have hbs := hb.size
    by_cases hlt : i < n
    · have hltI : (i : Int) < n := by omega
      obtain ⟨g, off, x, rfl, hx, hg, hcx⟩ := (HR.out.below' hb).scell i hlt
      have hxs : x.size ≤ 60000 := HSz.out x (List.mem_of_getElem? hx)
      have hd : ks.drop i = x :: ks.drop (i + 1) := by
        obtain ⟨h1, h2⟩ := List.getElem?_eq_some_iff.1 hx
        rw [List.drop_eq_getElem_cons h1, h2]
      have hr0 : ks.drop (i + 1) = [] ↔ i + 1 = n := by
        rw [List.drop_eq_nil_iff, HL.out]
        omega
      rw [hd] at heq
      have HEq := Lib.hid heq
      have HR0 := Lib.hid hr0
      have HB := Lib.hid hb
      have HA := Lib.hid hA
      have HO := Lib.hid hO
      obtain ⟨ca, ccap, rfl, hca1, hca2⟩ := (ownsRow.reads hO).le
      unfold maxLen at hca2
      clear hx hd hr0 heq hb hA hO
      go_wp2_with (at_builtin; go_must (refine wpList_append_rows_at (w0 := wr) rfl _ _ 22 rfl w.heap.size 9 i0 _ 1 16 Tryd.underlying22 hi hz0 hz1 hz2 rfl [.string x] 1 rfl rfl HO.out rfl rfl ?_ ?_ ?_ HB.out.size ?_))
      · first | rfl | (intro u hu; simp at hu; subst hu; rfl)
      · unfold maxLen; omega
      · omega
      intro v2 w2 o2 g2 b2 m2
      rw [show scells cur ++ [Value.string x] = scells (cur ++ [x]) from (scells_append cur [x]).symm] at o2
      have HA2 := Lib.hid (HA.out.grow HO.out g2 m2)
      have HO2 := Lib.hid o2
      have HB2 := Lib.hid (HB.out.trans b2)
      clear o2 g2 b2 m2 HA HO HB
      by_cases hge : split ≤ (s : Int) + (x.size : Int)
      · have HFl := Lib.hid (show split ≤ ((s + x.size : Nat) : Int) ∨ ks.drop (i + 1) = [] from .inl (by omega))
        obtain ⟨svs, k1, k2, k3⟩ := HA2.out
        obtain ⟨la, lcap, rfl, hl1, hl2⟩ := (ownsRow.reads HO2.out).le
        obtain ⟨oa, ocap, rfl, ho1, ho2⟩ := (ownsRow.reads k2).le
        unfold maxLen at hl2 ho2
        have K1 := Lib.hid k1
        have K2 := Lib.hid k2
        have K3 := Lib.hid k3
        clear k1 k2 k3
        go_wp2_with (at_builtin; go_must (refine wpList_append_rows_at (w0 := w2) rfl _ _ 37 rfl w.heap.size 22 j0 _ 1 24 Tryd.underlying37 hj hy0 hy1 hy2 rfl [.slice la (cur.length + 1) lcap] 1 rfl rfl K2.out rfl rfl ?_ ?_ ?_ HB2.out.size ?_))
        · first | rfl | (intro u hu; simp at hu; subst hu; rfl)
        · unfold maxLen; omega
        · omega
        intro v6 w6 o6 g6 b6 _
        have HB6 := Lib.hid (HB2.out.trans b6)
        have hpush : SOwnA w.heap.size w6 v6 (.slice none 0 0) (done ++ [cur ++ [x]]) := sowna_push K1.out K2.out K3.out HO2.out g6 (by simpa using o6)
        have HPu := Lib.hid hpush
        clear hpush o6 g6 b6
        go_wp2
        refine ⟨⟨i + 1, 0, done ++ [cur ++ [x]], [], by go_num, by rw [HL.out]; omega, rfl, by omega, by simp, by simp; omega, HPu.out, owns_nil _ _ _ _, ?_, HB6.out⟩, by simp [intOf]; omega⟩
        rw [HEq.out, restB_flush HFl.out, List.append_assoc]
        rfl
      · have hgeI : (s : Int) + (x.size : Int) < split := by omega
        by_cases hlast : i + 1 = n
        · have HFl := Lib.hid (show split ≤ ((s + x.size : Nat) : Int) ∨ ks.drop (i + 1) = [] from .inr (HR0.out.2 hlast))
          have hlI : ((i : Int) == (n : Int) - 1) = true := by
            rw [beq_iff_eq]
            omega
          obtain ⟨svs, k1, k2, k3⟩ := HA2.out
          obtain ⟨la, lcap, rfl, hl1, hl2⟩ := (ownsRow.reads HO2.out).le
          obtain ⟨oa, ocap, rfl, ho1, ho2⟩ := (ownsRow.reads k2).le
          unfold maxLen at hl2 ho2
          have K1 := Lib.hid k1
          have K2 := Lib.hid k2
          have K3 := Lib.hid k3
          clear k1 k2 k3
          go_wp2_with (at_builtin; go_must (refine wpList_append_rows_at (w0 := w2) rfl _ _ 37 rfl w.heap.size 22 j0 _ 1 24 Tryd.underlying37 hj hy0 hy1 hy2 rfl [.slice la (cur.length + 1) lcap] 1 rfl rfl K2.out rfl rfl ?_ ?_ ?_ HB2.out.size ?_))
          · first | rfl | (intro u hu; simp at hu; subst hu; rfl)
          · unfold maxLen; omega
          · omega
          intro v6 w6 o6 g6 b6 _
          have HB6 := Lib.hid (HB2.out.trans b6)
          have hpush : SOwnA w.heap.size w6 v6 (.slice none 0 0) (done ++ [cur ++ [x]]) := sowna_push K1.out K2.out K3.out HO2.out g6 (by simpa using o6)
          have HPu := Lib.hid hpush
          clear hpush o6 g6 b6
          go_wp2
          refine ⟨⟨i + 1, 0, done ++ [cur ++ [x]], [], by go_num, by rw [HL.out]; omega, rfl, by omega, by simp, by simp; omega, HPu.out, owns_nil _ _ _ _, ?_, HB6.out⟩, by simp [intOf]; omega⟩
          rw [HEq.out, restB_flush HFl.out, List.append_assoc]
          rfl
        · have hlI : ((i : Int) == (n : Int) - 1) = false := by
            rw [beq_eq_false_iff_ne]
            omega
          have hkeep := restB_keep (split := split) (s := s) (cur := cur) (k := x) (r := ks.drop (i + 1)) (by omega) (fun e => hlast (HR0.out.1 e))
          have HKp := Lib.hid hkeep
          clear hkeep
          go_wp2
          refine ⟨⟨i + 1, s + x.size, done, cur ++ [x], by go_num, by rw [HL.out]; omega, by go_num, by omega, by simp; omega, by omega, HA2.out, by rw [List.length_append]; exact HO2.out, ?_, HB2.out⟩, by simp [intOf]; omega⟩
          rw [HEq.out, HKp.out]
    · obtain rfl : i = n := by omega
      have hltI : ¬ (i : Int) < i := by omega
      have hd : ks.drop i = [] := List.drop_eq_nil_of_le (by rw [HL.out]; exact Nat.le_refl _)
      rw [hd] at heq
      have he : blocksL split ks = done := by rw [heq]; unfold restB; simp
      have HE := Lib.hid he
      have HA := Lib.hid hA
      have HB := Lib.hid hb
      obtain ⟨svs, k1, k2, k3⟩ := hA
      obtain ⟨oa, ocap, rfl, ho1, ho2⟩ := (ownsRow.reads k2).le
      clear heq he hb hO k1 k2 k3 hd
      go_wp2
      go_ret
      refine ⟨HB.out, _, rfl, ?_⟩
      rw [HE.out]
      obtain ⟨svs, k1, k2, k3⟩ := HA.out
      exact ⟨svs, k1, k2, fun i l sv hi hs => ⟨(k3 i l sv hi hs).1, fun g hg => by simp [Value.ownBlock] at hg⟩⟩
end Go.Proofs.YtfhdonidgegebaaDoor

/- Keys put one after the other. -/
namespace Go.Proofs.YtfhdonidgegebaaDoor
open Go Go.RowKit

theorem putsAll_ok (l : List ByteArray) : ∀ out, rises out → rises (l.foldl putK out) ∧ (∀ x, x ∈ l.foldl putK out ↔ x ∈ out ∨ x ∈ l) ∧ (l.foldl putK out).length ≤ out.length + l.length := by
  induction l with
  | nil => intro out h; simpa using h
  | cons k t ih =>
    intro out h
    obtain ⟨h1, h2, h3⟩ := ih (putK out k) (putK_rises h)
    refine ⟨h1, fun x => ?_, ?_⟩
    · rw [List.foldl_cons, h2, List.mem_cons]
      constructor
      · rintro (h | h)
        · rcases putK_mem h with h | h
          · exact .inr (.inl h)
          · exact .inl h
        · exact .inr (.inr h)
      · rintro (h | h | h)
        · exact .inl (mem_putK (.inr h))
        · exact .inl (mem_putK (.inl h))
        · exact .inr h
    · have := putK_length out k
      rw [List.foldl_cons, List.length_cons]
      omega

theorem rises_uniq : ∀ {a b : List ByteArray}, rises a → rises b → (∀ x, x ∈ a ↔ x ∈ b) → a = b
  | [], [], _, _, _ => rfl
  | [], y :: t, _, _, h => by have := (h y).2 (by simp); cases this
  | x :: s, [], _, _, h => by have := (h x).1 (by simp); cases this
  | x :: s, y :: t, ha, hb, h => by
    have pa := List.pairwise_cons.1 ha
    have pb := List.pairwise_cons.1 hb
    have he : x = y := by
      by_cases he : x = y
      · exact he
      · have h1 := (h x).1 (by simp)
        have h2 := (h y).2 (by simp)
        rcases List.mem_cons.1 h1 with h1 | h1
        · exact h1
        · rcases List.mem_cons.1 h2 with h2 | h2
          · exact h2.symm
          · have := bl_asymm (pb.1 x h1)
            rw [pa.1 y h2] at this
            cases this
    subst he
    congr 1
    refine rises_uniq pa.2 pb.2 fun z => ⟨fun hz => ?_, fun hz => ?_⟩
    · rcases List.mem_cons.1 ((h z).1 (by simp [hz])) with rfl | hz'
      · have := pa.1 z hz
        rw [bl_irrefl] at this
        cases this
      · exact hz'
    · rcases List.mem_cons.1 ((h z).2 (by simp [hz])) with rfl | hz'
      · have := pb.1 z hz
        rw [bl_irrefl] at this
        cases this
      · exact hz'
end Go.Proofs.YtfhdonidgegebaaDoor

namespace Go.Proofs.YtfhdonidgegebaaDoor

theorem beVal_rev (a k : Nat) (hk : k ≤ 8) (ha : a < 18446744073709551616) : beVal (revBytes a k) = top a k := by
  induction k with
  | zero =>
    have h1 : top a 0 = 0 := by unfold top; rw [Nat.div_eq_zero_iff]; right; show _ < 256 ^ 8; omega
    rw [h1]; rfl
  | succ k ih => rw [revBytes, beVal_snoc, ih (by omega), top_succ a k (by omega) ha]

theorem outer_inner (p : List UInt8) (a : Nat) (x : Bool) (ha : a < 18446744073709551616) : outer (inner p a x) = some (p, a, x) := by
  have h : unesc (inner p a x) = some (p, revBytes a 8 ++ [if x then 0 else 1]) := by
    rw [inner, innTo]
    simp only [List.append_assoc]
    exact unesc_esc p _
  have hl : (revBytes a 8).length = 8 := revBytes_length a 8
  have ht : top a 8 = 18446744073709551615 - a := by simp [top]
  unfold outer
  rw [h]
  simp only
  have h8 : (revBytes a 8 ++ [if x then 0 else 1]).getD 8 0 = if x then 0 else 1 := by
    rw [List.getD_eq_getElem?_getD, List.getElem?_append_right (by omega), hl]
    rfl
  rw [h8, if_pos ⟨by simp [hl], by cases x <;> decide⟩, List.take_left' hl, beVal_rev a 8 (by omega) ha, ht]
  cases x <;> simp <;> omega
end Go.Proofs.YtfhdonidgegebaaDoor

namespace Go.Proofs.YtfhdonidgegebaaDoor
open Go Go.RowKit

structure Ent where
  key : ByteArray
  rev : Nat
  del : Bool

def ecell (x : Ent) : List Value := [.string x.key, .int .u64 (x.rev : Int), .bool x.del]
def ecells (l : List Ent) : List Value := l.flatMap ecell
theorem ecell_length (x : Ent) : (ecell x).length = 3 := rfl

def entOk (rev : Nat) (x : Ent) : Bool := decide (x.rev = rev) && decide (x.key.size ≤ 65536)
def sizeOk (rev n : Nat) : Bool := decide (1 ≤ rev) && (decide (1 ≤ n) && decide (n ≤ 256))
def rightB (rev : Nat) (l : List Ent) : Bool := l.all (entOk rev) && sizeOk rev l.length

theorem all_bad {rev : Nat} {l : List Ent} {k : Nat} {x : Ent} (h : l[k]? = some x) (hx : entOk rev x = false) : rightB rev l = false := by
  unfold rightB
  have : l.all (entOk rev) = false := by
    rw [List.all_eq_false]
    exact ⟨x, List.mem_of_getElem? h, by rw [hx]; decide⟩
  rw [this]
  rfl

theorem all_good {rev : Nat} {l : List Ent} {k : Nat} {x : Ent} (h : l[k]? = some x) (hx : entOk rev x = true) (ha : (l.take k).all (entOk rev) = true) : (l.take (k + 1)).all (entOk rev) = true := by
  rw [List.take_add_one, List.all_append, ha, h]
  simp [hx]

/-- The cells of the k-th entry. -/
theorem ent_cells {w : World} {a : Option Addr} {n cap : Nat} {l : List Ent} (h : Reads w 3 (.slice a n cap) n (ecells l)) {k : Nat} {x : Ent} (hx : l[k]? = some x) :
    ∃ g off, a = some ⟨g, off, none⟩ ∧ g < w.heap.size ∧ w.cell? ⟨g, off + k * 3, none⟩ = some (.string x.key) ∧ w.cell? ⟨g, off + k * 3 + 1, none⟩ = some (.int .u64 (x.rev : Int)) ∧ w.cell? ⟨g, off + k * 3 + 2, none⟩ = some (.bool x.del) := by
  have hc : ∀ j u, (ecell x)[j]? = some u → ∃ b off, a = some ⟨b, off, none⟩ ∧ b < w.heap.size ∧ w.cell? ⟨b, off + k * 3 + j, none⟩ = some u := by
    intro j u hj
    have hj3 : j < 3 := (List.getElem?_eq_some_iff.1 hj).1
    obtain ⟨b, off, ha, hlb, hc⟩ := h.at (j := k * 3 + j) (u := u) (by
      unfold ecells
      rw [flat_cell ecell 3 ecell_length l k x hx j hj3]
      exact hj)
    exact ⟨b, off, ha, hlb, by rw [Nat.add_assoc]; exact hc⟩
  obtain ⟨g, off, rfl, hg, c0⟩ := hc 0 _ rfl
  obtain ⟨g1, off1, h1, _, c1⟩ := hc 1 _ rfl
  cases h1
  obtain ⟨g2, off2, h2, _, c2⟩ := hc 2 _ rfl
  cases h2
  exact ⟨g, off, rfl, hg, c0, c1, c2⟩

theorem below_reads {B s n : Nat} {w w' : World} {v : Value} {xs : List Value} (h : Reads w s v n xs) (hb : Below B w w') (hB : w.heap.size ≤ B) : Reads w' s v n xs :=
  h.below' (hb.mono hB)

end Go.Proofs.YtfhdonidgegebaaDoor

/- Entries' inner keys, in order, each once. -/
namespace Go.Proofs.YtfhdonidgegebaaDoor
open Go Go.RowKit

/-- Inner keys of entries. -/
def innB (x : Ent) : ByteArray := ⟨(inner x.key.data.toList x.rev x.del).toArray⟩

/-- Entries' inner keys, in order, each once. -/
def rowsL (es : List Ent) : List ByteArray := es.foldl (fun out x => putK out (innB x)) []

theorem rowsL_snoc (es : List Ent) (x : Ent) : rowsL (es ++ [x]) = putK (rowsL es) (innB x) := by simp [rowsL]

theorem rows_go (es : List Ent) : ∀ (A : List Ent) (out : List ByteArray), (rises out ∧ out.length ≤ A.length ∧ ∀ k ∈ out, ∃ x ∈ A, k = innB x) →
    rises (es.foldl (fun out x => putK out (innB x)) out) ∧ (es.foldl (fun out x => putK out (innB x)) out).length ≤ (A ++ es).length ∧ ∀ k ∈ es.foldl (fun out x => putK out (innB x)) out, ∃ x ∈ A ++ es, k = innB x := by
  induction es with
  | nil => intro A out h; simpa using h
  | cons x es ih =>
    intro A out ⟨h1, h2, h3⟩
    have := ih (A ++ [x]) (putK out (innB x)) ⟨putK_rises h1, by
      have := putK_length out (innB x)
      simp
      omega, fun k hk => by
        rcases putK_mem hk with rfl | hk
        · exact ⟨x, by simp, rfl⟩
        · obtain ⟨y, hy, rfl⟩ := h3 k hk
          exact ⟨y, by simp [hy], rfl⟩⟩
    rw [List.append_assoc, List.singleton_append] at this
    exact this

theorem rowsL_all (es : List Ent) : rises (rowsL es) ∧ (rowsL es).length ≤ es.length ∧ ∀ k ∈ rowsL es, ∃ x ∈ es, k = innB x := by
  have := rows_go es [] [] ⟨rises_nil, Nat.le_refl _, fun k hk => by cases hk⟩
  rw [List.nil_append] at this
  exact this

end Go.Proofs.YtfhdonidgegebaaDoor
