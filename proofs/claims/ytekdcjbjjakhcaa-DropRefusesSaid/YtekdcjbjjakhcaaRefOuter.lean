import Derived.Test.YtekdcjbjjakhcaaOuter
import Derived.Test.YtekdcjbjjakhcaaCodecRefInner
import Derived.RegionTactic
namespace Go.Proofs.Ytekdcjbjjakhcaa
open Go Go.RowKit

def zeroEntry : Obj := .cells #[.string ⟨#[]⟩, .int .u64 0, .bool false] 48

def RefOutRel (w : World) (s : ByteArray) (v c : Value) (wr : World) : Prop :=
  ∃ (i : Nat) (ys : List UInt8), c = .int .i64 (i : Int) ∧ i ≤ s.size ∧ ys.length ≤ i ∧ unesc s.data.toList = (unesc (s.data.toList.drop i)).map (fun x => (ys ++ x.1, x.2)) ∧
    Fresh (w.heap.size + 1) wr 5 1 v ys.length (bcells ys) ∧ Below (w.heap.size + 1) (w.alloc zeroEntry) wr

def RefRevRel (r : List UInt8) (v c : Value) : Prop := ∃ k V : Nat, c = .int .i64 (k : Int) ∧ k ≤ 8 ∧ v = .int .u64 (V : Int) ∧ V = 256 ^ k - 1 - beVal (r.take k)

theorem unesc_drop {l : List UInt8} {i : Nat} (h : i + 1 < l.length) : unesc (l.drop i) =
    if l.getD i 0 = 0 then (if l.getD (i + 1) 0 = 1 then some ([], l.drop (i + 2)) else if l.getD (i + 1) 0 = 255 then (unesc (l.drop (i + 2))).map fun x => (0 :: x.1, x.2) else none) else (unesc (l.drop (i + 1))).map fun x => (l.getD i 0 :: x.1, x.2) := by
  have e1 : l.drop i = l.getD i 0 :: l.getD (i + 1) 0 :: l.drop (i + 2) := by
    rw [List.drop_eq_getElem_cons (show i < l.length by omega), List.drop_eq_getElem_cons h]
    simp [List.getD, h, show i < l.length by omega]
  have e2 : l.drop (i + 1) = l.getD (i + 1) 0 :: l.drop (i + 2) := by
    rw [List.drop_eq_getElem_cons h]
    simp [List.getD, h]
  rw [e1, unesc, e2]

theorem unesc_short {l : List UInt8} {i : Nat} (h : l.length ≤ i + 1) : unesc (l.drop i) = none := by
  have hl : (l.drop i).length ≤ 1 := by rw [List.length_drop]; omega
  match l.drop i, hl with
  | [], _ => rfl
  | [_], _ => rfl
  | _ :: _ :: _, h => simp at h

set_option maxRecDepth 100000 in
set_option maxHeartbeats 8000000 in
theorem refouter_any (w : World) (s : ByteArray) (hs : s.size ≤ 1000000000) :
    Calls Try.prog 44 #[.string s] w (OuterPost w (outer s.data.toList)) := by
  obtain ⟨i0, hi, hz0, hz1, hz2⟩ := info_parts info5
  have htl : s.data.toList.length = s.size := Array.length_toList
  have Htl := Lib.hid htl
  clear htl
  have hst : RefOutRel w s (.slice none 0 0) (.int .i64 0) (w.alloc zeroEntry) :=
    ⟨0, [], rfl, Nat.zero_le _, Nat.le_refl _, by simp, fresh_nil _ _ _ _, Below.refl _ _⟩
  have Hst := Lib.hid hst
  clear hst
  go_enter Try.func44, Try.ntmps44
  go_wp2
  go_loopw [4, 5] (fun v c wr => RefOutRel w s v c wr) (fun _ c _ => s.size - (intOf c).toNat)
  case atStart => exact Hst.out
  case round =>
    obtain ⟨i, ys, rfl, hi1, hy, heq, hf, hb⟩ := hrel
    have hbs := hb.size
    simp at hbs
    have Heq := Lib.hid heq
    clear heq
    obtain ⟨hc, hfz⟩ := entryBox hb
    have c0 := hc 0
    have c1 := hc 1
    have c2 := hc 2
    have f0 := hfz 0
    have f1 := hfz 1
    have f2 := hfz 2
    simp at c0 c1 c2
    clear hc hfz
    have hbw : Below w.heap.size w wr := ((Below.refl _ _).alloc (Nat.le_refl _) _).trans (hb.mono (by omega))
    have Hbw := Lib.hid hbw
    clear hbw
    by_cases h1 : i + 1 < s.size
    · have hd := unesc_drop (l := s.data.toList) (i := i) (by rw [Htl.out]; exact h1)
      have hg0 : s.data.toList.getD i 0 = s[i] := by
        rw [List.getD_eq_getElem?_getD, List.getElem?_eq_getElem (by rw [Htl.out]; omega)]
        rfl
      have hg1 : s.data.toList.getD (i + 1) 0 = s[i + 1] := by
        rw [List.getD_eq_getElem?_getD, List.getElem?_eq_getElem (by rw [Htl.out]; omega)]
        rfl
      rw [hg0, hg1] at hd
      have Hd := Lib.hid hd
      clear hd hg0 hg1
      by_cases z0 : s[i] = 0
      · have e0 : ((s[i].toNat : Int) != 0) = false := by rw [z0]; rfl
        have Z0 := Lib.hid z0
        clear z0
        by_cases d1 : s[i + 1] = 1
        · have e1 : ((s[i + 1].toNat : Int) == 1) = true := by rw [d1]; rfl
          have D1 := Lib.hid d1
          clear d1
          have hun : unesc s.data.toList = some (ys, (s.extract (i + 2) s.size).data.toList) := by
            rw [Heq.out, Hd.out, if_pos Z0.out, if_pos D1.out, Lib.extract_to_end]
            simp
          have Hun := Lib.hid hun
          have hts : (s.extract (i + 2) s.size).size = s.size - (i + 2) := by simp [ByteArray.size_extract]
          have htt : (s.extract (i + 2) s.size).data.toList.length = (s.extract (i + 2) s.size).size := Array.length_toList
          have Hts := Lib.hid hts
          have Htt := Lib.hid htt
          have hcv := Reads.conv (P := Try.prog) (src := 82) (e := 5) (dst := 9) Try.underlying82 Try.underlying5 Try.underlying9 hf.1
          have Hcv := Lib.hid hcv
          have Hf := Lib.hid hf
          have Hb := Lib.hid hb
          clear hun hts htt hcv hf hb
          by_cases h9 : s.size - (i + 2) = 9
          · have h8 : 8 < (s.extract (i + 2) s.size).size := by rw [Hts.out]; omega
            have hg8 : (s.extract (i + 2) s.size).data.toList.getD 8 0 = (s.extract (i + 2) s.size)[8] := by
              rw [List.getD_eq_getElem?_getD, List.getElem?_eq_getElem (by rw [Htt.out]; exact h8)]
              rfl
            have Hg8 := Lib.hid hg8
            have H9 := Lib.hid h9
            have hne : (((s.size - (i + 2) : Nat) : Int) != 9) = false := by rw [h9]; rfl
            have h8i : 8 < s.size - (i + 2) := by omega
            clear hg8 h9
            by_cases hg : 1 < (s.extract (i + 2) s.size)[8].toNat
            · have hg' : (1 : Int) < (s.extract (i + 2) s.size)[8].toNat := by omega
              have ho : outer s.data.toList = none := by
                unfold outer
                rw [Hun.out]
                simp only
                rw [if_neg]
                rw [Hg8.out]
                omega
              have Ho := Lib.hid ho
              clear ho
              go_wp2
              refine bodyPost_ret (v := entryVal none) (by simp [results, Try.results44, go_sem, entryVal, c0, c1, c2]) rfl ⟨by rw [Ho.out], ?_⟩
              exact ((Hbw.out.setCell (p := ⟨w.heap.size, 0, none⟩) (Nat.le_refl _) _).setCell (p := ⟨w.heap.size, 1, none⟩) (Nat.le_refl _) _).setCell (p := ⟨w.heap.size, 2, none⟩) (Nat.le_refl _) _
            · have hg' : ¬ (1 : Int) < (s.extract (i + 2) s.size)[8].toNat := by omega
              have ho : outer s.data.toList = some (ys, 18446744073709551615 - beVal ((s.extract (i + 2) s.size).data.toList.take 8), decide ((s.extract (i + 2) s.size)[8].toNat = 0)) := by
                unfold outer
                rw [Hun.out]
                simp only
                rw [Hg8.out, if_pos ⟨by rw [Htt.out, Hts.out]; exact H9.out, by omega⟩]
              have Ho := Lib.hid ho
              clear ho
              have hg8n : (s.extract (i + 2) s.size)[8].toNat ≤ 1 := by omega
              go_wp2
              go_loop [7, 8] (fun v c => RefRevRel (s.extract (i + 2) s.size).data.toList v c) (fun _ c => 20 - (intOf c).toNat)
              case atStart => exact ⟨0, 0, rfl, by omega, rfl, by simp [beVal]⟩
              case round =>
                obtain ⟨j, V, rfl, hj, rfl, hV⟩ := hrel
                have HV := Lib.hid hV
                clear hV
                have hlt8 : beVal ((s.extract (i + 2) s.size).data.toList.take j) < 256 ^ j := by
                  have h := beVal_lt ((s.extract (i + 2) s.size).data.toList.take j)
                  rwa [List.length_take, Htt.out, Hts.out, H9.out, Nat.min_eq_left (by omega)] at h
                have Hlt := Lib.hid hlt8
                clear hlt8
                by_cases hj8 : j < 8
                · have hjt : j < (s.extract (i + 2) s.size).size := by rw [Hts.out, H9.out]; omega
                  have hjt2 : (j : Int) < ((s.size - (i + 2) : Nat) : Int) := by rw [H9.out]; omega
                  have hsn : beVal ((s.extract (i + 2) s.size).data.toList.take (j + 1)) = beVal ((s.extract (i + 2) s.size).data.toList.take j) * 256 + (s.extract (i + 2) s.size)[j].toNat := by
                    have hjl : j < (s.extract (i + 2) s.size).data.toList.length := by rw [Htt.out]; exact hjt
                    rw [List.take_succ_eq_append_getElem hjl, beVal_snoc]
                    rfl
                  have Hsn := Lib.hid hsn
                  clear hsn
                  have hV7 : V < 72057594037927936 := by
                    have h2 : 256 ^ j ≤ 256 ^ 7 := Nat.pow_le_pow_right (by omega) (by omega)
                    have h3 : (256 : Nat) ^ 7 = 72057594037927936 := by decide
                    have h4 := HV.out
                    have h5 : 0 < 256 ^ j := Nat.pow_pos (by omega)
                    omega
                  have hcj := (s.extract (i + 2) s.size)[j].toNat_lt
                  have ew : IntKind.u64.wrap (IntKind.u64.wrap ((V : Int) * 256) + (255 - ((s.extract (i + 2) s.size)[j].toNat : Int)) % 256) = ((V * 256 + (255 - (s.extract (i + 2) s.size)[j].toNat) : Nat) : Int) := by
                    rw [IntKind.wrap_u64, IntKind.wrap_u64]
                    omega
                  have Ew := Lib.hid ew
                  have H7 := Lib.hid hV7
                  clear ew hV7 hcj
                  go_wp2
                  refine ⟨⟨j + 1, V * 256 + (255 - (s.extract (i + 2) s.size)[j].toNat), by go_num, by omega, by rw [Ew.out], ?_⟩, by simp [intOf]; omega⟩
                  have h1 := Hlt.out
                  have h2 := (s.extract (i + 2) s.size)[j].toNat_lt
                  rw [Hsn.out, HV.out, Nat.pow_succ]
                  omega
                · have hj8' : ¬ ((j : Int) < 8) := by omega
                  obtain rfl : j = 8 := by omega
                  have hcvd := Reads.conv (P := Try.prog) (src := 82) (e := 5) (dst := 9) Try.underlying82 Try.underlying5 Try.underlying9 Hf.out.1.drew
                  go_wp2_with fail
                  go_region
                  all_goals
                    go_wp2
                    refine bodyPost_ret (v := entryVal (some (ys, 18446744073709551615 - beVal ((s.extract (i + 2) s.size).data.toList.take 8), decide ((s.extract (i + 2) s.size)[8].toNat = 0)))) ?_ rfl ⟨by rw [Ho.out], ?_⟩
                    · have hv : V = 18446744073709551615 - beVal ((s.extract (i + 2) s.size).data.toList.take 8) := HV.out
                      rw [← hv]
                      simp [results, Try.results44, go_sem, entryVal, c0, c1, c2]
                      rw [Bool.eq_iff_iff]
                      simp
                    · exact ((Hbw.out.drew.setCell (p := ⟨w.heap.size, 0, none⟩) (Nat.le_refl _) _).setCell (p := ⟨w.heap.size, 1, none⟩) (Nat.le_refl _) _).setCell (p := ⟨w.heap.size, 2, none⟩) (Nat.le_refl _) _
          · have hne : (((s.size - (i + 2) : Nat) : Int) != 9) = true := by
              rw [bne_iff_ne]
              omega
            have ho : outer s.data.toList = none := by
              unfold outer
              rw [Hun.out]
              simp only
              rw [if_neg]
              rw [Htt.out, Hts.out]
              exact fun h => h9 h.1
            have Ho := Lib.hid ho
            clear ho
            go_wp2
            refine bodyPost_ret (v := entryVal none) (by simp [results, Try.results44, go_sem, entryVal, c0, c1, c2]) rfl ⟨by rw [Ho.out], ?_⟩
            exact ((Hbw.out.setCell (p := ⟨w.heap.size, 0, none⟩) (Nat.le_refl _) _).setCell (p := ⟨w.heap.size, 1, none⟩) (Nat.le_refl _) _).setCell (p := ⟨w.heap.size, 2, none⟩) (Nat.le_refl _) _
        · have e1 : ((s[i + 1].toNat : Int) == 1) = false := by
            rw [beq_eq_false_iff_ne]
            intro h
            exact d1 (UInt8.toNat_inj.1 (by simp; omega))
          have D1 := Lib.hid d1
          clear d1
          by_cases d2 : s[i + 1] = 255
          · have e2 : ((s[i + 1].toNat : Int) != 255) = false := by rw [d2]; rfl
            have D2 := Lib.hid d2
            clear d2
            go_wp2_with (at_builtin; go_must (refine wpList_append_one (w0 := wr) rfl _ _ 82 rfl (w.heap.size + 1) 5 i0 (.int .u8 0) 1 Try.underlying82 hi hz0 hz1 hz2 rfl hf rfl rfl rfl ?_ ?_ hbs ?_))
            · unfold maxLen; omega
            · omega
            intro v1 w4 f4 g4 b6 m4
            rw [bcells_snoc (z := 0) _ (0 : UInt8) rfl] at f4
            have b7 := hb.trans b6
            clear c0 c1 c2 f0 f1 f2
            go_wp2
            refine ⟨⟨i + 2, ys ++ [0], by go_num, by omega, by simp; omega, ?_, by simpa using f4, b7⟩, by simp [intOf]; omega⟩
            rw [Heq.out, Hd.out, if_pos Z0.out, if_neg D1.out, if_pos D2.out]
            simp [Option.map_map, Function.comp_def]
          · have e2 : ((s[i + 1].toNat : Int) != 255) = true := by
              rw [bne_iff_ne]
              intro h
              exact d2 (UInt8.toNat_inj.1 (by simp; omega))
            have ho : outer s.data.toList = none := by
              unfold outer
              rw [Heq.out, Hd.out, if_pos Z0.out, if_neg D1.out, if_neg d2]
              rfl
            rw [ho]
            clear ho d2
            go_wp2
            refine bodyPost_ret (v := entryVal none) (by simp [results, Try.results44, go_sem, entryVal, c0, c1, c2]) rfl ⟨rfl, ?_⟩
            exact ((Hbw.out.setCell (p := ⟨w.heap.size, 0, none⟩) (Nat.le_refl _) _).setCell (p := ⟨w.heap.size, 1, none⟩) (Nat.le_refl _) _).setCell (p := ⟨w.heap.size, 2, none⟩) (Nat.le_refl _) _
      · have e0 : ((s[i].toNat : Int) != 0) = true := by
          rw [bne_iff_ne]
          intro h
          exact z0 (UInt8.toNat_inj.1 (by simp; omega))
        have Z0 := Lib.hid z0
        clear z0
        go_wp2_with (at_builtin; go_must (refine wpList_append_one (w0 := wr) rfl _ _ 82 rfl (w.heap.size + 1) 5 i0 (.int .u8 0) 1 Try.underlying82 hi hz0 hz1 hz2 rfl hf rfl rfl rfl ?_ ?_ hbs ?_))
        · unfold maxLen; omega
        · omega
        intro v1 w4 f4 g4 b6 m4
        rw [bcells_snoc _ s[i] rfl] at f4
        have b7 := hb.trans b6
        clear c0 c1 c2 f0 f1 f2
        go_wp2
        refine ⟨⟨i + 1, ys ++ [s[i]], by go_num, by omega, by simp; omega, ?_, by simpa using f4, b7⟩, by simp [intOf]; omega⟩
        rw [Heq.out, Hd.out, if_neg Z0.out]
        simp [Option.map_map, Function.comp_def]
    · have hn := unesc_short (l := s.data.toList) (i := i) (by rw [Htl.out]; omega)
      have ho : outer s.data.toList = none := by unfold outer; rw [Heq.out, hn]; rfl
      rw [ho]
      clear ho hn
      have h1' : (s.size : Int) ≤ (i : Int) + 1 := by omega
      go_wp2
      refine bodyPost_ret (v := entryVal none) (by simp [results, Try.results44, go_sem, entryVal, c0, c1, c2]) rfl ⟨rfl, ?_⟩
      exact ((Hbw.out.setCell (p := ⟨w.heap.size, 0, none⟩) (Nat.le_refl _) _).setCell (p := ⟨w.heap.size, 1, none⟩) (Nat.le_refl _) _).setCell (p := ⟨w.heap.size, 2, none⟩) (Nat.le_refl _) _
end Go.Proofs.Ytekdcjbjjakhcaa
