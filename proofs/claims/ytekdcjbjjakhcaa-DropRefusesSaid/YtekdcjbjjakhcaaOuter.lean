import Derived.Test.YtekdcjbjjakhcaaUnescape
import Derived.Test.YtekdcjbjjakhcaaOuterMath
import Derived.Test.YtekdcjbjjakhcaaCodecInner
import Derived.Test.YtekdcjbjjakhcaaBase
import Derived.Test.YtekdcjbjjakhcaaCodecMath
namespace Go.Proofs.Ytekdcjbjjakhcaa
open Go Go.RowKit

def entryVal : Option (List UInt8 × Nat × Bool) → Value
  | none => .tuple #[.agg #[.string ⟨#[]⟩, .int .u64 0, .bool false], .int .i64 9]
  | some (k, r, d) => .tuple #[.agg #[.string ⟨k.toArray⟩, .int .u64 (r : Int), .bool d], .int .i64 0]

def OuterPost (w : World) (r : Option (List UInt8 × Nat × Bool)) (e : Ending) (w' : World) : Prop := e = .returned (entryVal r) ∧ Below w.heap.size w w'

def RevRel (r : List UInt8) (v c : Value) : Prop := ∃ k : Nat, c = .int .i64 (k : Int) ∧ k ≤ 8 ∧ v = .int .u64 (beVal (r.take k) : Int)

theorem or_u64 (x c : Nat) (hx : x < 72057594037927936) (hc : c < 256) : bits BinOp.or .u64 ((x : Int) * 256) (c : Int) = ((x * 256 + c : Nat) : Int) := by
  have e : ((x : Int) * 256) = ((x * 256 : Nat) : Int) := by simp
  rw [e, u64_or_nat _ _ (by omega) (by omega), nat_join 8 _ _ (by omega) (by omega)]

set_option maxRecDepth 100000 in
set_option maxHeartbeats 2000000 in
theorem outer_any (w : World) (s : ByteArray) (hs : s.size ≤ 10000000000) :
    Calls Try.prog 52 #[.string s] w (OuterPost w (outer s.data.toList)) := by
  cases hu : unesc s.data.toList with
  | none =>
    have ho : outer s.data.toList = none := by unfold outer; rw [hu]
    rw [ho]
    clear ho
    have Hu := Lib.hid hu
    clear hu
    go_enter Try.func52, Try.ntmps52
    go_wp2_with (go_at_call 56; go_must (refine (unescape_none _ s hs Hu.out).mono ?_); rintro e w1 ⟨rfl, b1⟩; have c0 := (entryBox (by simpa using b1)).1 0; have c1 := (entryBox (by simpa using b1)).1 1; have c2 := (entryBox (by simpa using b1)).1 2; have f0 := (entryBox (by simpa using b1)).2 0; have f1 := (entryBox (by simpa using b1)).2 1; have f2 := (entryBox (by simpa using b1)).2 2; simp at c0 c1 c2)
    refine bodyPost_ret (v := entryVal none) (by simp [results, Try.results52, go_sem, entryVal, c0, c1, c2]) rfl ⟨rfl, ?_⟩
    have hb : Below w.heap.size w w1 := ((Below.refl _ _).alloc (Nat.le_refl _) _).trans (b1.mono (by simp))
    exact ((hb.setCell (p := ⟨w.heap.size, 0, none⟩) (Nat.le_refl _) _).setCell (p := ⟨w.heap.size, 1, none⟩) (Nat.le_refl _) _).setCell (p := ⟨w.heap.size, 2, none⟩) (Nat.le_refl _) _
  | some x =>
    obtain ⟨k, r⟩ := x
    obtain ⟨t, rfl⟩ : ∃ t : ByteArray, r = t.data.toList := ⟨⟨r.toArray⟩, rfl⟩
    have htl : t.data.toList.length = t.size := Array.length_toList
    have Hu := Lib.hid hu
    by_cases hr : t.data.toList.length = 9 ∧ (t.data.toList.getD 8 0).toNat ≤ 1
    · have ho : outer s.data.toList = some (k, 18446744073709551615 - beVal (t.data.toList.take 8), decide ((t.data.toList.getD 8 0).toNat = 0)) := by unfold outer; rw [hu]; exact if_pos hr
      rw [ho]
      clear ho hu
      obtain ⟨h9, h8⟩ := hr
      have hsz : t.size = 9 := by omega
      have h8t : 8 < t.size := by omega
      have hg8 : t.data.toList.getD 8 0 = t[8] := by
        rw [List.getD_eq_getElem?_getD, List.getElem?_eq_getElem (by omega)]
        rfl
      rw [hg8] at h8 ⊢
      have Htl := Lib.hid htl
      have h8' : ¬ (1 : Int) < t[8].toNat := by omega
      have Hsz := Lib.hid hsz
      have hne : ((t.size : Int) != 9) = false := by simp [hsz]
      clear htl h9 hsz hg8
      go_enter Try.func52, Try.ntmps52
      go_wp2_with (go_at_call 56; go_must (refine (unescape_some _ s t hs Hu.out).mono ?_); rintro e w1 ⟨rfl, b1⟩; have c0 := (entryBox (by simpa using b1)).1 0; have c1 := (entryBox (by simpa using b1)).1 1; have c2 := (entryBox (by simpa using b1)).1 2; have f0 := (entryBox (by simpa using b1)).2 0; have f1 := (entryBox (by simpa using b1)).2 1; have f2 := (entryBox (by simpa using b1)).2 2; simp at c0 c1 c2)
      have hb : Below w.heap.size w w1 := ((Below.refl _ _).alloc (Nat.le_refl _) _).trans (b1.mono (by simp))
      have Hb := Lib.hid hb
      clear b1 hb
      go_loop [7, 28] (fun v c => RevRel t.data.toList v c) (fun _ c => 20 - (intOf c).toNat)
      case atStart => exact ⟨0, rfl, by omega, rfl⟩
      case round =>
        obtain ⟨j, rfl, hj, rfl⟩ := hrel
        have hlt8 : beVal (t.data.toList.take j) < 256 ^ j := by
          have h := beVal_lt (t.data.toList.take j)
          rwa [List.length_take, Htl.out, Hsz.out, Nat.min_eq_left (by omega)] at h
        have Hlt := Lib.hid hlt8
        clear hlt8
        by_cases hj8 : j < 8
        · have hjt : j < t.size := by omega
          have hV : beVal (t.data.toList.take j) < 72057594037927936 := by
            have h1 := Hlt.out
            have h2 : 256 ^ j ≤ 256 ^ 7 := Nat.pow_le_pow_right (by omega) (by omega)
            have h3 : (256 : Nat) ^ 7 = 72057594037927936 := by decide
            omega
          have hor := or_u64 (beVal (t.data.toList.take j)) t[j].toNat hV t[j].toNat_lt
          have HV := Lib.hid hV
          have hsn : beVal (t.data.toList.take (j + 1)) = beVal (t.data.toList.take j) * 256 + t[j].toNat := by
            have hjl : j < t.data.toList.length := by rw [Htl.out]; exact hjt
            rw [List.take_succ_eq_append_getElem hjl, beVal_snoc]
            rfl
          have Hsn := Lib.hid hsn
          have Hor := Lib.hid hor
          clear hV hsn hor
          have e1 : IntKind.u64.wrap ((beVal (t.data.toList.take j) : Int) * 256) = (beVal (t.data.toList.take j) : Int) * 256 := by
            rw [IntKind.wrap_u64]
            have := HV.out
            omega
          have e2 : IntKind.u64.wrap (t[j].toNat : Int) = (t[j].toNat : Int) := by
            rw [IntKind.wrap_u64]
            have := t[j].toNat_lt
            omega
          have E1 := Lib.hid e1
          have E2 := Lib.hid e2
          clear e1 e2
          go_wp2
          refine ⟨⟨j + 1, by go_num, by omega, ?_⟩, by simp [intOf]; omega⟩
          rw [E1.out, E2.out, Hor.out, Hsn.out]
        · have hj8' : ¬ ((j : Int) < 8) := by omega
          obtain rfl : j = 8 := by omega
          have hx : beVal (t.data.toList.take 8) < 18446744073709551616 := by
            have h1 := Hlt.out
            have h3 : (256 : Nat) ^ 8 = 18446744073709551616 := by decide
            omega
          have hnot := not_u64 _ hx
          have Hn := Lib.hid hnot
          clear hx hnot
          go_wp2
          rw [Hn.out]
          refine bodyPost_ret (v := entryVal (some (k, 18446744073709551615 - beVal (t.data.toList.take 8), decide (t[8].toNat = 0)))) ?_ rfl ⟨rfl, ?_⟩
          · have hb : ((t[8].toNat : Int) == 0) = decide (t[8].toNat = 0) := by
              rw [Bool.eq_iff_iff]; simp
            simp [results, Try.results52, go_sem, entryVal, c0, c1, c2]
            omega
          · exact ((Hb.out.setCell (p := ⟨w.heap.size, 0, none⟩) (Nat.le_refl _) _).setCell (p := ⟨w.heap.size, 1, none⟩) (Nat.le_refl _) _).setCell (p := ⟨w.heap.size, 2, none⟩) (Nat.le_refl _) _
    · have ho : outer s.data.toList = none := by unfold outer; rw [hu]; exact if_neg hr
      rw [ho]
      clear ho hu
      have Htl := Lib.hid htl
      by_cases h9 : t.size = 9
      · have h8t : 8 < t.size := by omega
        have hg8 : t.data.toList.getD 8 0 = t[8] := by
          rw [List.getD_eq_getElem?_getD, List.getElem?_eq_getElem (by omega)]
          rfl
        rw [hg8] at hr
        have h8' : (1 : Int) < t[8].toNat := by omega
        have hne : ((t.size : Int) != 9) = false := by simp [h9]
        clear htl h9 hg8 hr
        go_enter Try.func52, Try.ntmps52
        go_wp2_with (go_at_call 56; go_must (refine (unescape_some _ s t hs Hu.out).mono ?_); rintro e w1 ⟨rfl, b1⟩; have c0 := (entryBox (by simpa using b1)).1 0; have c1 := (entryBox (by simpa using b1)).1 1; have c2 := (entryBox (by simpa using b1)).1 2; have f0 := (entryBox (by simpa using b1)).2 0; have f1 := (entryBox (by simpa using b1)).2 1; have f2 := (entryBox (by simpa using b1)).2 2; simp at c0 c1 c2)
        refine bodyPost_ret (v := entryVal none) (by simp [results, Try.results52, go_sem, entryVal, c0, c1, c2]) rfl ⟨rfl, ?_⟩
        have hb : Below w.heap.size w w1 := ((Below.refl _ _).alloc (Nat.le_refl _) _).trans (b1.mono (by simp))
        exact ((hb.setCell (p := ⟨w.heap.size, 0, none⟩) (Nat.le_refl _) _).setCell (p := ⟨w.heap.size, 1, none⟩) (Nat.le_refl _) _).setCell (p := ⟨w.heap.size, 2, none⟩) (Nat.le_refl _) _
      · have hne : ((t.size : Int) != 9) = true := by simp; omega
        clear htl h9 hr
        go_enter Try.func52, Try.ntmps52
        go_wp2_with (go_at_call 56; go_must (refine (unescape_some _ s t hs Hu.out).mono ?_); rintro e w1 ⟨rfl, b1⟩; have c0 := (entryBox (by simpa using b1)).1 0; have c1 := (entryBox (by simpa using b1)).1 1; have c2 := (entryBox (by simpa using b1)).1 2; have f0 := (entryBox (by simpa using b1)).2 0; have f1 := (entryBox (by simpa using b1)).2 1; have f2 := (entryBox (by simpa using b1)).2 2; simp at c0 c1 c2)
        refine bodyPost_ret (v := entryVal none) (by simp [results, Try.results52, go_sem, entryVal, c0, c1, c2]) rfl ⟨rfl, ?_⟩
        have hb : Below w.heap.size w w1 := ((Below.refl _ _).alloc (Nat.le_refl _) _).trans (b1.mono (by simp))
        exact ((hb.setCell (p := ⟨w.heap.size, 0, none⟩) (Nat.le_refl _) _).setCell (p := ⟨w.heap.size, 1, none⟩) (Nat.le_refl _) _).setCell (p := ⟨w.heap.size, 2, none⟩) (Nat.le_refl _) _
end Go.Proofs.Ytekdcjbjjakhcaa
