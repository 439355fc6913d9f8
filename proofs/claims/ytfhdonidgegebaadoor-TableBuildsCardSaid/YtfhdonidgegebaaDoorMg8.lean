/- What the proof stands on, part 8. -/
import Derived.Test.YtfhdonidgegebaaDoorMg7
import Derived.Lib.MinMax
import Derived.Shelf.Slices.Cells
import Derived.Laws.Bits64
import Derived.Laws.Bits64b
import Derived.Deep.QuietTactic
import Derived.BigQuiet
namespace Go.Proofs.YtfhdonidgegebaaDoor
open Go Go.RowKit

def entryVal : Option (List UInt8 × Nat × Bool) → Value
  | none => .tuple #[.agg #[.string ⟨#[]⟩, .int .u64 0, .bool false], .int .i64 9]
  | some (k, r, d) => .tuple #[.agg #[.string ⟨k.toArray⟩, .int .u64 (r : Int), .bool d], .int .i64 0]

def OuterPost (w : World) (r : Option (List UInt8 × Nat × Bool)) (e : Ending) (w' : World) : Prop := e = .returned (entryVal r) ∧ Below w.heap.size w w'

def RevRel (r : List UInt8) (v c : Value) : Prop := ∃ k : Nat, c = .int .i64 (k : Int) ∧ k ≤ 8 ∧ v = .int .u64 (beVal (r.take k) : Int)

theorem or_u64 (x c : Nat) (hx : x < 72057594037927936) (hc : c < 256) : bits BinOp.or .u64 ((x : Int) * 256) (c : Int) = ((x * 256 + c : Nat) : Int) := by
  have e : ((x : Int) * 256) = ((x * 256 : Nat) : Int) := by simp
  rw [e, u64_or_nat _ _ (by omega) (by omega), nat_join 8 _ _ (by omega) (by omega)]

set_option maxRecDepth 100000 in
set_option maxHeartbeats 2000000 in
theorem outer_any (w : World) (s : ByteArray) (hs : s.size ≤ 10000000000) :
    Calls Tryd.prog 51 #[.string s] w (OuterPost w (outer s.data.toList)) := by
  cases hu : unesc s.data.toList with
  | none =>
    have ho : outer s.data.toList = none := by unfold outer; rw [hu]
    rw [ho]
    clear ho
    have Hu := Lib.hid hu
    clear hu
    go_enter Tryd.func51, Tryd.ntmps51
    go_wp2_with (go_at_call 78; go_must (refine (unescape_none _ s hs Hu.out).mono ?_); rintro e w1 ⟨rfl, b1⟩; have c0 := (entryBox (by simpa using b1)).1 0; have c1 := (entryBox (by simpa using b1)).1 1; have c2 := (entryBox (by simpa using b1)).1 2; have f0 := (entryBox (by simpa using b1)).2 0; have f1 := (entryBox (by simpa using b1)).2 1; have f2 := (entryBox (by simpa using b1)).2 2; simp at c0 c1 c2)
    refine bodyPost_ret (v := entryVal none) (by simp [results, Tryd.results51, go_sem, entryVal, c0, c1, c2]) rfl ⟨rfl, ?_⟩
    have hb : Below w.heap.size w w1 := ((Below.refl _ _).alloc (Nat.le_refl _) _).trans (b1.mono (by simp))
    exact ((hb.setCell (p := ⟨w.heap.size, 0, none⟩) (Nat.le_refl _) _).setCell (p := ⟨w.heap.size, 1, none⟩) (Nat.le_refl _) _).setCell (p := ⟨w.heap.size, 2, none⟩) (Nat.le_refl _) _
  | some x =>
    obtain ⟨k, r⟩ := x
    obtain ⟨t, rfl⟩ : ∃ t : ByteArray, r = t.data.toList := ⟨⟨r.toArray⟩, rfl⟩
    have htl : t.data.toList.length = t.size := Array.length_toList
    have Hu := Lib.hid hu
    by_cases hr : t.data.toList.length = 9 ∧ (t.data.toList.getD 8 0).toNat ≤ 1
    · have ho : outer s.data.toList = some (k, 18446744073709551615 - beVal (t.data.toList.take 8), decide ((t.data.toList.getD 8 0).toNat = 0)) := by unfold outer; rw [hu]; exact if_pos hr
      rw [ho]
      clear ho hu
      obtain ⟨h9, h8⟩ := hr
      have hsz : t.size = 9 := by omega
      have h8t : 8 < t.size := by omega
      have hg8 : t.data.toList.getD 8 0 = t[8] := by
        rw [List.getD_eq_getElem?_getD, List.getElem?_eq_getElem (by omega)]
        rfl
      rw [hg8] at h8 ⊢
      have Htl := Lib.hid htl
      have h8' : ¬ (1 : Int) < t[8].toNat := by omega
      have Hsz := Lib.hid hsz
      have hne : ((t.size : Int) != 9) = false := by simp [hsz]
      clear htl h9 hsz hg8
      go_enter Tryd.func51, Tryd.ntmps51
      go_wp2_with (go_at_call 78; go_must (refine (unescape_some _ s t hs Hu.out).mono ?_); rintro e w1 ⟨rfl, b1⟩; have c0 := (entryBox (by simpa using b1)).1 0; have c1 := (entryBox (by simpa using b1)).1 1; have c2 := (entryBox (by simpa using b1)).1 2; have f0 := (entryBox (by simpa using b1)).2 0; have f1 := (entryBox (by simpa using b1)).2 1; have f2 := (entryBox (by simpa using b1)).2 2; simp at c0 c1 c2)
      have hb : Below w.heap.size w w1 := ((Below.refl _ _).alloc (Nat.le_refl _) _).trans (b1.mono (by simp))
      have Hb := Lib.hid hb
      clear b1 hb
      go_loop [7, 28] (fun v c => RevRel t.data.toList v c) (fun _ c => 20 - (intOf c).toNat)
      case atStart => exact ⟨0, rfl, by omega, rfl⟩
      case round =>
        obtain ⟨j, rfl, hj, rfl⟩ := hrel
        have hlt8 : beVal (t.data.toList.take j) < 256 ^ j := by
          have h := beVal_lt (t.data.toList.take j)
          rwa [List.length_take, Htl.out, Hsz.out, Nat.min_eq_left (by omega)] at h
        have Hlt := Lib.hid hlt8
        clear hlt8
        by_cases hj8 : j < 8
        · have hjt : j < t.size := by omega
          have hV : beVal (t.data.toList.take j) < 72057594037927936 := by
            have h1 := Hlt.out
            have h2 : 256 ^ j ≤ 256 ^ 7 := Nat.pow_le_pow_right (by omega) (by omega)
            have h3 : (256 : Nat) ^ 7 = 72057594037927936 := by decide
            omega
          have hor := or_u64 (beVal (t.data.toList.take j)) t[j].toNat hV t[j].toNat_lt
          have HV := Lib.hid hV
          have hsn : beVal (t.data.toList.take (j + 1)) = beVal (t.data.toList.take j) * 256 + t[j].toNat := by
            have hjl : j < t.data.toList.length := by rw [Htl.out]; exact hjt
            rw [List.take_succ_eq_append_getElem hjl, beVal_snoc]
            rfl
          have Hsn := Lib.hid hsn
          have Hor := Lib.hid hor
          clear hV hsn hor
          have e1 : IntKind.u64.wrap ((beVal (t.data.toList.take j) : Int) * 256) = (beVal (t.data.toList.take j) : Int) * 256 := by
            rw [IntKind.wrap_u64]
            have := HV.out
            omega
          have e2 : IntKind.u64.wrap (t[j].toNat : Int) = (t[j].toNat : Int) := by
            rw [IntKind.wrap_u64]
            have := t[j].toNat_lt
            omega
          have E1 := Lib.hid e1
          have E2 := Lib.hid e2
          clear e1 e2
          go_wp2
          refine ⟨⟨j + 1, by go_num, by omega, ?_⟩, by simp [intOf]; omega⟩
          rw [E1.out, E2.out, Hor.out, Hsn.out]
        · have hj8' : ¬ ((j : Int) < 8) := by omega
          obtain rfl : j = 8 := by omega
          have hx : beVal (t.data.toList.take 8) < 18446744073709551616 := by
            have h1 := Hlt.out
            have h3 : (256 : Nat) ^ 8 = 18446744073709551616 := by decide
            omega
          have hnot := not_u64 _ hx
          have Hn := Lib.hid hnot
          clear hx hnot
          go_wp2
          rw [Hn.out]
          refine bodyPost_ret (v := entryVal (some (k, 18446744073709551615 - beVal (t.data.toList.take 8), decide (t[8].toNat = 0)))) ?_ rfl ⟨rfl, ?_⟩
          · have hb : ((t[8].toNat : Int) == 0) = decide (t[8].toNat = 0) := by
              rw [Bool.eq_iff_iff]; simp
            simp [results, Tryd.results51, go_sem, entryVal, c0, c1, c2]
            omega
          · exact ((Hb.out.setCell (p := ⟨w.heap.size, 0, none⟩) (Nat.le_refl _) _).setCell (p := ⟨w.heap.size, 1, none⟩) (Nat.le_refl _) _).setCell (p := ⟨w.heap.size, 2, none⟩) (Nat.le_refl _) _
    · have ho : outer s.data.toList = none := by unfold outer; rw [hu]; exact if_neg hr
      rw [ho]
      clear ho hu
      have Htl := Lib.hid htl
      by_cases h9 : t.size = 9
      · have h8t : 8 < t.size := by omega
        have hg8 : t.data.toList.getD 8 0 = t[8] := by
          rw [List.getD_eq_getElem?_getD, List.getElem?_eq_getElem (by omega)]
          rfl
        rw [hg8] at hr
        have h8' : (1 : Int) < t[8].toNat := by omega
        have hne : ((t.size : Int) != 9) = false := by simp [h9]
        clear htl h9 hg8 hr
        go_enter Tryd.func51, Tryd.ntmps51
        go_wp2_with (go_at_call 78; go_must (refine (unescape_some _ s t hs Hu.out).mono ?_); rintro e w1 ⟨rfl, b1⟩; have c0 := (entryBox (by simpa using b1)).1 0; have c1 := (entryBox (by simpa using b1)).1 1; have c2 := (entryBox (by simpa using b1)).1 2; have f0 := (entryBox (by simpa using b1)).2 0; have f1 := (entryBox (by simpa using b1)).2 1; have f2 := (entryBox (by simpa using b1)).2 2; simp at c0 c1 c2)
        refine bodyPost_ret (v := entryVal none) (by simp [results, Tryd.results51, go_sem, entryVal, c0, c1, c2]) rfl ⟨rfl, ?_⟩
        have hb : Below w.heap.size w w1 := ((Below.refl _ _).alloc (Nat.le_refl _) _).trans (b1.mono (by simp))
        exact ((hb.setCell (p := ⟨w.heap.size, 0, none⟩) (Nat.le_refl _) _).setCell (p := ⟨w.heap.size, 1, none⟩) (Nat.le_refl _) _).setCell (p := ⟨w.heap.size, 2, none⟩) (Nat.le_refl _) _
      · have hne : ((t.size : Int) != 9) = true := by simp; omega
        clear htl h9 hr
        go_enter Tryd.func51, Tryd.ntmps51
        go_wp2_with (go_at_call 78; go_must (refine (unescape_some _ s t hs Hu.out).mono ?_); rintro e w1 ⟨rfl, b1⟩; have c0 := (entryBox (by simpa using b1)).1 0; have c1 := (entryBox (by simpa using b1)).1 1; have c2 := (entryBox (by simpa using b1)).1 2; have f0 := (entryBox (by simpa using b1)).2 0; have f1 := (entryBox (by simpa using b1)).2 1; have f2 := (entryBox (by simpa using b1)).2 2; simp at c0 c1 c2)
        refine bodyPost_ret (v := entryVal none) (by simp [results, Tryd.results51, go_sem, entryVal, c0, c1, c2]) rfl ⟨rfl, ?_⟩
        have hb : Below w.heap.size w w1 := ((Below.refl _ _).alloc (Nat.le_refl _) _).trans (b1.mono (by simp))
        exact ((hb.setCell (p := ⟨w.heap.size, 0, none⟩) (Nat.le_refl _) _).setCell (p := ⟨w.heap.size, 1, none⟩) (Nat.le_refl _) _).setCell (p := ⟨w.heap.size, 2, none⟩) (Nat.le_refl _) _
end Go.Proofs.YtfhdonidgegebaaDoor

/- Stem, cut, check. -/
namespace Go.Proofs.YtfhdonidgegebaaDoor
open Go Go.RowKit

def KeepsVal (w : World) (v : Value) (e : Ending) (w' : World) : Prop := e = .returned v ∧ w = w'

set_option maxRecDepth 100000 in
set_option maxHeartbeats 400000 in
theorem stem_any (w : World) (k : ByteArray) (hk : k.size ≤ 1000000000) : Calls Tryd.prog 22 #[.string k] w (KeepsVal w (.string (stemB k))) := by
  unfold stemB
  by_cases h9 : k.size < 9
  · have e1 : k.size - 9 = 0 := by omega
    have h9I : (k.size : Int) - 9 ≤ 0 := by omega
    have hm : max ((k.size : Int) - 9) 0 = 0 := by omega
    have e2 : k.extract 0 0 = ByteArray.empty := by
      apply ByteArray.ext
      simp
    rw [e1, e2]
    go_enter Tryd.func22, Tryd.ntmps22
    go_wp2
    go_ret
    exact ⟨rfl, rfl⟩
  · obtain ⟨m, hm⟩ : ∃ m, k.size - 9 = m := ⟨_, rfl⟩
    have hmI : (k.size : Int) - 9 = (m : Int) := by omega
    have hmm : max (m : Int) 0 = (m : Int) := by omega
    have hle : (m : Int) ≤ k.size := by omega
    rw [hm]
    go_enter Tryd.func22, Tryd.ntmps22
    go_wp2
    go_ret
    exact ⟨rfl, rfl⟩

def CutRel (split : Int) (ks : List ByteArray) (n : Nat) (sv iv : Value) : Prop :=
  ∃ i s : Nat, sv = .int .i64 (s : Int) ∧ iv = .int .i64 (i : Int) ∧ i ≤ n ∧ s ≤ i * 60000 ∧ cutN split 0 ks = i + cutN split s (ks.drop i)

set_option maxRecDepth 100000 in
set_option maxHeartbeats 1000000 in
theorem cut_any (w : World) (a : Option Addr) (n cap : Nat) (ks : List ByteArray) (split : Int) (h : Reads w 1 (.slice a n cap) n (scells ks)) (hn : n ≤ 60000) (hsz : ∀ x ∈ ks, x.size ≤ 60000) :
    Calls Tryd.prog 26 #[.slice a n cap, .int .i64 split] w (KeepsVal w (.int .i64 (cutN split 0 ks : Int))) := by
  have hkl : ks.length = n := by have := h.1; rw [scells_length] at this; omega
  have HR := Lib.hid h
  have HL := Lib.hid hkl
  have HSz := Lib.hid hsz
  clear h hkl hsz
  go_enter Tryd.func26, Tryd.ntmps26
  go_wp2
  go_loop [5, 10] (fun sv iv => CutRel split ks n sv iv) (fun _ iv => n - (intOf iv).toNat)
  case atStart => exact ⟨0, 0, rfl, rfl, Nat.zero_le _, by omega, by simp⟩
  case round =>
    obtain ⟨i, s, rfl, rfl, hin, hs, hc⟩ := hrel
    by_cases hlt : i < n
    · have hltI : (i : Int) < n := by omega
      obtain ⟨g, off, x, rfl, hx, hg, hcx⟩ := HR.out.scell i hlt
      have hxs : x.size ≤ 60000 := HSz.out x (List.mem_of_getElem? hx)
      have hd : ks.drop i = x :: ks.drop (i + 1) := by
        obtain ⟨h1, h2⟩ := List.getElem?_eq_some_iff.1 hx
        rw [List.drop_eq_getElem_cons h1, h2]
      rw [hd] at hc
      have HC := Lib.hid hc
      clear hc hd hx
      by_cases hge : split ≤ (s : Int) + (x.size : Int)
      · go_wp2
        go_ret
        refine ⟨?_, rfl⟩
        rw [HC.out, cutN, if_pos (by omega)]
        congr 2
      · have hgeI : (s : Int) + (x.size : Int) < split := by omega
        go_wp2
        go_round
        case rel => exact ⟨i + 1, s + x.size, by go_num, by go_num, by omega, by omega, by rw [HC.out, cutN, if_neg (by omega)]; omega⟩
        case measure => simp [intOf]; omega
    · obtain rfl : i = n := by omega
      have hltI : ¬ (i : Int) < i := by omega
      have hd : ks.drop i = [] := List.drop_eq_nil_of_le (by rw [HL.out]; exact Nat.le_refl _)
      rw [hd, cutN] at hc
      have HC := Lib.hid hc
      clear hc hd
      go_wp2
      go_ret
      exact ⟨by rw [HC.out]; rfl, rfl⟩

def ChkA (w : World) (ks : List ByteArray) (iv : Value) (wr : World) : Prop :=
  ∃ i : Nat, iv = .int .i64 (i : Int) ∧ i ≤ ks.length ∧ (∀ j x, j < i → ks[j]? = some x → (outer x.data.toList).isNone = false) ∧ Below w.heap.size w wr

def ChkB (w : World) (ks : List ByteArray) (m : Nat) (iv : Value) (wr : World) : Prop :=
  ∃ i : Nat, iv = .int .i64 (i : Int) ∧ i ≤ m ∧ (∀ j, j < i → bl (ks.getD j ⟨#[]⟩) (ks.getD (j + 1) ⟨#[]⟩) = true) ∧ Below w.heap.size w wr

theorem chk_nine {ks : List ByteArray} {split : Int} {i : Nat} {x : ByteArray} (h1 : 1 ≤ split) (hx : ks[i]? = some x) (h : outer x.data.toList = none) : checkL ks split = 9 := by
  have hne : ks ≠ [] := fun e => by subst e; simp at hx
  unfold checkL
  rw [if_neg (by rintro (h | h); exact hne h; omega), if_pos]
  rw [List.any_eq_true]
  exact ⟨x, List.mem_of_getElem? hx, by rw [h]; rfl⟩

theorem chk_good {ks : List ByteArray} {split : Int} (h0 : ks ≠ []) (h1 : 1 ≤ split) (h : ∀ j x, j < ks.length → ks[j]? = some x → (outer x.data.toList).isNone = false) :
    checkL ks split = if (List.range (ks.length - 1)).any (fun i => !bl (ks.getD i ⟨#[]⟩) (ks.getD (i + 1) ⟨#[]⟩)) then 11 else 0 := by
  unfold checkL
  rw [if_neg (by rintro (h | h); exact h0 h; omega), if_neg]
  rw [List.any_eq_true]
  rintro ⟨x, hx, hn⟩
  obtain ⟨j, hj, rfl⟩ := List.mem_iff_getElem.1 hx
  rw [h j _ hj (List.getElem?_eq_getElem hj)] at hn
  cases hn

set_option maxRecDepth 100000 in
set_option maxHeartbeats 2000000 in
theorem check_any (w : World) (a : Option Addr) (n cap : Nat) (ks : List ByteArray) (split : Int) (h : Reads w 1 (.slice a n cap) n (scells ks)) (hn : n ≤ 60000) (hsz : ∀ x ∈ ks, x.size ≤ 60000) :
    Calls Tryd.prog 25 #[.slice a n cap, .int .i64 split] w (GivesVal w (.int .i64 (checkL ks split : Int))) := by
  have hkl : ks.length = n := by have := h.1; rw [scells_length] at this; omega
  obtain ⟨_, _, hv, hc1, hc2⟩ := h.le
  cases hv
  unfold maxLen at hc2
  by_cases h0 : n = 0
  · have hI : ((n : Int) == 0) = true := by simp [h0]
    have hk : checkL ks split = 1 := by
      unfold checkL
      rw [if_pos (.inl (List.eq_nil_of_length_eq_zero (by omega)))]
    rw [hk]
    clear h hsz
    go_enter Tryd.func25, Tryd.ntmps25
    go_wp2
    go_ret
    exact ⟨rfl, Below.refl _ _⟩
  · have hI : ((n : Int) == 0) = false := by simp [h0]
    by_cases h1 : split < 1
    · have hk : checkL ks split = 1 := by
        unfold checkL
        rw [if_pos (.inr h1)]
      rw [hk]
      clear h hsz
      go_enter Tryd.func25, Tryd.ntmps25
      go_wp2
      go_ret
      exact ⟨rfl, Below.refl _ _⟩
    · have h1I : decide (split < 1) = false := by simpa using h1
      have hne : ks ≠ [] := fun e => by subst e; simp at hkl; omega
      have HR := Lib.hid h
      have HL := Lib.hid hkl
      have HSz := Lib.hid hsz
      have HNe := Lib.hid hne
      clear h hkl hsz hne
      go_enter Tryd.func25, Tryd.ntmps25
      go_wp2
      go_loopw [20] (fun iv wr => ChkA w ks iv wr) (fun iv _ => n - (intOf iv).toNat)
      case atStart => exact ⟨0, rfl, Nat.zero_le _, fun j x hj => by omega, Below.refl _ _⟩
      case round =>
        obtain ⟨i, rfl, hin, hyes, hb⟩ := hrel
        rw [HL.out] at hin
        have HY := Lib.hid hyes
        have HB := Lib.hid hb
        clear hyes
        by_cases hlt : i < n
        · have hltI : (i : Int) < n := by omega
          obtain ⟨g, off, x, rfl, hx, hg, hcx⟩ := (HR.out.below' hb).scell i hlt
          have hxs : x.size ≤ 60000 := HSz.out x (List.mem_of_getElem? hx)
          have HX := Lib.hid hx
          have HO := Lib.hid (outer_any wr x (by omega))
          obtain ⟨o, ho⟩ : ∃ o, outer x.data.toList = o := ⟨_, rfl⟩
          rw [ho] at HO
          have HOo := Lib.hid ho
          clear hx hb ho
          cases o with
          | none =>
            go_wp2_with (go_at_call 51; go_must (refine HO.out.mono ?_))
            rintro e w1 ⟨rfl, b1⟩
            unfold entryVal
            have HB1 := Lib.hid (HB.out.trans (b1.mono HB.out.size))
            clear b1
            go_wp2
            go_ret
            exact ⟨by rw [chk_nine (by omega) HX.out HOo.out]; rfl, HB1.out.alloc HB1.out.size _⟩
          | some p =>
            obtain ⟨pk, pr, pd⟩ := p
            go_wp2_with (go_at_call 51; go_must (refine HO.out.mono ?_))
            rintro e w1 ⟨rfl, b1⟩
            unfold entryVal
            have HB1 := Lib.hid (HB.out.trans (b1.mono HB.out.size))
            have hyes2 : ∀ j x, j < i + 1 → ks[j]? = some x → (outer x.data.toList).isNone = false := fun j y hj hy => by
              by_cases hji : j = i
              · subst hji
                rw [HX.out] at hy
                cases hy
                rw [HOo.out]
                rfl
              · exact HY.out j y (by omega) hy
            have HY2 := Lib.hid hyes2
            clear b1 hyes2
            go_wp2
            exact ⟨⟨i + 1, by go_num, by rw [HL.out]; omega, HY2.out, HB1.out.alloc HB1.out.size _⟩, by simp [intOf]; omega⟩
        · obtain rfl : i = n := by omega
          have hltI : ¬ (i : Int) < i := by omega
          have hck := chk_good (split := split) HNe.out (by omega) (fun j x hj hx => HY.out j x (by rw [HL.out] at hj; exact hj) hx)
          rw [HL.out] at hck
          have HCk := Lib.hid hck
          have hi1 : (1 : Int) ≤ i := by omega
          have HRr := Lib.hid (HR.out.below' hb)
          clear hck hb HY
          by_cases hcap : cap = 1
          · obtain rfl : i = 1 := by omega
            subst hcap
            have hk0 : checkL ks split = 0 := by rw [HCk.out]; rfl
            have HK0 := Lib.hid hk0
            clear hk0 HCk
            go_wp2
            go_loop [36] (fun iv => iv = .int .i64 0) (fun _ => 0)
            case atStart => rfl
            case round =>
              subst hrel
              go_wp2
              go_ret
              exact ⟨by rw [HK0.out]; rfl, HB.out⟩
          · have hcapI : ¬ ((cap : Int) = 1) := by omega
            obtain ⟨m, hm⟩ : ∃ m, i - 1 = m := ⟨_, rfl⟩
            have hmI : (i : Int) - 1 = (m : Int) := by omega
            rw [hm] at HCk
            obtain ⟨g, off, x0, rfl, hx0, hg, hcx⟩ := HRr.out.scell 0 (by omega)
            clear hx0 hcx
            go_wp2
            go_loop [36] (fun iv => ∃ j : Nat, iv = .int .i64 (j : Int) ∧ j ≤ m ∧ ∀ k, k < j → bl (ks.getD k ⟨#[]⟩) (ks.getD (k + 1) ⟨#[]⟩) = true) (fun iv => m - (intOf iv).toNat)
            case atStart => exact ⟨0, rfl, Nat.zero_le _, fun j hj => by omega⟩
            case round =>
              obtain ⟨j, rfl, hjm, hup⟩ := hrel
              have HUp := Lib.hid hup
              clear hup
              by_cases hlt2 : j < m
              · have hlt2I : (j : Int) < m := by omega
                obtain ⟨g1, o1, x, hv1, hx, _, hcx⟩ := HRr.out.scell j (by omega)
                cases hv1
                obtain ⟨g2, o2, y, hv2, hy, _, hcy⟩ := HRr.out.scell (j + 1) (by omega)
                cases hv2
                rw [show off + (j + 1) = off + 1 + j by omega] at hcy
                have hjI : (j : Int) < i := by omega
                have hxe : ks.getD j ⟨#[]⟩ = x := by rw [List.getD_eq_getElem?_getD, hx]; rfl
                have hye : ks.getD (j + 1) ⟨#[]⟩ = y := by rw [List.getD_eq_getElem?_getD, hy]; rfl
                have HXe := Lib.hid hxe
                have HYe := Lib.hid hye
                clear hx hy hxe hye
                cases hb : bl x y with
                | true =>
                  have HBl := Lib.hid hb
                  have hl1 : Op.bytesLess x.toList y.toList = true := by rw [bl_spell]; exact hb
                  have hl2 : Op.bytesLess y.toList x.toList = false := by rw [bl_spell]; exact bl_asymm hb
                  have hl3 : (x.toList == y.toList) = false := by
                    cases h3 : x.toList == y.toList with
                    | false => rfl
                    | true =>
                      rw [eq_of_beq h3] at hl1 hl2
                      rw [hl1] at hl2
                      cases hl2
                  have hl4 : (y.toList == x.toList) = false := by
                    cases h3 : y.toList == x.toList with
                    | false => rfl
                    | true =>
                      rw [eq_of_beq h3] at hl1 hl2
                      rw [hl1] at hl2
                      cases hl2
                  clear hb
                  go_wp2
                  go_round
                  case rel => exact ⟨j + 1, by go_num, by omega, fun k hk => by
                    by_cases hkj : k = j
                    · subst hkj
                      rw [HXe.out, HYe.out]
                      exact HBl.out
                    · exact HUp.out k (by omega)⟩
                  case measure => simp [intOf]; omega
                | false =>
                  have HBl := Lib.hid hb
                  have hl1 : Op.bytesLess x.toList y.toList = false := by rw [bl_spell]; exact hb
                  have hl2 : (Op.bytesLess y.toList x.toList || y.toList == x.toList) = true := by
                    rw [bl_spell]
                    cases h2 : bl y x with
                    | true => rfl
                    | false =>
                      have := bl_total h2 hb
                      subst this
                      simp
                  have hk11 : checkL ks split = 11 := by
                    rw [HCk.out, if_pos]
                    rw [List.any_eq_true]
                    exact ⟨j, List.mem_range.2 (by omega), by rw [HXe.out, HYe.out, hb]; rfl⟩
                  have HK11 := Lib.hid hk11
                  clear hb hk11
                  go_wp2
                  go_ret
                  exact ⟨by rw [HK11.out]; rfl, HB.out⟩
              · obtain rfl : j = m := by omega
                have hlt2I : ¬ (j : Int) < j := by omega
                have hk0 : checkL ks split = 0 := by
                  rw [HCk.out, if_neg]
                  rw [List.any_eq_true]
                  rintro ⟨k, hk, hn⟩
                  rw [HUp.out k (List.mem_range.1 hk)] at hn
                  cases hn
                have HK0 := Lib.hid hk0
                clear hk0
                go_wp2
                go_ret
                exact ⟨by rw [HK0.out]; rfl, HB.out⟩
end Go.Proofs.YtfhdonidgegebaaDoor

/- stems. -/
namespace Go.Proofs.YtfhdonidgegebaaDoor
open Go Go.RowKit

/-- The stems of keys, each once where they stand side by side. -/
def stemsB (ks : List ByteArray) : List ByteArray := (Lib.compact (ks.map fun k => (stemB k).data.toList)).map fun l => ⟨l.toArray⟩

def GivesStrs (w : World) (l : List ByteArray) (e : Ending) (w' : World) : Prop :=
  ∃ a cap, e = .returned (.slice a l.length cap) ∧ Reads w' 1 (.slice a l.length cap) l.length (scells l) ∧ Below w.heap.size w w'

theorem comp_len {α : Type} [Inhabited α] [DecidableEq α] (l : List α) : (Lib.compact l).length ≤ l.length := by
  unfold Lib.compact Lib.compactUpTo
  rw [List.length_map]
  have := List.length_filter_le (Lib.keeps l.toArray) (List.range l.length)
  simpa using this

theorem comp_mem {α : Type} [Inhabited α] [DecidableEq α] {l : List α} {x : α} (h : x ∈ Lib.compact l) : x ∈ l := by
  unfold Lib.compact Lib.compactUpTo at h
  obtain ⟨j, hj, rfl⟩ := List.mem_map.1 h
  have := (List.mem_filter.1 hj).1
  have hjl := List.mem_range.1 this
  have e : l.toArray[j]! = l[j] := by simp [hjl]
  rw [e]
  exact List.getElem_mem _

theorem stemsB_len (ks : List ByteArray) : (stemsB ks).length ≤ ks.length := by
  unfold stemsB
  rw [List.length_map]
  have := comp_len (ks.map fun k => (stemB k).data.toList)
  simpa using this

theorem strs_of (l : List ByteArray) : Lib.strsOf (fun i => l.getD i ⟨#[]⟩) l.length = l.map fun k => k.data.toList := by
  unfold Lib.strsOf
  apply List.ext_getElem
  · simp
  · intro i h1 h2
    have hi : i < l.length := by simpa using h2
    simp [List.getD_eq_getElem?_getD, hi]

theorem below_sets {B g : Nat} (hg : B ≤ g) : ∀ (vs : List Value) (o : Nat) (w : World), Below B w (w.setCells g o vs)
  | [], _, w => Below.refl B w
  | v :: vs, o, w => ((Below.refl B w).setCell (p := ⟨g, o, none⟩) hg v).trans (below_sets hg vs (o + 1) (w.setCell ⟨g, o, none⟩ v))

def CompPost (w : World) (C : List (List UInt8)) (g n gcap : Nat) (e : Ending) (w' : World) : Prop :=
  e = .returned (.slice (some ⟨g, 0, none⟩) C.length gcap) ∧ ∃ q, w' = (w.drewN q).setCells g 0 ((C ++ List.replicate (n - C.length) []).map Go.Proofs.encStr)

def StemsRel (w : World) (n : Nat) (M : List ByteArray) (lv iv : Value) (wr : World) : Prop :=
  ∃ i : Nat, iv = .int .i64 (i : Int) ∧ i ≤ n ∧ wr.ownsRow w.heap.size 9 1 lv i (scells (M.take i)) ∧ Below w.heap.size w wr

set_option maxRecDepth 100000 in
set_option maxHeartbeats 1000000 in
theorem stems_any (w : World) (a : Option Addr) (n cap : Nat) (ks : List ByteArray) (h : Reads w 1 (.slice a n cap) n (scells ks)) (hn : n ≤ 60000) (h0 : 0 < n) (hsz : ∀ x ∈ ks, x.size ≤ 60000) :
    Calls Tryd.prog 31 #[.slice a n cap] w (GivesStrs w (stemsB ks)) := by
  obtain ⟨i0, hi, hz0, hz1, hz2⟩ := info_parts info9
  have hkl : ks.length = n := by have := h.1; rw [scells_length] at this; omega
  have HR := Lib.hid h
  have HL := Lib.hid hkl
  have HSz := Lib.hid hsz
  obtain ⟨M, hM⟩ : ∃ M, ks.map stemB = M := ⟨_, rfl⟩
  have hMl : M.length = n := by rw [← hM, List.length_map, hkl]
  have HM := Lib.hid hM
  have HMl := Lib.hid hMl
  clear h hkl hsz hM hMl
  go_enter Tryd.func31, Tryd.ntmps31
  go_wp2
  go_loopw [3, 8] (fun lv iv wr => StemsRel w n M lv iv wr) (fun _ iv _ => n - (intOf iv).toNat)
  case atStart => exact ⟨0, rfl, Nat.zero_le _, owns_nil _ _ _ _, Below.refl _ _⟩
  case round =>
    obtain ⟨i, rfl, hin, how, hb⟩ := hrel
    have HO := Lib.hid how
    have HB := Lib.hid hb
    by_cases hlt : i < n
    · have hltI : (i : Int) < n := by omega
      obtain ⟨g, off, x, rfl, hx, hg, hcx⟩ := (HR.out.below' hb).scell i hlt
      have hxs : x.size ≤ 60000 := HSz.out x (List.mem_of_getElem? hx)
      have hsn : M.take (i + 1) = M.take i ++ [stemB x] := by
        rw [List.take_add_one, ← HM.out, List.getElem?_map, hx]
        rfl
      have HSn := Lib.hid hsn
      have HSt := Lib.hid (stem_any wr x (by omega))
      have HLe := Lib.hid hb.size
      generalize stemB x = y at *
      clear hx hb hsn how
      go_wp2_with (first
        | (go_at_call 22; refine HSt.out.mono ?_; rintro e w1 ⟨rfl, rfl⟩)
        | (at_builtin; go_must (refine wpList_append_owns_lits (w0 := wr) rfl _ _ 22 rfl w.heap.size 9 i0 (.string ⟨#[]⟩) 16 Tryd.underlying22 hi hz0 hz1 hz2 rfl [.string y] 1 rfl HO.out rfl rfl (fun u hu => by simp at hu; subst hu; rfl) ?_ ?_ HLe.out ?_)))
      · unfold maxLen; omega
      · omega
      intro v' w1 f1 g1 b1 m1
      have F1 := Lib.hid f1
      have B1 := Lib.hid b1
      clear f1 b1 g1 m1
      go_wp2
      exact ⟨⟨i + 1, by go_num, by omega, by rw [HSn.out, scells_append]; exact F1.out, HB.out.trans B1.out⟩, by simp [intOf]; omega⟩
    · obtain rfl : i = n := by omega
      have hltI : ¬ (i : Int) < i := by omega
      have hMl : M.length = i := HMl.out
      have hst : stemsB ks = (Lib.compact (M.map fun k => k.data.toList)).map fun l => ⟨l.toArray⟩ := by
        rw [← HM.out, List.map_map]
        rfl
      rw [List.take_of_length_le (by omega)] at how
      have hown := how
      rcases how.2 with ⟨_, hnil⟩ | ⟨g, gcap, cur, rfl, hBg, hg, hnc, hcm, _, _⟩
      · exfalso
        omega
      · have hcells : ∀ j, j < i → wr.cell? ⟨g, 0 + j, none⟩ = some (.string (M.getD j ⟨#[]⟩)) := fun j hj => by
          obtain ⟨g2, o2, y, hv, hy, _, hc⟩ := (ownsRow.reads hown).scell j hj
          cases hv
          rw [List.getD_eq_getElem?_getD, hy]
          exact hc
        unfold maxLen at hcm
        have hcon := Tryd.slices_Compact_string_cells g 0 i gcap (fun j => M.getD j ⟨#[]⟩) wr (by omega) hnc hcells (fun j _ => Lib.frozen_of_heap hg (0 + j))
        have hso : Lib.strsOf (fun j => M.getD j ⟨#[]⟩) i = M.map fun k => k.data.toList := by rw [← hMl]; exact strs_of M
        rw [hso] at hcon
        have HCon : Hid (Calls Tryd.prog 60 #[.slice (some ⟨g, 0, none⟩) i gcap] wr (CompPost wr (Lib.compact (M.map fun k => k.data.toList)) g i gcap)) := Lib.hid (hcon.mono fun _ _ h => h)
        have hcl := comp_len (M.map fun k => k.data.toList)
        rw [List.length_map, hMl] at hcl
        have HCells := Lib.hid hcells
        have HHg := Lib.hid hg
        have HSt := Lib.hid hst
        clear hcon hcells how hown hb hso HM HO hg hst hMl HMl
        generalize Lib.compact (M.map fun k => k.data.toList) = C at *
        go_wp2_with (go_at_call 60; go_must (refine HCon.out.mono ?_))
        rintro e w1 ⟨rfl, q, rfl⟩
        have hlen : ((C ++ List.replicate (i - C.length) []).map Go.Proofs.encStr).length = i := by simp; omega
        have hread : Reads ((wr.drewN q).setCells g 0 ((C ++ List.replicate (i - C.length) []).map Go.Proofs.encStr)) 1 (.slice (some ⟨g, 0, none⟩) C.length gcap) C.length (scells (C.map fun l => ⟨l.toArray⟩)) := by
          have hin : ∀ j (hj : j < ((C ++ List.replicate (i - C.length) []).map Go.Proofs.encStr).length), _ := World.cell?_setCells_in g ((C ++ List.replicate (i - C.length) []).map Go.Proofs.encStr) 0 (wr.drewN q) (fun j hj => by
            rw [show (wr.drewN q).cell? ⟨g, 0 + j, none⟩ = wr.cell? ⟨g, 0 + j, none⟩ from rfl, HCells.out j (by omega)]
            rfl)
          refine ⟨by simp [scells], _, _, rfl, by omega, by unfold maxLen; omega, fun j u hj => ?_⟩
          have hjl := (List.getElem?_eq_some_iff.1 hj).1
          simp [scells] at hjl
          refine ⟨g, 0, rfl, ?_, ?_⟩
          · have := (below_sets (B := 0) (Nat.zero_le g) ((C ++ List.replicate (i - C.length) []).map Go.Proofs.encStr) 0 (wr.drewN q)).size
            have h2 : g < wr.heap.size := (Array.getElem?_eq_some_iff.1 HHg.out).1
            exact Nat.lt_of_lt_of_le h2 this
          · rw [hin j (by omega)]
            simp [scells, hjl] at hj
            rw [← hj]
            simp [hjl]
        have HRead := Lib.hid hread
        have HB2 := Lib.hid ((HB.out.trans (below_quiet (Below.refl _ _) q)).trans (below_sets hBg ((C ++ List.replicate (i - C.length) []).map Go.Proofs.encStr) 0 (wr.drewN q)))
        clear hread
        generalize (wr.drewN q).setCells g 0 ((C ++ List.replicate (i - C.length) []).map Go.Proofs.encStr) = W at *
        go_wp2
        go_ret
        refine ⟨some ⟨g, 0, none⟩, gcap, ?_, ?_, HB2.out⟩
        · rw [HSt.out, List.length_map]
          rfl
        · rw [HSt.out, List.length_map]
          exact HRead.out
end Go.Proofs.YtfhdonidgegebaaDoor

/- footer. -/
namespace Go.Proofs.YtfhdonidgegebaaDoor
open Go Go.RowKit

def icells (l : List Nat) : List Value := l.map fun n : Nat => Value.int .i64 (n : Int)

theorem flat8_length : ∀ ns : List Nat, (ns.flatMap be8).length = 8 * ns.length
  | [] => rfl
  | x :: r => by rw [List.flatMap_cons, List.length_append, flat8_length r, be8_length, List.length_cons]; omega

theorem be8_succ (N k : Nat) (hk : k < 8) : (be8 N).take (k + 1) = (be8 N).take k ++ [UInt8.ofNat (N / 2 ^ (8 * (7 - k)))] := by
  rw [List.take_add_one, show 8 * (7 - k) = 56 - 8 * k by omega]
  congr 1
  simp [be8, hk]

def FootA (w : World) (ns : List Nat) (bv iv : Value) (wr : World) : Prop :=
  ∃ i : Nat, iv = .int .i64 (i : Int) ∧ i ≤ ns.length ∧ wr.ownsRow w.heap.size 5 1 bv (8 * i) (bcells ((ns.take i).flatMap be8)) ∧ Below w.heap.size w wr

def FootB (w : World) (N : Nat) (pre : List UInt8) (m : Nat) (bv iv : Value) (wr : World) : Prop :=
  ∃ k : Nat, iv = .int .i64 (k : Int) ∧ k ≤ 8 ∧ wr.ownsRow w.heap.size 5 1 bv (m + k) (bcells (pre ++ (be8 N).take k)) ∧ Below w.heap.size w wr

set_option maxRecDepth 100000 in
set_option maxHeartbeats 2000000 in
theorem footer_any (w : World) (a : Option Addr) (n cap : Nat) (ns : List Nat) (h : Reads w 1 (.slice a n cap) n (icells ns)) (hn : n ≤ 100) (hN : ∀ x ∈ ns, x < 4611686018427387904) :
    Calls Tryd.prog 32 #[.slice a n cap] w (GivesBytes w (footL ns)) := by
  obtain ⟨i0, hi, hz0, hz1, hz2⟩ := info_parts info5
  have hnl : ns.length = n := by have := h.1; simp [icells] at this; omega
  have HR := Lib.hid h
  have HL := Lib.hid hnl
  have HN := Lib.hid hN
  clear h hnl hN
  go_enter Tryd.func32, Tryd.ntmps32
  go_wp2
  go_loopw [3, 9] (fun bv iv wr => FootA w ns bv iv wr) (fun _ iv _ => n - (intOf iv).toNat)
  case atStart => exact ⟨0, rfl, Nat.zero_le _, owns_nil _ _ _ _, Below.refl _ _⟩
  case round =>
    obtain ⟨i, rfl, hin, how, hb⟩ := hrel
    rw [HL.out] at hin
    by_cases hlt : i < n
    · have hltI : (i : Int) < n := by omega
      obtain ⟨N, hni⟩ : ∃ N, ns[i]? = some N := ⟨_, List.getElem?_eq_getElem (by rw [HL.out]; exact hlt)⟩
      have hNi := HN.out N (List.mem_of_getElem? hni)
      have htk : ns.take (i + 1) = ns.take i ++ [N] := by rw [List.take_add_one, hni]; rfl
      have hcell := (HR.out.below' hb).2
      obtain ⟨a', cap', hv, _, _, hcs⟩ := hcell
      cases hv
      obtain ⟨g, off, rfl, hg, hcx⟩ := hcs i (.int .i64 (N : Int)) (by rw [icells, List.getElem?_map, hni]; rfl)
      obtain ⟨pre, hpre⟩ : ∃ pre, (ns.take i).flatMap be8 = pre := ⟨_, rfl⟩
      rw [hpre] at how
      have HTk := Lib.hid htk
      have HPre := Lib.hid hpre
      have HO := Lib.hid how
      have HB := Lib.hid hb
      clear hni htk hcs hpre how hb
      go_wp2
      obtain ⟨wo, rfl⟩ : ∃ wo : World, wo = wr := ⟨_, rfl⟩
      go_loopw [3, 13] (fun bv iv wr => FootB w N pre (8 * i) bv iv wr) (fun _ iv _ => 8 - (intOf iv).toNat)
      case atStart => exact ⟨0, rfl, Nat.zero_le _, by simpa using HO.out, HB.out⟩
      case round =>
        obtain ⟨k, rfl, hk, how, hb⟩ := hrel
        have HO2 := Lib.hid how
        have HB2 := Lib.hid hb
        have HLe := Lib.hid hb.size
        clear how hb
        by_cases hlt2 : k < 8
        · have hlt2I : (k : Int) < 8 := by omega
          have hs := be8_succ N k hlt2
          have HS := Lib.hid hs
          clear hs
          go_wp2_with (at_builtin; go_must (refine wpList_append_owns_lits (w0 := wr) rfl _ _ 24 rfl w.heap.size 5 i0 (.int .u8 0) 1 Tryd.underlying24 hi hz0 hz1 hz2 rfl [.int .u8 ((N : Int) / 2 ^ (8 * (7 - k)) % 256)] 1 rfl HO2.out rfl rfl (fun u hu => by simp at hu; subst hu; rfl) ?_ ?_ HLe.out ?_))
          · unfold maxLen; omega
          · omega
          intro v' w1 f1 g1 b1 m1
          have e4 : bcells (pre ++ (be8 N).take k) ++ [Value.int .u8 ((N : Int) / 2 ^ (8 * (7 - k)) % 256)] = bcells (pre ++ (be8 N).take (k + 1)) := by
            rw [HS.out, ← List.append_assoc]
            exact bcells_snoc _ _ (by simp)
          rw [e4] at f1
          have F1 := Lib.hid f1
          have B1 := Lib.hid (HB2.out.trans b1)
          clear f1 b1 g1 m1 e4
          go_wp2
          exact ⟨⟨k + 1, by go_num, by omega, F1.out, B1.out⟩, by simp [intOf]; omega⟩
        · obtain rfl : k = 8 := by omega
          have hlt2I : ¬ ((8 : Nat) : Int) < 8 := by omega
          have F1 : ∀ bv, wr.ownsRow w.heap.size 5 1 bv (8 * i + 8) (bcells (pre ++ (be8 N).take 8)) → Hid (wr.ownsRow w.heap.size 5 1 bv (8 * (i + 1)) (bcells ((ns.take (i + 1)).flatMap be8))) := fun bv this => Lib.hid (by
            rw [List.take_of_length_le (by rw [be8_length]; exact Nat.le_refl _)] at this
            rw [HTk.out, List.flatMap_append, HPre.out]
            simpa [Nat.mul_add] using this)
          have F2 := F1 _ HO2.out
          clear F1
          go_wp2
          exact ⟨⟨i + 1, by go_num, by rw [HL.out]; omega, F2.out, HB2.out⟩, by simp [intOf]; omega⟩
    · obtain rfl : i = n := by omega
      have hltI : ¬ (i : Int) < i := by omega
      rw [List.take_of_length_le (by rw [HL.out]; exact Nat.le_refl _)] at how
      have hfl : (footL ns).length = 8 * i + 4 := by
        unfold footL
        rw [List.length_append, flat8_length, HL.out]
        rfl
      have hsrc := Src.ofString (P := Tryd.prog) (w := wr) (tx := 9) Tryd.underlying9 ⟨#[116, 98, 108, 49]⟩
      have HO2 := Lib.hid how
      have HB2 := Lib.hid hb
      have HLe := Lib.hid hb.size
      have HSrc := Lib.hid hsrc
      have HFl := Lib.hid hfl
      clear how hb hsrc hfl
      go_wp2_with (at_builtin; go_must (refine wpList_append_owns rfl _ _ 24 9 rfl w.heap.size 5 i0 (.int .u8 0) 1 1 Tryd.underlying24 hi hz0 hz1 hz2 rfl _ _ _ rfl HO2.out _ 4 _ rfl HSrc.out ?_ ?_ HLe.out ?_))
      · unfold maxLen; omega
      · omega
      intro v' w1 f1 g1 b1 m1
      have F1 : Hid (w1.ownsRow w.heap.size 5 1 v' (footL ns).length (bcells (footL ns))) := Lib.hid (by
        rw [HFl.out]
        unfold footL
        rw [bcells_append]
        exact f1)
      have B1 := Lib.hid (HB2.out.trans b1)
      clear f1 b1 g1 m1
      go_wp2
      go_ret
      exact ⟨_, rfl, ⟨ownsRow.reads F1.out, .inr F1.out⟩, B1.out⟩
end Go.Proofs.YtfhdonidgegebaaDoor

/- encode. -/
namespace Go.Proofs.YtfhdonidgegebaaDoor
open Go Go.RowKit

theorem fresh_after {B n s : Nat} {w w' : World} {e : TypeId} {v : Value} {xs : List Value} (h : Fresh B w e s v n xs) (b : Below w.heap.size w w') : Fresh B w' e s v n xs :=
  ⟨h.1.below' b, h.2.imp id fun k => owns_below k b⟩

/-- An index in block g. -/
def IdxAt (w : World) (g : Nat) (sp : List Span) : Prop :=
  ∃ a cap, w.heap[g]? = some (.cells #[.slice a sp.length cap] 62 (0, 0)) ∧ Reads w 3 (.slice a sp.length cap) sp.length (spcells sp)

theorem IdxAt.below {w w' : World} {g : Nat} {sp : List Span} (h : IdxAt w g sp) (b : Below w.heap.size w w') : IdxAt w' g sp := by
  obtain ⟨a, cap, h1, h2⟩ := h
  exact ⟨a, cap, below_block b h1 (Array.getElem?_eq_some_iff.1 h1).1, h2.below' b⟩

theorem spcells_at (sp : List Span) {i : Nat} {s : Span} (h : sp[i]? = some s) {j : Nat} (hj : j < 3) : (spcells sp)[i * 3 + j]? = s.cells[j]? := flat_cell Span.cells 3 (fun _ => rfl) sp i s h j hj

def spanV (s : Span) : Value := .agg #[.string s.first, .int .i64 (s.at_ : Int), .int .i64 (s.len : Int)]

theorem Reads.span {w : World} {a : Option Addr} {n cap : Nat} {sp : List Span} (h : Reads w 3 (.slice a n cap) n (spcells sp)) {i : Nat} {s : Span} (hs : sp[i]? = some s) :
    ∃ b off, a = some ⟨b, off, none⟩ ∧ b < w.heap.size ∧ w.cell? ⟨b, off + i * 3, none⟩ = some (.string s.first) ∧ w.cell? ⟨b, off + i * 3 + 1, none⟩ = some (.int .i64 (s.at_ : Int)) ∧ w.cell? ⟨b, off + i * 3 + 2, none⟩ = some (.int .i64 (s.len : Int)) := by
  obtain ⟨b, off, rfl, hb, h0⟩ := h.at (j := i * 3 + 0) (u := .string s.first) (by rw [spcells_at sp hs (by omega)]; rfl)
  obtain ⟨_, _, hv, _, h1⟩ := h.at (j := i * 3 + 1) (u := .int .i64 (s.at_ : Int)) (by rw [spcells_at sp hs (by omega)]; rfl)
  cases hv
  obtain ⟨_, _, hv, _, h2⟩ := h.at (j := i * 3 + 2) (u := .int .i64 (s.len : Int)) (by rw [spcells_at sp hs (by omega)]; rfl)
  cases hv
  exact ⟨b, off, rfl, hb, h0, by rw [Nat.add_assoc]; exact h1, by rw [Nat.add_assoc]; exact h2⟩

def encTo (sp : List Span) (i : Nat) : List UInt8 := enc sp.length ++ (sp.take i).flatMap encS

theorem encTo_succ {sp : List Span} {i : Nat} {s : Span} (h : sp[i]? = some s) : encTo sp (i + 1) = ((encTo sp i ++ (enc s.first.size ++ s.first.data.toList)) ++ enc s.at_) ++ enc s.len := by
  unfold encTo
  rw [List.take_add_one, h]
  simp [encS]

set_option maxRecDepth 100000 in
theorem encS_length {s : Span} (h1 : s.first.size ≤ 60000) (h2 : s.at_ < 4611686018427387904) (h3 : s.len < 4611686018427387904) : (encS s).length ≤ 60030 := by
  have e1 := enc_length_le 9 s.first.size (by omega)
  have e2 := enc_length_le 9 s.at_ (by omega)
  have e3 := enc_length_le 9 s.len (by omega)
  have e4 : s.first.data.toList.length = s.first.size := Array.length_toList
  unfold encS
  simp only [List.length_append]
  omega

def SmallS (sp : List Span) : Prop := ∀ s ∈ sp, s.first.size ≤ 60000 ∧ s.at_ < 4611686018427387904 ∧ s.len < 4611686018427387904

set_option maxRecDepth 100000 in
theorem encTo_length {sp : List Span} (h : SmallS sp) (hl : sp.length ≤ 60000) : ∀ i, (encTo sp i).length ≤ 10 + i * 60030
  | 0 => by
    have e1 := enc_length_le 9 sp.length (by omega)
    unfold encTo
    rw [List.take_zero, List.flatMap_nil, List.append_nil]
    omega
  | i + 1 => by
    have ih := encTo_length h hl i
    cases hs : sp[i]? with
    | none =>
      have : encTo sp (i + 1) = encTo sp i := by
        unfold encTo
        rw [List.take_add_one, hs]
        simp
      rw [this]
      exact Nat.le_trans ih (Nat.add_le_add_left (Nat.mul_le_mul_right _ (Nat.le_succ i)) 10)
    | some s =>
      obtain ⟨h1, h2, h3⟩ := h s (List.mem_of_getElem? hs)
      have hk := encS_length h1 h2 h3
      rw [encTo_succ hs]
      unfold encS at hk
      simp only [List.length_append] at hk ⊢
      omega

theorem encTo_all (sp : List Span) : encTo sp sp.length = indexL sp := by
  unfold encTo indexL
  rw [List.take_of_length_le (Nat.le_refl _)]

def EncRel (w : World) (sp : List Span) (bv iv : Value) (wr : World) : Prop :=
  ∃ i : Nat, iv = .int .i64 (i : Int) ∧ i ≤ sp.length ∧ Fresh w.heap.size wr 5 1 bv (encTo sp i).length (bcells (encTo sp i)) ∧ Below w.heap.size w wr

theorem keep_block {w w' : World} {v v' : Value} {q : Nat} {o : Obj} (g : w.grownBy w' v.ownBlock) (m : Moves w v v') (hq : w.heap[q]? = some o) (hne : v.ownBlock ≠ some q) : w'.heap[q]? = some o ∧ v'.ownBlock ≠ some q :=
  ⟨(g.block q (Array.getElem?_eq_some_iff.1 hq).1 (fun h => hne h.symm)).trans hq, m q (Array.getElem?_eq_some_iff.1 hq).1 hne⟩

theorem own_old {w : World} {n : Nat} {v : Value} {l : List UInt8} (h : Reads w 1 v n (bcells l)) (h0 : 0 < n) : v.ownBlock ≠ some w.heap.size := by
  obtain ⟨b, off, cap, rfl, _, _, _, hc⟩ := h.head h0
  have : b < w.heap.size := World.block_lt_of_cell? _ _ (hc 0 h0)
  simp [Value.ownBlock]
  omega

theorem encTo_pos (sp : List Span) (i : Nat) : 0 < (encTo sp i).length := by
  have := enc_pos sp.length
  unfold encTo
  rw [List.length_append]
  omega

theorem nil_reads (w : World) : Reads w 1 (.slice none 0 0) ([] : List UInt8).length (bcells []) := ⟨by simp [bcells], none, 0, rfl, Nat.le_refl _, Nat.zero_le _, fun j u hj => by simp [bcells] at hj⟩

set_option maxRecDepth 100000 in
set_option maxHeartbeats 4000000 in
theorem encode_any (w : World) (g : Nat) (sp : List Span) (h : IdxAt w g sp) (hsm : SmallS sp) (hl : sp.length ≤ 60000) :
    Calls Tryd.prog 29 #[.pointer (some ⟨g, 0, none⟩)] w (GivesBytes w (indexL sp)) := by
  obtain ⟨i0, hi, hz0, hz1, hz2⟩ := info_parts info5
  obtain ⟨a, cap, hg, hr⟩ := h
  have HR := Lib.hid hr
  have HG := Lib.hid hg
  have HSm := Lib.hid hsm
  have c0 := Lib.cell_of_heap hg 0
  simp at c0
  have hglt : g < w.heap.size := (Array.getElem?_eq_some_iff.1 hg).1
  have hnil : Reads w 1 (.slice none 0 0) ([] : List UInt8).length (bcells []) := ⟨by simp [bcells], none, 0, rfl, Nat.le_refl _, Nat.zero_le _, fun j u hj => by simp [bcells] at hj⟩
  obtain ⟨n, hn⟩ : ∃ n, sp.length = n := ⟨_, rfl⟩
  rw [hn] at c0 HR hl
  have HN := Lib.hid hn
  have HP := Lib.hid (put_any w (.slice none 0 0) [] n hnil (by simp) (by omega))
  clear hr hg hsm hnil hn
  go_enter Tryd.func29, Tryd.ntmps29
  go_wp2_with (go_at_call 54; go_must (refine HP.out.mono ?_))
  rintro e w1 ⟨v1, rfl, f1, b1⟩
  rw [List.nil_append] at f1
  have d0 := below_block b1 HG.out hglt
  have k0 := Lib.cell_of_heap d0 0
  simp at k0
  rw [HN.out] at k0
  have hglt1 : g < w1.heap.size := (Array.getElem?_eq_some_iff.1 d0).1
  have HF1 : Hid (Fresh w.heap.size w1 5 1 v1 (encTo sp 0).length (bcells (encTo sp 0))) := Lib.hid (by
    unfold encTo
    rw [List.take_zero, List.flatMap_nil, List.append_nil, HN.out]
    exact f1)
  have HB1 := Lib.hid b1
  clear f1 b1 d0 HP c0
  go_wp2
  go_loopw [3, 18] (fun bv iv wr => EncRel w sp bv iv wr) (fun _ iv _ => n - (intOf iv).toNat)
  case atStart => exact ⟨0, rfl, Nat.zero_le _, HF1.out, HB1.out⟩
  case round =>
    obtain ⟨i, rfl, hin, hf, hb⟩ := hrel
    rw [HN.out] at hin
    have hel := encTo_length HSm.out (by rw [HN.out]; exact hl) i
    have HF := Lib.hid hf
    have HB := Lib.hid hb
    by_cases hlt : i < n
    · have hltI : (i : Int) < n := by omega
      obtain ⟨s, hs⟩ : ∃ s, sp[i]? = some s := ⟨_, List.getElem?_eq_getElem (by rw [HN.out]; exact hlt)⟩
      obtain ⟨bb, off, rfl, hbb, s0, s1, s2⟩ := (HR.out.below' hb).span hs
      obtain ⟨m1, m2, m3⟩ := HSm.out s (List.mem_of_getElem? hs)
      have hen := encTo_succ hs
      have HEn := Lib.hid hen
      obtain ⟨sf, sa, sl⟩ := s
      simp only at s0 s1 s2 m1 m2 m3 hen HEn
      have hpos := encTo_pos sp i
      have hold := own_old hf.1 hpos
      generalize encTo sp i = E at *
      obtain ⟨ea, ecap, rfl, hec1, hec2⟩ := hf.1.le
      have hq0 : (wr.alloc (Obj.cells #[Value.string sf, Value.int IntKind.i64 (sa : Int), Value.int IntKind.i64 (sl : Int)] 67)).heap[wr.heap.size]? = some (Obj.cells #[Value.string sf, Value.int IntKind.i64 (sa : Int), Value.int IntKind.i64 (sl : Int)] 67) := heap_alloc_new _ _
      have hf0 := hf.alloc (Obj.cells #[Value.string sf, Value.int IntKind.i64 (sa : Int), Value.int IntKind.i64 (sl : Int)] 67)
      have hb0 := hb.alloc hb.size (Obj.cells #[Value.string sf, Value.int IntKind.i64 (sa : Int), Value.int IntKind.i64 (sl : Int)] 67)
      have HQ0 := Lib.hid hq0
      have HF0 := Lib.hid hf0
      have HB0 := Lib.hid hb0
      have HOld := Lib.hid hold
      obtain ⟨q, hq⟩ : ∃ q, wr.heap.size = q := ⟨_, rfl⟩
      rw [hq] at HQ0 HOld
      have Hq := Lib.hid hq
      clear hf hb hs hen hq0 hf0 hb0 HF HB hold
      go_upto_region 5 with fail
      clear hq
      have q0 := Lib.cell_of_heap HQ0.out 0
      have q1 := Lib.cell_of_heap HQ0.out 1
      have q2 := Lib.cell_of_heap HQ0.out 2
      simp at q0 q1 q2
      generalize wr.alloc (Obj.cells #[Value.string sf, Value.int IntKind.i64 (sa : Int), Value.int IntKind.i64 (sl : Int)] 67) = W0 at *
      have HPT := Lib.hid (puttext_any W0 (.slice none 0 0) [] sf (nil_reads W0) (by simp) (by omega))
      clear s0 s1 s2
      go_wp2_with (go_at_call 55; go_must (refine HPT.out.mono ?_))
      rintro e W1 ⟨v2, rfl, f2, b2⟩
      rw [List.nil_append] at f2
      have he2 := enc_length_le 9 sf.size (by omega)
      have hY : (enc sf.size ++ sf.data.toList).length ≤ 60010 := by
        have h9 : sf.data.toList.length = sf.size := Array.length_toList
        rw [List.length_append]
        omega
      have hsrc2 := f2.1.src (P := Tryd.prog) (tx := 24) Tryd.underlying24 (bcells_one _)
      have HS2 := Lib.hid hsrc2
      have HF1b := Lib.hid (fresh_after HF0.out b2)
      have HQ1 := Lib.hid (below_block b2 HQ0.out (Array.getElem?_eq_some_iff.1 HQ0.out).1)
      have HB1b := Lib.hid (HB0.out.trans (b2.mono HB0.out.size))
      have hle1 := HB1b.out.size
      generalize enc sf.size ++ sf.data.toList = Y at *
      clear f2 b2 hsrc2 HPT HF0 HB0 HQ0 he2 q0 q1 q2
      go_wp2_with (at_builtin; go_must (refine wpList_append_fresh rfl _ _ 24 24 rfl w.heap.size 5 i0 (.int .u8 0) 1 1 Tryd.underlying24 hi hz0 hz1 hz2 rfl _ _ _ rfl HF1b.out _ _ _ rfl HS2.out ?_ ?_ hle1 ?_))
      · unfold maxLen; omega
      · omega
      intro v3 W2 f3 g3 b3 m3
      obtain ⟨kq, ko⟩ := keep_block g3 m3 HQ1.out HOld.out
      rw [← bcells_append, ← List.length_append] at f3
      have hl2 : (E ++ Y).length ≤ 60020 + i * 60030 := by rw [List.length_append]; omega
      have HF2 := Lib.hid f3
      have HQ2 := Lib.hid kq
      have HO2 := Lib.hid ko
      have HB2 := Lib.hid (HB1b.out.trans b3)
      clear f3 g3 b3 m3 kq ko HF1b HQ1 HOld HB1b HS2 hle1
      generalize E ++ Y = E2 at *
      have q1 := Lib.cell_of_heap HQ2.out 1
      have q2 := Lib.cell_of_heap HQ2.out 2
      simp at q1 q2
      have hqlt := (Array.getElem?_eq_some_iff.1 HQ2.out).1
      have HP2 := Lib.hid (put_any W2 (.slice none 0 0) [] sa (nil_reads W2) (by simp) (by omega))
      go_wp2_with (go_at_call 54; go_must (refine HP2.out.mono ?_))
      rintro e W3 ⟨v4, rfl, f4, b4⟩
      rw [List.nil_append] at f4
      have he4 := enc_length_le 9 sa (by omega)
      have hsrc4 := f4.1.src (P := Tryd.prog) (tx := 24) Tryd.underlying24 (bcells_one _)
      have HS4 := Lib.hid hsrc4
      have HF3 := Lib.hid (fresh_after HF2.out b4)
      have HQ3 := Lib.hid (below_block b4 HQ2.out hqlt)
      have HB3 := Lib.hid (HB2.out.trans (b4.mono HB2.out.size))
      have hle3 := HB3.out.size
      generalize enc sa = Y3 at *
      clear f4 b4 hsrc4 HP2 HF2 HB2 HQ2 q1 q2 hqlt
      go_wp2_with (at_builtin; go_must (refine wpList_append_fresh rfl _ _ 24 24 rfl w.heap.size 5 i0 (.int .u8 0) 1 1 Tryd.underlying24 hi hz0 hz1 hz2 rfl _ _ _ rfl HF3.out _ _ _ rfl HS4.out ?_ ?_ hle3 ?_))
      · unfold maxLen; omega
      · omega
      intro v5 W4 f5 g5 b5 m5
      obtain ⟨kq, ko⟩ := keep_block g5 m5 HQ3.out HO2.out
      rw [← bcells_append, ← List.length_append] at f5
      have hl4 : (E2 ++ Y3).length ≤ 60030 + i * 60030 := by rw [List.length_append]; omega
      have HF4 := Lib.hid f5
      have HQ4 := Lib.hid kq
      have HB4 := Lib.hid (HB3.out.trans b5)
      clear f5 g5 b5 m5 kq ko HF3 HQ3 HO2 HB3 HS4 hle3
      generalize E2 ++ Y3 = E4 at *
      have q2 := Lib.cell_of_heap HQ4.out 2
      simp at q2
      have hqlt := (Array.getElem?_eq_some_iff.1 HQ4.out).1
      have HP4 := Lib.hid (put_any W4 (.slice none 0 0) [] sl (nil_reads W4) (by simp) (by omega))
      go_wp2_with (go_at_call 54; go_must (refine HP4.out.mono ?_))
      rintro e W5 ⟨v6, rfl, f6, b6⟩
      rw [List.nil_append] at f6
      have he6 := enc_length_le 9 sl (by omega)
      have hsrc6 := f6.1.src (P := Tryd.prog) (tx := 24) Tryd.underlying24 (bcells_one _)
      have HS6 := Lib.hid hsrc6
      have HF5 := Lib.hid (fresh_after HF4.out b6)
      have HB5 := Lib.hid (HB4.out.trans (b6.mono HB4.out.size))
      have hle5 := HB5.out.size
      generalize enc sl = Y5 at *
      clear f6 b6 hsrc6 HP4 HF4 HB4 HQ4 q2 hqlt
      go_wp2_with (at_builtin; go_must (refine wpList_append_fresh rfl _ _ 24 24 rfl w.heap.size 5 i0 (.int .u8 0) 1 1 Tryd.underlying24 hi hz0 hz1 hz2 rfl _ _ _ rfl HF5.out _ _ _ rfl HS6.out ?_ ?_ hle5 ?_))
      · unfold maxLen; omega
      · omega
      intro v7 W6 f7 g7 b7 m7
      rw [← bcells_append, ← List.length_append, ← HEn.out] at f7
      have HF6 := Lib.hid f7
      have HB6 := Lib.hid (HB5.out.trans b7)
      clear f7 g7 b7 m7 HF5 HB5 HS6 hle5 HEn
      go_wp2
      exact ⟨⟨i + 1, by go_num, by rw [HN.out]; omega, HF6.out, HB6.out⟩, by simp [intOf]; omega⟩
    · obtain rfl : i = n := by omega
      have hltI : ¬ (i : Int) < i := by omega
      have hen : encTo sp i = indexL sp := by rw [← encTo_all, HN.out]
      have hf2 := HF.out
      rw [hen] at hf2
      have HF2 := Lib.hid hf2
      clear hf hb HF hf2 hen
      go_wp2
      go_ret
      exact ⟨_, rfl, HF2.out, HB.out⟩
end Go.Proofs.YtfhdonidgegebaaDoor

namespace Go.Proofs.YtfhdonidgegebaaDoor
open Go Go.RowKit

theorem hash_step (h : Nat) (c : UInt8) (hh : h < 18446744073709551616) :
    IntKind.u64.wrap (bits BinOp.xor .u64 (h : Int) (IntKind.u64.wrap (c.toNat : Int)) * 1099511628211) = (hashStep h c : Int) := by
  have hc := c.toNat_lt
  rw [show IntKind.u64.wrap (c.toNat : Int) = (c.toNat : Int) from by rw [IntKind.wrap_u64]; omega]
  rw [bits_xor_u64_nat h c.toNat hh (by omega), IntKind.wrap_u64, hashStep]
  simp

theorem take_succ_getD (l : List UInt8) (k : Nat) (h : k < l.length) : l.take (k + 1) = l.take k ++ [l.getD k 0] := by
  rw [List.take_add_one, List.getElem?_eq_getElem h]; simp [List.getD, h]

theorem hashL_succ (l : List UInt8) (k : Nat) (h : k < l.length) : hashL (l.take (k + 1)) = hashStep (hashL (l.take k)) (l.getD k 0) := by
  unfold hashL
  rw [take_succ_getD l k h, List.foldl_append, List.foldl_cons, List.foldl_nil]

def HashRel (l : List UInt8) (h i : Value) : Prop := ∃ k : Nat, i = .int .i64 (k : Int) ∧ k ≤ l.length ∧ h = .int .u64 (hashL (l.take k) : Int)

set_option maxRecDepth 100000 in
set_option maxHeartbeats 400000 in
theorem hash_any (w : World) (s : ByteArray) (hs : s.size ≤ 1000000000) :
    Calls Tryd.prog 80 #[.string s] w (GivesU64 w (hashL s.data.toList)) := by
  have hsl : s.data.toList.length = s.size := Array.length_toList
  have Hsl := Lib.hid hsl
  clear hsl
  go_enter Tryd.func80, Tryd.ntmps80
  go_wp2_with (refine wpList_bytes rfl _ 9 24 5 rfl Tryd.underlying9 Tryd.underlying24 Tryd.underlying5 s rfl ?_ ?_)
  · unfold maxLen; omega
  intro cap w1 r1 g1 b1 lt1
  go_wp2
  go_loop [3, 9] (fun h i => HashRel s.data.toList h i) (fun _ i => s.size - (intOf i).toNat)
  case atStart => exact ⟨0, rfl, Nat.zero_le _, rfl⟩
  case round =>
    obtain ⟨k, rfl, hk, rfl⟩ := hrel
    rw [Hsl.out] at hk
    by_cases hlt : k < s.size
    · have hst := hash_step (hashL (s.data.toList.take k)) (s.data.toList.getD k 0) (hashL_lt _)
      rw [← hashL_succ _ k (by rw [Hsl.out]; exact hlt)] at hst
      have c1 := r1.bcell k hlt
      simp only [Nat.zero_add] at c1
      generalize s.data.toList.getD k 0 = c at c1 hst
      have Hst := Lib.hid hst
      clear hst
      go_wp2_with fail
      rw [Hst.out]
      exact ⟨⟨k + 1, by go_num, by rw [Hsl.out]; omega, rfl⟩, by simp [intOf]; omega⟩
    · have e : List.take k s.data.toList = s.data.toList := List.take_of_length_le (by rw [Hsl.out]; omega)
      have E := Lib.hid e
      clear e
      go_wp2
      go_ret
      rw [E.out]
      exact ⟨rfl, b1⟩
end Go.Proofs.YtfhdonidgegebaaDoor

namespace Go.Proofs.YtfhdonidgegebaaDoor
open Go Go.RowKit

theorem and_low (h : Nat) (hh : h < 18446744073709551616) : bits BinOp.and .u64 (h : Int) 4294967295 = (atOf h : Int) := by
  have := bits_and_u64_nat h 4294967295 hh (by decide)
  simp only [Int.cast_ofNat_Int] at this
  rw [this, show (4294967295 : Nat) = 2 ^ 32 - 1 from by decide, Nat.and_two_pow_sub_one_eq_mod]
  rfl

theorem or_one (h : Nat) (hh : h < 18446744073709551616) : bits BinOp.or .u64 ((h : Int) / 4294967296) 1 = (stepOf h : Int) := by
  have := bits_or_u64_nat (h / 4294967296) 1 (by omega) (by decide)
  simpa [stepOf] using this

def GivesWalk (w : World) (x y n : Nat) (e : Ending) (w' : World) : Prop :=
  e = .returned (.agg #[.int .u64 (x : Int), .int .u64 (y : Int), .int .u64 (n : Int)]) ∧ Below w.heap.size w w'

set_option maxRecDepth 100000 in
set_option maxHeartbeats 400000 in
theorem start_any (w : World) (s : ByteArray) (N : Int) (n : Nat) (hN : N = (n : Int)) (hs : s.size ≤ 1000000000) (hn : n ≤ 1000000000000) :
    Calls Tryd.prog 58 #[.string s, .int .i64 N] w (GivesWalk w (atOf (hashL s.data.toList)) (stepOf (hashL s.data.toList)) n) := by
  subst hN
  have hh := hashL_lt s.data.toList
  go_enter Tryd.func58, Tryd.ntmps58
  go_wp2_with (go_at_call 80; go_must (refine (hash_any _ s hs).mono ?_))
  rintro e w1 ⟨rfl, b1⟩
  have c0 := (entryBox (by simpa using b1)).1 0
  have c1 := (entryBox (by simpa using b1)).1 1
  have c2 := (entryBox (by simpa using b1)).1 2
  have f0 := (entryBox (by simpa using b1)).2 0
  have f1 := (entryBox (by simpa using b1)).2 1
  have f2 := (entryBox (by simpa using b1)).2 2
  simp at c0 c1 c2
  have e1 := and_low _ hh
  have e2 := or_one _ hh
  have hb : Below w.heap.size w w1 := ((Below.refl _ _).alloc (Nat.le_refl _) _).trans (b1.mono (by simp))
  have E1 := Lib.hid e1
  have E2 := Lib.hid e2
  have Hb := Lib.hid hb
  clear e1 e2 b1 hb
  generalize hashL s.data.toList = h at *
  go_wp2
  rw [E1.out, E2.out]
  refine bodyPost_ret (v := .agg #[.int .u64 (atOf h : Int), .int .u64 (stepOf h : Int), .int .u64 (n : Int)]) ?_ rfl ⟨rfl, ?_⟩
  · simp [results, Tryd.results58, go_sem, c0, c1, c2]
  · exact ((Hb.out.setCell (p := ⟨w.heap.size, 0, none⟩) (Nat.le_refl _) _).setCell (p := ⟨w.heap.size, 1, none⟩) (Nat.le_refl _) _).setCell (p := ⟨w.heap.size, 2, none⟩) (Nat.le_refl _) _

def NextPost (w : World) (g x y n : Nat) (e : Ending) (w' : World) : Prop :=
  e = .returned (.tuple #[.int .i64 ((x % n / 8 : Nat) : Int), .int .u8 ((2 ^ (x % n % 8) : Nat) : Int)]) ∧
    w'.heap[g]? = some (.cells #[.int .u64 ((x + y : Nat) : Int), .int .u64 (y : Int), .int .u64 (n : Int)] 100 (0, 0)) ∧ w.grownBy w' (some g)

set_option maxRecDepth 100000 in
set_option maxHeartbeats 400000 in
theorem next_any (w : World) (g x y n : Nat) (hb : w.heap[g]? = some (.cells #[.int .u64 (x : Int), .int .u64 (y : Int), .int .u64 (n : Int)] 100 (0, 0))) (hn : 0 < n) (hn' : n ≤ 1000000000000) (hxy : x + y < 18446744073709551616) :
    Calls Tryd.prog 59 #[.pointer (some ⟨g, 0, none⟩)] w (NextPost w g x y n) := by
  have c0 := Lib.cell_of_heap hb 0
  have c1 := Lib.cell_of_heap hb 1
  have c2 := Lib.cell_of_heap hb 2
  have hf := Lib.frozen_of_heap hb 0
  simp at c0 c1 c2
  have Hb := Lib.hid hb
  clear hb
  go_enter Tryd.func59, Tryd.ntmps59
  go_wp2_with fail
  go_quiet (fail)
  go_wp2
  go_region
  go_wp2
  refine bodyPost_ret (v := .tuple #[.int .i64 ((x % n / 8 : Nat) : Int), .int .u8 ((2 ^ (x % n % 8) : Nat) : Int)]) ?_ rfl ⟨rfl, ?_, ?_⟩
  · simp [results, Tryd.results59, go_sem]
    have hm : (0 : Int) ≤ (x : Int) % n := Int.emod_nonneg _ (by omega)
    have hl : (x : Int) % n < n := Int.emod_lt_of_pos _ (by omega)
    refine ⟨?_, ?_⟩
    · rw [Int.tdiv_eq_ediv_of_nonneg hm, IntKind.wrap_u64]
      generalize (x : Int) % n = q at *
      unfold wrap64; omega
    · have h2 : 2 ^ (x % n % 8) < 2 ^ 8 := Nat.pow_lt_pow_right (by decide) (Nat.mod_lt _ (by decide))
      have h3 : 2 ^ (x % n % 8) % 256 = 2 ^ (x % n % 8) := Nat.mod_eq_of_lt (by simpa using h2)
      exact_mod_cast h3
  · rw [heap_setCell_same _ g 0 _ _ _ (show (w.drewN (nq + 1)).heap[g]? = _ from Hb.out)]
    simp
  · exact ⟨rfl, rfl, rfl, by simp, fun k _ hk => heap_setCell_other _ ⟨g, 0, none⟩ k _ (fun e => hk (by simp [e]))⟩
end Go.Proofs.YtfhdonidgegebaaDoor
