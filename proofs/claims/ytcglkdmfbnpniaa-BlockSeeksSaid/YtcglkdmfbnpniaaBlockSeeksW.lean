/- The law BlockSeeks' walk. -/
import Derived.Test.YtcglkdmfbnpniaaBlockSeekN
import Derived.Test.YtcglkdmfbnpniaaBlockFew
namespace Go.Proofs.Ytcglkdmfbnpniaa
open Go Go.RowKit

theorem buildL_small {ks : List ByteArray} (hs : ∀ x ∈ ks, x.size ≤ 4000) (hn : ks.length ≤ 4000) : (buildL ks).length ≤ 20000000 := by
  have h1 := bodyTo_length hs ks.length
  have h2 := placesTo_length ks ks.length
  unfold buildL
  rw [List.length_append, List.length_append]
  simp only [be4, List.length_cons, List.length_nil]
  omega

def SeekOk (w : World) (o : Option ByteArray) (e : Ending) (w' : World) : Prop := e = .returned (tellV (secR o)) ∧ Below w.heap.size w w'

theorem seekb_any (w : World) (B : Nat) (v : Value) (ks : List ByteArray) (key : ByteArray) (ho : w.ownsRow B 5 1 v (buildL ks).length (bcells (buildL ks))) (hr : rises ks) (hs : ∀ x ∈ ks, x.size ≤ 4000) (hn : ks.length ≤ 4000) (hk : key.size ≤ 4000) :
    Calls Try.prog 15 #[v, .string key] w (SeekOk w (sk11 ks key false)) := by
  refine (seek_any w v (buildL ks) key (own_sl ho) (by have := buildL_small hs hn; omega) (by omega)).mono fun e w' hp => ?_
  obtain ⟨b, hm⟩ := hp
  rw [parts_build hn] at hm
  simp only at hm
  have hl := placesTo_length ks ks.length
  by_cases h0 : ks.length = 0
  · rw [if_pos (by omega)] at hm
    obtain rfl := List.eq_nil_of_length_eq_zero h0
    exact ⟨hm, b⟩
  · rw [if_neg (by omega)] at hm
    obtain ⟨i, hf, rfl⟩ := hm
    rw [seek_block hr hs hn (by omega) key hf]
    exact ⟨rfl, b⟩

theorem tell_some (x : ByteArray) : tellV (secR (some x)) = .tuple #[.string x, .bool true, .int .i64 0] := by
  simp [tellV, secR]

theorem tell_none : tellV (secR none) = .tuple #[.string ⟨#[]⟩, .bool false, .int .i64 0] := rfl

def SeeksRel (w : World) (n : Nat) (iv : Value) (wr : World) : Prop := ∃ k : Nat, iv = .int .i64 (k : Int) ∧ k ≤ n ∧ Below w.heap.size w wr

set_option maxRecDepth 100000 in
set_option maxHeartbeats 4000000 in
theorem blockSeeks_walk (w : World) (a a2 : Option Addr) (n cap n2 cap2 : Nat) (l m : List ByteArray) (h : Reads w 1 (.slice a n cap) n (scells l)) (h2 : Reads w 1 (.slice a2 n2 cap2) n2 (scells m)) :
    Calls Try.prog 5 #[.slice a n cap, .slice a2 n2 cap2] w (SaysTrue w) := by
  obtain ⟨i0, hi, hz0, hz1, hz2⟩ := info_parts info9
  have hll : l.length = n := by have := h.1; rw [scells_length] at this; omega
  have hml : m.length = n2 := by have := h2.1; rw [scells_length] at this; omega
  have HF := Lib.hid (fixed_any w)
  have HR := Lib.hid h
  have HR2 := Lib.hid h2
  have HLL := Lib.hid hll
  have HML := Lib.hid hml
  obtain ⟨_, _, hv, hc1, hc2⟩ := h.le
  cases hv
  obtain ⟨_, _, hv, hd1, hd2⟩ := h2.le
  cases hv
  unfold maxLen at hc2 hd2
  clear h h2 hll hml
  go_enter Try.func5, Try.ntmps5
  go_wp2_with (go_at_call 7; go_must (refine HF.out.mono ?_))
  rintro e w1 ⟨rfl, b1⟩
  have HB := Lib.hid b1
  have HR1 := Lib.hid (HR.out.below' b1)
  have HR3 := Lib.hid (HR2.out.below' b1)
  clear b1 HF HR HR2
  have HFw := Lib.hid (few13_any w1 _ _ _ _ HR1.out)
  have HFx := Lib.hid (few13_any w1 _ _ _ _ HR3.out)
  cases hfew : few13 l with
  | false =>
    rw [hfew] at HFw
    go_wp2_with (go_at_call 8; go_must (refine HFw.out.mono ?_))
    rintro e w2 ⟨rfl, rfl⟩
    go_wp2
    go_ret
    exact ⟨rfl, HB.out⟩
  | true =>
    rw [hfew] at HFw
    cases hfew2 : few13 m with
    | false =>
      rw [hfew2] at HFx
      go_wp2_with (go_at_call 8; go_must (refine HFw.out.mono ?_))
      rintro e w2 ⟨rfl, rfl⟩
      go_wp2_with (go_at_call 8; go_must (refine HFx.out.mono ?_))
      rintro e w3 ⟨rfl, rfl⟩
      go_wp2
      go_ret
      exact ⟨rfl, HB.out⟩
    | true =>
      rw [hfew2] at HFx
      obtain ⟨hs1, hn1⟩ := few13_low hfew
      obtain ⟨hs2, hn2⟩ := few13_low hfew2
      rw [HLL.out] at hn1
      rw [HML.out] at hn2
      obtain ⟨hsr, hsm, hsl⟩ := sortK_ok l
      rw [HLL.out] at hsl
      have HSo := Lib.hid (sorted_any w1 _ _ _ _ HR1.out (by omega))
      obtain ⟨ks, hke⟩ : ∃ ks, sortK l = ks := ⟨_, rfl⟩
      rw [hke] at hsr hsm hsl
      have HKe := Lib.hid hke
      clear hke
      go_wp2_with (go_at_call 8; go_must (refine HFw.out.mono ?_))
      rintro e w2 ⟨rfl, rfl⟩
      go_wp2_with (go_at_call 8; go_must (refine HFx.out.mono ?_))
      rintro e w3 ⟨rfl, rfl⟩
      go_wp2_with (go_at_call 9; go_must (refine HSo.out.mono ?_))
      rintro e w4 ⟨v4, rfl, o4, b4⟩
      rw [HKe.out] at o4
      have hks3 : ∀ x ∈ ks, x.size ≤ 300 := fun x hx => hs1 x (hsm x hx)
      have hks : ∀ x ∈ ks, x.size ≤ 4000 := fun x hx => by have := hks3 x hx; omega
      obtain ⟨va, vcap, rfl, _, _⟩ := (ownsRow.reads o4).le
      have HBu := Lib.hid (build_any w4 va _ vcap ks (ownsRow.reads o4) (by omega) hks)
      have HO4 := Lib.hid o4
      have HB4 := Lib.hid (HB.out.trans (b4.mono HB.out.size))
      have HR4 := Lib.hid (HR3.out.below' b4)
      have HK := Lib.hid hks
      have HK3 := Lib.hid hks3
      have HM3 := Lib.hid hs2
      have HRi := Lib.hid hsr
      clear o4 b4 hks hks3 hs1 hs2 hsr hsm HSo HB HR1 HR3 HFw HFx hfew hfew2
      go_wp2_with (go_at_call 10; go_must (refine HBu.out.mono ?_))
      rintro e w5 hp
      rcases hp with ⟨_, v5, rfl, o5, b5⟩ | ⟨hno, _⟩
      case inr => exact absurd HRi.out hno
      have hks4 : (buildL ks).length ≤ 20000000 := buildL_small HK.out (by omega)
      have HSk := Lib.hid (fun W b key hk => seekb_any W w4.heap.size v5 ks key b HRi.out HK.out (by omega) hk)
      have HO5 := Lib.hid o5
      have o45 := owns_below HO4.out b5
      have r5 := HR4.out.below' b5
      have HB5 := Lib.hid (HB4.out.trans (b5.mono HB4.out.size))
      generalize buildL ks = bl5 at *
      obtain ⟨vb, vbcap, rfl, _, _⟩ := (ownsRow.reads o5).le
      have hsrc := Reads.src (P := Try.prog) (tx := 22) Try.underlying22 (r5.alloc (.cells #[] 9)) (scells_one m)
      have hf0 : (w5.alloc (.cells #[] 9)).ownsRow w5.heap.size 9 1 (.slice (some ⟨w5.heap.size, 0, none⟩) 0 0) 0 [] := World.ownsRow_lit w5 #[] 0 (Nat.le_refl _) (Nat.zero_le _) rfl
      have HO45 := Lib.hid o45
      clear o5 b5 o45 r5 HBu HO4 HB4 HR4
      go_wp2_with (at_builtin; go_must (refine wpList_append_owns rfl _ _ 22 22 rfl w5.heap.size 9 i0 (.string ⟨#[]⟩) 1 16 Try.underlying22 hi hz0 hz1 hz2 rfl _ _ _ rfl hf0 _ _ _ rfl hsrc ?_ ?_ ?_ ?_))
      · unfold maxLen; omega
      · omega
      · simp
      intro v6 w6 o6 g6 b6 m6
      have b56 : Below w5.heap.size w5 w6 := ((Below.refl _ _).alloc (Nat.le_refl _) _).trans b6
      have o6' : w6.ownsRow w5.heap.size 9 1 v6 n2 (scells m) := by simpa using o6
      have hsrc2 := Reads.src (P := Try.prog) (tx := 22) Try.underlying22 ((ownsRow.reads HO45.out).below' b56) (scells_one ks)
      have HB56 := Lib.hid b56
      have hle6 := b56.size
      clear hsrc hf0 o6 g6 b6 m6 b56
      go_wp2_with (at_builtin; go_must (refine wpList_append_owns rfl _ _ 22 22 rfl w5.heap.size 9 i0 (.string ⟨#[]⟩) 1 16 Try.underlying22 hi hz0 hz1 hz2 rfl _ _ _ rfl o6' _ _ _ rfl hsrc2 ?_ ?_ ?_ ?_))
      · unfold maxLen; omega
      · omega
      · exact hle6
      intro v7 w7 o7 g7 b7 m7
      have b57 := HB56.out.trans b7
      have r7 := ownsRow.reads o7
      have HO57 := Lib.hid (owns_below HO5.out b57)
      have HK7 := Lib.hid ((ownsRow.reads HO45.out).below' b57)
      have HB7 := Lib.hid (HB5.out.trans (b57.mono HB5.out.size))
      rw [← scells_append] at r7
      have HR7 := Lib.hid r7
      obtain ⟨vd, vdcap, rfl, _, _⟩ := r7.le
      clear o7 r7 g7 b7 m7 b57 hsrc2 o6' HB56 HO5 HO45 HB5 hle6
      have hall : ∀ x ∈ m ++ ks, x.size ≤ 300 := fun x hx => by
        rcases List.mem_append.1 hx with hx | hx
        · exact HM3.out x hx
        · exact HK3.out x hx
      have HAll := Lib.hid hall
      have htl : (m ++ ks).length = n2 + ks.length := by rw [List.length_append, HML.out]
      have HTL := Lib.hid htl
      clear hall htl
      generalize m ++ ks = al at *
      obtain ⟨N, hN⟩ : ∃ N, n2 + ks.length = N := ⟨_, rfl⟩
      have hN4 : N ≤ 400 := by omega
      rw [hN] at HR7 HTL ⊢
      have HSq := Lib.hid (fun W key hr => seek11_any W va ks.length vcap ks key false hr)
      clear hN
      go_wp2
      go_loopw [39] (fun iv wr => SeeksRel w7 N iv wr) (fun iv _ => N - (intOf iv).toNat)
      case atStart => exact ⟨0, rfl, Nat.zero_le _, Below.refl _ _⟩
      case round =>
        obtain ⟨k, rfl, hk, hb⟩ := hrel
        by_cases hlt : k < N
        · have hkI : (k : Int) < N := by omega
          obtain ⟨b, off, x, hv, hx, hbk, hc⟩ := (HR7.out.below' hb).scell k hlt
          cases hv
          have hx3 := HAll.out x (List.mem_of_getElem? hx)
          have HS := Lib.hid (HSk.out wr (owns_below HO57.out hb) x (by omega))
          have HQ := Lib.hid (fun W b => HSq.out W x (HK7.out.below' b))
          have HBr := Lib.hid hb
          have e3 : (x.toList == x.toList) = true := by simp
          obtain ⟨o, ho⟩ : ∃ o, sk11 ks x false = o := ⟨_, rfl⟩
          rw [ho] at HS
          have HO := Lib.hid ho
          clear hx hb ho
          go_wp2_with (go_at_call 15; go_must (refine HS.out.mono ?_))
          rintro e w8 ⟨rfl, b8⟩
          have HB8 := Lib.hid (HBr.out.trans (b8.mono HBr.out.size))
          have HQ8 := HQ.out w8 HB8.out
          rw [HO.out] at HQ8
          have HQ9 := Lib.hid HQ8
          clear b8 HQ8 HBr
          cases o with
          | none =>
            rw [tell_none]
            go_wp2_with (go_at_call 17; go_must (refine HQ9.out.mono ?_))
            rintro e w9 ⟨rfl, rfl⟩
            unfold sk11V
            go_wp2
            exact ⟨⟨k + 1, by go_num, by omega, HB8.out⟩, by simp [intOf]; omega⟩
          | some y =>
            rw [tell_some]
            have e4 : (y.toList == y.toList) = true := by simp
            go_wp2_with (go_at_call 17; go_must (refine HQ9.out.mono ?_))
            rintro e w9 ⟨rfl, rfl⟩
            unfold sk11V
            go_wp2
            exact ⟨⟨k + 1, by go_num, by omega, HB8.out⟩, by simp [intOf]; omega⟩
        · obtain rfl : k = N := by omega
          have hkI : ¬ ((k : Int) < k) := by omega
          have HBr := Lib.hid (HB7.out.trans (hb.mono HB7.out.size))
          clear hb
          go_wp2
          go_ret
          exact ⟨rfl, HBr.out⟩
end Go.Proofs.Ytcglkdmfbnpniaa
