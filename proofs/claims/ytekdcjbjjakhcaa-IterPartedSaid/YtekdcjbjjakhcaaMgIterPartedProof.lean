/- IterParted: whatever the input, the law says true, and its arguments read as they did. -/
import Derived.Test.YtekdcjbjjakhcaaMg11
import Derived.Test.YtekdcjbjjakhcaaRows
import Derived.ProofKit
import Derived.OpenShut
import Derived.ShutString
import Derived.ChangeOld
import Derived.Lib.SmallJoins
/- In how many sources keys stand counts for nothing. -/
namespace Go.Proofs.Ytekdcjbjjakhcaa
open Go Go.RowKit

theorem rises_same : ∀ {a b : List ByteArray}, rises a → rises b → (∀ x, x ∈ a ↔ x ∈ b) → a = b
  | [], [], _, _, _ => rfl
  | [], y :: t, _, _, h => by have := (h y).2 (by simp); cases this
  | x :: s, [], _, _, h => by have := (h x).1 (by simp); cases this
  | x :: s, y :: t, ha, hb, h => by
    have pa := List.pairwise_cons.1 ha
    have pb := List.pairwise_cons.1 hb
    have he : x = y := by
      by_cases he : x = y
      · exact he
      · have h1 := (h x).1 (by simp)
        have h2 := (h y).2 (by simp)
        rcases List.mem_cons.1 h1 with h1 | h1
        · exact h1
        · rcases List.mem_cons.1 h2 with h2 | h2
          · exact h2.symm
          · have := bl_asymm (pb.1 x h1)
            rw [pa.1 y h2] at this
            cases this
    subst he
    congr 1
    refine rises_same pa.2 pb.2 fun z => ⟨fun hz => ?_, fun hz => ?_⟩
    · rcases List.mem_cons.1 ((h z).1 (by simp [hz])) with rfl | hz'
      · have := pa.1 z hz
        rw [bl_irrefl] at this
        cases this
      · exact hz'
    · rcases List.mem_cons.1 ((h z).2 (by simp [hz])) with rfl | hz'
      · have := pb.1 z hz
        rw [bl_irrefl] at this
        cases this
      · exact hz'

theorem rowsL_mem (es : List Ent) (k : ByteArray) : k ∈ rowsL es ↔ ∃ x ∈ es, innB x = k := by
  have e : rowsL es = (es.map innB).foldl putK [] := by
    unfold rowsL
    rw [List.foldl_map]
  rw [e, (putAll_ok (es.map innB) [] rises_nil).2.1 k]
  simp

theorem parted (ls : List (List Ent)) : allK (([ls.flatten, [], ls.flatten] : List (List Ent)).map rowsL) = allK (ls.map rowsL) := by
  refine rises_same (allK_ok _).1 (allK_ok _).1 fun k => ?_
  rw [(allK_ok _).2.1 k, (allK_ok _).2.1 k]
  constructor
  · rintro ⟨l, hl, hk⟩
    have : k ∈ rowsL ls.flatten := by
      simp at hl
      rcases hl with rfl | rfl | rfl
      · exact hk
      · cases hk
      · exact hk
    obtain ⟨x, hx, rfl⟩ := (rowsL_mem _ _).1 this
    obtain ⟨es, hes, hxe⟩ := List.mem_flatten.1 hx
    exact ⟨rowsL es, List.mem_map.2 ⟨es, hes, rfl⟩, (rowsL_mem _ _).2 ⟨x, hxe, rfl⟩⟩
  · rintro ⟨l, hl, hk⟩
    obtain ⟨es, hes, rfl⟩ := List.mem_map.1 hl
    obtain ⟨x, hx, rfl⟩ := (rowsL_mem _ _).1 hk
    exact ⟨rowsL ls.flatten, by simp, (rowsL_mem _ _).2 ⟨x, List.mem_flatten.2 ⟨es, hes, hx⟩, rfl⟩⟩

theorem flat_sum (ls : List (List Ent)) : ls.flatten.length = sumL ls := by
  rw [List.length_flatten]
  rfl

theorem parted_low {ls : List (List Ent)} (h : LowE ls) (hs : sumL ls ≤ 150) : LowE [ls.flatten, [], ls.flatten] := by
  have hf : ls.flatten.length ≤ 150 ∧ ∀ x ∈ ls.flatten, x.key.size ≤ 100 ∧ x.rev < 18446744073709551616 := ⟨by rw [flat_sum]; exact hs, fun x hx => by
    obtain ⟨es, hes, hxe⟩ := List.mem_flatten.1 hx
    exact (h es hes).2 x hxe⟩
  intro l hl
  simp at hl
  rcases hl with rfl | rfl | rfl
  · exact hf
  · exact ⟨by simp, fun x hx => by cases hx⟩
  · exact hf

theorem Told.parted {ls : List (List Ent)} {xs : List KE} (h : Told ((ls.map rowsL).map some) xs) (hall : allK (ls.map rowsL) = xs.map (·.1)) (hl : LowE [ls.flatten, [], ls.flatten]) :
    Told ((([ls.flatten, [], ls.flatten] : List (List Ent)).map rowsL).map some) xs := by
  obtain ⟨ys, hy, _, _⟩ := told_rows hl
  refine ⟨hy.ok, h.rows, ?_⟩
  rw [rowsOf_all, Go.Proofs.Ytekdcjbjjakhcaa.parted]
  exact hall

theorem Told.none {srcs : List (Option (List ByteArray))} {xs : List KE} (h : Told srcs xs) : Told (srcs ++ [Option.none]) xs := by
  refine ⟨fun l hl => h.ok l ?_, h.rows, ?_⟩
  · simpa using hl
  · have : rowsOf (srcs ++ [Option.none]) = rowsOf srcs := by unfold rowsOf; simp
    rw [this]
    exact h.all

theorem srcs_none {w w' : World} {ls : List (List ByteArray)} {n : Nat} {ov : Value} {vs : List Value} (hl : ls.length = n) (hf : Faces w ls vs) {B : Nat} (ho : w'.ownsRow B 85 1 ov (n + 1) (vs ++ [.nilIface])) (hb : Below w.heap.size w w') : Srcs w' ov (n + 1) (ls.map some ++ [Option.none]) := by
  obtain ⟨a, cap, rfl, h1, h2⟩ := (ownsRow.reads ho).le
  have hvl : vs.length = ls.length := hf.1
  refine ⟨a, cap, rfl, h1, h2, by simp [hl], fun i r hi => ?_⟩
  by_cases hlt : i < ls.length
  · rw [List.getElem?_append_left (by simpa using hlt), List.getElem?_map] at hi
    obtain ⟨l, hl', rfl⟩ := Option.map_eq_some_iff.1 hi
    obtain ⟨sa, scap, hv, hr⟩ := hf.2 i l hl'
    obtain ⟨g, off, ha, hg, hc⟩ := (ownsRow.reads ho).at (show (vs ++ [Value.nilIface])[i]? = some _ by rw [List.getElem?_append_left (by omega)]; exact hv)
    exact ⟨g, off, ha, hg, sa, scap, hc, hr.below' hb⟩
  · have hi' : i = ls.length := by
      have := (List.getElem?_eq_some_iff.1 hi).1
      simp at this
      omega
    subst hi'
    rw [List.getElem?_append_right (by simp)] at hi
    simp at hi
    subst hi
    obtain ⟨g, off, ha, hg, hc⟩ := (ownsRow.reads ho).at (show (vs ++ [Value.nilIface])[ls.length]? = some .nilIface by rw [List.getElem?_append_right (by omega)]; simp [hvl])
    exact ⟨g, off, ha, hg, hc⟩

theorem ecells_one (es : List Ent) : ∀ u ∈ ecells es, u.oneCell' = true := by
  intro u hu
  unfold ecells at hu
  obtain ⟨x, _, hx⟩ := List.mem_flatMap.1 hu
  simp [ecell] at hx
  rcases hx with rfl | rfl | rfl <;> rfl

theorem lit_see {w : World} {L : List Ent} {sa : Option Addr} {scap : Nat} (h : Reads w 3 (.slice sa L.length scap) L.length (ecells L)) (hl : LowE [L, [], L]) :
    ERows (w.alloc (.cells #[.slice sa L.length scap, .slice none 0 0, .slice sa L.length scap] 22)) (.slice (some ⟨w.heap.size, 0, none⟩) 3 3) 3 [L, [], L] := by
  have hb : Below w.heap.size w (w.alloc (.cells #[.slice sa L.length scap, .slice none 0 0, .slice sa L.length scap] 22)) := (Below.refl _ _).alloc (Nat.le_refl _) _
  obtain ⟨hl1, hl2⟩ := hl L (by simp)
  have hsz : L.length * 32 ≤ 140737488351232 := by omega
  have hks : ∀ x ∈ L, x.key.size ≤ maxLen := fun x hx => by have := (hl2 x hx).1; unfold maxLen; omega
  refine ⟨_, _, rfl, by decide, by unfold maxLen; decide, rfl, fun i l hi => ?_⟩
  match i, hi with
  | 0, hi =>
    simp at hi
    subst hi
    exact ⟨hsz, hks, w.heap.size, 0, sa, scap, rfl, by simp, by simp, h.below' hb⟩
  | 1, hi =>
    simp at hi
    subst hi
    exact ⟨by decide, fun x hx => by simp at hx, w.heap.size, 0, none, 0, rfl, by simp, by simp, ⟨rfl, _, _, rfl, by decide, by unfold maxLen; decide, fun j u hj => by simp [ecells] at hj⟩⟩
  | 2, hi =>
    simp at hi
    subst hi
    exact ⟨hsz, hks, w.heap.size, 0, sa, scap, rfl, by simp, by simp, h.below' hb⟩
end Go.Proofs.Ytekdcjbjjakhcaa

/- The law IterParted. -/
namespace Go.Proofs.Ytekdcjbjjakhcaa
open Go Go.RowKit

def PartRel (w2 : World) (ls : List (List Ent)) (av iv : Value) (wr : World) : Prop :=
  ∃ k : Nat, iv = .int .i64 (k : Int) ∧ k ≤ ls.length ∧ wr.ownsRow w2.heap.size 48 3 av (ls.take k).flatten.length (ecells (ls.take k).flatten) ∧ Below w2.heap.size w2 wr

theorem flat_snoc {ls : List (List Ent)} {k : Nat} {x : List Ent} (h : ls[k]? = some x) : (ls.take (k + 1)).flatten = (ls.take k).flatten ++ x := by
  rw [List.take_add_one, h]
  simp

theorem flat_take (ls : List (List Ent)) (k : Nat) : (ls.take k).flatten.length ≤ sumL ls := by
  rw [flat_sum]
  exact sumL_take ls k

theorem own_cat {w : World} {B m n : Nat} {v : Value} {l x : List Ent} (h : w.ownsRow B 48 3 v (m + n) (ecells l ++ ecells x)) (hm : l.length = m) (hn : x.length = n) : w.ownsRow B 48 3 v (l ++ x).length (ecells (l ++ x)) := by
  rw [List.length_append, hm, hn, show ecells (l ++ x) = ecells l ++ ecells x by simp [ecells]]
  exact h

set_option maxRecDepth 100000 in
set_option maxHeartbeats 8000000 in
theorem iterParted_walk (w : World) (a : Option Addr) (n cap : Nat) (ls : List (List Ent)) (key : ByteArray) (r : Nat) (h : ERows w (.slice a n cap) n ls) (hrev : ∀ l ∈ ls, ∀ x ∈ l, x.rev < 18446744073709551616) (hr : r < 18446744073709551616) :
    Calls Try.prog 9 #[.slice a n cap, .string key, .int .u64 (r : Int)] w (SaysTrue w) := by
  have HE := Lib.hid h
  have HRev := Lib.hid hrev
  have hll : ls.length = n := by obtain ⟨_, _, _, _, _, hl, _⟩ := h; exact hl
  clear h hrev
  go_enter Try.func9, Try.ntmps9
  go_wp2_with (go_at_call 22; go_must (refine (fixed19_any w).mono ?_))
  rintro e w1 ⟨rfl, b1⟩
  have hE1 := HE.out.below b1
  have HE1 := Lib.hid hE1
  have HB1 := Lib.hid b1
  have HFw := Lib.hid (few19_any w1 _ n ls hE1)
  clear b1 hE1 HE
  go_wp2_with (go_at_call 23; go_must (refine HFw.out.mono ?_))
  rintro e w2 ⟨rfl, b2⟩
  have HE2 := Lib.hid (HE1.out.below b2)
  have HB2 := Lib.hid (HB1.out.trans (b2.mono HB1.out.size))
  clear b2 HE1 HB1 HFw
  cases hf : few19 ls with
  | false =>
    go_wp2
    go_ret
    exact ⟨rfl, HB2.out⟩
  | true =>
    obtain ⟨hn12, hlw⟩ := few19_low hf
    have hlow : LowE ls := fun l hl => ⟨(hlw l hl).1, fun x hx => ⟨(hlw l hl).2 x hx, HRev.out l hl x hx⟩⟩
    by_cases hk : key.size ≤ 200
    · have hkI : ¬ (200 : Int) < key.size := by omega
      obtain ⟨j0, hj, hy0, hy1, hy2⟩ := info_parts info48
      obtain ⟨i0, hi, hz0, hz1, hz2⟩ := info_parts info_src
      obtain ⟨xs, htold, hall, hsz⟩ := told_rows hlow
      have hsum : sumL ls ≤ 150 := by
        unfold few19 at hf
        simp only [Bool.and_eq_true, decide_eq_true_eq] at hf
        exact hf.1.1
      have hlowp := parted_low hlow hsum
      have htp := htold.parted hall hlowp
      have hrl : (ls.map rowsL).length = n := by rw [List.length_map]; exact hll
      have hxl : xs.length ≤ 150 := by
        have h1 := (allK_ok (ls.map rowsL)).2.2
        have h2 := total_rows ls
        rw [hall, List.length_map] at h1
        omega
      have HLow := Lib.hid hlow
      have HLp := Lib.hid hlowp
      have HTd := Lib.hid htold
      have HTp := Lib.hid htp
      have HSum := Lib.hid hsum
      clear hlw hlow hlowp htold htp hall hsz hf HRev hsum
      go_wp2
      go_loopw [7, 34] (fun av iv wr => PartRel w2 ls av iv wr) (fun _ iv _ => n - (intOf iv).toNat)
      case atStart => exact ⟨0, rfl, Nat.zero_le _, owns_nil _ _ _ _, Below.refl _ _⟩
      case round =>
        obtain ⟨k, rfl, hk', hown, hb⟩ := hrel
        have hbs := hb.size
        by_cases hlt : k < n
        · have hkI2 : (k : Int) < n := by omega
          obtain ⟨x, hx⟩ : ∃ x, ls[k]? = some x := ⟨ls[k]'(by rw [hll]; exact hlt), List.getElem?_eq_getElem _⟩
          obtain ⟨_, _, hv, _, _, _, hrow⟩ := HE2.out.below hb
          cases hv
          obtain ⟨hsz, hks, g, off, sa, scap, rfl, hg, hcell, hrd⟩ := hrow k x hx
          have hxl2 := (HLow.out x (List.mem_of_getElem? hx)).1
          have hol : (ls.take k).flatten.length ≤ 150 := Nat.le_trans (flat_take ls k) HSum.out
          have HSn := Lib.hid (flat_snoc hx)
          have HR := Lib.hid hrd
          have HO := Lib.hid hown
          have HB := Lib.hid hb
          obtain ⟨_, _, hv2, hs1, hs2⟩ := hrd.le
          cases hv2
          unfold maxLen at hs2
          clear hrow hx hks hrd hown hb hsz
          generalize (ls.take k).flatten = out at *
          obtain ⟨oa, ocap, rfl, _, _⟩ := (ownsRow.reads HO.out).le
          go_wp2_with (at_builtin; go_must (refine wpList_append_owns rfl _ _ 22 22 rfl w2.heap.size 48 j0 _ 3 32 Try.underlying22 hj hy0 hy1 hy2 rfl _ _ _ rfl HO.out _ _ _ rfl (Reads.src Try.underlying22 HR.out (ecells_one x)) ?_ ?_ ?_ ?_))
          · unfold maxLen; omega
          · omega
          · exact hbs
          intro v6 w6 o6 _ b6 _
          have HO6 := Lib.hid (own_cat o6 rfl rfl)
          have HB6 := Lib.hid (HB.out.trans b6)
          clear o6 b6
          go_wp2
          exact ⟨⟨k + 1, by go_num, by omega, by rw [HSn.out]; exact HO6.out, HB6.out⟩, by simp [intOf]; omega⟩
        · obtain rfl : k = ls.length := by omega
          have hkI2 : ¬ ((ls.length : Int) < n) := by omega
          rw [List.take_length] at hown
          generalize ls.flatten = L at *
          have HRd := Lib.hid (ownsRow.reads hown)
          obtain ⟨oa, ocap, rfl, _, _⟩ := (ownsRow.reads hown).le
          have HB := Lib.hid hb
          have HBa := Lib.hid (HB2.out.trans (hb.mono HB2.out.size))
          have HEa := Lib.hid (HE2.out.below hb)
          clear hown hb
          have HRo := Lib.hid (rows19_any wr _ n ls HEa.out (by omega) HLow.out)
          go_wp2_with (go_at_call 24; go_must (refine HRo.out.mono ?_))
          rintro e w3 ⟨v3, rfl, so3, b3⟩
          have HB3 := Lib.hid (HBa.out.trans (b3.mono HBa.out.size))
          have HRd3 := Lib.hid (HRd.out.below' b3)
          have HSr := Lib.hid (srcs_any w3 v3 _ _ so3.see (by omega))
          clear so3 b3 HRo HBa HRd HEa HB
          go_wp2_with (go_at_call 26; go_must (refine HSr.out.mono ?_))
          rintro e w4 ⟨v4, vs4, rfl, f4, o4, b4⟩
          have HB4 := Lib.hid (HB3.out.trans (b4.mono HB3.out.size))
          have HRd4 := Lib.hid (HRd3.out.below' b4)
          have HS4 := Lib.hid (srcs_owns rfl f4 o4 b4)
          clear f4 o4 b4 HSr HB3 HRd3
          have HEl := Lib.hid (lit_see HRd4.out HLp.out)
          have HBl := Lib.hid (HB4.out.alloc HB4.out.size (.cells #[.slice oa L.length ocap, .slice none 0 0, .slice oa L.length ocap] 22))
          have HSl := Lib.hid (HS4.out.below ((Below.refl _ _).alloc (Nat.le_refl _) (.cells #[.slice oa L.length ocap, .slice none 0 0, .slice oa L.length ocap] 22)))
          have HRo5 := Lib.hid (rows19_any _ _ 3 _ HEl.out (by omega) HLp.out)
          go_wp2_with (go_at_call 24; go_must (refine HRo5.out.mono ?_))
          rintro e w5 ⟨v5, rfl, so5, b5⟩
          have HB5 := Lib.hid (HBl.out.trans (b5.mono HBl.out.size))
          have HS5 := Lib.hid (HSl.out.below b5)
          have HSr6 := Lib.hid (srcs_any w5 v5 _ _ so5.see (by simp))
          clear so5 b5 HRo5 HBl HSl HEl HS4 HB4 HRd4
          go_wp2_with (go_at_call 26; go_must (refine HSr6.out.mono ?_))
          rintro e w6 ⟨v6, vs6, rfl, f6, o6, b6⟩
          have HB6 := Lib.hid (HB5.out.trans (b6.mono HB5.out.size))
          have HS6 := Lib.hid (HS5.out.below b6)
          have HT6 := Lib.hid (srcs_owns rfl f6 o6 b6)
          have HF6 := Lib.hid f6
          have HO6 := Lib.hid o6
          have HB56 := Lib.hid b6
          have HW5 := Lib.hid HB5.out.size
          clear f6 o6 b6 HSr6 HB5 HS5
          have HGt := Lib.hid fun (w' : World) (v' : Value) (n' : Nat) (srcs : List (Option (List ByteArray))) (hs : Srcs w' v' n' srcs) (ht : Told srcs xs) (hn' : n' ≤ 1000) => (ht.get key r hr) ▸ iget_any w' v' n' srcs key r hs ht.ok hn' (by omega) hr
          have HSn := Lib.hid fun (w' : World) (v' : Value) (n' : Nat) (srcs : List (Option (List ByteArray))) (hs : Srcs w' v' n' srcs) (ht : Told srcs xs) (hn' : n' ≤ 1000) => iscan_any w' v' n' srcs xs key ⟨#[]⟩ r 0 hs ht hn' (by omega) hr (by omega) (by decide) (by decide)
          generalize fin ⟨#[]⟩ 0 r [] (xsuf xs (newestB key 18446744073709551615)) = K at *
          generalize getK xs key r = o at *
          go_wp2_with (go_at_call 25; go_must (refine (HGt.out w6 _ _ _ HS6.out HTd.out (by omega)).mono ?_))
          rintro e w7 ⟨rfl, b7⟩
          have hb7 : Below w.heap.size w w7 := HB6.out.trans (b7.mono HB6.out.size)
          have ht7 := HT6.out.below b7
          have hs7 := HS6.out.below b7
          have ho7 := owns_below HO6.out b7
          have hb57 := HB56.out.trans (b7.mono HB56.out.size)
          clear b7 HB6 HS6 HT6 HO6 HB56
          obtain ⟨xk, xr, xd, ok, hov⟩ : ∃ xk xr xd ok, foundV o = .tuple #[.agg #[.string xk, .int .u64 xr, .bool xd], .bool ok, .int .i64 0] := by
            cases o with
            | none => exact ⟨_, _, _, _, rfl⟩
            | some x => exact ⟨_, _, _, _, rfl⟩
          rw [hov]
          have HOv := Lib.hid hov
          clear hov
          have ba := (Below.refl w7.heap.size w7).alloc (Nat.le_refl _) (.cells #[.string xk, .int .u64 xr, .bool xd] 48)
          have HB7 := Lib.hid (hb7.trans (ba.mono hb7.size))
          have HS7 := Lib.hid (hs7.below ba)
          have HT7 := Lib.hid (ht7.below ba)
          have HO7 := Lib.hid (owns_below ho7 ba)
          have HB57 := Lib.hid (hb57.trans (ba.mono hb57.size))
          have HX7 := Lib.hid (heap_alloc_new w7 (.cells #[.string xk, .int .u64 xr, .bool xd] 48))
          have HZ7 := Lib.hid (show w7.heap.size < (w7.alloc (.cells #[.string xk, .int .u64 xr, .bool xd] 48)).heap.size by simp)
          clear hb7 hs7 ht7 ho7 hb57 ba
          go_wp2_with (go_at_call 25; go_must (refine (HGt.out _ _ _ _ HT7.out HTp.out (by simp)).mono ?_))
          rintro e w8 ⟨rfl, b8⟩
          have hb8 := HB7.out.trans (b8.mono HB7.out.size)
          have hs8 := HS7.out.below b8
          have ho8 := owns_below HO7.out b8
          have hb58 := HB57.out.trans (b8.mono HB57.out.size)
          have hx8 := (b8.block w7.heap.size HZ7.out).trans HX7.out
          clear b8 HB7 HS7 HT7 HO7 HB57 HX7 HZ7
          rw [HOv.out]
          have ba := (Below.refl w8.heap.size w8).alloc (Nat.le_refl _) (.cells #[.string xk, .int .u64 xr, .bool xd] 48)
          have hlt8 : w7.heap.size < w8.heap.size := (Array.getElem?_eq_some_iff.1 hx8).1
          have HB8 := Lib.hid (hb8.trans (ba.mono hb8.size))
          have HS8 := Lib.hid (hs8.below ba)
          have HO8 := Lib.hid (owns_below ho8 ba)
          have HB58 := Lib.hid (hb58.trans (ba.mono hb58.size))
          have HX8 := Lib.hid ((ba.block w7.heap.size hlt8).trans hx8)
          have HY8 := Lib.hid (heap_alloc_new w8 (.cells #[.string xk, .int .u64 xr, .bool xd] 48))
          clear hb8 hs8 ho8 hb58 hx8 ba
          go_wp2_with (go_at_call 28; go_must (refine (HSn.out _ _ _ _ HS8.out HTd.out (by omega)).mono ?_))
          rintro e w9 ⟨v9, rfl, o9, b9⟩
          have HB9 := Lib.hid (HB8.out.trans (b9.mono HB8.out.size))
          have HO9 := Lib.hid (owns_below HO8.out b9)
          have HB59 := Lib.hid (HB58.out.trans (b9.mono HB58.out.size))
          have HX9 := Lib.hid ((b9.block w7.heap.size (Array.getElem?_eq_some_iff.1 HX8.out).1).trans HX8.out)
          have HY9 := Lib.hid ((b9.block w8.heap.size (Array.getElem?_eq_some_iff.1 HY8.out).1).trans HY8.out)
          have HK9 := Lib.hid (owns_lower o9 HB58.out.size)
          obtain ⟨a9, cap9, rfl, _, _⟩ := (ownsRow.reads o9).le
          obtain ⟨a6, cap6, rfl, hc61, hc62⟩ := (ownsRow.reads HO9.out).le
          clear b9 o9 HB8 HS8 HO8 HB58 HX8 HY8
          have hvs6 : vs6.length = 3 := HF6.out.1
          go_wp2_with (at_builtin; go_must (refine wpList_append_rows_at (w0 := w9) rfl _ _ 51 rfl w5.heap.size 85 i0 _ 1 16 Try.underlying51 hi hz0 hz1 hz2 rfl [.nilIface] 1 rfl rfl HO9.out rfl rfl ?_ ?_ ?_ HB59.out.size ?_))
          · intro u hu; simp at hu; subst hu; rfl
          · unfold maxLen; simp; try omega
          · simp; try omega
          intro v10 w10 o10 g10 b10 _
          have HX10 := Lib.hid (grown_other HO9.out g10 HX9.out (by decide))
          have HY10 := Lib.hid (grown_other HO9.out g10 HY9.out (by decide))
          have HK10 := Lib.hid (HK9.out.kept g10 (owns_two HO9.out HK9.out (by decide)))
          have HS10 := Lib.hid (srcs_none rfl HF6.out o10 (HB59.out.trans b10))
          have HB10 := Lib.hid (HB9.out.trans (b10.mono HW5.out))
          clear o10 g10 b10 HB9 HO9 HB59 HX9 HY9 HK9
          go_wp2_with (go_at_call 28; go_must (refine (HSn.out _ _ _ _ HS10.out HTp.out.none (by simp)).mono ?_))
          rintro e w11 ⟨v11, rfl, o11, b11⟩
          have HB11 := Lib.hid (HB10.out.trans (b11.mono HB10.out.size))
          have hx11 := (b11.block w7.heap.size (Array.getElem?_eq_some_iff.1 HX10.out).1).trans HX10.out
          have hy11 := (b11.block w8.heap.size (Array.getElem?_eq_some_iff.1 HY10.out).1).trans HY10.out
          have hk11 := ownsRow.reads (owns_below HK10.out b11)
          have hm11 := ownsRow.reads o11
          obtain ⟨a11, cap11, rfl, _, _⟩ := hm11.le
          have hs11 := sames_any w11 a9 a11 _ _ cap9 cap11 K K hk11 hm11
          rw [decide_eq_true (rfl : K = K)] at hs11
          have HS11 := Lib.hid hs11
          have c0 := Lib.cell_of_heap hx11 0
          have c1 := Lib.cell_of_heap hx11 1
          have c2 := Lib.cell_of_heap hx11 2
          have cf := Lib.frozen_of_heap hx11
          have d0 := Lib.cell_of_heap hy11 0
          have d1 := Lib.cell_of_heap hy11 1
          have d2 := Lib.cell_of_heap hy11 2
          have df := Lib.frozen_of_heap hy11
          simp at c0 c1 c2 d0 d1 d2
          clear o11 b11 hx11 hy11 hk11 hm11 hs11 HX10 HY10 HK10 HB10 HS10
          go_wp2_with (go_at_call 17; go_must (refine HS11.out.mono ?_))
          all_goals
            rintro e w12 ⟨rfl, b12⟩
            go_wp2
            go_ret
            exact ⟨rfl, HB11.out.trans (b12.mono HB11.out.size)⟩
    · have hkI : (200 : Int) < key.size := by omega
      go_wp2
      go_ret
      exact ⟨rfl, HB2.out⟩
end Go.Proofs.Ytekdcjbjjakhcaa

namespace Go.Proofs.Ytekdcjbjjakhcaa.iterParted
open Go.ChangeShapes Go.WideShapes Go.ChangeAt Go.RowKit Go.Joins
open Go.ChangeMaps (open_string shut_string)

theorem own : ownKnob Try.prog.godebug = none := by kernel_rfl
theorem laidOut : laidOutB Try.prog = true := by kernel_rfl

set_option maxRecDepth 100000 in
theorem lifted (os : Os) (started : os.Started) (H : Type) (enc : TypeId × Value → H) :
    ReturnsInHanded {} Try.checked os 9 .any (Rows.iterPartedSpec.pre6 enc Try.prog Try.f9 Rows.iterPartedRow.domain false) (Rows.iterPartedSpec.post enc Try.prog Try.f9 false true false false) := by
  refine handed_sized (C := Try.checked) own started (by kernel_rfl) Try.func9
    (ChangeSpec.witness6 (enc := enc) (C := Try.checked) false ⟨#[], #[.slice none 0 0, .string .empty, .int .u64 0], []⟩ 8 (by kernel_rfl) (by kernel_rfl) (by kernel_rfl) (by kernel_rfl)) ?_
  intro W base args ds gs before hval0 hW hsz0
  have hval : ∀ (j : Nat) t v, Try.f9.params[j]? = some t → args[j]? = some v → Value.okWide Try.prog W .any base t v := hval0
  have hW' := hW
  obtain ⟨p, q, hA0, hV, rfl, hfz, hnd⟩ := hW
  clear hfz hnd
  have hA : DataW.TrodAll enc Try.prog W 0 (fun _ => true) true Try.f9.params.toList args.toList ds p := hA0
  rw [Try.params9] at hA hval
  obtain ⟨v0, vs0, d0, ds0, p0, q0, hargs, rfl, rfl, h0, r0⟩ := trodAll_cons hA
  obtain ⟨v1, vs1, d1, ds1, p1, q1, rfl, rfl, rfl, h1, r1⟩ := trodAll_cons r0
  obtain ⟨v2, vs2, d2, ds2, p2, q2, rfl, rfl, rfl, h2, r2⟩ := trodAll_cons r1
  obtain ⟨rfl, rfl, rfl⟩ := trodAll_nil r2
  obtain rfl : args = #[v0, v1, v2] := by cases args; simp_all
  obtain ⟨rfl, rfl⟩ := trodVars_none hV
  have k0 := h0
  have lt0 : ∀ x ∈ p0, x.block < W.heap.size := by obtain ⟨m, hm⟩ := k0; exact DataW.trod_lt m _ _ _ hm
  have k1 := h1
  have lt1 : ∀ x ∈ p1, x.block < W.heap.size := by obtain ⟨m, hm⟩ := k1; exact DataW.trod_lt m _ _ _ hm
  have k2 := h2
  have lt2 : ∀ x ∈ p2, x.block < W.heap.size := by obtain ⟨m, hm⟩ := k2; exact DataW.trod_lt m _ _ _ hm
  clear hA0 hval0
  obtain ⟨a0, len0, cap0, ls0, rfl, er0, rv0⟩ := erevs_open (hval 0 43 v0 rfl rfl) h0 (wok_arg _ _ 0 _ _ hsz0 (by kernel_rfl) rfl)
  obtain ⟨s1, rfl, rfl, rfl, hs1⟩ := open_string Try.underlying9 (hval 1 9 v1 rfl rfl) h1
  obtain ⟨n2, rfl, rfl, rfl, w2⟩ := open_int Try.underlying23 (hval 2 23 v2 rfl rfl) h2
  have bd2 : 0 ≤ n2 ∧ n2 ≤ 18446744073709551615 := by simpa [Lit.wf, IntKind.min, IntKind.max, IntKind.signed, IntKind.bits] using w2
  obtain ⟨m2, rfl⟩ := Int.eq_ofNat_of_zero_le bd2.1
  refine (iterParted_walk W a0 len0 cap0 ls0 s1 m2 er0 rv0 (by omega)).mono fun e W' ⟨he, bel⟩ => ?_
  subst he
  exact ⟨_, rfl, _, _, _, [], _, [], hW', trodAll_mk1 (shut_bool Try.underlying4 _), (trodAll_cons_mk (Below.trod laidOut (by kernel_rfl) (of_decide_eq_true (by kernel_rfl)) k0 bel lt0) (trodAll_cons_mk (Below.trod laidOut (by kernel_rfl) (of_decide_eq_true (by kernel_rfl)) k1 bel lt1) (trodAll_cons_mk (Below.trod laidOut (by kernel_rfl) (of_decide_eq_true (by kernel_rfl)) k2 bel lt2) trodAll_mk0))), rfl, bel.frame _, fun h => by cases h⟩

theorem over : Rows.iterPartedRow.holds Try.pinned (OpenSpec.ofChange Rows.iterPartedSpec) :=
  OpenClaim.holds_of_wide 9 Try.f9 rfl rfl rfl rfl rfl rfl rfl ⟨rfl, rfl, rfl, rfl, rfl⟩ rfl rfl rfl rfl rfl (by kernel_rfl) Try.func9 (by kernel_rfl)
    (of_decide_eq_true (by kernel_rfl)) (by unfold Func.isWrapper; first | (rw [if_pos (by decide +kernel)]; kernel_rfl) | (rw [if_neg (by decide +kernel)]; exact ⟨rfl, rfl⟩))
    (fun os started H enc _ => lifted os started H enc)

theorem proved : Rows.IterPartedSaid := over
end Go.Proofs.Ytekdcjbjjakhcaa.iterParted
