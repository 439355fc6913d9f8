/- What the proof stands on, part 6. -/
import Derived.Test.YtoibhkmlebcepaaDoorMg5
import Derived.Orders
namespace Go.Proofs.YtoibhkmlebcepaaDoor
open Go Go.RowKit

/-- A slice of slices of entries that can be looked at. -/
def ERows (w : World) (v : Value) (n : Nat) (ls : List (List Ent)) : Prop :=
  ∃ a cap, v = .slice a n cap ∧ n ≤ cap ∧ cap ≤ maxLen ∧ ls.length = n ∧ ∀ (i : Nat) (l : List Ent), ls[i]? = some l → l.length * 32 ≤ 140737488351232 ∧ (∀ x ∈ l, x.key.size ≤ maxLen) ∧
    ∃ g off sa scap, a = some ⟨g, off, none⟩ ∧ g < w.heap.size ∧ w.cell? ⟨g, off + i, none⟩ = some (.slice sa l.length scap) ∧ Reads w 3 (.slice sa l.length scap) l.length (ecells l)

theorem ERows.below {w w' : World} {v : Value} {n : Nat} {ls : List (List Ent)} (h : ERows w v n ls) (hb : Below w.heap.size w w') : ERows w' v n ls := by
  obtain ⟨a, cap, hv, h1, h2, h3, h4⟩ := h
  refine ⟨a, cap, hv, h1, h2, h3, fun i l hi => ?_⟩
  obtain ⟨k1, k2, g, off, sa, scap, ha, hg, hc, hr⟩ := h4 i l hi
  exact ⟨k1, k2, g, off, sa, scap, ha, Nat.lt_of_lt_of_le hg hb.size, (hb.cell (p := ⟨g, off + i, none⟩) hg).trans hc, hr.below' hb⟩

def CommPost (w : World) (first : Nat) (ls : List (List Ent)) (e : Ending) (w' : World) : Prop :=
  ∃ v, e = .returned v ∧ CRows w.heap.size w' v (commL first ls) ∧ Below w.heap.size w w'

def CommRel (w : World) (first : Nat) (ls : List (List Ent)) (n : Nat) (ov rv iv : Value) (wr : World) : Prop :=
  ∃ k : Nat, iv = .int .i64 (k : Int) ∧ k ≤ n ∧ rv = .int .u64 ((first + (commL first (ls.take k)).length : Nat) : Int) ∧ CRows w.heap.size wr ov (commL first (ls.take k)) ∧ Below w.heap.size w wr

def InRel (wo : World) (R : Nat) (x : List Ent) (jv : Value) (wi : World) : Prop :=
  ∃ (j : Nat) (sv : Value), jv = .int .i64 (j : Int) ∧ j ≤ x.length ∧ wi.heap[wo.heap.size]? = some (.cells #[.int .u64 (R : Int), sv] 25 (0, 0)) ∧
    wi.ownsRow (wo.heap.size + 1) 48 3 sv j (ecells (withRev R (x.take j))) ∧ Below wo.heap.size wo wi

theorem withRev_snoc {R : Nat} {x : List Ent} {j : Nat} {y : Ent} (h : x[j]? = some y) : ecells (withRev R (x.take (j + 1))) = ecells (withRev R (x.take j)) ++ ecell ⟨y.key, R, y.del⟩ := by
  rw [List.take_add_one, h]
  simp [withRev, ecells]

set_option maxRecDepth 100000 in
set_option maxHeartbeats 2000000 in
theorem commits_any (w : World) (v : Value) (n : Nat) (ls : List (List Ent)) (first : Nat) (h : ERows w v n ls) (hn : n ≤ 20) (hf : first ≤ 1152921504606846976) :
    Calls Tryd.prog 19 #[.int .u64 (first : Int), v] w (CommPost w first ls) := by
  obtain ⟨i0, hi, hz0, hz1, hz2⟩ := info_parts info25
  obtain ⟨j0, hj, hy0, hy1, hy2⟩ := info_parts info48
  have HE := Lib.hid h
  obtain ⟨a, cap, rfl, hc1, hc2, hll, _⟩ := h
  unfold maxLen at hc2
  have HLL := Lib.hid hll
  clear hll
  go_enter Tryd.func19, Tryd.ntmps19
  go_wp2
  go_loopw [5, 6, 15] (fun ov rv iv wr => CommRel w first ls n ov rv iv wr) (fun _ _ iv _ => n - (intOf iv).toNat)
  case atStart => exact ⟨0, rfl, Nat.zero_le _, by simp [commL, full, commF], by simpa [commL, full, commF] using CRows.nil _ _, Below.refl _ _⟩
  case round =>
    obtain ⟨k, rfl, hk, rfl, hcr, hb⟩ := hrel
    have hcl : (commL first (ls.take k)).length ≤ 20 := by
      have h1 := commL_le first (ls.take k)
      rw [List.length_take, HLL.out] at h1
      omega
    have hbs := hb.size
    by_cases hlt : k < n
    · obtain ⟨x, hx⟩ : ∃ x, ls[k]? = some x := ⟨ls[k]'(by rw [HLL.out]; exact hlt), List.getElem?_eq_getElem _⟩
      obtain ⟨_, _, hv, _, _, _, hrow⟩ := HE.out.below hb
      cases hv
      obtain ⟨hsz, hks, g, off, sa, scap, rfl, hg, hcell, hrd⟩ := hrow k x hx
      have hskip := fun h0 => commL_skip (first := first) hx h0
      have hmore := fun h0 => commL_more (first := first) hx h0
      have HSk := Lib.hid hskip
      have HMo := Lib.hid hmore
      have HR := Lib.hid hrd
      have HC := Lib.hid hcr
      have HB := Lib.hid hb
      clear hskip hmore hrd hcr hb hrow hx hks
      have hkI : (k : Int) < n := by omega
      generalize hcs : commL first (ls.take k) = cs at *
      generalize hR : first + cs.length = R at *
      have HRe := Lib.hid hR
      clear hR hcs
      have hRle : R ≤ 1152921504606847000 := by have := HRe.out; omega
      by_cases h0 : x.length = 0
      · have h0I : ((x.length : Int) == 0) = true := by simp [h0]
        have HS0 := Lib.hid (HSk.out h0)
        clear h0 HSk HMo
        go_wp2
        exact ⟨⟨k + 1, by go_num, by omega, by rw [HS0.out, HRe.out], by rw [HS0.out]; exact HC.out, HB.out⟩, by simp [intOf]; omega⟩
      · have h0I : ((x.length : Int) == 0) = false := by simp [h0]
        have HM0 := Lib.hid (HMo.out h0)
        obtain ⟨_, _, hv, hsc1, hsc2⟩ := HR.out.le
        cases hv
        unfold maxLen at hsc2
        clear h0 HSk HMo
        obtain ⟨wo, rfl⟩ : ∃ wo : World, wo = wr := ⟨_, rfl⟩
        have HG0 := Lib.hid (heap_alloc_new wo (.cells #[.int .u64 (R : Int), .slice none 0 0] 25))
        have HB0 := Lib.hid ((Below.refl _ wo).alloc (Nat.le_refl _) (.cells #[.int .u64 (R : Int), .slice none 0 0] 25))
        go_wp2
        go_loopw [26] (fun jv wi => InRel wo R x jv wi) (fun jv _ => x.length - (intOf jv).toNat)
        case atStart => exact ⟨0, _, rfl, Nat.zero_le _, HG0.out, owns_nil _ _ _ _, HB0.out⟩
        case round =>
          obtain ⟨j, sv, rfl, hj', hbox, hown, hbi⟩ := hrel
          clear HG0 HB0
          have hbis := hbi.size
          obtain ⟨la, lcap, rfl, hl1, hl2⟩ := (ownsRow.reads hown).le
          unfold maxLen at hl2
          have q0 := Lib.cell_of_heap hbox 0
          have q1 := Lib.cell_of_heap hbox 1
          have qf := Lib.frozen_of_heap hbox
          simp at q0 q1
          have hpl : wo.heap.size < wr.heap.size := (Array.getElem?_eq_some_iff.1 hbox).1
          have HX := Lib.hid hbox
          have HO := Lib.hid hown
          have HI := Lib.hid hbi
          clear hbox hown hbi
          by_cases hjl : j < x.length
          · obtain ⟨y, hy⟩ : ∃ y, x[j]? = some y := ⟨x[j]'hjl, List.getElem?_eq_getElem _⟩
            obtain ⟨g2, off2, rfl, hgl2, c0, c1, c2⟩ := ent_cells (HR.out.below' HI.out) hy
            have hsn := withRev_snoc (R := R) hy
            obtain ⟨key, r, d⟩ := y
            dsimp only at c0 c1 c2 hsn
            have HSn := Lib.hid hsn
            clear hsn hy
            have hjI : (j : Int) < x.length := by omega
            have HN := Lib.hid (show (wr.alloc (.cells #[.string key, .int .u64 (R : Int), .bool d] 48)).heap.size = wr.heap.size + 1 by simp)
            have HO1 := Lib.hid (HO.out.alloc (.cells #[.string key, .int .u64 (R : Int), .bool d] 48))
            have HX1 := Lib.hid ((heap_alloc_old wr (.cells #[.string key, .int .u64 (R : Int), .bool d] 48) hpl).trans HX.out)
            have HI1 := Lib.hid (HI.out.alloc hbis (.cells #[.string key, .int .u64 (R : Int), .bool d] 48))
            have hBN : wo.heap.size + 1 ≤ (wr.alloc (.cells #[.string key, .int .u64 (R : Int), .bool d] 48)).heap.size := by simp; omega
            go_wp2_with (at_builtin; go_must (refine wpList_append_rows_at (w0 := wr.alloc (.cells #[.string key, .int .u64 (R : Int), .bool d] 48)) rfl _ _ 23 rfl (wo.heap.size + 1) 48 j0 _ 3 32 Tryd.underlying23 hj hy0 hy1 hy2 rfl (ecell ⟨key, R, d⟩) 1 rfl HN.out HO1.out rfl rfl ?_ ?_ ?_ hBN ?_))
            · intro u hu
              simp [ecell] at hu
              rcases hu with rfl | rfl | rfl <;> rfl
            · unfold maxLen; omega
            · omega
            intro v6 w6 o6 g6 b6 _
            rw [← HSn.out] at o6
            obtain ⟨na, ncap, rfl, _, _⟩ := (ownsRow.reads o6).le
            have hx6 := (g6.block wo.heap.size (by rw [HN.out]; omega) (fun h => owns_ne HO1.out (show wo.heap.size < wo.heap.size + 1 by omega) h.symm)).trans HX1.out
            have hi6 := HI1.out.trans (b6.mono (by omega))
            have HX7 := Lib.hid (heap_setCell_same w6 wo.heap.size 1 _ _ (.slice na (j + 1) ncap) hx6)
            have HO7 := Lib.hid (ownsRow_setCell_other o6 (a := ⟨wo.heap.size, 1, none⟩) (owns_ne o6 (show wo.heap.size < wo.heap.size + 1 by omega)) (.slice na (j + 1) ncap))
            have HI7 := Lib.hid (hi6.setCell (p := ⟨wo.heap.size, 1, none⟩) (Nat.le_refl _) (.slice na (j + 1) ncap))
            have x1 := Lib.cell_of_heap hx6 1
            have xf := Lib.frozen_of_heap hx6
            simp at x1
            have hpl6 : wo.heap.size < w6.heap.size := (Array.getElem?_eq_some_iff.1 hx6).1
            clear o6 g6 b6 hx6 hi6 HX HO HI HX1 HO1 HI1 q0 q1 qf c0 c1 c2
            go_wp2
            exact ⟨⟨j + 1, _, by go_num, by omega, HX7.out, HO7.out, HI7.out⟩, by simp [intOf]; omega⟩
          · obtain rfl : j = x.length := by omega
            have hjI : ¬ ((x.length : Int) < x.length) := by omega
            have htk : x.take x.length = x := List.take_length
            have ho := HO.out
            rw [htk] at ho
            have hwl := withRev_length R x
            have HO2 := Lib.hid ho
            have HWl := Lib.hid hwl
            obtain ⟨svs, hv1, hv2, hv3⟩ := HC.out.below HI.out
            have HB2 := Lib.hid (HB.out.trans (HI.out.mono HB.out.size))
            have hB2 : w.heap.size ≤ wr.heap.size := HB2.out.size
            obtain ⟨oa, ocap, hov, hoc1, hoc2⟩ := (ownsRow.reads hv2).le
            subst hov
            unfold maxLen at hoc2
            have hw64 : IntKind.u64.wrap ((R : Int) + 1) = (R : Int) + 1 := by rw [IntKind.wrap_u64]; omega
            clear htk ho hwl HO HX
            go_wp2_with (at_builtin; go_must (refine wpList_append_rows_own (w0 := wr) rfl _ _ 37 rfl w.heap.size 25 i0 _ 2 32 Tryd.underlying37 hi hz0 hz1 hz2 rfl [.int .u64 (R : Int), .slice la x.length lcap] 1 rfl hv2 rfl rfl ?_ ?_ ?_ hB2 ?_))
            · exact ⟨rfl, rfl⟩
            · unfold maxLen; omega
            · omega
            intro v6 w6 o6 g6 b6 _
            have hes := owns_mono HO2.out (show w.heap.size ≤ wo.heap.size + 1 by omega)
            rw [← HWl.out] at hes o6
            have hpush := CRows.push hv1 hv2 hv3 rfl hes g6 o6
            have HP6 := Lib.hid hpush
            have HB6 := Lib.hid (HB2.out.trans b6)
            clear hpush o6 g6 b6 hv1 hv2 hv3 hes HC HB HB2 HI q0 q1 qf
            go_wp2
            refine ⟨⟨k + 1, by go_num, by omega, ?_, ?_, HB6.out⟩, by simp [intOf]; omega⟩
            · have := HRe.out
              rw [HM0.out, List.length_append]
              simp
              omega
            · rw [HM0.out]
              exact HP6.out
    · obtain rfl : k = n := by omega
      have hkI : ¬ ((k : Int) < k) := by omega
      have htk : ls.take k = ls := by rw [← HLL.out]; exact List.take_length
      rw [htk] at hcr
      have HC := Lib.hid hcr
      have HB := Lib.hid hb
      clear hcr hb htk
      go_wp2
      go_ret
      exact ⟨_, rfl, HC.out, HB.out⟩
end Go.Proofs.YtoibhkmlebcepaaDoor

namespace Go.Proofs.YtoibhkmlebcepaaDoor
open Go Go.RowKit

theorem withRev_with (a b : Nat) (l : List Ent) : withRev a (withRev b l) = withRev a l := by
  unfold withRev
  rw [List.map_map]
  rfl

theorem few_rev (r : Nat) (l : List Ent) : fewB (withRev r l) = fewB l := by
  unfold fewB withRev lowB
  rw [List.length_map, List.all_map]
  rfl

/-- A commit from place k on has a revision that is greater by by'. -/
def gapC (k by' i : Nat) (c : Nat × List Ent) : Nat × List Ent := if i < k then c else (c.1 + by', withRev (c.1 + by') c.2)
def gapL (k by' : Nat) (cs : List (Nat × List Ent)) : List (Nat × List Ent) := cs.mapIdx fun i c => gapC k by' i c

theorem gapL_length (k by' : Nat) (cs : List (Nat × List Ent)) : (gapL k by' cs).length = cs.length := List.length_mapIdx

theorem gapL_at {k by' i : Nat} {cs : List (Nat × List Ent)} {c : Nat × List Ent} (h : cs[i]? = some c) : (gapL k by' cs)[i]? = some (gapC k by' i c) := by
  unfold gapL
  rw [List.getElem?_mapIdx, h]
  rfl

theorem gapC_lt {k by' i : Nat} {c : Nat × List Ent} (h : i < k) : gapC k by' i c = c := if_pos h
theorem gapC_ge {k by' i : Nat} {c : Nat × List Ent} (h : ¬ i < k) : gapC k by' i c = (c.1 + by', withRev (c.1 + by') c.2) := if_neg h

theorem gapL_take (k by' : Nat) (cs : List (Nat × List Ent)) : (gapL k by' cs).take k = cs.take k := by
  apply List.ext_getElem?
  intro i
  rw [List.getElem?_take, List.getElem?_take]
  by_cases hi : i < k
  · rw [if_pos hi, if_pos hi]
    cases hc : cs[i]? with
    | none =>
      have := List.getElem?_eq_none_iff.1 hc
      rw [List.getElem?_eq_none (by rw [gapL_length]; exact this)]
    | some c => rw [gapL_at hc, gapC_lt hi]
  · rw [if_neg hi, if_neg hi]

theorem chain_take (cs : List (Nat × List Ent)) : ∀ (p : Option Nat) (k : Nat), chain p cs → chain p (cs.take k) := by
  induction cs with
  | nil => intro p k h; simpa using h
  | cons c r ih =>
    intro p k h
    cases k with
    | zero => trivial
    | succ k => exact ⟨h.1, ih _ k h.2⟩

/-- Where the gap is, what is told ends. -/
theorem repl_gap_all {first k by' : Nat} {cs : List (Nat × List Ent)} (hc : CommOk first cs) (h0 : 0 < k) (hk : k < cs.length) (hb : 1 ≤ by') (hok : ∀ c ∈ gapL k by' cs, okC c) :
    replGo none (seals (recs (gapL k by' cs))) = (cs.take k, endAt (recs (cs.take k)) (cs.take k).length) ∧ endAt (recs (cs.take k)) (cs.take k).length < (seals (recs (gapL k by' cs))).length := by
  obtain ⟨c, hck⟩ : ∃ c, cs[k]? = some c := ⟨cs[k]'hk, List.getElem?_eq_getElem _⟩
  have hg := gapL_at (k := k) (by' := by') hck
  rw [gapC_ge (Nat.lt_irrefl k)] at hg
  have hrev := hc.rev k c hck
  have hsplit : gapL k by' cs = cs.take k ++ ((c.1 + by', withRev (c.1 + by') c.2) :: (gapL k by' cs).drop (k + 1)) := by
    have h1 := List.take_append_drop k (gapL k by' cs)
    rw [gapL_take] at h1
    obtain ⟨hlt, hge⟩ := List.getElem?_eq_some_iff.1 hg
    rw [List.drop_eq_getElem_cons hlt, hge] at h1
    exact h1.symm
  have hx : okC (c.1 + by', withRev (c.1 + by') c.2) := hok _ (List.mem_of_getElem? hg)
  have hbs : seals (recs (gapL k by' cs)) = seals (recs (cs.take k)) ++ (sealL (recL (c.1 + by') (withRev (c.1 + by') c.2)) ++ seals (recs ((gapL k by' cs).drop (k + 1)))) := by
    have h2 : ∀ x y : List (Nat × List Ent), recs (x ++ y) = recs x ++ recs y := fun x y => by simp [recs]
    have h3 : ∀ x y : List (List UInt8), seals (x ++ y) = seals x ++ seals y := fun x y => by simp [seals]
    conv => lhs; rw [hsplit]
    rw [h2, h3]
    rfl
  have hl := sealL_length (recL (c.1 + by') (withRev (c.1 + by') c.2))
  have hend : endAt (recs (cs.take k)) (cs.take k).length = (seals (recs (cs.take k))).length := by
    unfold endAt
    rw [← recs_length, List.take_length]
  refine ⟨?_, ?_⟩
  · rw [hbs]
    refine repl_gaps (cs.take k) (c.1 + by', withRev (c.1 + by') c.2) _ hx none (chain_take _ _ _ hc.ch) (fun x hx => hok x ?_) ?_
    · rw [← gapL_take k by' cs] at hx
      exact List.mem_of_mem_take hx
    · rw [hc.last k h0 (by omega)]
      simp [follows]
      omega
  · rw [hend, hbs, List.length_append, List.length_append, hl]
    omega

/-- What the loop lays is right. -/
theorem gap_right {first i k by' : Nat} {cs : List (Nat × List Ent)} {c : Nat × List Ent} (hc : CommOk first cs) (h1 : 1 ≤ first) (hb : by' ≤ 1152921504606846976) (hf : first ≤ 1152921504606846976) (hi : cs[i]? = some c) (h60 : c.2.length ≤ 60) (hfew : fewB c.2 = true) :
    okC (gapC k by' i c) ∧ (gapC k by' i c).2.length = c.2.length ∧ fewB (gapC k by' i c).2 = true := by
  obtain ⟨hr, h0, _, hrt⟩ := hc.one i c hi
  have hrev := hc.rev i c hi
  have hlt := (List.getElem?_eq_some_iff.1 hi).1
  have hlen := hc.len
  by_cases hk : i < k
  · rw [gapC_lt hk]
    exact ⟨⟨hrt h60 hfew, hr⟩, rfl, hfew⟩
  · rw [gapC_ge hk]
    exact ⟨⟨right_with (by omega) h0 h60 (by rw [few_rev]; exact hfew), by show c.1 + by' < _; omega⟩, withRev_length _ _, by show fewB (withRev _ _) = true; rw [few_rev]; exact hfew⟩

end Go.Proofs.YtoibhkmlebcepaaDoor

namespace Go.Proofs.YtoibhkmlebcepaaDoor
open Go Go.RowKit

def dig (l : List UInt8) (j : Nat) : Nat := (l.getD j 0).toNat % 128

/-- The number of the first k bytes' low ends. -/
def low (l : List UInt8) : Nat → Nat
  | 0 => 0
  | k + 1 => low l k + dig l k * 128 ^ k

/-- The number of m bytes' low ends from the j-th on. -/
def hor (l : List UInt8) : Nat → Nat → Nat
  | _, 0 => 0
  | j, m + 1 => dig l j + 128 * hor l (j + 1) m

theorem low_hor (l : List UInt8) : ∀ (m j : Nat), low l (j + m) = low l j + 128 ^ j * hor l j m
  | 0, j => by simp [hor]
  | m + 1, j => by
    have ih := low_hor l m (j + 1)
    rw [show j + (m + 1) = j + 1 + m by omega, ih, low, hor, Nat.pow_succ, Nat.mul_add, Nat.mul_comm (dig l j), Nat.mul_assoc, Nat.add_assoc]

theorem hor_le (l : List UInt8) (j m : Nat) : hor l j m ≤ low l (j + m) := by
  rw [low_hor]
  have : 1 * hor l j m ≤ 128 ^ j * hor l j m := Nat.mul_le_mul_right _ (Nat.pow_pos (by decide))
  omega

theorem low_lt (l : List UInt8) : ∀ k, low l k < 128 ^ k
  | 0 => by simp [low]
  | k + 1 => by
    have ih := low_lt l k
    have h1 : dig l k ≤ 127 := by unfold dig; omega
    have h2 : dig l k * 128 ^ k ≤ 127 * 128 ^ k := Nat.mul_le_mul_right _ h1
    rw [low, Nat.pow_succ]
    omega

theorem dig_small (l : List UInt8) (k : Nat) (h : k < 9 ∨ (k = 9 ∧ (l.getD k 0).toNat ≤ 1)) : dig l k * 128 ^ k < 18446744073709551616 := by
  rcases h with h | ⟨rfl, h⟩
  · have h1 : dig l k ≤ 127 := by unfold dig; omega
    have h2 : 128 ^ k ≤ 128 ^ 8 := Nat.pow_le_pow_right (by decide) (by omega)
    have h3 := Nat.mul_le_mul h1 h2
    exact Nat.lt_of_le_of_lt h3 (by decide)
  · have h1 : dig l 9 ≤ 1 := by unfold dig; omega
    have h2 := Nat.mul_le_mul_right (128 ^ 9) h1
    exact Nat.lt_of_le_of_lt h2 (by decide)

theorem low_small (l : List UInt8) (k : Nat) (h : k < 9 ∨ (k = 9 ∧ (l.getD k 0).toNat ≤ 1)) : low l (k + 1) < 18446744073709551616 := by
  rcases h with h | ⟨rfl, h⟩
  · exact Nat.lt_of_lt_of_le (low_lt l (k + 1)) (Nat.le_trans (Nat.pow_le_pow_right (by decide) (show k + 1 ≤ 9 by omega)) (by decide))
  · have h1 : dig l 9 ≤ 1 := by unfold dig; omega
    have h2 := Nat.mul_le_mul_right (128 ^ 9) h1
    have h3 := low_lt l 9
    rw [low]
    exact Nat.lt_of_lt_of_le (Nat.add_lt_add_of_lt_of_le h3 h2) (by decide)

/-- While bytes of 128 or more are met, up to ten. -/
def scanned (l : List UInt8) (k : Nat) : Prop := getGo 0 0 l = getGo k (low l k) (l.drop k)

theorem scanned_zero (l : List UInt8) : scanned l 0 := rfl

theorem scanned_step {l : List UInt8} {k : Nat} (h : scanned l k) (hk : k < l.length) (h10 : k < 9) (hc : 128 ≤ (l.getD k 0).toNat) : scanned l (k + 1) := by
  unfold scanned at h ⊢
  have hs := dig_small l k (.inl h10)
  unfold dig at hs
  rw [h, getGo_more hk (by omega) hc, Nat.mod_eq_of_lt hs]
  rfl

theorem scanned_ten {l : List UInt8} (h : scanned l 9) (hk : 9 < l.length) (hc : 128 ≤ (l.getD 9 0).toNat) : getGo 0 0 l = (0, 0, 9) := by
  unfold scanned at h
  rw [h, getGo_more hk (by decide) hc]
  cases l.drop (9 + 1) with
  | nil => rfl
  | cons c r => rw [getGo]; rfl

theorem scanned_end {l : List UInt8} {k : Nat} (h : scanned l k) (hk : k = l.length) (h10 : k < 10) : getGo 0 0 l = (0, 0, 7) := by
  unfold scanned at h
  rw [h, List.drop_of_length_le (by omega), getGo, if_neg (by omega)]

theorem scanned_bad {l : List UInt8} {k : Nat} (h : scanned l k) (hk : k < l.length) (h10 : k < 10) (hc : ¬ 128 ≤ (l.getD k 0).toNat) (hb : (0 < k ∧ (l.getD k 0).toNat = 0) ∨ (k = 9 ∧ 1 < (l.getD k 0).toNat)) : getGo 0 0 l = (0, 0, 9) := by
  unfold scanned at h
  rw [h, getGo_bad hk h10 hc hb]

theorem scanned_good {l : List UInt8} {k : Nat} (h : scanned l k) (hk : k < l.length) (h10 : k < 10) (hc : ¬ 128 ≤ (l.getD k 0).toNat) (hb : ¬ ((0 < k ∧ (l.getD k 0).toNat = 0) ∨ (k = 9 ∧ 1 < (l.getD k 0).toNat))) : getGo 0 0 l = (low l (k + 1), k + 1, 0) := by
  unfold scanned at h
  have hs := dig_small l k (by omega)
  unfold dig at hs
  rw [h, getGo_good hk h10 hc hb, Nat.mod_eq_of_lt hs]
  rfl

def ScanRel (l : List UInt8) (i : Value) : Prop := ∃ k : Nat, i = .int .i64 (k : Int) ∧ k ≤ l.length ∧ k < 10 ∧ scanned l k
def HorRel (l : List UInt8) (k : Nat) (v i : Value) : Prop := ∃ j : Nat, i = .int .i64 ((j : Int) - 1) ∧ j ≤ k + 1 ∧ v = .int .u64 ((hor l j (k + 1 - j) : Nat) : Int)

theorem hor_step (l : List UInt8) (k j : Nat) (h : j < k + 1) : hor l j (k + 1 - j) = hor l (j + 1) (k + 1 - (j + 1)) * 128 + dig l j := by
  rw [show k + 1 - j = (k + 1 - (j + 1)) + 1 by omega, hor, Nat.mul_comm, Nat.add_comm]

theorem hor_bound (l : List UInt8) (k j : Nat) (h : j ≤ k + 1) (hl : low l (k + 1) < 18446744073709551616) : hor l j (k + 1 - j) < 18446744073709551616 := by
  have := hor_le l j (k + 1 - j)
  rw [show j + (k + 1 - j) = k + 1 by omega] at this
  omega

set_option maxRecDepth 100000 in
set_option maxHeartbeats 1000000 in
theorem refget_any (w : World) (v : Value) (n : Nat) (l : List UInt8) (h : Reads w 1 v n (bcells l)) :
    Calls Tryd.prog 31 #[v] w (GetPost w (getGo 0 0 l)) := by
  by_cases hp : n = 0
  · obtain ⟨hl, a, cap, rfl, h1, h2, h3⟩ := h
    subst hp
    have : l = [] := by simpa [bcells_length] using hl
    subst this
    clear h3 hl
    unfold maxLen at h2
    go_enter Tryd.func31, Tryd.ntmps31
    go_wp2
    refine wp_loop_rounds 1 ?_
    rw [rounds_succ]
    go_wp2
    go_ret3
    exact ⟨rfl, rfl⟩
  · obtain ⟨b, off, cap, rfl, h1, h2, hl, hcell⟩ := h.head (by omega)
    unfold maxLen at h2
    clear h
    have HL := Lib.hid hl
    go_enter Tryd.func31, Tryd.ntmps31
    go_wp2
    go_loop [5] (fun i => ScanRel l i) (fun i => 20 - (intOf i).toNat)
    case atStart => exact ⟨0, rfl, Nat.zero_le _, by decide, scanned_zero l⟩
    case round =>
      obtain ⟨k, rfl, hk, hk10, hsc⟩ := hrel
      have HS := Lib.hid hsc
      have hcell' : k < n → w.cell? ⟨b, off + k, none⟩ = some (.int .u8 ((l.getD k 0).toNat : Int)) := fun h => hcell k h
      have Hc := Lib.hid hcell
      clear hsc hcell
      by_cases hkn : k < n
      · have c0 := hcell' hkn
        clear hcell'
        generalize hc : l.getD k 0 = c at c0
        have Hcc := Lib.hid hc
        clear hc
        by_cases h128 : 128 ≤ c.toNat
        · by_cases h9 : k = 9
          · have g9 : ((k : Int) + 1 == 10) = true := by simp; omega
            have H9 := Lib.hid h9
            clear h9
            go_wp2
            go_ret3
            refine ⟨?_, rfl⟩
            have e9 := H9.out
            subst e9
            rw [scanned_ten HS.out (by omega) (by rw [Hcc.out]; exact h128)]
            rfl
          · have g9 : ((k : Int) + 1 == 10) = false := by simp; omega
            go_wp2
            exact ⟨⟨k + 1, by go_num, by omega, by omega, scanned_step HS.out (by omega) (by omega) (by rw [Hcc.out]; exact h128)⟩, by simp [intOf]; omega⟩
        · have gk : ((k : Int) == (n : Int)) = false := by simp; omega
          by_cases hb : (0 < k ∧ c.toNat = 0) ∨ (k = 9 ∧ 1 < c.toNat)
          · have hgo := scanned_bad HS.out (by omega) hk10 (by rw [Hcc.out]; exact h128) (by rw [Hcc.out]; exact hb)
            have HG := Lib.hid hgo
            clear hgo
            by_cases g1 : 0 < k ∧ c.toNat = 0
            · have g2 : ((0 : Int) < k) := by omega
              have g3 : (((c.toNat : Int)) == 0) = true := by simp; omega
              clear hb g1
              go_wp2
              go_ret3
              refine ⟨?_, rfl⟩
              rw [HG.out]
              rfl
            · have g5 : ((k : Int) == 9) = true := by simp; omega
              have g6 : (1 : Int) < c.toNat := by omega
              have g3 : (((c.toNat : Int)) == 0) = false := by simp; omega
              clear hb g1
              go_wp2
              go_ret3
              refine ⟨?_, rfl⟩
              rw [HG.out]
              rfl
          · have hgo := scanned_good HS.out (by omega) hk10 (by rw [Hcc.out]; exact h128) (by rw [Hcc.out]; exact hb)
            have hlow := low_small l k (by rw [Hcc.out]; omega)
            have HG := Lib.hid hgo
            have HLo := Lib.hid hlow
            have hpick : (((c.toNat : Int) == 0) = false ∧ (((k : Int) == 9) = false ∨ (((k : Int) == 9) = true ∧ ¬ (1 : Int) < c.toNat))) ∨ (((c.toNat : Int) == 0) = true ∧ ¬ (0 : Int) < k ∧ ((k : Int) == 9) = false) := by
              by_cases z : c.toNat = 0
              · right
                refine ⟨by simp; omega, by omega, by simp; omega⟩
              · left
                refine ⟨by simp; omega, ?_⟩
                by_cases e : k = 9
                · right
                  exact ⟨by simp; omega, by omega⟩
                · left
                  simp
                  omega
            clear hgo hlow hb
            have hhb := fun j hj => hor_bound l k j hj HLo.out
            have HHb := Lib.hid hhb
            have hkn2 : k + 1 ≤ n := by omega
            clear hhb
            rcases hpick with ⟨z1, z2 | ⟨z2, z3⟩⟩ | ⟨z1, z2, z3⟩
            all_goals
              go_wp2
              go_loop [6, 7] (fun v i => HorRel l k v i) (fun _ i => (intOf i + 1).toNat)
              case atStart => exact ⟨k + 1, by go_num, Nat.le_refl _, by rw [Nat.sub_self]; rfl⟩
              case round =>
                obtain ⟨j, rfl, hj, rfl⟩ := hrel
                by_cases hj0 : j = 0
                · subst hj0
                  have g0 : ¬ (0 : Int) ≤ -1 := by decide
                  have hfin : hor l 0 (k + 1 - 0) = low l (k + 1) := by
                    have h1 := low_hor l (k + 1) 0
                    rw [Nat.zero_add] at h1
                    rw [h1]
                    simp [low]
                  have HFi := Lib.hid hfin
                  clear hfin
                  generalize hor l 0 (k + 1 - 0) = X at *
                  go_wp2
                  go_ret3
                  refine ⟨?_, rfl⟩
                  rw [HG.out, HFi.out]
                  first | rfl | (simp; omega)
                · obtain ⟨m, rfl⟩ : ∃ m, j = m + 1 := ⟨j - 1, by omega⟩
                  have d0 := Hc.out m (by omega)
                  have hst := hor_step l k m (by omega)
                  have hb1 := HHb.out m (by omega)
                  have hdg : dig l m = (l.getD m 0).toNat % 128 := rfl
                  rw [hst, hdg] at hb1
                  rw [hdg] at hst
                  generalize l.getD m 0 = cm at *
                  generalize hor l (m + 1) (k + 1 - (m + 1)) = X at *
                  have hmi : ((m + 1 : Nat) : Int) - 1 = (m : Int) := by omega
                  have hst' := Lib.hid hst
                  clear hst hdg
                  rw [hmi]
                  go_wp2
                  exact ⟨⟨m, rfl, by omega, by rw [hst'.out]; simp⟩, by simp [intOf]⟩
      · obtain rfl : k = n := by omega
        have hkn' : ¬ ((k : Int) < k) := by omega
        clear hcell'
        go_wp2
        go_ret3
        refine ⟨?_, rfl⟩
        rw [scanned_end HS.out HL.out.symm hk10]
        rfl

set_option maxRecDepth 100000 in
set_option maxHeartbeats 400000 in
theorem refgettext_any (w : World) (v : Value) (n : Nat) (l : List UInt8) (h : Reads w 1 v n (bcells l)) :
    Calls Tryd.prog 32 #[v] w (GetTextAny w (getText l)) := by
  have hll : l.length = n := by have := h.1; simpa [bcells_length] using this
  obtain ⟨a0, cap0, hv0, h1, h2⟩ := h.le
  unfold maxLen at h2
  have hget := refget_any w _ n _ h
  unfold getText
  have hok := getGo_ok l 0 0
  generalize getGo 0 0 l = r at hget hok
  obtain ⟨m, k, er⟩ := r
  simp only
  by_cases he : er = 0
  · subst he
    obtain ⟨hk0, hkl, hk10, hm⟩ := hok m k (by decide) rfl
    rw [if_pos rfl]
    have Hget := Lib.hid hget
    clear hget hok
    by_cases hs : l.length - k < m
    · rw [if_pos hs]
      have e1 : ((n : Int) - k) < m := by omega
      have e3 : (k : Int) ≤ n := by omega
      have Hll := Lib.hid hll
      clear hll hkl hs
      subst hv0
      go_enter Tryd.func32, Tryd.ntmps32
      go_wp2_with (go_at_call 31; go_must (refine Hget.out.mono ?_))
      rintro e w1 ⟨rfl, rfl⟩
      go_wp2
      go_ret3
      exact ⟨rfl, rfl⟩
    · rw [if_neg hs]
      obtain ⟨b, off, cap, rfl, _, _, _, _⟩ := h.head (by omega)
      cases hv0
      have hsk := h.skip k (by omega)
      obtain ⟨a', cap', hv', _, _, ht⟩ := hsk.take m (by omega)
      cases hv'
      have hcv := Reads.conv (P := Tryd.prog) (src := 28) (e := 5) (dst := 9) Tryd.underlying28 Tryd.underlying5 Tryd.underlying9 ht
      generalize hT : (l.drop k).take m = T at *
      clear hsk ht h
      have e1 : ¬ (n : Int) - k < m := by omega
      have e2 : (k : Int) + m ≤ n := by omega
      have e3 : (k : Int) ≤ n := by omega
      by_cases hck : cap0 = k
      · have hm0 : m = 0 := by omega
        have hnk : n = k := by omega
        have hT0 : T = [] := by rw [← hT, hm0]; rfl
        subst hm0
        subst hT0
        subst hnk
        subst hck
        have hr0 : Reads w 1 (.slice (some ⟨b, off, none⟩) 0 0) 0 (bcells []) := ⟨rfl, _, 0, rfl, Nat.le_refl _, Nat.zero_le _, fun j u h => by simp [bcells] at h⟩
        have hcv0 := Reads.conv (P := Tryd.prog) (src := 28) (e := 5) (dst := 9) Tryd.underlying28 Tryd.underlying5 Tryd.underlying9 hr0
        clear hcv hT hll hs
        go_enter Tryd.func32, Tryd.ntmps32
        go_wp2_with (go_at_call 31; go_must (refine Hget.out.mono ?_))
        rintro e w1 ⟨rfl, rfl⟩
        go_wp2
        go_ret3
        exact ⟨by simp, rfl⟩
      · have hck' : ¬ ((cap0 : Int) = k) := by omega
        clear hT hll hs
        go_enter Tryd.func32, Tryd.ntmps32
        go_wp2_with (go_at_call 31; go_must (refine Hget.out.mono ?_))
        rintro e w1 ⟨rfl, rfl⟩
        go_wp2
        go_ret3
        exact ⟨by simp, rfl⟩
  · rw [if_neg he]
    have e1 : (((er : Int)) == 0) = false := by simp; omega
    have Hget := Lib.hid hget
    clear hget hok hll h1 h2 h
    subst hv0
    go_enter Tryd.func32, Tryd.ntmps32
    go_wp2_with (go_at_call 31; go_must (refine Hget.out.mono ?_))
    rintro e w1 ⟨rfl, rfl⟩
    go_wp2
    go_ret3
    exact ⟨rfl, rfl⟩
end Go.Proofs.YtoibhkmlebcepaaDoor

/- A region that draws its order, shown by one fact an operation: what each leaves in its slot, in whatever world that has grown. -/
namespace Go.Proofs.YtoibhkmlebcepaaDoor
open Go Go.RowKit

/-- The operation o, its operands being ρ's, yields in the world w a value of which R holds, with the world behind it. -/
def YieldsP (P : Program) (ρ : Operand → Value) (o : Oper) (w : World) (R : Value → World → Prop) : Prop :=
  match (execOp ρ o).run P w with
  | .ok (.value v) w' => R v w'
  | .ok .skip w' => R undef w'
  | .ok (.enter f args) w' => Calls P f args w' fun e w'' => ∃ v, e = .returned v ∧ R v w''
  | _ => False

/-- dsts are unlike and lie in the frame; edges lead back. -/
def drawnOk (l : List Oper) (n : Nat) : Bool :=
  (List.range l.length).all fun i =>
    match l[i]? with
    | none => false
    | some o => (o.after.all fun e => !Region.binds .any e || decide (e.on < i)) &&
        (match o.dst with
         | none => true
         | some d => decide (d < n) && (List.range l.length).all fun j => j == i || (match l[j]? with | some o' => o'.dst != some d | none => true)) &&
        (match o.guard with
         | none => true
         | some (j, _) => (o.after.any fun e => Region.binds .any e && e.on == j) && (match l[j]? with | some o' => o'.dst.isSome | none => false))

section
variable {P : Program} {id : Nat} {l : List Oper} {Q : Exit → Act → World → Prop} {a0 : Act} {w0 : World}

/-- what operation o leans on holds of ρ -/
def Leans (l : List Oper) (F : Nat → Value → World → Prop) (o : Oper) (ρ : Operand → Value) (w : World) : Prop :=
  ∀ j, (o.after.any fun e => Region.binds .any e && e.on == j) = true → ∀ d, (l[j]?).bind (·.dst) = some d → F j (ρ (.tmp d)) w

/-- ρ is the frame's, where no operation of the region writes. -/
structure Like (l : List Oper) (a0 : Act) (ρ : Operand → Value) : Prop where
  const : ∀ c, ρ (.const c) = c
  func : ∀ f, ρ (.func f) = .func (.func f) #[] #[]
  tmp : ∀ k, (l.all fun o => o.dst != some k) = true → ρ (.tmp k) = a0.tmps.getD k undef

structure Inv (l : List Oper) (F : Nat → Value → World → Prop) (a0 : Act) (w0 : World) (listed : Array Bool) (a : Act) (w : World) : Prop where
  defers : a.defers = a0.defers
  size : a.tmps.size = a0.tmps.size
  len : listed.size = l.length
  like : Like l a0 a.eval
  below : Below w0.heap.size w0 w
  facts : ∀ i o d, l[i]? = some o → o.dst = some d → listed.getD i true = true → F i (a.tmps.getD d undef) w

theorem drawnOk_at {n : Nat} (h : drawnOk l n = true) {i : Nat} {o : Oper} (hi : l[i]? = some o) :
    (∀ e ∈ o.after, Region.binds .any e = true → e.on < i) ∧ (∀ d, o.dst = some d → d < n ∧ ∀ j o', l[j]? = some o' → j ≠ i → o'.dst ≠ some d) ∧
    (∀ j b, o.guard = some (j, b) → (o.after.any fun e => Region.binds .any e && e.on == j) = true ∧ ∃ d, (l[j]?).bind (·.dst) = some d) := by
  have hlt : i < l.length := (List.getElem?_eq_some_iff.1 hi).1
  have h1 := List.all_eq_true.1 h i (List.mem_range.2 hlt)
  simp only [hi, Bool.and_eq_true] at h1
  obtain ⟨⟨h1, h2⟩, h3⟩ := h1
  refine ⟨fun e he hb => ?_, fun d hd => ?_, fun j b hg => ?_⟩
  · have := Array.all_eq_true_iff_forall_mem.1 h1 e he
    simpa [hb] using this
  · simp only [hd, Bool.and_eq_true, decide_eq_true_eq] at h2
    refine ⟨h2.1, fun j o' hj hne hdst => ?_⟩
    have hjl : j < l.length := (List.getElem?_eq_some_iff.1 hj).1
    have := List.all_eq_true.1 h2.2 j (List.mem_range.2 hjl)
    simp [hne, hj, hdst] at this
  · simp only [hg, Bool.and_eq_true] at h3
    refine ⟨h3.1, ?_⟩
    have h4 := h3.2
    cases hj : l[j]? with
    | none => simp [hj] at h4
    | some o' =>
      simp [hj] at h4
      obtain ⟨d, hd⟩ := Option.isSome_iff_exists.1 h4
      exact ⟨d, by simp [hd]⟩

theorem all_listed (hok : drawnOk l a0.tmps.size = true) {listed : Array Bool} (hl : listed.size = l.length) (hr : Region.ready .any l.toArray listed = []) :
    ∀ i, i < l.length → listed.getD i true = true := by
  intro i
  induction i using Nat.strongRecOn with
  | ind i ih =>
    intro hi
    by_cases hlist : listed.getD i true = true
    · exact hlist
    · exfalso
      have ho : l[i]? = some l[i] := List.getElem?_eq_getElem hi
      have h1 := (drawnOk_at hok ho).1
      have : i ∈ Region.ready .any l.toArray listed := by
        unfold Region.ready
        rw [List.mem_filter]
        refine ⟨List.mem_range.2 (by simpa using hi), ?_⟩
        simp only [Bool.and_eq_true, Bool.not_eq_true', List.getElem?_toArray, ho, Option.map_some, Option.getD_some]
        refine ⟨by simpa using hlist, ?_⟩
        rw [Array.all_eq_true_iff_forall_mem]
        intro e he
        by_cases hb : Region.binds .any e = true
        · have hlt := h1 e he hb
          have := ih e.on hlt (by omega)
          have hsz : e.on < listed.size := by omega
          simp [Array.getD, hsz] at this ⊢
          right
          exact this
        · simp [hb]
      rw [hr] at this
      cases this

theorem getD_put {a : Act} {d k : Nat} {v : Value} (h : k ≠ d) : (a.put (some d) v).tmps.getD k undef = a.tmps.getD k undef := by
  simp [Act.put, Ne.symm h]

theorem getD_put_same {a : Act} {d : Nat} {v : Value} (h : d < a.tmps.size) : (a.put (some d) v).tmps.getD d undef = v := by
  simp [Act.put, h]

theorem Inv.step {F : Nat → Value → World → Prop} (hF : ∀ i v w w', F i v w → Below w.heap.size w w' → F i v w') (hok : drawnOk l a0.tmps.size = true)
    {listed : Array Bool} {a : Act} {w w' : World} (h : Inv l F a0 w0 listed a w) {i : Nat} {o : Oper} (hi : l[i]? = some o) {v : Value} (hv : F i v w') (hb : Below w.heap.size w w') :
    Inv l F a0 w0 (listed.setIfInBounds i true) (a.put o.dst v) w' := by
  obtain ⟨_, h2, _⟩ := drawnOk_at hok hi
  refine ⟨?_, ?_, by simpa using h.len, ⟨fun c => rfl, fun f => rfl, fun k hk => ?_⟩, h.below.trans (hb.mono h.below.size), fun j o' d hj hd hl => ?_⟩
  · cases o.dst <;> exact h.defers
  · cases hd : o.dst with
    | none => exact h.size
    | some d => simpa [Act.put] using h.size
  · show (a.put o.dst v).tmps.getD k undef = _
    cases hd : o.dst with
    | none => exact h.like.tmp k hk
    | some d =>
      have hne : k ≠ d := by
        have := List.all_eq_true.1 hk o (List.mem_of_getElem? hi)
        simp [hd] at this
        exact fun e => this e.symm
      rw [getD_put hne]
      exact h.like.tmp k hk
  · by_cases hji : j = i
    · subst hji
      rw [hi] at hj
      cases hj
      obtain ⟨h3, _⟩ := h2 d hd
      rw [hd, getD_put_same (by rw [h.size]; exact h3)]
      exact hv
    · have hl' : listed.getD j true = true := by
        simp only [Array.getD_eq_getD_getElem?, Array.getElem?_setIfInBounds] at hl ⊢
        rw [if_neg (fun e => hji e.symm)] at hl
        exact hl
      have := hF _ _ _ _ (h.facts j o' d hj hd hl') hb
      cases hdo : o.dst with
      | none => exact this
      | some d' =>
        have hne : d ≠ d' := by
          intro e
          subst e
          exact (h2 d hdo).2 j o' hj hji hd
        rw [getD_put hne]
        exact this

theorem wp_of_yields {o : Oper} {a : Act} {w : World} {K : Act → World → Prop} {R : Value → World → Prop} (hy : YieldsP P a.eval o w R) (hK : ∀ v w', R v w' → K (a.put o.dst v) w') : o.wp P a w K Q := by
  unfold Oper.wp
  unfold YieldsP at hy
  generalize (execOp a.eval o).run P w = r at hy
  cases r with
  | ok n w' =>
    cases n <;> simp only at hy
    case value u => exact hK _ _ hy
    case skip => exact hK _ _ hy
    case enter f args => exact hy.mono fun e w'' ⟨v, he, hr⟩ => by subst he; exact hK _ _ hr
  | halt x w' => simp only at hy

theorem wpAny_of_facts {F : Nat → Value → World → Prop} (hF : ∀ i v w w', F i v w → Below w.heap.size w w' → F i v w') (hok : drawnOk l a0.tmps.size = true) (G : Nat → Bool)
    (hop : ∀ (i : Nat) (o : Oper), l[i]? = some o → ∀ ρ w, Like l a0 ρ → Below w0.heap.size w0 w → Leans l F o ρ w → if G i = true then YieldsP P ρ o w (fun v w' => F i v w' ∧ Below w.heap.size w w') else F i undef w)
    (hguard : ∀ (i : Nat) (o : Oper), l[i]? = some o → match o.guard with | none => G i = true | some (j, b) => ∀ v w, F j v w → ∃ b', v = .bool b' ∧ (b' == b) = G i)
    (hend : ∀ a w, a.defers = a0.defers → a.tmps.size = a0.tmps.size → Like l a0 a.eval → Below w0.heap.size w0 w → (∀ (i : Nat) (o : Oper) (d : Nat), l[i]? = some o → o.dst = some d → F i (a.tmps.getD d undef) w) → Q .normal a w) :
    ∀ (fuel : Nat) (listed : Array Bool) (a : Act) (w : World), (listed.toList.countP (· == false)) ≤ fuel → Inv l F a0 w0 listed a w → wpAny P .any l.toArray Q fuel listed a w := by
  have fin : ∀ (listed : Array Bool) (a : Act) (w : World), Inv l F a0 w0 listed a w → Region.ready .any l.toArray listed = [] → Q .normal a w := by
    intro listed a w h hr
    refine hend a w h.defers h.size h.like h.below fun i o d hi hd => h.facts i o d hi hd ?_
    exact all_listed hok h.len hr i (List.getElem?_eq_some_iff.1 hi).1
  intro fuel
  induction fuel with
  | zero =>
    intro listed a w hc h
    have hr : Region.ready .any l.toArray listed = [] := by
      unfold Region.ready
      rw [List.filter_eq_nil_iff]
      intro i hi
      have hil : i < listed.size := by rw [h.len]; simpa using hi
      have h0 : listed.toList.countP (· == false) = 0 := by omega
      rw [List.countP_eq_zero] at h0
      have := h0 listed[i] (by simp)
      simp [Array.getD, hil] at this ⊢
      simp [this]
    exact ⟨hr, fin listed a w h hr⟩
  | succ fuel ih =>
    intro listed a w hc h
    refine ⟨fin listed a w h, fun i hi => ?_⟩
    unfold Region.ready at hi
    rw [List.mem_filter] at hi
    obtain ⟨hi1, hi2⟩ := hi
    have hil : i < l.length := by simpa using hi1
    have ho : l[i]? = some l[i] := List.getElem?_eq_getElem hil
    simp only [Bool.and_eq_true, Bool.not_eq_true', List.getElem?_toArray, ho, Option.map_some, Option.getD_some] at hi2
    obtain ⟨hnl, haft⟩ := hi2
    rw [Array.all_eq_true_iff_forall_mem] at haft
    have hls : i < listed.size := by rw [h.len]; exact hil
    have hleans : Leans l F l[i] a.eval w := by
      intro j hj d hd
      rw [Array.any_eq_true'] at hj
      obtain ⟨e, he, hej⟩ := hj
      simp only [Bool.and_eq_true, beq_iff_eq] at hej
      obtain ⟨hb, rfl⟩ := hej
      have hle := haft e he
      rw [hb] at hle
      obtain ⟨oj, hoj, hdj⟩ := Option.bind_eq_some_iff.1 hd
      refine h.facts e.on oj d hoj hdj ?_
      have hjl : e.on < listed.size := by rw [h.len]; exact (List.getElem?_eq_some_iff.1 hoj).1
      simp [Array.getD, hjl] at hle ⊢
      exact hle
    have hcount : ((listed.setIfInBounds i true).toList.countP (· == false)) ≤ fuel := by
      have hli : listed.toList[i]'(by simpa using hls) = false := by
        simp [Array.getD, hls] at hnl
        simpa using hnl
      rw [Array.toList_setIfInBounds, List.countP_set (h := by simpa using hls), hli]
      have hpos : 0 < listed.toList.countP (· == false) := List.countP_pos_iff.2 ⟨false, by rw [← hli]; exact List.getElem_mem _, rfl⟩
      rw [if_pos (by decide), if_neg (by decide)]
      omega
    have hstep := fun (v : Value) (w' : World) (hv : F i v w') (hb : Below w.heap.size w w') => ih (listed.setIfInBounds i true) (a.put l[i].dst v) w' hcount (h.step hF hok ho hv hb)
    have hO := hop i l[i] ho a.eval w h.like h.below hleans
    have hGd := hguard i l[i] ho
    unfold wpOp
    simp only [List.getElem?_toArray, ho]
    have hw : Region.wanted l[i] (yielded l.toArray a.tmps) = G i := by
      unfold Region.wanted
      cases hg : l[i].guard with
      | none => simp only [hg] at hGd; exact hGd.symm
      | some jb =>
        obtain ⟨j, b⟩ := jb
        simp only [hg] at hGd
        obtain ⟨hbind, d, hd⟩ := (drawnOk_at hok ho).2.2 j b hg
        obtain ⟨b', hv', hbb⟩ := hGd _ _ (hleans j hbind d hd)
        obtain ⟨oj, hoj, hdj⟩ := Option.bind_eq_some_iff.1 hd
        have hdlt := ((drawnOk_at hok hoj).2.1 d hdj).1
        have hsz : d < a.tmps.size := by rw [h.size]; exact hdlt
        have hval : a.tmps[d]? = some (.bool b') := by
          rw [Array.getElem?_eq_getElem hsz]
          have : a.eval (.tmp d) = a.tmps[d] := by simp [Act.eval, Array.getD, hsz]
          rw [← this, hv']
        simp only [yielded, List.getElem?_toArray, hoj, Option.bind_some, hdj, hval]
        rw [← hbb]
        cases b' <;> cases b <;> rfl
    rw [hw]
    by_cases hG : G i = true
    · rw [if_pos hG] at hO ⊢
      exact .inl (wp_of_yields hO fun v w' hr => hstep v w' hr.1 hr.2)
    · rw [if_neg hG] at hO ⊢
      exact hstep undef w hO (Below.refl _ _)

/-- THE REGION. -/
theorem wp_region_facts (hm : P.follows .mixedOrders = true) {F : Nat → Value → World → Prop} (hF : ∀ i v w w', F i v w → Below w.heap.size w w' → F i v w') (hok : drawnOk l a0.tmps.size = true) (G : Nat → Bool)
    (hop : ∀ (i : Nat) (o : Oper), l[i]? = some o → ∀ ρ w, Like l a0 ρ → Below w0.heap.size w0 w → Leans l F o ρ w → if G i = true then YieldsP P ρ o w (fun v w' => F i v w' ∧ Below w.heap.size w w') else F i undef w)
    (hguard : ∀ (i : Nat) (o : Oper), l[i]? = some o → match o.guard with | none => G i = true | some (j, b) => ∀ v w, F j v w → ∃ b', v = .bool b' ∧ (b' == b) = G i)
    (hend : ∀ a w, a.defers = a0.defers → a.tmps.size = a0.tmps.size → Like l a0 a.eval → Below w0.heap.size w0 w → (∀ (i : Nat) (o : Oper) (d : Nat), l[i]? = some o → o.dst = some d → F i (a.tmps.getD d undef) w) → Q .normal a w) :
    (Code.region id l.toArray true).wp P Q a0 w0 := by
  refine wp_region_any hm ?_
  refine wpAny_of_facts hF hok G hop hguard hend _ _ _ _ ?_ ⟨rfl, rfl, by simp, ⟨fun _ => rfl, fun _ => rfl, fun _ _ => rfl⟩, ⟨rfl, rfl, rfl, Nat.le_refl _, fun _ _ => rfl⟩, fun i o d hi _ hl => ?_⟩
  · exact Nat.le_trans List.countP_le_length (by simp)
  · have := (List.getElem?_eq_some_iff.1 hi).1
    simp [Array.getD, this] at hl

/-- A fact on a slot that goes on holding as the world grows. -/
structure SlotFact where
  p : Value → World → Prop
  stable : ∀ v w w', p v w → Below w.heap.size w w' → p v w'

/-- the slot holds x -/
def eqF (x : Value) : SlotFact := ⟨fun v _ => v = x, fun _ _ _ h _ => h⟩
def anyF : SlotFact := ⟨fun _ _ => True, fun _ _ _ _ _ => trivial⟩
def factsOf (fs : List SlotFact) (i : Nat) : Value → World → Prop := ((fs[i]?).getD anyF).p

theorem factsOf_stable (fs : List SlotFact) : ∀ i v w w', factsOf fs i v w → Below w.heap.size w w' → factsOf fs i v w' := fun _ v w w' h hb => SlotFact.stable _ v w w' h hb

def AllFrom (T : Nat → Oper → Prop) : Nat → List Oper → Prop
  | _, [] => True
  | i, o :: r => T i o ∧ AllFrom T (i + 1) r

theorem AllFrom.at {T : Nat → Oper → Prop} : ∀ {l : List Oper} {k : Nat}, AllFrom T k l → ∀ i o, l[i]? = some o → T (k + i) o
  | [], _, _, _, _, h => by simp at h
  | o :: r, k, h, i, o', hi => by
    cases i with
    | zero => simp at hi; subst hi; exact h.1
    | succ i =>
      have := AllFrom.at h.2 i o' (by simpa using hi)
      rwa [show k + 1 + i = k + (i + 1) by omega] at this

/-- what is to be shown of one operation -/
def OpGoal (P : Program) (l : List Oper) (fs : List SlotFact) (a0 : Act) (w0 : World) (i : Nat) (o : Oper) : Prop :=
  ∀ ρ w, Like l a0 ρ → Below w0.heap.size w0 w → Leans l (factsOf fs) o ρ w → YieldsP P ρ o w (fun v w' => factsOf fs i v w' ∧ Below w.heap.size w w')

def GuardGoal (fs : List SlotFact) (o : Oper) : Prop := match o.guard with | none => True | some (j, b) => ∀ v w, factsOf fs j v w → v = .bool b

/-- THE REGION, ALL OF WHOSE OPERATIONS ARE CARRIED OUT. -/
theorem wp_region_all (hm : P.follows .mixedOrders = true) (fs : List SlotFact) (hok : drawnOk l a0.tmps.size = true)
    (hop : AllFrom (OpGoal P l fs a0 w0) 0 l) (hguard : AllFrom (fun _ o => GuardGoal fs o) 0 l)
    (hend : ∀ a w, a.defers = a0.defers → a.tmps.size = a0.tmps.size → Like l a0 a.eval → Below w0.heap.size w0 w → (∀ (i : Nat) (o : Oper) (d : Nat), l[i]? = some o → o.dst = some d → factsOf fs i (a.tmps.getD d undef) w) → Q .normal a w) :
    (Code.region id l.toArray true).wp P Q a0 w0 := by
  refine wp_region_facts hm (factsOf_stable fs) hok (fun _ => true) (fun i o hi ρ w h1 h2 h3 => ?_) (fun i o hi => ?_) hend
  · rw [if_pos rfl]
    have := hop.at i o hi
    rw [Nat.zero_add] at this
    exact this ρ w h1 h2 h3
  · have := hguard.at i o hi
    unfold GuardGoal at this
    cases hg : o.guard with
    | none => rfl
    | some jb =>
      obtain ⟨j, b⟩ := jb
      simp only [hg] at this ⊢
      intro v w hv
      exact ⟨b, this v w hv, by simp⟩

theorem y_val {ρ : Operand → Value} {o : Oper} {w : World} {v : Value} {p : Value → World → Prop} (h : (execOp ρ o).run P w = .ok (.value v) w) (hp : p v w) : YieldsP P ρ o w (fun u w' => p u w' ∧ Below w.heap.size w w') := by
  unfold YieldsP
  rw [h]
  exact ⟨hp, Below.refl _ _⟩

theorem y_call {ρ : Operand → Value} {o : Oper} {w : World} {f : FuncId} {args : Array Value} {p : Value → World → Prop} (h : (execOp ρ o).run P w = .ok (.enter f args) w) (hc : Calls P f args w fun e w'' => ∃ v, e = .returned v ∧ p v w'' ∧ Below w.heap.size w w'') : YieldsP P ρ o w (fun u w' => p u w' ∧ Below w.heap.size w w') := by
  unfold YieldsP
  rw [h]
  exact hc
end

/-- the slot holds a slice of the bytes l -/
def bytesF (l : List UInt8) : SlotFact := ⟨fun v w => ∃ n, Reads w 1 v n (bcells l), fun _ _ _ ⟨n, h⟩ hb => ⟨n, h.below' hb⟩⟩
end Go.Proofs.YtoibhkmlebcepaaDoor

/- A region that draws its order, shown by an invariant over what has been carried out. -/
namespace Go.Proofs.YtoibhkmlebcepaaDoor
open Go Go.RowKit

section
variable {P : Program} {id : Nat} {l : List Oper} {Q : Exit → Act → World → Prop} {a0 : Act} {w0 : World}

theorem wpAny_of_inv (hok : drawnOk l a0.tmps.size = true) (hung : l.all (·.guard.isNone) = true) (J : (Nat → Bool) → Act → World → Prop)
    (hstep : ∀ (i : Nat) (o : Oper), l[i]? = some o → ∀ (L : Nat → Bool) (a : Act) (w : World), L i = false → (∀ j, (o.after.any fun e => Region.binds .any e && e.on == j) = true → L j = true) → J L a w → o.wp P a w (fun a' w' => ∀ L' : Nat → Bool, (∀ k, L' k = if k = i then true else L k) → J L' a' w') Q)
    (hend : ∀ (L : Nat → Bool) (a : Act) (w : World), (∀ i, i < l.length → L i = true) → J L a w → Q .normal a w) :
    ∀ (fuel : Nat) (listed : Array Bool) (a : Act) (w : World), listed.size = l.length → (listed.toList.countP (· == false)) ≤ fuel → J (fun i => listed.getD i true) a w → wpAny P .any l.toArray Q fuel listed a w := by
  have fin : ∀ (listed : Array Bool) (a : Act) (w : World), listed.size = l.length → J (fun i => listed.getD i true) a w → Region.ready .any l.toArray listed = [] → Q .normal a w := by
    intro listed a w hl h hr
    exact hend _ a w (fun i hi => all_listed hok hl hr i hi) h
  intro fuel
  induction fuel with
  | zero =>
    intro listed a w hl hc h
    have hr : Region.ready .any l.toArray listed = [] := by
      unfold Region.ready
      rw [List.filter_eq_nil_iff]
      intro i hi
      have hil : i < listed.size := by rw [hl]; simpa using hi
      have h0 : listed.toList.countP (· == false) = 0 := by omega
      rw [List.countP_eq_zero] at h0
      have := h0 listed[i] (by simp)
      simp [Array.getD, hil] at this ⊢
      simp [this]
    exact ⟨hr, fin listed a w hl h hr⟩
  | succ fuel ih =>
    intro listed a w hl hc h
    refine ⟨fin listed a w hl h, fun i hi => ?_⟩
    unfold Region.ready at hi
    rw [List.mem_filter] at hi
    obtain ⟨hi1, hi2⟩ := hi
    have hil : i < l.length := by simpa using hi1
    have ho : l[i]? = some l[i] := List.getElem?_eq_getElem hil
    simp only [Bool.and_eq_true, Bool.not_eq_true', List.getElem?_toArray, ho, Option.map_some, Option.getD_some] at hi2
    obtain ⟨hnl, haft⟩ := hi2
    rw [Array.all_eq_true_iff_forall_mem] at haft
    have hls : i < listed.size := by rw [hl]; exact hil
    have hprev : ∀ j, (l[i].after.any fun e => Region.binds .any e && e.on == j) = true → listed.getD j true = true := by
      intro j hj
      rw [Array.any_eq_true'] at hj
      obtain ⟨e, he, hej⟩ := hj
      simp only [Bool.and_eq_true, beq_iff_eq] at hej
      obtain ⟨hb, rfl⟩ := hej
      have hle := haft e he
      rw [hb] at hle
      by_cases hjl : e.on < listed.size
      · simp [Array.getD, hjl] at hle ⊢
        exact hle
      · simp [Array.getD, hjl]
    have hcount : ((listed.setIfInBounds i true).toList.countP (· == false)) ≤ fuel := by
      have hli : listed.toList[i]'(by simpa using hls) = false := by
        simp [Array.getD, hls] at hnl
        simpa using hnl
      rw [Array.toList_setIfInBounds, List.countP_set (h := by simpa using hls), hli]
      have hpos : 0 < listed.toList.countP (· == false) := List.countP_pos_iff.2 ⟨false, by rw [← hli]; exact List.getElem_mem _, rfl⟩
      rw [if_pos (by decide), if_neg (by decide)]
      omega
    have hLi : listed.getD i true = false := by
      simp [Array.getD, hls] at hnl ⊢
      exact hnl
    have hs := hstep i l[i] ho _ a w hLi hprev h
    have hg : l[i].guard = none := by
      have := List.all_eq_true.1 hung l[i] (List.getElem_mem _)
      simpa using this
    unfold wpOp
    simp only [List.getElem?_toArray, ho]
    rw [if_pos (by unfold Region.wanted; rw [hg])]
    refine .inl (Oper.wp_mono (fun a' w' hJ => ?_) hs)
    refine ih _ a' w' (by simpa using hl) hcount (hJ _ fun k => ?_)
    by_cases hk : k = i
    · subst hk
      simp [Array.getD, hls]
    · simp only [Array.getD_eq_getD_getElem?, Array.getElem?_setIfInBounds]
      rw [if_neg (fun e => hk e.symm), if_neg hk]

theorem wp_region_inv (hm : P.follows .mixedOrders = true) (hok : drawnOk l a0.tmps.size = true) (hung : l.all (·.guard.isNone) = true) (J : (Nat → Bool) → Act → World → Prop)
    (hJ : ∀ L : Nat → Bool, (∀ i, i < l.length → L i = false) → J L a0 w0.drew)
    (hstep : ∀ (i : Nat) (o : Oper), l[i]? = some o → ∀ (L : Nat → Bool) (a : Act) (w : World), L i = false → (∀ j, (o.after.any fun e => Region.binds .any e && e.on == j) = true → L j = true) → J L a w → o.wp P a w (fun a' w' => ∀ L' : Nat → Bool, (∀ k, L' k = if k = i then true else L k) → J L' a' w') Q)
    (hend : ∀ (L : Nat → Bool) (a : Act) (w : World), (∀ i, i < l.length → L i = true) → J L a w → Q .normal a w) :
    (Code.region id l.toArray true).wp P Q a0 w0 := by
  refine wp_region_any hm ?_
  refine wpAny_of_inv hok hung J hstep hend _ _ _ _ (by simp) ?_ (hJ _ fun i hi => ?_)
  · exact Nat.le_trans List.countP_le_length (by simp)
  · simp [Array.getD, hi]
end
end Go.Proofs.YtoibhkmlebcepaaDoor

/- Behind a region that draws its order, the frame is the one before it with the region's own slots put. -/
namespace Go.Proofs.YtoibhkmlebcepaaDoor
open Go Go.RowKit

theorem act_ext {a b : Act} (hd : a.defers = b.defers) (hs : a.tmps.size = b.tmps.size) (h : ∀ k, k < a.tmps.size → a.tmps.getD k undef = b.tmps.getD k undef) : a = b := by
  cases a with
  | mk ta da =>
    cases b with
    | mk tb db =>
      simp only at hd hs h
      have ht : ta = tb := Array.ext hs fun k h1 h2 => by
        have := h k h1
        simpa [Array.getD, h1, h2] using this
      subst ht
      subst hd
      rfl

theorem size_put (a : Act) (d : Nat) (v : Value) : (a.put (some d) v).tmps.size = a.tmps.size := by simp [Act.put]
theorem defers_put (a : Act) (d : Nat) (v : Value) : (a.put (some d) v).defers = a.defers := rfl

def putAll (aa a : Act) (ds : List Nat) : Act := ds.foldl (fun a d => a.put (some d) (aa.tmps.getD d undef)) a

theorem putAll_spec (aa : Act) : ∀ (ds : List Nat) (a : Act), (putAll aa a ds).defers = a.defers ∧ (putAll aa a ds).tmps.size = a.tmps.size ∧
    ∀ k, k < a.tmps.size → (putAll aa a ds).tmps.getD k undef = if k ∈ ds then aa.tmps.getD k undef else a.tmps.getD k undef
  | [], a => ⟨rfl, rfl, fun k _ => by simp [putAll]⟩
  | d :: ds, a => by
    obtain ⟨h1, h2, h3⟩ := putAll_spec aa ds (a.put (some d) (aa.tmps.getD d undef))
    refine ⟨h1, h2.trans (size_put a d _), fun k hk => ?_⟩
    have := h3 k (by rw [size_put]; exact hk)
    show (putAll aa (a.put (some d) (aa.tmps.getD d undef)) ds).tmps.getD k undef = _
    rw [this]
    by_cases hkd : k = d
    · subst hkd
      rw [getD_put_same hk]
      simp
    · rw [getD_put hkd]
      simp [hkd]

theorem act_of_like {l : List Oper} {a0 aa : Act} (hdef : aa.defers = a0.defers) (hsz : aa.tmps.size = a0.tmps.size) (hlk : Like l a0 aa.eval) (ds : List Nat) (n : Nat) (hn : a0.tmps.size = n)
    (hds : ((List.range n).all fun k => ds.contains k || l.all fun o => o.dst != some k) = true) : aa = putAll aa a0 ds := by
  subst hn
  obtain ⟨h1, h2, h3⟩ := putAll_spec aa ds a0
  refine act_ext (hdef.trans h1.symm) (hsz.trans h2.symm) fun k hk => ?_
  rw [h3 k (by omega)]
  by_cases hkd : k ∈ ds
  · rw [if_pos hkd]
  · rw [if_neg hkd]
    have := List.all_eq_true.1 hds k (by simpa using (by omega : k < a0.tmps.size))
    have h4 := hlk.tmp k (by simpa [hkd] using this)
    exact h4
end Go.Proofs.YtoibhkmlebcepaaDoor
