/- What the proof stands on, part 10. -/
import Derived.Test.YtekdcjbjjakhcaaMg9
import Derived.Deep.Slices
import Derived.Deep.Fields
import Derived.OpenShut
/- The document's answers (drop): Keep, At, Newest. -/
namespace Go.Proofs.Ytekdcjbjjakhcaa
open Go Go.RowKit

theorem gRef_length (ab b : Bool) (r : Nat) (xs : List KE) : ∀ pre, (gRef ab b r pre xs).length ≤ xs.length := by
  induction xs with
  | nil => intro pre; exact Nat.le_refl _
  | cons x t ih =>
    intro pre
    have := ih (pre ++ [x])
    rw [gRef, List.length_append, List.length_cons]
    split <;> simp <;> omega

theorem firstB_eq (es : List Ent) {ks : List ByteArray} {i : Nat} {k : ByteArray} {y : Ent} {r : Nat} (hl : es.length ≤ ks.length) : firstB ((ks.zip es).take i) (k, y) r = firstE es i y r := by
  unfold firstB firstE
  have e : (es.take i) = ((ks.zip es).take i).map (·.2) := by
    rw [List.map_take, List.map_snd_zip hl]
  rw [e, List.all_map]
  rfl

def RKeepRel (w1 : World) (xs : List KE) (f : Nat) (b : Bool) (o i : Value) (wr : World) : Prop :=
  ∃ k : Nat, i = .int .i64 (k : Int) ∧ k ≤ xs.length ∧ wr.ownsRow w1.heap.size 9 1 o (gRef true b f [] (xs.take k)).length (scells ((gRef true b f [] (xs.take k)).map (·.1))) ∧ Below w1.heap.size w1 wr

set_option maxRecDepth 100000 in
set_option maxHeartbeats 4000000 in
theorem refkeep_any (w : World) (a : Option Addr) (n cap : Nat) (ks : List ByteArray) (es : List Ent) (f : Nat) (b : Bool) (h : Reads w 1 (.slice a n cap) n (scells ks)) (hd : decs ks = some es) (hn : n ≤ 1000) (hsz : ∀ k ∈ ks, k.size ≤ 1000000) :
    Calls Try.prog 18 #[.slice a n cap, .int .u64 (f : Int), .bool b] w (SGives w ((gRef true b f [] (ks.zip es)).map (·.1))) := by
  obtain ⟨i0, hi, hz0, hz1, hz2⟩ := info_parts info9
  have hll : ks.length = n := by have := h.1; rw [scells_length] at this; omega
  have hel := (decs_some hd).1
  rw [hll] at hel
  obtain ⟨_, _, hv, hc1, hc2⟩ := h.le
  cases hv
  unfold maxLen at hc2
  have hen := entries18_any w a n cap ks es h hd hn hsz
  have HEn := Lib.hid hen
  have HR := Lib.hid h
  have HEl := Lib.hid hel
  have hxl : (ks.zip es).length = n := by rw [List.length_zip, hll, hel, Nat.min_self]
  have HXl := Lib.hid hxl
  clear h hd hsz hll hel hen hxl
  go_enter Try.func18, Try.ntmps18
  go_wp2_with (go_at_call 42; go_must (refine HEn.out.mono ?_))
  rintro e w1 ⟨ea, ecap, rfl, re1, b1⟩
  have HB1 := Lib.hid b1
  have HE1 := Lib.hid re1
  have HR1 := Lib.hid (HR.out.below' b1)
  rw [HEl.out] at HE1 ⊢
  obtain ⟨_, _, hv, hd1, hd2⟩ := HE1.out.le
  cases hv
  unfold maxLen at hd2
  clear b1 re1 HEn HR
  go_wp2
  go_loopw [7, 15] (fun o v wr => RKeepRel w1 (ks.zip es) f b o v wr) (fun _ v _ => n - (intOf v).toNat)
  case atStart => exact ⟨0, rfl, Nat.zero_le _, owns_nil _ _ _ _, Below.refl _ _⟩
  case round =>
    obtain ⟨i, rfl, hil, how, hb⟩ := hrel
    rw [HXl.out] at hil
    have hbs := hb.size
    have hgl : (gRef true b f [] ((ks.zip es).take i)).length ≤ 1000 := by
      have h1 := gRef_length true b f ((ks.zip es).take i) []
      rw [List.length_take] at h1
      omega
    have HB := Lib.hid hb
    have HO := Lib.hid how
    clear hb how
    by_cases hin : i < n
    · have hinI : (i : Int) < n := by omega
      obtain ⟨kb, koff, k, rfl, hx, hbx, hcx⟩ := (HR1.out.below' HB.out).scell i hin
      obtain ⟨y, hy⟩ : ∃ y, es[i]? = some y := ⟨es[i]'(by rw [HEl.out]; exact hin), List.getElem?_eq_getElem _⟩
      obtain ⟨g2, off2, rfl, hgl2, c0, c1, c2⟩ := ent_cells (HE1.out.below' HB.out) hy
      have hz : (ks.zip es)[i]? = some (k, y) := List.getElem?_zip_eq_some.2 ⟨hx, hy⟩
      have hnx : gRef true b f [] ((ks.zip es).take (i + 1)) = gRef true b f [] ((ks.zip es).take i) ++ if gCond true b f ((ks.zip es).take i) (k, y) then [(k, y)] else [] := by
        rw [List.take_add_one, hz, Option.toList_some, gRef_snoc, List.nil_append]
      have hcond : gCond true b f ((ks.zip es).take i) (k, y) = ((true && decide (f < y.rev)) || (firstE es i y f && !(y.del && b))) := by
        unfold gCond
        rw [firstB_eq es (by rw [HEl.out]; have := HXl.out; rw [List.length_zip] at this; omega)]
      have hfi := fun w' (h : Reads w' 3 (.slice (some ⟨g2, off2, none⟩) n ecap) n (ecells es)) => first18_any w' (some ⟨g2, off2, none⟩) n ecap i f es y h HEl.out hy
      generalize gRef true b f [] ((ks.zip es).take i) = R at *
      generalize gCond true b f ((ks.zip es).take i) (k, y) = cnd at *
      generalize firstE es i y f = fb at *
      obtain ⟨key, rev, del⟩ := y
      dsimp only at c0 c1 c2 hcond
      have HNx := Lib.hid hnx
      have HX := Lib.hid hx
      have HCo := Lib.hid hcond
      have HFi := Lib.hid hfi
      have hal : Below wr.heap.size wr (wr.alloc (.cells #[.string key, .int .u64 (rev : Int), .bool del] 48)) := (Below.refl _ wr).alloc (Nat.le_refl _) _
      have hg2 := heap_alloc_new wr (.cells #[.string key, .int .u64 (rev : Int), .bool del] 48)
      have HB2 := Lib.hid (HB.out.trans (hal.mono hbs))
      have HO2 := Lib.hid (owns_below HO.out hal)
      have HG2 := Lib.hid hg2
      clear hnx hcond hfi hz hx hy hal hg2 HO HB
      by_cases hfr : f < rev
      · have hfI : (f : Int) < rev := by omega
        have hcn : cnd = true := by rw [HCo.out, decide_eq_true hfr]; rfl
        have HNy := Lib.hid (HNx.out.trans (show (R ++ if cnd then [(k, (⟨key, rev, del⟩ : Ent))] else []) = R ++ [(k, (⟨key, rev, del⟩ : Ent))] from by rw [hcn, if_pos rfl]))
        clear hcn HCo HFi
        have HN := Lib.hid (show (wr.alloc (.cells #[.string key, .int .u64 (rev : Int), .bool del] 48)).heap.size = wr.heap.size + 1 by simp)
        obtain ⟨oa, ocap, rfl, ho1, ho2⟩ := (ownsRow.reads HO2.out).le
        unfold maxLen at ho2
        have hbs4 := HB2.out.size
        go_wp2_with (at_builtin; go_must (refine wpList_append_rows_at (w0 := wr.alloc (.cells #[.string key, .int .u64 (rev : Int), .bool del] 48)) rfl _ _ 26 rfl w1.heap.size 9 i0 _ 1 16 Try.underlying26 hi hz0 hz1 hz2 rfl [.string k] 1 rfl HN.out HO2.out rfl rfl ?_ ?_ ?_ hbs4 ?_))
        · intro u hu
          simp at hu
          subst hu
          rfl
        · unfold maxLen; omega
        · omega
        intro v6 w6 o6 g6 b6 _
        have HO6 := Lib.hid o6
        have HB6 := Lib.hid (HB2.out.trans b6)
        clear o6 g6 b6
        go_wp2
        refine ⟨⟨i + 1, by go_num, by rw [HXl.out]; omega, ?_, HB6.out⟩, by simp [intOf]; omega⟩
        rw [HNy.out, List.map_append, List.length_append]
        simpa [scells] using HO6.out
      · have hfI : ¬ ((f : Int) < rev) := by omega
        rw [decide_eq_false hfr] at HCo
        go_wp2_with fail
        generalize wr.alloc (.cells #[.string key, .int .u64 (rev : Int), .bool del] 48) = w3 at *
        generalize wr.heap.size = p at *
        clear c0 c1 c2 hcx hbx
        have hpl := (Array.getElem?_eq_some_iff.1 HG2.out).1
        have q0 := Lib.cell_of_heap HG2.out 0
        have q1 := Lib.cell_of_heap HG2.out 1
        have q2 := Lib.cell_of_heap HG2.out 2
        simp at q0 q1 q2
        have HF3 := Lib.hid (HFi.out w3 (HE1.out.below' HB2.out))
        go_wp2_with (go_at_call 43; go_must (refine HF3.out.mono ?_))
        rintro e w4 ⟨rfl, b4⟩
        have HB4 := Lib.hid (HB2.out.trans (b4.mono HB2.out.size))
        have HO4 := Lib.hid (owns_below HO2.out b4)
        have hg4 := (b4.block p hpl).trans HG2.out
        have hpl4 := (Array.getElem?_eq_some_iff.1 hg4).1
        clear q0 q1 q2
        have q0 := Lib.cell_of_heap hg4 0
        have q1 := Lib.cell_of_heap hg4 1
        have q2 := Lib.cell_of_heap hg4 2
        simp at q0 q1 q2
        obtain ⟨_, _, k', hv, hx', hbx, hcx⟩ := (HR1.out.below' HB4.out).scell i hin
        cases hv
        obtain rfl : k = k' := by rw [HX.out] at hx'; exact Option.some.inj hx'
        clear hx'
        clear b4 hg4 HF3 HFi HO2
        cases fb with
        | false =>
          have hcn : cnd = false := by rw [HCo.out]; simp
          have HNy := Lib.hid (HNx.out.trans (show (R ++ if cnd then [(k, (⟨key, rev, del⟩ : Ent))] else []) = R from by rw [hcn, if_neg (by decide), List.append_nil]))
          clear hcn HCo
          go_wp2
          refine ⟨⟨i + 1, by go_num, by rw [HXl.out]; omega, ?_, HB4.out⟩, by simp [intOf]; omega⟩
          rw [HNy.out]
          simpa [scells] using HO4.out
        | true =>
          cases hdb : del && b with
          | true =>
            obtain ⟨rfl, rfl⟩ : del = true ∧ b = true := by simpa using hdb
            have hcn : cnd = false := by rw [HCo.out]; simp
            have HNy := Lib.hid (HNx.out.trans (show (R ++ if cnd then [(k, (⟨key, rev, true⟩ : Ent))] else []) = R from by rw [hcn, if_neg (by decide), List.append_nil]))
            clear hcn HCo hdb
            go_wp2
            refine ⟨⟨i + 1, by go_num, by rw [HXl.out]; omega, ?_, HB4.out⟩, by simp [intOf]; omega⟩
            rw [HNy.out]
            simpa [scells] using HO4.out
          | false =>
            have hcn : cnd = true := by rw [HCo.out, hdb]; simp
            have HNy := Lib.hid (HNx.out.trans (show (R ++ if cnd then [(k, (⟨key, rev, del⟩ : Ent))] else []) = R ++ [(k, (⟨key, rev, del⟩ : Ent))] from by rw [hcn, if_pos rfl]))
            have hcase : del = false ∨ (del = true ∧ b = false) := by cases del <;> simp_all
            clear hcn HCo hdb
            rcases hcase with rfl | ⟨rfl, rfl⟩
            all_goals
              obtain ⟨oa, ocap, rfl, ho1, ho2⟩ := (ownsRow.reads HO4.out).le
              unfold maxLen at ho2
              have hbs4 := HB4.out.size
              go_wp2_with (at_builtin; go_must (refine wpList_append_rows_at (w0 := w4) rfl _ _ 26 rfl w1.heap.size 9 i0 _ 1 16 Try.underlying26 hi hz0 hz1 hz2 rfl [.string k] 1 rfl rfl HO4.out rfl rfl ?_ ?_ ?_ hbs4 ?_))
              · intro u hu
                simp at hu
                subst hu
                rfl
              · unfold maxLen; omega
              · omega
              intro v6 w6 o6 g6 b6 _
              have HO6 := Lib.hid o6
              have HB6 := Lib.hid (HB4.out.trans b6)
              clear o6 g6 b6
              go_wp2
              refine ⟨⟨i + 1, by go_num, by rw [HXl.out]; omega, ?_, HB6.out⟩, by simp [intOf]; omega⟩
              rw [HNy.out, List.map_append, List.length_append]
              simpa [scells] using HO6.out
    · have hinI : ¬ ((i : Int) < n) := by omega
      have htk : (ks.zip es).take i = ks.zip es := List.take_of_length_le (by rw [HXl.out]; omega)
      have how := HO.out
      rw [htk] at how
      have hlen : ((gRef true b f [] (ks.zip es)).map (·.1)).length = (gRef true b f [] (ks.zip es)).length := List.length_map ..
      obtain ⟨oa, ocap, rfl, _, _⟩ := (ownsRow.reads how).le
      have HW := Lib.hid (ownsRow.reads how)
      clear how htk HO
      go_wp2
      go_ret
      unfold SGives
      rw [hlen]
      exact ⟨oa, ocap, rfl, HW.out, HB1.out.trans (HB.out.mono HB1.out.size)⟩

def RAtRel (w1 : World) (xs : List KE) (f : Nat) (o i : Value) (wr : World) : Prop :=
  ∃ k : Nat, i = .int .i64 (k : Int) ∧ k ≤ xs.length ∧ wr.ownsRow w1.heap.size 9 1 o (gRef false true f [] (xs.take k)).length (scells ((gRef false true f [] (xs.take k)).map (·.2.key))) ∧ Below w1.heap.size w1 wr

set_option maxRecDepth 100000 in
set_option maxHeartbeats 4000000 in
theorem refat_any (w : World) (a : Option Addr) (n cap : Nat) (ks : List ByteArray) (es : List Ent) (f : Nat) (h : Reads w 1 (.slice a n cap) n (scells ks)) (hd : decs ks = some es) (hn : n ≤ 1000) (hsz : ∀ k ∈ ks, k.size ≤ 1000000) :
    Calls Try.prog 19 #[.slice a n cap, .int .u64 (f : Int)] w (SGives w ((gRef false true f [] (ks.zip es)).map (·.2.key))) := by
  obtain ⟨i0, hi, hz0, hz1, hz2⟩ := info_parts info9
  have hll : ks.length = n := by have := h.1; rw [scells_length] at this; omega
  have hel := (decs_some hd).1
  rw [hll] at hel
  obtain ⟨_, _, hv, hc1, hc2⟩ := h.le
  cases hv
  unfold maxLen at hc2
  have hen := entries18_any w a n cap ks es h hd hn hsz
  have HEn := Lib.hid hen
  have HR := Lib.hid h
  have HEl := Lib.hid hel
  have hxl : (ks.zip es).length = n := by rw [List.length_zip, hll, hel, Nat.min_self]
  have HXl := Lib.hid hxl
  clear h hd hsz hll hel hen hxl
  go_enter Try.func19, Try.ntmps19
  go_wp2_with (go_at_call 42; go_must (refine HEn.out.mono ?_))
  rintro e w1 ⟨ea, ecap, rfl, re1, b1⟩
  have HB1 := Lib.hid b1
  have HE1 := Lib.hid re1
  have HR1 := Lib.hid (HR.out.below' b1)
  rw [HEl.out] at HE1 ⊢
  obtain ⟨_, _, hv, hd1, hd2⟩ := HE1.out.le
  cases hv
  unfold maxLen at hd2
  clear b1 re1 HEn HR
  go_wp2
  go_loopw [5, 13] (fun o v wr => RAtRel w1 (ks.zip es) f o v wr) (fun _ v _ => n - (intOf v).toNat)
  case atStart => exact ⟨0, rfl, Nat.zero_le _, owns_nil _ _ _ _, Below.refl _ _⟩
  case round =>
    obtain ⟨i, rfl, hil, how, hb⟩ := hrel
    rw [HXl.out] at hil
    have hbs := hb.size
    have hgl : (gRef false true f [] ((ks.zip es).take i)).length ≤ 1000 := by
      have h1 := gRef_length false true f ((ks.zip es).take i) []
      rw [List.length_take] at h1
      omega
    have HB := Lib.hid hb
    have HO := Lib.hid how
    clear hb how
    by_cases hin : i < n
    · have hinI : (i : Int) < n := by omega
      obtain ⟨kb, koff, k, rfl, hx, hbx, hcx⟩ := (HR1.out.below' HB.out).scell i hin
      obtain ⟨y, hy⟩ : ∃ y, es[i]? = some y := ⟨es[i]'(by rw [HEl.out]; exact hin), List.getElem?_eq_getElem _⟩
      obtain ⟨g2, off2, rfl, hgl2, c0, c1, c2⟩ := ent_cells (HE1.out.below' HB.out) hy
      have hz : (ks.zip es)[i]? = some (k, y) := List.getElem?_zip_eq_some.2 ⟨hx, hy⟩
      have hnx : gRef false true f [] ((ks.zip es).take (i + 1)) = gRef false true f [] ((ks.zip es).take i) ++ if gCond false true f ((ks.zip es).take i) (k, y) then [(k, y)] else [] := by
        rw [List.take_add_one, hz, Option.toList_some, gRef_snoc, List.nil_append]
      have hcond : gCond false true f ((ks.zip es).take i) (k, y) = ((false && decide (f < y.rev)) || (firstE es i y f && !(y.del && true))) := by
        unfold gCond
        rw [firstB_eq es (by rw [HEl.out]; have := HXl.out; rw [List.length_zip] at this; omega)]
      have hfi := fun w' (h : Reads w' 3 (.slice (some ⟨g2, off2, none⟩) n ecap) n (ecells es)) => first18_any w' (some ⟨g2, off2, none⟩) n ecap i f es y h HEl.out hy
      generalize gRef false true f [] ((ks.zip es).take i) = R at *
      generalize gCond false true f ((ks.zip es).take i) (k, y) = cnd at *
      generalize firstE es i y f = fb at *
      obtain ⟨key, rev, del⟩ := y
      dsimp only at c0 c1 c2 hcond
      have HNx := Lib.hid hnx
      have HCo := Lib.hid hcond
      have HFi := Lib.hid hfi
      have hal : Below wr.heap.size wr (wr.alloc (.cells #[.string key, .int .u64 (rev : Int), .bool del] 48)) := (Below.refl _ wr).alloc (Nat.le_refl _) _
      have hg2 := heap_alloc_new wr (.cells #[.string key, .int .u64 (rev : Int), .bool del] 48)
      have HB2 := Lib.hid (HB.out.trans (hal.mono hbs))
      have HO2 := Lib.hid (owns_below HO.out hal)
      have HG2 := Lib.hid hg2
      clear hnx hcond hfi hz hx hy hal hg2 HO HB
      go_wp2_with fail
      generalize wr.alloc (.cells #[.string key, .int .u64 (rev : Int), .bool del] 48) = w3 at *
      generalize wr.heap.size = p at *
      clear c0 c1 c2 hcx hbx
      have hpl := (Array.getElem?_eq_some_iff.1 HG2.out).1
      have q0 := Lib.cell_of_heap HG2.out 0
      have q1 := Lib.cell_of_heap HG2.out 1
      have q2 := Lib.cell_of_heap HG2.out 2
      simp at q0 q1 q2
      have HF3 := Lib.hid (HFi.out w3 (HE1.out.below' HB2.out))
      go_wp2_with (go_at_call 43; go_must (refine HF3.out.mono ?_))
      rintro e w4 ⟨rfl, b4⟩
      have HB4 := Lib.hid (HB2.out.trans (b4.mono HB2.out.size))
      have HO4 := Lib.hid (owns_below HO2.out b4)
      have hg4 := (b4.block p hpl).trans HG2.out
      have hpl4 := (Array.getElem?_eq_some_iff.1 hg4).1
      clear q0 q1 q2
      have q0 := Lib.cell_of_heap hg4 0
      have q1 := Lib.cell_of_heap hg4 1
      have q2 := Lib.cell_of_heap hg4 2
      simp at q0 q1 q2
      clear b4 hg4 HF3 HFi HO2
      cases fb with
      | false =>
        have hcn : cnd = false := by rw [HCo.out]; simp
        have HNy := Lib.hid (HNx.out.trans (show (R ++ if cnd then [(k, (⟨key, rev, del⟩ : Ent))] else []) = R from by rw [hcn, if_neg (by decide), List.append_nil]))
        clear hcn HCo
        go_wp2
        refine ⟨⟨i + 1, by go_num, by rw [HXl.out]; omega, ?_, HB4.out⟩, by simp [intOf]; omega⟩
        rw [HNy.out]
        simpa [scells] using HO4.out
      | true =>
        cases hdb : del && true with
        | true =>
          obtain rfl : del = true := by simpa using hdb
          have hcn : cnd = false := by rw [HCo.out]; simp
          have HNy := Lib.hid (HNx.out.trans (show (R ++ if cnd then [(k, (⟨key, rev, true⟩ : Ent))] else []) = R from by rw [hcn, if_neg (by decide), List.append_nil]))
          clear hcn HCo hdb
          go_wp2
          refine ⟨⟨i + 1, by go_num, by rw [HXl.out]; omega, ?_, HB4.out⟩, by simp [intOf]; omega⟩
          rw [HNy.out]
          simpa [scells] using HO4.out
        | false =>
          have hcn : cnd = true := by rw [HCo.out, hdb]; simp
          have HNy := Lib.hid (HNx.out.trans (show (R ++ if cnd then [(k, (⟨key, rev, del⟩ : Ent))] else []) = R ++ [(k, (⟨key, rev, del⟩ : Ent))] from by rw [hcn, if_pos rfl]))
          obtain rfl : del = false := by simpa using hdb
          clear hcn HCo hdb
          obtain ⟨oa, ocap, rfl, ho1, ho2⟩ := (ownsRow.reads HO4.out).le
          unfold maxLen at ho2
          have hbs4 := HB4.out.size
          go_wp2_with (at_builtin; go_must (refine wpList_append_rows_at (w0 := w4) rfl _ _ 26 rfl w1.heap.size 9 i0 _ 1 16 Try.underlying26 hi hz0 hz1 hz2 rfl [.string key] 1 rfl rfl HO4.out rfl rfl ?_ ?_ ?_ hbs4 ?_))
          · intro u hu
            simp at hu
            subst hu
            rfl
          · unfold maxLen; omega
          · omega
          intro v6 w6 o6 g6 b6 _
          have HO6 := Lib.hid o6
          have HB6 := Lib.hid (HB4.out.trans b6)
          clear o6 g6 b6
          go_wp2
          refine ⟨⟨i + 1, by go_num, by rw [HXl.out]; omega, ?_, HB6.out⟩, by simp [intOf]; omega⟩
          rw [HNy.out, List.map_append, List.length_append]
          simpa [scells] using HO6.out
    · have hinI : ¬ ((i : Int) < n) := by omega
      have htk : (ks.zip es).take i = ks.zip es := List.take_of_length_le (by rw [HXl.out]; omega)
      have how := HO.out
      rw [htk] at how
      have hlen : ((gRef false true f [] (ks.zip es)).map (·.2.key)).length = (gRef false true f [] (ks.zip es)).length := List.length_map ..
      obtain ⟨oa, ocap, rfl, _, _⟩ := (ownsRow.reads how).le
      have HW := Lib.hid (ownsRow.reads how)
      clear how htk HO
      go_wp2
      go_ret
      unfold SGives
      rw [hlen]
      exact ⟨oa, ocap, rfl, HW.out, HB1.out.trans (HB.out.mono HB1.out.size)⟩

def NewRel (w1 : World) (es : List Ent) (m i : Value) (wr : World) : Prop := ∃ k : Nat, i = .int .i64 (k : Int) ∧ k ≤ es.length ∧ m = .int .u64 (newestOf (es.take k) : Int) ∧ Below w1.heap.size w1 wr

set_option maxRecDepth 100000 in
set_option maxHeartbeats 4000000 in
theorem refnewest_any (w : World) (a : Option Addr) (n cap : Nat) (ks : List ByteArray) (es : List Ent) (h : Reads w 1 (.slice a n cap) n (scells ks)) (hd : decs ks = some es) (hn : n ≤ 1000) (hsz : ∀ k ∈ ks, k.size ≤ 1000000) :
    Calls Try.prog 20 #[.slice a n cap] w (GivesU64 w (newestOf es)) := by
  have hll : ks.length = n := by have := h.1; rw [scells_length] at this; omega
  have hel := (decs_some hd).1
  rw [hll] at hel
  have hen := entries18_any w a n cap ks es h hd hn hsz
  have HEn := Lib.hid hen
  have HEl := Lib.hid hel
  clear h hd hsz hll hel hen
  go_enter Try.func20, Try.ntmps20
  go_wp2_with (go_at_call 42; go_must (refine HEn.out.mono ?_))
  rintro e w1 ⟨ea, ecap, rfl, re1, b1⟩
  have HB1 := Lib.hid b1
  have HE1 := Lib.hid re1
  rw [HEl.out] at HE1 ⊢
  obtain ⟨_, _, hv, hd1, hd2⟩ := HE1.out.le
  cases hv
  unfold maxLen at hd2
  clear b1 re1 HEn
  go_wp2
  go_loopw [3, 9] (fun m v wr => NewRel w1 es m v wr) (fun _ v _ => n - (intOf v).toNat)
  case atStart => exact ⟨0, rfl, Nat.zero_le _, rfl, Below.refl _ _⟩
  case round =>
    obtain ⟨i, rfl, hil, rfl, hb⟩ := hrel
    rw [HEl.out] at hil
    have hbs := hb.size
    have HB := Lib.hid hb
    clear hb
    by_cases hin : i < n
    · have hinI : (i : Int) < n := by omega
      obtain ⟨y, hy⟩ : ∃ y, es[i]? = some y := ⟨es[i]'(by rw [HEl.out]; exact hin), List.getElem?_eq_getElem _⟩
      obtain ⟨g2, off2, rfl, hgl2, c0, c1, c2⟩ := ent_cells (HE1.out.below' HB.out) hy
      have hnx : newestOf (es.take (i + 1)) = max (newestOf (es.take i)) y.rev := by
        rw [List.take_add_one, hy, Option.toList_some, newestOf_snoc]
      obtain ⟨key, rev, del⟩ := y
      dsimp only at c0 c1 c2 hnx
      generalize newestOf (es.take i) = m at *
      have HNx := Lib.hid hnx
      have HB2 := Lib.hid (HB.out.trans (((Below.refl _ wr).alloc (Nat.le_refl _) (.cells #[.string key, .int .u64 (rev : Int), .bool del] 48)).mono hbs))
      clear hnx hy
      go_wp2
      refine ⟨⟨i + 1, by go_num, by rw [HEl.out]; omega, ?_, HB2.out⟩, by simp [intOf]; omega⟩
      rw [HNx.out]
      congr 1
      omega
    · have hinI : ¬ ((i : Int) < n) := by omega
      have htk : es.take i = es := List.take_of_length_le (by rw [HEl.out]; omega)
      rw [htk]
      go_wp2
      go_ret
      exact ⟨rfl, HB1.out.trans (HB.out.mono HB1.out.size)⟩
end Go.Proofs.Ytekdcjbjjakhcaa

/- sentryref19.Scan. -/
namespace Go.Proofs.Ytekdcjbjjakhcaa
open Go Go.RowKit

def sOk (fr upTo : ByteArray) (most : Int) (n : Nat) (k : ByteArray) : Bool := !bl k fr && wants upTo k && (decide (most < 1) || decide ((n : Int) < most))
def sStep (fr upTo : ByteArray) (most : Int) (out : List ByteArray) (k : ByteArray) : List ByteArray := if sOk fr upTo most out.length k then out ++ [k] else out
def sAll (fr upTo : ByteArray) (most : Int) (T : List ByteArray) : List ByteArray := T.foldl (sStep fr upTo most) []

theorem sAll_snoc {fr upTo : ByteArray} {most : Int} {T : List ByteArray} {k : Nat} {x : ByteArray} (h : T[k]? = some x) : sAll fr upTo most (T.take (k + 1)) = sStep fr upTo most (sAll fr upTo most (T.take k)) x := by
  rw [List.take_add_one, h]
  simp [sAll]

theorem sStep_le (fr upTo : ByteArray) (most : Int) (out : List ByteArray) (k : ByteArray) : (sStep fr upTo most out k).length ≤ out.length + 1 := by
  unfold sStep
  split <;> simp

theorem sAll_le (fr upTo : ByteArray) (most : Int) (T : List ByteArray) (k : Nat) (hk : k ≤ T.length) : (sAll fr upTo most (T.take k)).length ≤ k := by
  induction k with
  | zero => simp [sAll]
  | succ k ih =>
    have hx : T[k]? = some (T[k]'(by omega)) := List.getElem?_eq_getElem _
    rw [sAll_snoc hx]
    have h1 := sStep_le fr upTo most (sAll fr upTo most (T.take k)) (T[k]'(by omega))
    have h2 := ih (by omega)
    omega

def RefScanRel (w2 : World) (fr upTo : ByteArray) (most : Int) (T : List ByteArray) (ov iv : Value) (wr : World) : Prop :=
  ∃ k : Nat, iv = .int .i64 (k : Int) ∧ k ≤ T.length ∧ wr.ownsRow w2.heap.size 9 1 ov (sAll fr upTo most (T.take k)).length (scells (sAll fr upTo most (T.take k))) ∧ Below w2.heap.size w2 wr

set_option maxRecDepth 100000 in
set_option maxHeartbeats 4000000 in
theorem refscan19_any (w : World) (v : Value) (n : Nat) (ls : List (List ByteArray)) (xs : List KE) (fr upTo : ByteArray) (r : Nat) (most : Int) (h : SRows w v n ls) (ht : total ls ≤ 1000) (hok : RowsOk xs) (hall : allK ls = xs.map (·.1)) (hsz : ∀ k ∈ allK ls, k.size ≤ 1000000) (hm1 : -9223372036854775808 ≤ most) (hm2 : most < 9223372036854775808) :
    Calls Try.prog 29 #[v, .string fr, .string upTo, .int .u64 (r : Int), .int .i64 most] w (SGives w (sAll fr upTo most (keysOf (gS false true r [] xs)))) := by
  obtain ⟨i0, hi, hz0, hz1, hz2⟩ := info_parts info9
  have hxl : (allK ls).length ≤ 1000 := Nat.le_trans (allK_ok ls).2.2 ht
  have hd : decs (allK ls) = some (xs.map (·.2)) := by rw [hall]; exact hok.told.1
  have hT : (gRef false true r [] ((allK ls).zip (xs.map (·.2)))).map (·.2.key) = keysOf (gS false true r [] xs) := by
    rw [hall, zip_parts, gRef_eq]
    rfl
  have hat := fun w' (a : Option Addr) (cap : Nat) (hr : Reads w' 1 (.slice a (allK ls).length cap) (allK ls).length (scells (allK ls))) => refat_any w' a (allK ls).length cap (allK ls) (xs.map (·.2)) r hr hd hxl hsz
  rw [hT] at hat
  have HAt := Lib.hid hat
  have HA := Lib.hid (refall_any w v n ls h (by omega))
  have hTl : (keysOf (gS false true r [] xs)).length ≤ 1000 := by
    have h1 := (gS_sub false true r [] xs).length_le
    have h2 : (allK ls).length = xs.length := by rw [hall, List.length_map]
    unfold keysOf
    rw [List.length_map]
    omega
  clear hat hT hd hsz h hall
  generalize keysOf (gS false true r [] xs) = T at *
  generalize allK ls = K at *
  go_enter Try.func29, Try.ntmps29
  go_wp2_with (go_at_call 48; go_must (refine HA.out.mono ?_))
  rintro e w1 ⟨a1, cap1, rfl, hr1, b1⟩
  have HAt1 := Lib.hid (HAt.out w1 a1 cap1 hr1)
  have HB1 := Lib.hid b1
  clear hr1 b1 HAt HA
  go_wp2_with (go_at_call 19; go_must (refine HAt1.out.mono ?_))
  rintro e w2 ⟨a2, cap2, rfl, hr2, b2⟩
  have HR2 := Lib.hid hr2
  have HB2 := Lib.hid (HB1.out.trans (b2.mono HB1.out.size))
  obtain ⟨_, _, hv2, hc1, hc2⟩ := hr2.le
  cases hv2
  unfold maxLen at hc2
  clear hr2 b2 HB1 HAt1
  go_wp2
  go_loopw [11, 19] (fun ov iv wr => RefScanRel w2 fr upTo most T ov iv wr) (fun _ iv _ => T.length - (intOf iv).toNat)
  case atStart => exact ⟨0, rfl, Nat.zero_le _, owns_nil _ _ _ _, Below.refl _ _⟩
  case round =>
    obtain ⟨k, rfl, hk, hown, hb⟩ := hrel
    have hbs := hb.size
    have hol := sAll_le fr upTo most T k hk
    obtain ⟨oa, ocap, rfl, ho1, ho2⟩ := (ownsRow.reads hown).le
    unfold maxLen at ho2
    have HO := Lib.hid hown
    have HB := Lib.hid hb
    clear hown hb
    by_cases hlt : k < T.length
    · have hkI : (k : Int) < T.length := by omega
      obtain ⟨b, off, x, rfl, hx, hbb, hcc⟩ := (HR2.out.below' HB.out).scell k hlt
      have hsn := sAll_snoc (fr := fr) (upTo := upTo) (most := most) hx
      generalize sAll fr upTo most (T.take k) = out at *
      have hst : sStep fr upTo most out x = if sOk fr upTo most out.length x then out ++ [x] else out := rfl
      have hsk : sOk fr upTo most out.length x = (!bl x fr && wants upTo x && (decide (most < 1) || decide ((out.length : Int) < most))) := rfl
      have hb1 := bl_spell x fr
      have hb2 := bl_spell x upTo
      have hq := wants_spell upTo x
      rw [hst] at hsn
      clear hx hst
      cases hok2 : sOk fr upTo most out.length x with
      | false =>
        rw [hok2, if_neg (by decide)] at hsn
        have HSn := Lib.hid hsn
        rw [hok2] at hsk
        clear hsn hok2
        cases hbf : bl x fr with
        | true =>
          rw [hbf] at hb1
          clear hsk
          go_wp2
          all_goals exact ⟨⟨k + 1, by go_num, by omega, by rw [HSn.out]; exact HO.out, HB.out⟩, by simp [intOf]; omega⟩
        | false =>
          rw [hbf] at hb1 hsk
          cases hw : wants upTo x with
          | false =>
            rw [hw, Bool.not_false] at hq
            clear hsk
            have hne : ¬ upTo.toList = [] := fun e => by rw [e] at hq; cases hq
            have hbu : bl x upTo = false := by cases h : bl x upTo with
              | false => rfl
              | true => rw [h] at hq; simp at hq
            rw [hbu] at hb2
            clear hq hw
            go_wp2
            all_goals exact ⟨⟨k + 1, by go_num, by omega, by rw [HSn.out]; exact HO.out, HB.out⟩, by simp [intOf]; omega⟩
          | true =>
            rw [hw] at hsk
            have hm1' : ¬ most < 1 := fun h => by rw [decide_eq_true h] at hsk; cases hsk
            have hm2' : ¬ (out.length : Int) < most := fun h => by rw [decide_eq_true h, Bool.or_true] at hsk; cases hsk
            rw [hw, Bool.not_true] at hq
            clear hsk hw
            by_cases hte : upTo.toList = []
            · clear hq
              go_wp2
              all_goals exact ⟨⟨k + 1, by go_num, by omega, by rw [HSn.out]; exact HO.out, HB.out⟩, by simp [intOf]; omega⟩
            · have hbu : bl x upTo = true := by cases h : bl x upTo with
                | true => rfl
                | false => rw [h] at hq; simp at hq; exact absurd hq hte
              rw [hbu] at hb2
              clear hq
              go_wp2
              all_goals exact ⟨⟨k + 1, by go_num, by omega, by rw [HSn.out]; exact HO.out, HB.out⟩, by simp [intOf]; omega⟩
      | true =>
        rw [hok2, if_pos rfl] at hsn
        have HSn := Lib.hid hsn
        rw [hok2] at hsk
        clear hsn hok2
        have hbf : bl x fr = false := by cases h : bl x fr with
          | false => rfl
          | true => rw [h] at hsk; cases hsk
        rw [hbf] at hb1 hsk
        have hw : wants upTo x = true := by cases h : wants upTo x with
          | true => rfl
          | false => rw [h] at hsk; cases hsk
        rw [hw] at hsk
        rw [hw, Bool.not_true] at hq
        have hor : most < 1 ∨ (out.length : Int) < most := by
          by_cases h1 : most < 1
          · exact .inl h1
          · right
            rw [decide_eq_false h1] at hsk
            by_cases h2 : (out.length : Int) < most
            · exact h2
            · rw [decide_eq_false h2] at hsk
              cases hsk
        clear hsk hw
        by_cases hte : upTo.toList = []
        · clear hq
          by_cases hm1' : most < 1
          · clear hor
            go_wp2_with (at_builtin; refine wpList_append_rows_at (w0 := wr) rfl _ _ 26 rfl w2.heap.size 9 i0 _ 1 16 Try.underlying26 hi hz0 hz1 hz2 rfl [.string x] 1 rfl rfl HO.out rfl rfl ?_ ?_ ?_ HB.out.size ?_)
            · first | rfl | (intro u hu; simp at hu; subst hu; rfl)
            · unfold maxLen; omega
            · omega
            intro v6 w6 o6 g6 b6 _
            have HO6 := Lib.hid (own_snoc o6)
            have HB6 := Lib.hid (HB.out.trans b6)
            clear o6 g6 b6
            go_wp2
            exact ⟨⟨k + 1, by go_num, by omega, by rw [HSn.out]; exact HO6.out, HB6.out⟩, by simp [intOf]; omega⟩
          · have hm2' : (out.length : Int) < most := hor.resolve_left hm1'
            clear hor
            go_wp2_with (at_builtin; refine wpList_append_rows_at (w0 := wr) rfl _ _ 26 rfl w2.heap.size 9 i0 _ 1 16 Try.underlying26 hi hz0 hz1 hz2 rfl [.string x] 1 rfl rfl HO.out rfl rfl ?_ ?_ ?_ HB.out.size ?_)
            · first | rfl | (intro u hu; simp at hu; subst hu; rfl)
            · unfold maxLen; omega
            · omega
            intro v6 w6 o6 g6 b6 _
            have HO6 := Lib.hid (own_snoc o6)
            have HB6 := Lib.hid (HB.out.trans b6)
            clear o6 g6 b6
            go_wp2
            exact ⟨⟨k + 1, by go_num, by omega, by rw [HSn.out]; exact HO6.out, HB6.out⟩, by simp [intOf]; omega⟩
        · have hbu : bl x upTo = true := by cases h : bl x upTo with
            | true => rfl
            | false => rw [h] at hq; simp at hq; exact absurd hq hte
          rw [hbu] at hb2
          clear hq
          by_cases hm1' : most < 1
          · clear hor
            go_wp2_with (at_builtin; refine wpList_append_rows_at (w0 := wr) rfl _ _ 26 rfl w2.heap.size 9 i0 _ 1 16 Try.underlying26 hi hz0 hz1 hz2 rfl [.string x] 1 rfl rfl HO.out rfl rfl ?_ ?_ ?_ HB.out.size ?_)
            · first | rfl | (intro u hu; simp at hu; subst hu; rfl)
            · unfold maxLen; omega
            · omega
            intro v6 w6 o6 g6 b6 _
            have HO6 := Lib.hid (own_snoc o6)
            have HB6 := Lib.hid (HB.out.trans b6)
            clear o6 g6 b6
            go_wp2
            exact ⟨⟨k + 1, by go_num, by omega, by rw [HSn.out]; exact HO6.out, HB6.out⟩, by simp [intOf]; omega⟩
          · have hm2' : (out.length : Int) < most := hor.resolve_left hm1'
            clear hor
            go_wp2_with (at_builtin; refine wpList_append_rows_at (w0 := wr) rfl _ _ 26 rfl w2.heap.size 9 i0 _ 1 16 Try.underlying26 hi hz0 hz1 hz2 rfl [.string x] 1 rfl rfl HO.out rfl rfl ?_ ?_ ?_ HB.out.size ?_)
            · first | rfl | (intro u hu; simp at hu; subst hu; rfl)
            · unfold maxLen; omega
            · omega
            intro v6 w6 o6 g6 b6 _
            have HO6 := Lib.hid (own_snoc o6)
            have HB6 := Lib.hid (HB.out.trans b6)
            clear o6 g6 b6
            go_wp2
            exact ⟨⟨k + 1, by go_num, by omega, by rw [HSn.out]; exact HO6.out, HB6.out⟩, by simp [intOf]; omega⟩
    · obtain rfl : k = T.length := by omega
      have hkI : ¬ ((T.length : Int) < T.length) := by omega
      rw [List.take_length] at HO ⊢
      go_wp2
      go_ret
      exact ⟨_, _, rfl, ownsRow.reads HO.out, HB2.out.trans (HB.out.mono HB2.out.size)⟩
end Go.Proofs.Ytekdcjbjjakhcaa

/- Rows that the law lays: what they are. -/
namespace Go.Proofs.Ytekdcjbjjakhcaa
open Go Go.RowKit

theorem rowsOf_all (L : List (List ByteArray)) : rowsOf (L.map some) = L := by
  unfold rowsOf
  rw [List.filterMap_map]
  simp

theorem pairs_of : ∀ (K : List ByteArray), (∀ k ∈ K, ∃ x : Ent, k = innB x ∧ x.rev < 18446744073709551616) → ∃ xs : List KE, xs.map (·.1) = K ∧ ∀ x ∈ xs, x.1 = innB x.2 ∧ x.2.rev < 18446744073709551616
  | [], _ => ⟨[], rfl, fun x h => by cases h⟩
  | k :: t, h => by
    obtain ⟨x, h1, h2⟩ := h k (by simp)
    obtain ⟨xs, h3, h4⟩ := pairs_of t (fun y hy => h y (by simp [hy]))
    refine ⟨(k, x) :: xs, by simp [h3], fun y hy => ?_⟩
    rcases List.mem_cons.1 hy with rfl | hy
    · exact ⟨h1, h2⟩
    · exact h4 y hy

theorem inn_small (x : Ent) : (innB x).size ≤ 2 * x.key.size + 11 := by
  have h3 : (innB x).size = (esc x.key.data.toList).length + 11 := by
    unfold innB
    show (inner x.key.data.toList x.rev x.del).toArray.size = _
    simp [inner, innTo, revBytes_length]
  have h4 := esc_length x.key.data.toList
  have h5 : x.key.data.toList.length = x.key.size := Array.length_toList
  omega

theorem rowsL_low {ls : List (List Ent)} (h : LowE ls) {l : List ByteArray} (hl : l ∈ ls.map rowsL) : rises l ∧ l.length ≤ 150 ∧ ∀ k ∈ l, k.size ≤ 211 ∧ ∃ x : Ent, k = innB x ∧ x.rev < 18446744073709551616 := by
  obtain ⟨es, hes, rfl⟩ := List.mem_map.1 hl
  obtain ⟨h1, h2⟩ := h es hes
  obtain ⟨k1, k2, k3⟩ := rowsL_all es
  refine ⟨k1, by omega, fun k hk => ?_⟩
  obtain ⟨x, hx, rfl⟩ := k3 k hk
  have := inn_small x
  have := (h2 x hx).1
  exact ⟨by omega, x, rfl, (h2 x hx).2⟩

theorem told_rows {ls : List (List Ent)} (h : LowE ls) : ∃ xs : List KE, Told ((ls.map rowsL).map some) xs ∧ allK (ls.map rowsL) = xs.map (·.1) ∧ ∀ k ∈ allK (ls.map rowsL), k.size ≤ 211 := by
  have hm : ∀ k ∈ allK (ls.map rowsL), k.size ≤ 211 ∧ ∃ x : Ent, k = innB x ∧ x.rev < 18446744073709551616 := fun k hk => by
    obtain ⟨l, hl, hkl⟩ := ((allK_ok (ls.map rowsL)).2.1 k).1 hk
    exact (rowsL_low h hl).2.2 k hkl
  obtain ⟨xs, h1, h2⟩ := pairs_of (allK (ls.map rowsL)) (fun k hk => (hm k hk).2)
  refine ⟨xs, ⟨fun l hl => ?_, ⟨?_, h2⟩, ?_⟩, h1.symm, fun k hk => (hm k hk).1⟩
  · have hl' : l ∈ ls.map rowsL := by
      obtain ⟨m, hm, e⟩ := List.mem_map.1 hl
      cases e
      exact hm
    obtain ⟨k1, k2, k3⟩ := rowsL_low h hl'
    refine ⟨k1, by omega, fun k hk => ?_⟩
    obtain ⟨a1, x, rfl, a2⟩ := k3 k hk
    exact ⟨by omega, x, dec_inn a2⟩
  · rw [h1]
    exact (allK_ok _).1
  · rw [rowsOf_all]
    exact h1.symm

theorem total_rows (ls : List (List Ent)) : total (ls.map rowsL) ≤ sumL ls := by
  induction ls with
  | nil => simp [total, sumL]
  | cons x t ih =>
    have := (rowsL_all x).2.1
    simp only [total, sumL, List.map_cons, List.sum_cons] at ih ⊢
    omega
end Go.Proofs.Ytekdcjbjjakhcaa

/- The law's two fixed entries. -/
namespace Go.Proofs.Ytekdcjbjjakhcaa
open Go Go.RowKit

def fe1 : Ent := ⟨⟨#[97]⟩, 3, true⟩
def fe2 : Ent := ⟨⟨#[97]⟩, 2, false⟩
def fxs : List KE := [(innB fe1, fe1), (innB fe2, fe2)]
def flow : List (List Ent) := [[fe1, fe2]]

theorem flow_low : LowE flow := by
  intro l hl
  simp [flow] at hl
  subst hl
  refine ⟨by decide, fun x hx => ?_⟩
  simp at hx
  rcases hx with rfl | rfl <;> exact ⟨by decide, by decide⟩

theorem f_up : rises (fxs.map (·.1)) := by decide

theorem f_rows : RowsOk fxs := ⟨f_up, fun x hx => by
  simp [fxs] at hx
  rcases hx with rfl | rfl <;> exact ⟨rfl, by decide⟩⟩

theorem f_all : allK (flow.map rowsL) = fxs.map (·.1) := by decide

theorem f_get : getK fxs ⟨#[97]⟩ 2 = some fe2 := by
  unfold fxs
  rw [getK_cons, if_neg (by decide), getK_cons, if_pos (by decide)]

theorem f_fin : fin ⟨#[]⟩ 0 3 [] (xsuf fxs (newestB ⟨#[]⟩ 18446744073709551615)) = [] := by decide

theorem f_told : Told ((flow.map rowsL).map some) fxs := by
  obtain ⟨xs, h, _, _⟩ := told_rows flow_low
  exact ⟨h.ok, f_rows, by rw [rowsOf_all]; exact f_all⟩
end Go.Proofs.Ytekdcjbjjakhcaa

/- sentrylaw19.fixed. -/
namespace Go.Proofs.Ytekdcjbjjakhcaa
open Go Go.RowKit

def fixW (w : World) : World := (w.alloc (.cells #[.string ⟨#[97]⟩, .int .u64 3, .bool true, .string ⟨#[97]⟩, .int .u64 2, .bool false] 48)).alloc (.cells #[.slice (some ⟨w.heap.size, 0, none⟩) 2 2] 22)

theorem fix_see (w : World) : ERows (fixW w) (.slice (some ⟨w.heap.size + 1, 0, none⟩) 1 1) 1 flow := by
  refine ⟨_, _, rfl, by decide, by unfold maxLen; decide, rfl, fun i l hi => ?_⟩
  match i, hi with
  | 0, hi =>
    simp [flow] at hi
    subst hi
    refine ⟨by decide, ?_, w.heap.size + 1, 0, some ⟨w.heap.size, 0, none⟩, 2, rfl, by simp [fixW], by simp [fixW], ?_⟩
    · intro x hx
      simp at hx
      rcases hx with rfl | rfl <;> (unfold maxLen; decide)
    · refine ⟨rfl, _, _, rfl, by decide, by unfold maxLen; decide, fun j u hj => ⟨w.heap.size, 0, rfl, by simp [fixW]; omega, ?_⟩⟩
      match j, hj with
      | 0, hj | 1, hj | 2, hj | 3, hj | 4, hj | 5, hj =>
        simp [ecells, ecell, fe1, fe2] at hj
        subst hj
        simp [fixW]

theorem fix_below (w : World) : Below w.heap.size w (fixW w) := ((Below.refl _ _).alloc (Nat.le_refl _) _).alloc (by simp) _

set_option maxRecDepth 100000 in
set_option maxHeartbeats 4000000 in
theorem fixed19_any (w : World) : Calls Try.prog 22 #[] w (GivesVal w (.bool true)) := by
  have HR := Lib.hid (rows19_any (fixW w) _ 1 flow (fix_see w) (by decide) flow_low)
  have HB0 := Lib.hid (fix_below w)
  go_enter Try.func22, Try.ntmps22
  go_wp2_with (go_at_call 24; go_must (refine HR.out.mono ?_))
  rintro e w1 ⟨v1, rfl, so1, b1⟩
  have HB1 := Lib.hid (HB0.out.trans (b1.mono HB0.out.size))
  have hse := so1.see
  have HSe := Lib.hid hse
  have hsr := srcs_any w1 v1 _ _ hse (by decide)
  have HSr := Lib.hid hsr
  clear so1 b1 hse hsr HR HB0
  go_wp2_with (go_at_call 26; go_must (refine HSr.out.mono ?_))
  rintro e w2 ⟨v2, vs2, rfl, f2, o2, b2⟩
  have HB2 := Lib.hid (HB1.out.trans (b2.mono HB1.out.size))
  have hs2 := srcs_owns rfl f2 o2 b2
  have hg := iget_any w2 v2 _ _ ⟨#[97]⟩ 2 hs2 f_told.ok (by decide) (by decide) (by decide)
  rw [f_told.get _ _ (by decide), f_get] at hg
  have HG := Lib.hid hg
  have HSr2 := Lib.hid fun w' hw => srcs_any w' v1 _ _ (HSe.out.below hw) (by decide)
  have HB21 := Lib.hid b2
  clear f2 o2 b2 hs2 hg HSr
  go_wp2_with (go_at_call 25; go_must (refine HG.out.mono ?_))
  rintro e w3 ⟨rfl, b3⟩
  have HB3 := Lib.hid (HB2.out.trans (b3.mono HB2.out.size))
  have HB31 := Lib.hid (HB21.out.trans (b3.mono HB21.out.size))
  clear b3 HG
  rw [show foundV (some fe2) = .tuple #[.agg #[.string ⟨#[97]⟩, .int .u64 2, .bool false], .bool true, .int .i64 0] from rfl]
  have HBa := Lib.hid (HB3.out.alloc HB3.out.size (.cells #[.string ⟨#[97]⟩, .int .u64 2, .bool false] 48))
  have HBa1 := Lib.hid (HB31.out.alloc HB31.out.size (.cells #[.string ⟨#[97]⟩, .int .u64 2, .bool false] 48))
  have HGa := Lib.hid (heap_alloc_new w3 (.cells #[.string ⟨#[97]⟩, .int .u64 2, .bool false] 48))
  have HZa := Lib.hid (show w3.heap.size < (w3.alloc (.cells #[.string ⟨#[97]⟩, .int .u64 2, .bool false] 48)).heap.size by simp)
  go_wp2_with (go_at_call 26; go_must (refine (HSr2.out _ HBa1.out).mono ?_))
  rintro e w4 ⟨v4, vs4, rfl, f4, o4, b4⟩
  have HB4 := Lib.hid (HBa.out.trans (b4.mono HBa.out.size))
  have HG4 := Lib.hid ((b4.block w3.heap.size HZa.out).trans HGa.out)
  have hs4 := srcs_owns rfl f4 o4 b4
  have hsc := iscan_any w4 v4 _ _ fxs ⟨#[]⟩ ⟨#[]⟩ 3 0 hs4 f_told (by decide) (by decide) (by decide) (by decide) (by decide) (by decide)
  rw [f_fin] at hsc
  have HSc := Lib.hid hsc
  clear f4 o4 b4 hs4 hsc HBa HBa1 HGa HZa HB3 HB31 HB21 HSr2
  go_wp2_with (go_at_call 28; go_must (refine HSc.out.mono ?_))
  rintro e w5 ⟨kv, rfl, o5, b5⟩
  obtain ⟨ka, kcap, rfl, hk1, hk2⟩ := (ownsRow.reads o5).le
  have hg5 := (b5.block w3.heap.size (Array.getElem?_eq_some_iff.1 HG4.out).1).trans HG4.out
  have HB5 := Lib.hid (HB4.out.trans (b5.mono HB4.out.size))
  have c0 := Lib.cell_of_heap hg5 0
  have c1 := Lib.cell_of_heap hg5 1
  have c2 := Lib.cell_of_heap hg5 2
  have qf := Lib.frozen_of_heap hg5
  simp at c0 c1 c2
  clear o5 b5 hg5 HSc HB4 HG4
  go_wp2
  go_ret
  exact ⟨rfl, HB5.out⟩
end Go.Proofs.Ytekdcjbjjakhcaa

/- What a scan tells, told two ways. -/
namespace Go.Proofs.Ytekdcjbjjakhcaa
open Go Go.RowKit

theorem suf_newest {xs : List KE} (h : RowsOk xs) (fr : ByteArray) : xsuf xs (newestB fr 18446744073709551615) = xs.dropWhile fun x => bl x.2.key fr := by
  unfold xsuf
  have go : ∀ l : List KE, (∀ a ∈ l, a ∈ xs) → l.dropWhile (fun x => bl x.1 (newestB fr 18446744073709551615)) = l.dropWhile fun x => bl x.2.key fr := by
    intro l
    induction l with
    | nil => intro _; rfl
    | cons a l ih =>
      intro hl
      have ha := h.one a (hl a (by simp))
      have e : bl a.1 (newestB fr 18446744073709551615) = bl a.2.key fr := by
        have := ha.2
        rw [ha.1, bl_newest _ _ _ ha.2 (by decide), decide_eq_false (show ¬ 18446744073709551615 < a.2.rev by omega), Bool.and_false, Bool.or_false]
      rw [List.dropWhile_cons, List.dropWhile_cons, ih (fun b hb => hl b (by simp [hb])), e]
  exact go xs (fun a ha => ha)

def tellOf (S : List ByteArray) (r : Nat) (D : List KE) : List ByteArray := keysOf (gS false true r S D)

theorem tellOf_cons (S : List ByteArray) (r : Nat) (x : KE) (t : List KE) : tellOf S r (x :: t) =
    if r < x.2.rev then tellOf S r t else if x.2.key ∈ S then tellOf S r t else if x.2.del then tellOf (x.2.key :: S) r t else x.2.key :: tellOf (x.2.key :: S) r t := by
  unfold tellOf
  rw [gS_cons]
  split
  · rfl
  · split
    · rfl
    · cases x.2.del <;> rfl

theorem tellOf_mem {S : List ByteArray} {r : Nat} {D : List KE} {k : ByteArray} (h : k ∈ tellOf S r D) : ∃ x ∈ D, x.2.key = k := by
  obtain ⟨x, hx, rfl⟩ := List.mem_map.1 h
  exact ⟨x, (gS_sub _ _ _ _ _).subset hx, rfl⟩

theorem dropLow_not {D : List KE} (h : mono D) (fr : ByteArray) : ∀ y ∈ D.dropWhile (fun x => bl x.2.key fr), bl y.2.key fr = false := by
  induction D with
  | nil => intro y hy; cases hy
  | cons x t ih =>
    have hp := List.pairwise_cons.1 h
    intro y hy
    rw [List.dropWhile_cons] at hy
    split at hy
    · exact ih hp.2 y hy
    · rename_i hx
      rcases List.mem_cons.1 hy with rfl | hy
      · simpa using hx
      · have h1 := (hp.1 y hy).1
        cases hb : bl y.2.key fr with
        | false => rfl
        | true =>
          by_cases he : y.2.key = x.2.key
          · rw [he] at hb; exact absurd hb hx
          · exact absurd (bl_trans (bl_ge h1 he) hb) hx

theorem tellOf_from (r : Nat) (fr : ByteArray) (D : List KE) : ∀ S, mono D → (tellOf S r D).filter (fun k => !bl k fr) = tellOf S r (D.dropWhile fun x => bl x.2.key fr) := by
  induction D with
  | nil => intro S _; rfl
  | cons x t ih =>
    intro S h
    have hp := List.pairwise_cons.1 h
    cases hb : bl x.2.key fr with
    | false =>
      have e : (x :: t).dropWhile (fun x => bl x.2.key fr) = x :: t := by rw [List.dropWhile_cons, hb]; rfl
      rw [e, List.filter_eq_self]
      intro k hk
      obtain ⟨y, hy, rfl⟩ := tellOf_mem hk
      have := dropLow_not h fr y (by rw [e]; exact hy)
      rw [this]
      rfl
    | true =>
      have e : (x :: t).dropWhile (fun x => bl x.2.key fr) = t.dropWhile fun x => bl x.2.key fr := by rw [List.dropWhile_cons, hb]; rfl
      have hs : tellOf (x.2.key :: S) r (t.dropWhile fun x => bl x.2.key fr) = tellOf S r (t.dropWhile fun x => bl x.2.key fr) := by
        unfold tellOf
        rw [gS_seen]
        intro y hy
        have h1 := dropLow_not hp.2 fr y hy
        have hne : y.2.key ≠ x.2.key := fun e => by rw [e, hb] at h1; cases h1
        simp [hne]
      rw [e, tellOf_cons]
      split
      · exact ih S hp.2
      · split
        · exact ih S hp.2
        · split
          · rw [ih _ hp.2, hs]
          · rw [List.filter_cons, hb, ih _ hp.2, hs]
            rfl

theorem tellOf_up (r : Nat) (D : List KE) : ∀ S, mono D → (tellOf S r D).Pairwise fun a b => bl b a = false := by
  induction D with
  | nil => intro S _; exact List.Pairwise.nil
  | cons x t ih =>
    intro S h
    have hp := List.pairwise_cons.1 h
    rw [tellOf_cons]
    split
    · exact ih S hp.2
    · split
      · exact ih S hp.2
      · split
        · exact ih _ hp.2
        · refine List.pairwise_cons.2 ⟨fun k hk => ?_, ih _ hp.2⟩
          obtain ⟨y, hy, rfl⟩ := tellOf_mem hk
          exact (hp.1 y hy).1

theorem wants_down {upTo a b : ByteArray} (h : bl b a = false) (hw : wants upTo a = false) : wants upTo b = false := by
  unfold wants at hw ⊢
  rw [Bool.or_eq_false_iff] at hw ⊢
  refine ⟨hw.1, ?_⟩
  cases hb : bl b upTo with
  | false => rfl
  | true =>
    by_cases he : b = a
    · rw [he, hw.2] at hb; cases hb
    · have := bl_trans (bl_ge h he) hb
      rw [hw.2] at this
      cases this

theorem take_filter {upTo : ByteArray} : ∀ {T : List ByteArray}, (T.Pairwise fun a b => bl b a = false) → T.takeWhile (wants upTo) = T.filter (wants upTo)
  | [], _ => rfl
  | a :: t, h => by
    have hp := List.pairwise_cons.1 h
    rw [List.takeWhile_cons, List.filter_cons]
    cases hw : wants upTo a with
    | true => rw [if_pos rfl, if_pos rfl, take_filter hp.2]
    | false =>
      rw [if_neg (by decide), if_neg (by decide)]
      refine (List.filter_eq_nil_iff.2 fun b hb => ?_).symm
      rw [wants_down (hp.1 b hb) hw]
      decide

theorem sAll_go (fr upTo : ByteArray) (most : Int) (T : List ByteArray) : ∀ out, T.foldl (sStep fr upTo most) out =
    out ++ (if 1 ≤ most then (T.filter fun k => !bl k fr && wants upTo k).take (most.toNat - out.length) else T.filter fun k => !bl k fr && wants upTo k) := by
  induction T with
  | nil => intro out; simp
  | cons a t ih =>
    intro out
    rw [List.foldl_cons, ih, List.filter_cons]
    unfold sStep sOk
    cases hk : (!bl a fr && wants upTo a) with
    | false => simp
    | true =>
      by_cases h1 : 1 ≤ most
      · rw [if_pos h1, if_pos h1, decide_eq_false (show ¬ most < 1 by omega), Bool.false_or, Bool.true_and, if_pos rfl]
        by_cases h2 : (out.length : Int) < most
        · rw [decide_eq_true h2, if_pos rfl]
          obtain ⟨c, hc⟩ : ∃ c, most.toNat - out.length = c + 1 := ⟨most.toNat - out.length - 1, by omega⟩
          have : most.toNat - (out ++ [a]).length = c := by rw [List.length_append]; simp; omega
          rw [this, hc, List.take_succ_cons]
          simp
        · rw [decide_eq_false h2, if_neg (by decide)]
          have : most.toNat - out.length = 0 := by omega
          rw [this]
          simp
      · rw [if_neg h1, if_neg h1, decide_eq_true (show most < 1 by omega), Bool.true_or, Bool.and_true, if_pos rfl, if_pos rfl]
        simp

theorem scan_two {xs : List KE} (h : RowsOk xs) (fr upTo : ByteArray) (most : Int) (r : Nat) : fin upTo most r [] (xsuf xs (newestB fr 18446744073709551615)) = sAll fr upTo most (keysOf (gS false true r [] xs)) := by
  have hm := mono_rows h
  have e : (tellsK r (xsuf xs (newestB fr 18446744073709551615))).takeWhile (wants upTo) = (keysOf (gS false true r [] xs)).filter fun k => !bl k fr && wants upTo k := by
    rw [suf_newest h, show tellsK r (xs.dropWhile fun x => bl x.2.key fr) = tellOf [] r (xs.dropWhile fun x => bl x.2.key fr) from rfl,
      show keysOf (gS false true r [] xs) = tellOf [] r xs from rfl, ← tellOf_from r fr xs [] hm,
      take_filter ((tellOf_up r xs [] hm).filter _), List.filter_filter]
    congr 1
    funext k
    rw [Bool.and_comm]
  unfold fin sAll
  rw [sAll_go, e]
  simp
end Go.Proofs.Ytekdcjbjjakhcaa

/- The law IterScans. -/
namespace Go.Proofs.Ytekdcjbjjakhcaa
open Go Go.RowKit

set_option maxRecDepth 100000 in
set_option maxHeartbeats 4000000 in
theorem iterScans_walk (w : World) (a : Option Addr) (n cap : Nat) (ls : List (List Ent)) (fr upTo : ByteArray) (r : Nat) (most : Int) (h : ERows w (.slice a n cap) n ls) (hrev : ∀ l ∈ ls, ∀ x ∈ l, x.rev < 18446744073709551616) (hr : r < 18446744073709551616) (hfz : fr.size ≤ 140737488351232) (huz : upTo.size ≤ 140737488351232) (hm1 : -9223372036854775808 ≤ most) (hm2 : most < 9223372036854775808) :
    Calls Try.prog 8 #[.slice a n cap, .string fr, .string upTo, .int .u64 (r : Int), .int .i64 most] w (SaysTrue w) := by
  have HE := Lib.hid h
  have HRev := Lib.hid hrev
  have hll : ls.length = n := by obtain ⟨_, _, _, _, _, hl, _⟩ := h; exact hl
  clear h hrev
  go_enter Try.func8, Try.ntmps8
  go_wp2_with (go_at_call 22; go_must (refine (fixed19_any w).mono ?_))
  rintro e w1 ⟨rfl, b1⟩
  have hE1 := HE.out.below b1
  have HE1 := Lib.hid hE1
  have HB1 := Lib.hid b1
  have HFw := Lib.hid (few19_any w1 _ n ls hE1)
  clear b1 hE1 HE
  go_wp2_with (go_at_call 23; go_must (refine HFw.out.mono ?_))
  rintro e w2 ⟨rfl, b2⟩
  have HE2 := Lib.hid (HE1.out.below b2)
  have HB2 := Lib.hid (HB1.out.trans (b2.mono HB1.out.size))
  clear b2 HE1 HB1 HFw
  cases hf : few19 ls with
  | false =>
    go_wp2
    go_ret
    exact ⟨rfl, HB2.out⟩
  | true =>
    obtain ⟨hn12, hlw⟩ := few19_low hf
    have hlow : LowE ls := fun l hl => ⟨(hlw l hl).1, fun x hx => ⟨(hlw l hl).2 x hx, HRev.out l hl x hx⟩⟩
    have hwr : IntKind.i64.wrap ((fr.size : Int) + (upTo.size : Int)) = ((fr.size + upTo.size : Nat) : Int) := by rw [IntKind.wrap_i64]; omega
    by_cases hk : fr.size + upTo.size ≤ 400
    · have hkI : ¬ (400 : Int) < ((fr.size + upTo.size : Nat) : Int) := by omega
      obtain ⟨xs, htold, hall, hsz⟩ := told_rows hlow
      have htot : total (ls.map rowsL) ≤ 150 := by
        have h1 := total_rows ls
        unfold few19 at hf
        simp only [Bool.and_eq_true, decide_eq_true_eq] at hf
        omega
      have hrl : (ls.map rowsL).length = n := by rw [List.length_map]; exact hll
      have hxl : xs.length ≤ 150 := by
        have h1 := (allK_ok (ls.map rowsL)).2.2
        rw [hall, List.length_map] at h1
        omega
      have HRo := Lib.hid (rows19_any w2 _ n ls HE2.out (by omega) hlow)
      have HTd := Lib.hid htold
      have HAll := Lib.hid hall
      have HSz := Lib.hid hsz
      clear hlw hlow htold hall hsz hf HRev HE2
      go_wp2_with (go_at_call 24; go_must (refine HRo.out.mono ?_))
      rintro e w3 ⟨v3, rfl, so3, b3⟩
      have hse := so3.see
      have HSe := Lib.hid hse
      have HB3 := Lib.hid (HB2.out.trans (b3.mono HB2.out.size))
      have HSr := Lib.hid (srcs_any w3 v3 _ _ hse (by omega))
      clear so3 b3 hse HRo HB2
      go_wp2_with (go_at_call 26; go_must (refine HSr.out.mono ?_))
      rintro e w4 ⟨v4, vs4, rfl, f4, o4, b4⟩
      have HB4 := Lib.hid (HB3.out.trans (b4.mono HB3.out.size))
      have HB43 := Lib.hid b4
      have hg := iscan_any w4 v4 _ _ xs fr upTo r most (srcs_owns rfl f4 o4 b4) HTd.out (by omega) (by omega) hr (by omega) hm1 hm2
      rw [scan_two HTd.out.rows] at hg
      have HG := Lib.hid hg
      clear f4 o4 b4 hg HSr HB3
      go_wp2_with (go_at_call 28; go_must (refine HG.out.mono ?_))
      rintro e w5 ⟨v5, rfl, o5, b5⟩
      have HB5 := Lib.hid (HB4.out.trans (b5.mono HB4.out.size))
      have HB53 := Lib.hid (HB43.out.trans (b5.mono HB43.out.size))
      have HRg := Lib.hid (refscan19_any w5 v3 _ (ls.map rowsL) xs fr upTo r most (HSe.out.below HB53.out) (by omega) HTd.out.rows HAll.out (fun k hk => by have := HSz.out k hk; omega) hm1 hm2)
      have hr5 := ownsRow.reads o5
      obtain ⟨a5, cap5, rfl, _, _⟩ := hr5.le
      have HR5 := Lib.hid hr5
      clear b5 o5 hr5 HG HB4 HB43 HB53 HTd HAll HSz HSe
      generalize sAll fr upTo most (keysOf (gS false true r [] xs)) = K at *
      go_wp2_with (go_at_call 29; go_must (refine HRg.out.mono ?_))
      rintro e w6 ⟨a6, cap6, rfl, r6, b6⟩
      have hs6 := sames_any w6 a5 a6 _ _ cap5 cap6 K K (HR5.out.below' b6) r6
      rw [decide_eq_true (rfl : K = K)] at hs6
      have HS6 := Lib.hid hs6
      clear hs6
      have HB6 := Lib.hid (HB5.out.trans (b6.mono HB5.out.size))
      clear b6 r6 HRg HB5 HR5
      go_wp2_with (go_at_call 17; go_must (refine HS6.out.mono ?_))
      rintro e w7 ⟨rfl, b7⟩
      have HB7 := Lib.hid (HB6.out.trans (b7.mono HB6.out.size))
      clear b7 HS6 HB6
      go_wp2
      go_ret
      exact ⟨rfl, HB7.out⟩
    · have hkI : (400 : Int) < ((fr.size + upTo.size : Nat) : Int) := by omega
      go_wp2
      go_ret
      exact ⟨rfl, HB2.out⟩
end Go.Proofs.Ytekdcjbjjakhcaa

/- A slice that came in, whatever its elements: each is opened by its own theorem. -/
namespace Go.Proofs.Ytekdcjbjjakhcaa
open Go Go.RowKit Go.ChangeShapes Go.WideShapes Go.Deep

section
variable {H : Type} {enc : TypeId × Value → H} {w : World} {base : Nat} {spare : Nat → Bool} {held : Bool}

theorem slice_rows_of {α : Type} [Inhabited α] {t e : TypeId} {s fuel : Nat} {v : Value} {y : DataW H × List MemPlace} (f : α → List Value) (Q : α → Prop) (ht : Try.prog.underlying t = some (.slice e)) (hC : Try.prog.cellsOf e = s) (hs : 0 < s) (hf : ∀ x, (f x).length = s)
    (hopen : ∀ n cs y, cs.length = s → DataW.trod enc Try.prog w base spare held n e cs = some y → ∃ x, cs = f x ∧ Q x)
    (hfu : DataW.trod enc Try.prog w base spare held fuel t [v] = some y) :
    ∃ a len cap, ∃ l : List α, v = .slice a len cap ∧ len ≤ cap ∧ cap ≤ maxLen ∧ l.length = len ∧ (∀ x ∈ l, Q x) ∧ Reads w s (.slice a len cap) len (l.flatMap f) := by
  rcases open_slice ht hfu with ⟨hcs, _⟩ | ⟨x, len, cap, m, n, D, Pl, hcs, _, hl, hm, hmm, _, hx⟩
  · simp at hcs
    subst hcs
    exact ⟨none, 0, 0, [], rfl, Nat.le_refl _, Nat.zero_le _, rfl, fun x hx => (by simp at hx), ⟨by simp, none, 0, rfl, Nat.le_refl _, Nat.zero_le _, fun j u hj => by simp at hj⟩⟩
  · simp at hcs
    subst hcs
    have hlm : len ≤ m := by
      rw [hmm]
      split <;> omega
    have hgs : 0 < len → x.spot = none := by
      intro h0
      obtain ⟨cs0, hc0, _⟩ := hx 0 (by omega)
      rw [hC] at hc0
      obtain ⟨_, hl0, ha0⟩ := World.cells?_some hc0
      have h1 := ha0 0 hs
      rw [List.getElem?_eq_getElem (by omega)] at h1
      have h2 : w.cell? x = some (cs0[0]'(by omega)) := by simpa [Addr.add] using h1
      exact World.cell?_spot h2
    have hall : ∀ i, i < len → ∃ y : α, Q y ∧ ∀ j u, (f y)[j]? = some u → w.cell? (x.add (i * s + j)) = some u := by
      intro i hi
      obtain ⟨cs, hc, htr⟩ := hx i (by omega)
      rw [hC] at hc
      obtain ⟨_, hlen, hat⟩ := World.cells?_some hc
      obtain ⟨y, rfl, hq⟩ := hopen _ _ _ hlen htr
      refine ⟨y, hq, fun j u hj => ?_⟩
      have hjs : j < s := by
        have := (List.getElem?_eq_some_iff.1 hj).1
        rw [hf] at this
        exact this
      have h1 := hat j hjs
      rw [hj] at h1
      rw [← h1]
      have hsp := hgs (by omega)
      obtain ⟨b, off, sp⟩ := x
      simp at hsp
      subst hsp
      rw [Addr.add_lit, Addr.add_lit, Addr.add_lit, Nat.add_assoc]
    obtain ⟨X, hX⟩ := choose_lt (α := α) (p := fun i y => Q y ∧ ∀ j u, (f y)[j]? = some u → w.cell? (x.add (i * s + j)) = some u) hall
    refine ⟨some x, len, cap, (List.range len).map X, rfl, hl, hm, by simp, fun y hy => ?_, ?_⟩
    · obtain ⟨i, hi, rfl⟩ := List.mem_map.1 hy
      exact (hX i (List.mem_range.1 hi)).1
    · refine ⟨by rw [flat_length f s hf]; simp, some x, cap, rfl, hl, hm, fun j u hj => ?_⟩
      have hjl := (List.getElem?_eq_some_iff.1 hj).1
      rw [flat_length f s hf, List.length_map, List.length_range] at hjl
      have hi : j / s < len := Nat.div_lt_of_lt_mul (by rw [Nat.mul_comm]; exact hjl)
      have hr : j % s < s := Nat.mod_lt _ hs
      have hjj : j / s * s + j % s = j := by rw [Nat.mul_comm]; exact Nat.div_add_mod j s
      have hg : ((List.range len).map X)[j / s]? = some (X (j / s)) := by simp [hi]
      have h1 := flat_cell f s hf _ _ _ hg (j % s) hr
      rw [hjj, hj] at h1
      have h2 := (hX _ hi).2 (j % s) u h1.symm
      rw [hjj] at h2
      have hspot := hgs (Nat.lt_of_le_of_lt (Nat.zero_le _) hi)
      obtain ⟨b, off, sp⟩ := x
      simp at hspot
      subst hspot
      rw [Addr.add_lit] at h2
      exact ⟨b, off, rfl, World.block_lt_of_cell? _ _ h2, h2⟩

theorem slice_rows {α : Type} [Inhabited α] {t e : TypeId} {r : Reach} {b0 s : Nat} {v : Value} {d : DataW H} {p : List MemPlace} (f : α → List Value) (Q : α → Prop) (ht : Try.prog.underlying t = some (.slice e)) (hC : Try.prog.cellsOf e = s) (hs : 0 < s) (hf : ∀ x, (f x).length = s)
    (hopen : ∀ n cs y, cs.length = s → DataW.trod enc Try.prog w base spare held n e cs = some y → ∃ x, cs = f x ∧ Q x)
    (hv : Value.okWide Try.prog w r b0 t v) (h : DataW.Trod enc Try.prog w base spare held t v d p) :
    ∃ a len cap, ∃ l : List α, v = .slice a len cap ∧ len ≤ cap ∧ cap ≤ maxLen ∧ l.length = len ∧ (∀ x ∈ l, Q x) ∧ Reads w s (.slice a len cap) len (l.flatMap f) := by
  obtain ⟨a, len, cap, rfl⟩ := okWide_slice ht hv
  obtain ⟨fuel, hfu⟩ := h
  exact slice_rows_of f Q ht hC hs hf hopen hfu
end
end Go.Proofs.Ytekdcjbjjakhcaa
