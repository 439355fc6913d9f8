/- The document's answers (drop): Keep, At, Newest. -/
import Derived.Test.YtekdcjbjjakhcaaDropRef
import Derived.Test.YtekdcjbjjakhcaaDropLaw
import Derived.Test.YtekdcjbjjakhcaaDropNew
namespace Go.Proofs.Ytekdcjbjjakhcaa
open Go Go.RowKit

theorem gRef_length (ab b : Bool) (r : Nat) (xs : List KE) : ∀ pre, (gRef ab b r pre xs).length ≤ xs.length := by
  induction xs with
  | nil => intro pre; exact Nat.le_refl _
  | cons x t ih =>
    intro pre
    have := ih (pre ++ [x])
    rw [gRef, List.length_append, List.length_cons]
    split <;> simp <;> omega

theorem firstB_eq (es : List Ent) {ks : List ByteArray} {i : Nat} {k : ByteArray} {y : Ent} {r : Nat} (hl : es.length ≤ ks.length) : firstB ((ks.zip es).take i) (k, y) r = firstE es i y r := by
  unfold firstB firstE
  have e : (es.take i) = ((ks.zip es).take i).map (·.2) := by
    rw [List.map_take, List.map_snd_zip hl]
  rw [e, List.all_map]
  rfl

def RKeepRel (w1 : World) (xs : List KE) (f : Nat) (b : Bool) (o i : Value) (wr : World) : Prop :=
  ∃ k : Nat, i = .int .i64 (k : Int) ∧ k ≤ xs.length ∧ wr.ownsRow w1.heap.size 9 1 o (gRef true b f [] (xs.take k)).length (scells ((gRef true b f [] (xs.take k)).map (·.1))) ∧ Below w1.heap.size w1 wr

set_option maxRecDepth 100000 in
set_option maxHeartbeats 4000000 in
theorem refkeep_any (w : World) (a : Option Addr) (n cap : Nat) (ks : List ByteArray) (es : List Ent) (f : Nat) (b : Bool) (h : Reads w 1 (.slice a n cap) n (scells ks)) (hd : decs ks = some es) (hn : n ≤ 1000) (hsz : ∀ k ∈ ks, k.size ≤ 1000000) :
    Calls Try.prog 18 #[.slice a n cap, .int .u64 (f : Int), .bool b] w (SGives w ((gRef true b f [] (ks.zip es)).map (·.1))) := by
  obtain ⟨i0, hi, hz0, hz1, hz2⟩ := info_parts info9
  have hll : ks.length = n := by have := h.1; rw [scells_length] at this; omega
  have hel := (decs_some hd).1
  rw [hll] at hel
  obtain ⟨_, _, hv, hc1, hc2⟩ := h.le
  cases hv
  unfold maxLen at hc2
  have hen := entries18_any w a n cap ks es h hd hn hsz
  have HEn := Lib.hid hen
  have HR := Lib.hid h
  have HEl := Lib.hid hel
  have hxl : (ks.zip es).length = n := by rw [List.length_zip, hll, hel, Nat.min_self]
  have HXl := Lib.hid hxl
  clear h hd hsz hll hel hen hxl
  go_enter Try.func18, Try.ntmps18
  go_wp2_with (go_at_call 42; go_must (refine HEn.out.mono ?_))
  rintro e w1 ⟨ea, ecap, rfl, re1, b1⟩
  have HB1 := Lib.hid b1
  have HE1 := Lib.hid re1
  have HR1 := Lib.hid (HR.out.below' b1)
  rw [HEl.out] at HE1 ⊢
  obtain ⟨_, _, hv, hd1, hd2⟩ := HE1.out.le
  cases hv
  unfold maxLen at hd2
  clear b1 re1 HEn HR
  go_wp2
  go_loopw [7, 15] (fun o v wr => RKeepRel w1 (ks.zip es) f b o v wr) (fun _ v _ => n - (intOf v).toNat)
  case atStart => exact ⟨0, rfl, Nat.zero_le _, owns_nil _ _ _ _, Below.refl _ _⟩
  case round =>
    obtain ⟨i, rfl, hil, how, hb⟩ := hrel
    rw [HXl.out] at hil
    have hbs := hb.size
    have hgl : (gRef true b f [] ((ks.zip es).take i)).length ≤ 1000 := by
      have h1 := gRef_length true b f ((ks.zip es).take i) []
      rw [List.length_take] at h1
      omega
    have HB := Lib.hid hb
    have HO := Lib.hid how
    clear hb how
    by_cases hin : i < n
    · have hinI : (i : Int) < n := by omega
      obtain ⟨kb, koff, k, rfl, hx, hbx, hcx⟩ := (HR1.out.below' HB.out).scell i hin
      obtain ⟨y, hy⟩ : ∃ y, es[i]? = some y := ⟨es[i]'(by rw [HEl.out]; exact hin), List.getElem?_eq_getElem _⟩
      obtain ⟨g2, off2, rfl, hgl2, c0, c1, c2⟩ := ent_cells (HE1.out.below' HB.out) hy
      have hz : (ks.zip es)[i]? = some (k, y) := List.getElem?_zip_eq_some.2 ⟨hx, hy⟩
      have hnx : gRef true b f [] ((ks.zip es).take (i + 1)) = gRef true b f [] ((ks.zip es).take i) ++ if gCond true b f ((ks.zip es).take i) (k, y) then [(k, y)] else [] := by
        rw [List.take_add_one, hz, Option.toList_some, gRef_snoc, List.nil_append]
      have hcond : gCond true b f ((ks.zip es).take i) (k, y) = ((true && decide (f < y.rev)) || (firstE es i y f && !(y.del && b))) := by
        unfold gCond
        rw [firstB_eq es (by rw [HEl.out]; have := HXl.out; rw [List.length_zip] at this; omega)]
      have hfi := fun w' (h : Reads w' 3 (.slice (some ⟨g2, off2, none⟩) n ecap) n (ecells es)) => first18_any w' (some ⟨g2, off2, none⟩) n ecap i f es y h HEl.out hy
      generalize gRef true b f [] ((ks.zip es).take i) = R at *
      generalize gCond true b f ((ks.zip es).take i) (k, y) = cnd at *
      generalize firstE es i y f = fb at *
      obtain ⟨key, rev, del⟩ := y
      dsimp only at c0 c1 c2 hcond
      have HNx := Lib.hid hnx
      have HX := Lib.hid hx
      have HCo := Lib.hid hcond
      have HFi := Lib.hid hfi
      have hal : Below wr.heap.size wr (wr.alloc (.cells #[.string key, .int .u64 (rev : Int), .bool del] 48)) := (Below.refl _ wr).alloc (Nat.le_refl _) _
      have hg2 := heap_alloc_new wr (.cells #[.string key, .int .u64 (rev : Int), .bool del] 48)
      have HB2 := Lib.hid (HB.out.trans (hal.mono hbs))
      have HO2 := Lib.hid (owns_below HO.out hal)
      have HG2 := Lib.hid hg2
      clear hnx hcond hfi hz hx hy hal hg2 HO HB
      by_cases hfr : f < rev
      · have hfI : (f : Int) < rev := by omega
        have hcn : cnd = true := by rw [HCo.out, decide_eq_true hfr]; rfl
        have HNy := Lib.hid (HNx.out.trans (show (R ++ if cnd then [(k, (⟨key, rev, del⟩ : Ent))] else []) = R ++ [(k, (⟨key, rev, del⟩ : Ent))] from by rw [hcn, if_pos rfl]))
        clear hcn HCo HFi
        have HN := Lib.hid (show (wr.alloc (.cells #[.string key, .int .u64 (rev : Int), .bool del] 48)).heap.size = wr.heap.size + 1 by simp)
        obtain ⟨oa, ocap, rfl, ho1, ho2⟩ := (ownsRow.reads HO2.out).le
        unfold maxLen at ho2
        have hbs4 := HB2.out.size
        go_wp2_with (at_builtin; go_must (refine wpList_append_rows_at (w0 := wr.alloc (.cells #[.string key, .int .u64 (rev : Int), .bool del] 48)) rfl _ _ 26 rfl w1.heap.size 9 i0 _ 1 16 Try.underlying26 hi hz0 hz1 hz2 rfl [.string k] 1 rfl HN.out HO2.out rfl rfl ?_ ?_ ?_ hbs4 ?_))
        · intro u hu
          simp at hu
          subst hu
          rfl
        · unfold maxLen; omega
        · omega
        intro v6 w6 o6 g6 b6 _
        have HO6 := Lib.hid o6
        have HB6 := Lib.hid (HB2.out.trans b6)
        clear o6 g6 b6
        go_wp2
        refine ⟨⟨i + 1, by go_num, by rw [HXl.out]; omega, ?_, HB6.out⟩, by simp [intOf]; omega⟩
        rw [HNy.out, List.map_append, List.length_append]
        simpa [scells] using HO6.out
      · have hfI : ¬ ((f : Int) < rev) := by omega
        rw [decide_eq_false hfr] at HCo
        go_wp2_with fail
        generalize wr.alloc (.cells #[.string key, .int .u64 (rev : Int), .bool del] 48) = w3 at *
        generalize wr.heap.size = p at *
        clear c0 c1 c2 hcx hbx
        have hpl := (Array.getElem?_eq_some_iff.1 HG2.out).1
        have q0 := Lib.cell_of_heap HG2.out 0
        have q1 := Lib.cell_of_heap HG2.out 1
        have q2 := Lib.cell_of_heap HG2.out 2
        simp at q0 q1 q2
        have HF3 := Lib.hid (HFi.out w3 (HE1.out.below' HB2.out))
        go_wp2_with (go_at_call 43; go_must (refine HF3.out.mono ?_))
        rintro e w4 ⟨rfl, b4⟩
        have HB4 := Lib.hid (HB2.out.trans (b4.mono HB2.out.size))
        have HO4 := Lib.hid (owns_below HO2.out b4)
        have hg4 := (b4.block p hpl).trans HG2.out
        have hpl4 := (Array.getElem?_eq_some_iff.1 hg4).1
        clear q0 q1 q2
        have q0 := Lib.cell_of_heap hg4 0
        have q1 := Lib.cell_of_heap hg4 1
        have q2 := Lib.cell_of_heap hg4 2
        simp at q0 q1 q2
        obtain ⟨_, _, k', hv, hx', hbx, hcx⟩ := (HR1.out.below' HB4.out).scell i hin
        cases hv
        obtain rfl : k = k' := by rw [HX.out] at hx'; exact Option.some.inj hx'
        clear hx'
        clear b4 hg4 HF3 HFi HO2
        cases fb with
        | false =>
          have hcn : cnd = false := by rw [HCo.out]; simp
          have HNy := Lib.hid (HNx.out.trans (show (R ++ if cnd then [(k, (⟨key, rev, del⟩ : Ent))] else []) = R from by rw [hcn, if_neg (by decide), List.append_nil]))
          clear hcn HCo
          go_wp2
          refine ⟨⟨i + 1, by go_num, by rw [HXl.out]; omega, ?_, HB4.out⟩, by simp [intOf]; omega⟩
          rw [HNy.out]
          simpa [scells] using HO4.out
        | true =>
          cases hdb : del && b with
          | true =>
            obtain ⟨rfl, rfl⟩ : del = true ∧ b = true := by simpa using hdb
            have hcn : cnd = false := by rw [HCo.out]; simp
            have HNy := Lib.hid (HNx.out.trans (show (R ++ if cnd then [(k, (⟨key, rev, true⟩ : Ent))] else []) = R from by rw [hcn, if_neg (by decide), List.append_nil]))
            clear hcn HCo hdb
            go_wp2
            refine ⟨⟨i + 1, by go_num, by rw [HXl.out]; omega, ?_, HB4.out⟩, by simp [intOf]; omega⟩
            rw [HNy.out]
            simpa [scells] using HO4.out
          | false =>
            have hcn : cnd = true := by rw [HCo.out, hdb]; simp
            have HNy := Lib.hid (HNx.out.trans (show (R ++ if cnd then [(k, (⟨key, rev, del⟩ : Ent))] else []) = R ++ [(k, (⟨key, rev, del⟩ : Ent))] from by rw [hcn, if_pos rfl]))
            have hcase : del = false ∨ (del = true ∧ b = false) := by cases del <;> simp_all
            clear hcn HCo hdb
            rcases hcase with rfl | ⟨rfl, rfl⟩
            all_goals
              obtain ⟨oa, ocap, rfl, ho1, ho2⟩ := (ownsRow.reads HO4.out).le
              unfold maxLen at ho2
              have hbs4 := HB4.out.size
              go_wp2_with (at_builtin; go_must (refine wpList_append_rows_at (w0 := w4) rfl _ _ 26 rfl w1.heap.size 9 i0 _ 1 16 Try.underlying26 hi hz0 hz1 hz2 rfl [.string k] 1 rfl rfl HO4.out rfl rfl ?_ ?_ ?_ hbs4 ?_))
              · intro u hu
                simp at hu
                subst hu
                rfl
              · unfold maxLen; omega
              · omega
              intro v6 w6 o6 g6 b6 _
              have HO6 := Lib.hid o6
              have HB6 := Lib.hid (HB4.out.trans b6)
              clear o6 g6 b6
              go_wp2
              refine ⟨⟨i + 1, by go_num, by rw [HXl.out]; omega, ?_, HB6.out⟩, by simp [intOf]; omega⟩
              rw [HNy.out, List.map_append, List.length_append]
              simpa [scells] using HO6.out
    · have hinI : ¬ ((i : Int) < n) := by omega
      have htk : (ks.zip es).take i = ks.zip es := List.take_of_length_le (by rw [HXl.out]; omega)
      have how := HO.out
      rw [htk] at how
      have hlen : ((gRef true b f [] (ks.zip es)).map (·.1)).length = (gRef true b f [] (ks.zip es)).length := List.length_map ..
      obtain ⟨oa, ocap, rfl, _, _⟩ := (ownsRow.reads how).le
      have HW := Lib.hid (ownsRow.reads how)
      clear how htk HO
      go_wp2
      go_ret
      unfold SGives
      rw [hlen]
      exact ⟨oa, ocap, rfl, HW.out, HB1.out.trans (HB.out.mono HB1.out.size)⟩

def RAtRel (w1 : World) (xs : List KE) (f : Nat) (o i : Value) (wr : World) : Prop :=
  ∃ k : Nat, i = .int .i64 (k : Int) ∧ k ≤ xs.length ∧ wr.ownsRow w1.heap.size 9 1 o (gRef false true f [] (xs.take k)).length (scells ((gRef false true f [] (xs.take k)).map (·.2.key))) ∧ Below w1.heap.size w1 wr

set_option maxRecDepth 100000 in
set_option maxHeartbeats 4000000 in
theorem refat_any (w : World) (a : Option Addr) (n cap : Nat) (ks : List ByteArray) (es : List Ent) (f : Nat) (h : Reads w 1 (.slice a n cap) n (scells ks)) (hd : decs ks = some es) (hn : n ≤ 1000) (hsz : ∀ k ∈ ks, k.size ≤ 1000000) :
    Calls Try.prog 19 #[.slice a n cap, .int .u64 (f : Int)] w (SGives w ((gRef false true f [] (ks.zip es)).map (·.2.key))) := by
  obtain ⟨i0, hi, hz0, hz1, hz2⟩ := info_parts info9
  have hll : ks.length = n := by have := h.1; rw [scells_length] at this; omega
  have hel := (decs_some hd).1
  rw [hll] at hel
  obtain ⟨_, _, hv, hc1, hc2⟩ := h.le
  cases hv
  unfold maxLen at hc2
  have hen := entries18_any w a n cap ks es h hd hn hsz
  have HEn := Lib.hid hen
  have HR := Lib.hid h
  have HEl := Lib.hid hel
  have hxl : (ks.zip es).length = n := by rw [List.length_zip, hll, hel, Nat.min_self]
  have HXl := Lib.hid hxl
  clear h hd hsz hll hel hen hxl
  go_enter Try.func19, Try.ntmps19
  go_wp2_with (go_at_call 42; go_must (refine HEn.out.mono ?_))
  rintro e w1 ⟨ea, ecap, rfl, re1, b1⟩
  have HB1 := Lib.hid b1
  have HE1 := Lib.hid re1
  have HR1 := Lib.hid (HR.out.below' b1)
  rw [HEl.out] at HE1 ⊢
  obtain ⟨_, _, hv, hd1, hd2⟩ := HE1.out.le
  cases hv
  unfold maxLen at hd2
  clear b1 re1 HEn HR
  go_wp2
  go_loopw [5, 13] (fun o v wr => RAtRel w1 (ks.zip es) f o v wr) (fun _ v _ => n - (intOf v).toNat)
  case atStart => exact ⟨0, rfl, Nat.zero_le _, owns_nil _ _ _ _, Below.refl _ _⟩
  case round =>
    obtain ⟨i, rfl, hil, how, hb⟩ := hrel
    rw [HXl.out] at hil
    have hbs := hb.size
    have hgl : (gRef false true f [] ((ks.zip es).take i)).length ≤ 1000 := by
      have h1 := gRef_length false true f ((ks.zip es).take i) []
      rw [List.length_take] at h1
      omega
    have HB := Lib.hid hb
    have HO := Lib.hid how
    clear hb how
    by_cases hin : i < n
    · have hinI : (i : Int) < n := by omega
      obtain ⟨kb, koff, k, rfl, hx, hbx, hcx⟩ := (HR1.out.below' HB.out).scell i hin
      obtain ⟨y, hy⟩ : ∃ y, es[i]? = some y := ⟨es[i]'(by rw [HEl.out]; exact hin), List.getElem?_eq_getElem _⟩
      obtain ⟨g2, off2, rfl, hgl2, c0, c1, c2⟩ := ent_cells (HE1.out.below' HB.out) hy
      have hz : (ks.zip es)[i]? = some (k, y) := List.getElem?_zip_eq_some.2 ⟨hx, hy⟩
      have hnx : gRef false true f [] ((ks.zip es).take (i + 1)) = gRef false true f [] ((ks.zip es).take i) ++ if gCond false true f ((ks.zip es).take i) (k, y) then [(k, y)] else [] := by
        rw [List.take_add_one, hz, Option.toList_some, gRef_snoc, List.nil_append]
      have hcond : gCond false true f ((ks.zip es).take i) (k, y) = ((false && decide (f < y.rev)) || (firstE es i y f && !(y.del && true))) := by
        unfold gCond
        rw [firstB_eq es (by rw [HEl.out]; have := HXl.out; rw [List.length_zip] at this; omega)]
      have hfi := fun w' (h : Reads w' 3 (.slice (some ⟨g2, off2, none⟩) n ecap) n (ecells es)) => first18_any w' (some ⟨g2, off2, none⟩) n ecap i f es y h HEl.out hy
      generalize gRef false true f [] ((ks.zip es).take i) = R at *
      generalize gCond false true f ((ks.zip es).take i) (k, y) = cnd at *
      generalize firstE es i y f = fb at *
      obtain ⟨key, rev, del⟩ := y
      dsimp only at c0 c1 c2 hcond
      have HNx := Lib.hid hnx
      have HCo := Lib.hid hcond
      have HFi := Lib.hid hfi
      have hal : Below wr.heap.size wr (wr.alloc (.cells #[.string key, .int .u64 (rev : Int), .bool del] 48)) := (Below.refl _ wr).alloc (Nat.le_refl _) _
      have hg2 := heap_alloc_new wr (.cells #[.string key, .int .u64 (rev : Int), .bool del] 48)
      have HB2 := Lib.hid (HB.out.trans (hal.mono hbs))
      have HO2 := Lib.hid (owns_below HO.out hal)
      have HG2 := Lib.hid hg2
      clear hnx hcond hfi hz hx hy hal hg2 HO HB
      go_wp2_with fail
      generalize wr.alloc (.cells #[.string key, .int .u64 (rev : Int), .bool del] 48) = w3 at *
      generalize wr.heap.size = p at *
      clear c0 c1 c2 hcx hbx
      have hpl := (Array.getElem?_eq_some_iff.1 HG2.out).1
      have q0 := Lib.cell_of_heap HG2.out 0
      have q1 := Lib.cell_of_heap HG2.out 1
      have q2 := Lib.cell_of_heap HG2.out 2
      simp at q0 q1 q2
      have HF3 := Lib.hid (HFi.out w3 (HE1.out.below' HB2.out))
      go_wp2_with (go_at_call 43; go_must (refine HF3.out.mono ?_))
      rintro e w4 ⟨rfl, b4⟩
      have HB4 := Lib.hid (HB2.out.trans (b4.mono HB2.out.size))
      have HO4 := Lib.hid (owns_below HO2.out b4)
      have hg4 := (b4.block p hpl).trans HG2.out
      have hpl4 := (Array.getElem?_eq_some_iff.1 hg4).1
      clear q0 q1 q2
      have q0 := Lib.cell_of_heap hg4 0
      have q1 := Lib.cell_of_heap hg4 1
      have q2 := Lib.cell_of_heap hg4 2
      simp at q0 q1 q2
      clear b4 hg4 HF3 HFi HO2
      cases fb with
      | false =>
        have hcn : cnd = false := by rw [HCo.out]; simp
        have HNy := Lib.hid (HNx.out.trans (show (R ++ if cnd then [(k, (⟨key, rev, del⟩ : Ent))] else []) = R from by rw [hcn, if_neg (by decide), List.append_nil]))
        clear hcn HCo
        go_wp2
        refine ⟨⟨i + 1, by go_num, by rw [HXl.out]; omega, ?_, HB4.out⟩, by simp [intOf]; omega⟩
        rw [HNy.out]
        simpa [scells] using HO4.out
      | true =>
        cases hdb : del && true with
        | true =>
          obtain rfl : del = true := by simpa using hdb
          have hcn : cnd = false := by rw [HCo.out]; simp
          have HNy := Lib.hid (HNx.out.trans (show (R ++ if cnd then [(k, (⟨key, rev, true⟩ : Ent))] else []) = R from by rw [hcn, if_neg (by decide), List.append_nil]))
          clear hcn HCo hdb
          go_wp2
          refine ⟨⟨i + 1, by go_num, by rw [HXl.out]; omega, ?_, HB4.out⟩, by simp [intOf]; omega⟩
          rw [HNy.out]
          simpa [scells] using HO4.out
        | false =>
          have hcn : cnd = true := by rw [HCo.out, hdb]; simp
          have HNy := Lib.hid (HNx.out.trans (show (R ++ if cnd then [(k, (⟨key, rev, del⟩ : Ent))] else []) = R ++ [(k, (⟨key, rev, del⟩ : Ent))] from by rw [hcn, if_pos rfl]))
          obtain rfl : del = false := by simpa using hdb
          clear hcn HCo hdb
          obtain ⟨oa, ocap, rfl, ho1, ho2⟩ := (ownsRow.reads HO4.out).le
          unfold maxLen at ho2
          have hbs4 := HB4.out.size
          go_wp2_with (at_builtin; go_must (refine wpList_append_rows_at (w0 := w4) rfl _ _ 26 rfl w1.heap.size 9 i0 _ 1 16 Try.underlying26 hi hz0 hz1 hz2 rfl [.string key] 1 rfl rfl HO4.out rfl rfl ?_ ?_ ?_ hbs4 ?_))
          · intro u hu
            simp at hu
            subst hu
            rfl
          · unfold maxLen; omega
          · omega
          intro v6 w6 o6 g6 b6 _
          have HO6 := Lib.hid o6
          have HB6 := Lib.hid (HB4.out.trans b6)
          clear o6 g6 b6
          go_wp2
          refine ⟨⟨i + 1, by go_num, by rw [HXl.out]; omega, ?_, HB6.out⟩, by simp [intOf]; omega⟩
          rw [HNy.out, List.map_append, List.length_append]
          simpa [scells] using HO6.out
    · have hinI : ¬ ((i : Int) < n) := by omega
      have htk : (ks.zip es).take i = ks.zip es := List.take_of_length_le (by rw [HXl.out]; omega)
      have how := HO.out
      rw [htk] at how
      have hlen : ((gRef false true f [] (ks.zip es)).map (·.2.key)).length = (gRef false true f [] (ks.zip es)).length := List.length_map ..
      obtain ⟨oa, ocap, rfl, _, _⟩ := (ownsRow.reads how).le
      have HW := Lib.hid (ownsRow.reads how)
      clear how htk HO
      go_wp2
      go_ret
      unfold SGives
      rw [hlen]
      exact ⟨oa, ocap, rfl, HW.out, HB1.out.trans (HB.out.mono HB1.out.size)⟩

def NewRel (w1 : World) (es : List Ent) (m i : Value) (wr : World) : Prop := ∃ k : Nat, i = .int .i64 (k : Int) ∧ k ≤ es.length ∧ m = .int .u64 (newestOf (es.take k) : Int) ∧ Below w1.heap.size w1 wr

set_option maxRecDepth 100000 in
set_option maxHeartbeats 4000000 in
theorem refnewest_any (w : World) (a : Option Addr) (n cap : Nat) (ks : List ByteArray) (es : List Ent) (h : Reads w 1 (.slice a n cap) n (scells ks)) (hd : decs ks = some es) (hn : n ≤ 1000) (hsz : ∀ k ∈ ks, k.size ≤ 1000000) :
    Calls Try.prog 20 #[.slice a n cap] w (GivesU64 w (newestOf es)) := by
  have hll : ks.length = n := by have := h.1; rw [scells_length] at this; omega
  have hel := (decs_some hd).1
  rw [hll] at hel
  have hen := entries18_any w a n cap ks es h hd hn hsz
  have HEn := Lib.hid hen
  have HEl := Lib.hid hel
  clear h hd hsz hll hel hen
  go_enter Try.func20, Try.ntmps20
  go_wp2_with (go_at_call 42; go_must (refine HEn.out.mono ?_))
  rintro e w1 ⟨ea, ecap, rfl, re1, b1⟩
  have HB1 := Lib.hid b1
  have HE1 := Lib.hid re1
  rw [HEl.out] at HE1 ⊢
  obtain ⟨_, _, hv, hd1, hd2⟩ := HE1.out.le
  cases hv
  unfold maxLen at hd2
  clear b1 re1 HEn
  go_wp2
  go_loopw [3, 9] (fun m v wr => NewRel w1 es m v wr) (fun _ v _ => n - (intOf v).toNat)
  case atStart => exact ⟨0, rfl, Nat.zero_le _, rfl, Below.refl _ _⟩
  case round =>
    obtain ⟨i, rfl, hil, rfl, hb⟩ := hrel
    rw [HEl.out] at hil
    have hbs := hb.size
    have HB := Lib.hid hb
    clear hb
    by_cases hin : i < n
    · have hinI : (i : Int) < n := by omega
      obtain ⟨y, hy⟩ : ∃ y, es[i]? = some y := ⟨es[i]'(by rw [HEl.out]; exact hin), List.getElem?_eq_getElem _⟩
      obtain ⟨g2, off2, rfl, hgl2, c0, c1, c2⟩ := ent_cells (HE1.out.below' HB.out) hy
      have hnx : newestOf (es.take (i + 1)) = max (newestOf (es.take i)) y.rev := by
        rw [List.take_add_one, hy, Option.toList_some, newestOf_snoc]
      obtain ⟨key, rev, del⟩ := y
      dsimp only at c0 c1 c2 hnx
      generalize newestOf (es.take i) = m at *
      have HNx := Lib.hid hnx
      have HB2 := Lib.hid (HB.out.trans (((Below.refl _ wr).alloc (Nat.le_refl _) (.cells #[.string key, .int .u64 (rev : Int), .bool del] 48)).mono hbs))
      clear hnx hy
      go_wp2
      refine ⟨⟨i + 1, by go_num, by rw [HEl.out]; omega, ?_, HB2.out⟩, by simp [intOf]; omega⟩
      rw [HNx.out]
      congr 1
      omega
    · have hinI : ¬ ((i : Int) < n) := by omega
      have htk : es.take i = es := List.take_of_length_le (by rw [HEl.out]; omega)
      rw [htk]
      go_wp2
      go_ret
      exact ⟨rfl, HB1.out.trans (HB.out.mono HB1.out.size)⟩
end Go.Proofs.Ytekdcjbjjakhcaa
