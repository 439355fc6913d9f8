/- dump's reader: what a line does. -/
import Derived.Test.YtlibncefiibgaaaDoorZDumpNum
import Derived.Test.YtlibncefiibgaaaDoorZTupleParse
import Derived.Deep.AppendLies
import Derived.Deep.RegionLaw
import Derived.BigQuiet
import Derived.Deep.QuietTactic
namespace Go.Proofs.YtlibncefiibgaaaDoor
open Go Go.RowKit

/-- The reader in block g: what is left, the lines read, the tuples told. -/
def RdAt (B : Nat) (w : World) (g : Nat) (rest : ByteArray) (k : Nat) (ts : List Six) : Prop :=
  ∃ a cap, w.heap[g]? = some (.cells #[.string rest, .int .i64 (k : Int), .slice a ts.length cap] 60 (0, 0)) ∧ w.ownsRow B 37 6 (.slice a ts.length cap) ts.length (tcells ts) ∧ B ≤ g

theorem RdAt.below {B : Nat} {w w' : World} {g : Nat} {rest : ByteArray} {k : Nat} {ts : List Six} (h : RdAt B w g rest k ts) (b : Below w.heap.size w w') : RdAt B w' g rest k ts := by
  obtain ⟨a, cap, h1, h2, h3⟩ := h
  exact ⟨a, cap, (b.block g (Array.getElem?_eq_some_iff.1 h1).1).trans h1, owns_below h2 b, h3⟩

def TakePost (B : Nat) (w : World) (g : Nat) (rest : ByteArray) (k : Nat) (ts : List Six) (r : TakeR) (e : Ending) (w' : World) : Prop :=
  Below B w w' ∧ match r with
    | .more ts' => e = .returned (.tuple #[.bool false, .int .i64 0]) ∧ RdAt B w' g rest k ts'
    | .done => e = .returned (.tuple #[.bool true, .int .i64 0]) ∧ RdAt B w' g rest k ts
    | .bad x => e = .returned (.tuple #[.bool false, .int .i64 (x : Int)]) ∧ RdAt B w' g rest k ts

theorem owns_drew' {B n s : Nat} {w : World} {e : TypeId} {v : Value} {xs : List Value} (h : w.ownsRow B e s v n xs) : w.drew.ownsRow B e s v n xs := h
theorem heap_drew' {w : World} {g : Nat} {o : Option Obj} (h : w.heap[g]? = o) : w.drew.heap[g]? = o := h
theorem below_block' {B : Nat} {w w' : World} (h : Below B w w') {g : Nat} {o : Obj} (hg : w.heap[g]? = some o) (hB : g < B) : w'.heap[g]? = some o := (h.block g hB).trans hg

theorem six_cells_new (W : World) (a b c d e f : Value) : ∀ j u, [a, b, c, d, e, f][j]? = some u → (W.alloc (.cells #[a, b, c, d, e, f] 37)).cell? ((⟨W.heap.size, 0, none⟩ : Addr).add j) = some u := by
  intro j u hj
  rw [Addr.add_lit, show 0 + j = j by omega, World.cell?_alloc_new W _ _ j]
  simpa using hj

theorem below_grown {B n s : Nat} {w w' : World} {e : TypeId} {v : Value} {xs : List Value} (h : w.ownsRow B e s v n xs) (g : w.grownBy w' v.ownBlock) (hB : B ≤ w.heap.size) : Below B w w' := by
  refine ⟨g.os, g.tape, g.output, g.size, fun k hk => ?_⟩
  refine g.block k (by omega) fun he => ?_
  rcases h.2 with ⟨rfl, _⟩ | ⟨q, cap, cur, rfl, hq, _⟩
  · simp [Value.ownBlock] at he
  · simp [Value.ownBlock] at he
    omega

theorem own_set_farD {w : World} {B n s : Nat} {e e' : TypeId} {v : Value} {xs : List Value} {g : Nat} {cs : Array Value} {fz : Nat × Nat} (h : w.ownsRow B e s v n xs) (hg : w.heap[g]? = some (.cells cs e' fz)) (he : e' ≠ e) (j : Nat) (u : Value) : (w.setCell ⟨g, j, none⟩ u).ownsRow B e s v n xs :=
  ownsRow_setCell_other h (a := ⟨g, j, none⟩) (owns_other h hg he) _

theorem str_eqD (x y : ByteArray) : (x.toList == y.toList) = decide (x = y) := by
  rw [Go.ByteArray.toList_eq, Go.ByteArray.toList_eq]
  by_cases h : x = y
  · subst h
    simp
  · rw [decide_eq_false h, beq_eq_false_iff_ne]
    exact fun e => h (Go.WideShapes.bytes_inj e)

theorem head_eq (x : ByteArray) : (x.toList == [100, 117, 109, 112, 32, 49]) = decide (x = headB) := by
  rw [← str_eqD]
  have : headB.toList = [100, 117, 109, 112, 32, 49] := by
    rw [Go.ByteArray.toList_eq]
    rfl
  rw [this]

set_option maxRecDepth 100000 in
set_option maxHeartbeats 2000000 in
theorem take_any (w : World) (B g : Nat) (rest : ByteArray) (k : Nat) (ts : List Six) (line : ByteArray) (h : RdAt B w g rest k ts) (hB : B ≤ w.heap.size) (hl : line.size ≤ 1000000) (ht : ts.length ≤ 1000000) (hp : Pow10 w) :
    Calls Tryd.prog 26 #[.pointer (some ⟨g, 0, none⟩), .string line] w (TakePost B w g rest k ts (takeD k ts line)) := by
  obtain ⟨i0, hi, hz0, hz1, hz2⟩ := info_parts info_six
  have HRd := Lib.hid h
  obtain ⟨a, cap, h1, h2, h3⟩ := h
  obtain ⟨_, _, hv, hc1, hc2⟩ := (ownsRow.reads h2).le
  cases hv
  have c0 := Lib.cell_of_heap h1 0
  have c1 := Lib.cell_of_heap h1 1
  have c2 := Lib.cell_of_heap h1 2
  simp at c0 c1 c2
  have hg : g < w.heap.size := (Array.getElem?_eq_some_iff.1 h1).1
  have H1 := Lib.hid h1
  have H2 := Lib.hid h2
  have hhd := head_eq line
  unfold maxLen at hc2
  clear h1 h2
  unfold takeD
  by_cases hk1 : k = 1
  · have hkI : ((k : Int) == 1) = true := by simp [hk1]
    rw [if_pos hk1]
    by_cases hh : line = headB
    · rw [decide_eq_true hh] at hhd
      rw [if_pos hh]
      clear hp hh
      go_enter Tryd.func26, Tryd.ntmps26
      go_wp2
      go_ret2
      exact ⟨Below.refl _ _, rfl, HRd.out⟩
    · rw [decide_eq_false hh] at hhd
      rw [if_neg hh]
      clear hp hh
      go_enter Tryd.func26, Tryd.ntmps26
      go_wp2
      go_ret2
      exact ⟨Below.refl _ _, rfl, HRd.out⟩
  · have hkI : ((k : Int) == 1) = false := by simp; omega
    rw [if_neg hk1]
    have HEn := Lib.hid (end_any w ts.length (by omega) hp)
    have hee := str_eqD line (endB ts.length)
    by_cases he : line = endB ts.length
    · rw [decide_eq_true he] at hee
      rw [if_pos he]
      clear he hp
      generalize endB ts.length = eb at *
      go_enter Tryd.func26, Tryd.ntmps26
      go_wp2_with (go_at_call 23; go_must (refine HEn.out.mono ?_))
      rintro e w1 ⟨rfl, b1⟩
      have HR1 := Lib.hid (HRd.out.below b1)
      have HB1 := Lib.hid (b1.mono hB)
      clear b1
      go_wp2
      go_ret2
      exact ⟨HB1.out, rfl, HR1.out⟩
    · rw [decide_eq_false he] at hee
      rw [if_neg he]
      have HPa := Lib.hid (fun W => parse_any W line hl)
      clear he
      generalize endB ts.length = eb at *
      cases hit : isText line with
      | false =>
        have hpv : parseV line = .tuple #[Six.none.val, .int .i64 9] := by unfold parseV; rw [hit]; rfl
        rw [hpv] at HPa
        unfold Six.none Six.val at HPa
        clear hit hpv hp
        rw [if_neg (by simp)]
        go_enter Tryd.func26, Tryd.ntmps26
        go_wp2_with (go_at_call 23; go_must (refine HEn.out.mono ?_))
        rintro e w1 ⟨rfl, b1⟩
        have HR1 := Lib.hid (HRd.out.below b1)
        have HB1 := Lib.hid b1
        clear b1
        go_wp2_with (go_at_call 41; go_must (refine (HPa.out w1).mono ?_))
        rintro e w2 ⟨rfl, b2⟩
        have hb2 := (HB1.out.trans (b2.mono HB1.out.size)).alloc (Nat.le_trans HB1.out.size b2.size) (.cells #[.string ⟨#[]⟩, .string ⟨#[]⟩, .string ⟨#[]⟩, .string ⟨#[]⟩, .string ⟨#[]⟩, .string ⟨#[]⟩] 37)
        have HB2 := Lib.hid hb2
        clear b2 hb2
        go_wp2
        go_ret2
        exact ⟨HB2.out.mono hB, rfl, HRd.out.below HB2.out⟩
      | true =>
        have hpv : parseV line = .tuple #[(Six.of line).val, .int .i64 0] := by unfold parseV; rw [hit]; rfl
        rw [hpv] at HPa
        rw [if_pos rfl]
        clear hit hpv hp
        generalize Six.of line = t at *
        obtain ⟨r, hr⟩ : ∃ r, stepT ts t = r := ⟨_, rfl⟩
        rw [hr]
        have HRs := Lib.hid hr
        clear hr
        have htv : t.val = .agg #[.string t.a, .string t.b, .string t.c, .string t.d, .string t.e, .string t.f] := rfl
        rw [htv] at HPa
        go_enter Tryd.func26, Tryd.ntmps26
        go_wp2_with (go_at_call 23; go_must (refine HEn.out.mono ?_))
        rintro e w1 ⟨rfl, b1⟩
        have HB1 := Lib.hid b1
        clear b1
        go_wp2_with (go_at_call 41; go_must (refine (HPa.out w1).mono ?_))
        rintro e w2 ⟨rfl, b2⟩
        have hb2 := (HB1.out.trans (b2.mono HB1.out.size)).alloc (Nat.le_trans HB1.out.size b2.size) (.cells #[.string t.a, .string t.b, .string t.c, .string t.d, .string t.e, .string t.f] 37)
        have hn2 : (w2.alloc (.cells #[.string t.a, .string t.b, .string t.c, .string t.d, .string t.e, .string t.f] 37)).heap[w2.heap.size]? = some (.cells #[.string t.a, .string t.b, .string t.c, .string t.d, .string t.e, .string t.f] 37 (0, 0)) := heap_alloc_new _ _
        have HB2 := Lib.hid hb2
        have HN2 := Lib.hid hn2
        clear b2 hb2 hn2 HB1 HPa HEn
        go_upto_region 8 with fail
        generalize w2.alloc (.cells #[.string t.a, .string t.b, .string t.c, .string t.d, .string t.e, .string t.f] 37) = w3 at *
        generalize w2.heap.size = gt at *
        have hgt : gt < w3.heap.size := (Array.getElem?_eq_some_iff.1 HN2.out).1
        obtain ⟨a', cap', q1, q2, q3⟩ := HRd.out.below HB2.out
        obtain ⟨_, _, hv, hc3, hc4⟩ := (ownsRow.reads q2).le
        cases hv
        unfold maxLen at hc4
        have d2 := Lib.cell_of_heap q1 2
        simp at d2
        have Q1 := Lib.hid q1
        have Q2 := Lib.hid q2
        clear q1 q2 c0 c1 c2 HRd H1 H2 hc1 hc2
        have hg3 : g < w3.heap.size := (Array.getElem?_eq_some_iff.1 Q1.out).1
        cases hgl : ts.getLast? with
        | none =>
          obtain ⟨len, hlen⟩ : ∃ len, ts.length = len := ⟨_, rfl⟩
          have hl0 : len = 0 := by rw [← hlen, List.getLast?_eq_none_iff.1 hgl]; rfl
          have hr := HRs.out
          unfold stepT at hr
          rw [hgl] at hr
          subst hr
          have HM := Lib.hid hlen
          have hlI : ¬ (0 : Int) < (len : Int) := by omega
          rw [hlen] at Q1 Q2 d2 hc3 ht ⊢
          clear hgl HRs hlen
          go_wp2_with fail
          go_quiet (fail)
          obtain ⟨W, hW⟩ : ∃ W, W = w3.drewN nq := ⟨_, rfl⟩
          have hbz : Below w3.heap.size w3 W := by rw [hW]; exact below_drewN w3 nq
          rw [← hW]
          have hgW : g < W.heap.size := Nat.lt_of_lt_of_le hg3 hbz.size
          have P1 := Lib.hid ((hbz.block g hg3).trans Q1.out)
          have P2 := Lib.hid (owns_below Q2.out hbz)
          have P3 := Lib.hid ((hbz.block gt hgt).trans HN2.out)
          have PB := Lib.hid (HB2.out.trans (hbz.mono HB2.out.size))
          have hcW := Lib.cell_of_heap P1.out 2
          simp at hcW
          have u0 := Lib.cell_of_heap P3.out 0
          have u1 := Lib.cell_of_heap P3.out 1
          have u2 := Lib.cell_of_heap P3.out 2
          have u3 := Lib.cell_of_heap P3.out 3
          have u4 := Lib.cell_of_heap P3.out 4
          have u5 := Lib.cell_of_heap P3.out 5
          simp at u0 u1 u2 u3 u4 u5
          clear hbz hW d2 Q1 Q2 HN2 HB2 hl0
          go_upto_region 13 with fail
          have HXa := Lib.hid (owns_drew' (P2.out.alloc (.cells #[.string t.a, .string t.b, .string t.c, .string t.d, .string t.e, .string t.f] 37)))
          have HGa := Lib.hid (heap_drew' (below_block' ((Below.refl W.heap.size W).alloc (Nat.le_refl _) (.cells #[.string t.a, .string t.b, .string t.c, .string t.d, .string t.e, .string t.f] 37)) P1.out hgW))
          have HBa := Lib.hid (Below.drew (PB.out.alloc PB.out.size (.cells #[.string t.a, .string t.b, .string t.c, .string t.d, .string t.e, .string t.f] 37)))
          go_region_law (first
            | (refine step_append_lies _ rfl _ _ 22 rfl B 37 i0 (.agg #[.string ⟨#[]⟩, .string ⟨#[]⟩, .string ⟨#[]⟩, .string ⟨#[]⟩, .string ⟨#[]⟩, .string ⟨#[]⟩]) 6 96 Tryd.underlying22 hi hz0 hz1 hz2 rfl (by decide) _ _ _ rfl HXa.out _ 1 1 [.string t.a, .string t.b, .string t.c, .string t.d, .string t.e, .string t.f] rfl rfl (six_cells_new _ _ _ _ _ _ _) (by intro u hu; simp at hu; rcases hu with rfl | rfl | rfl | rfl | rfl | rfl <;> rfl) (by decide) (by unfold maxLen; omega) (by omega) (by simp; omega) _ rfl ?_
               intro g6 cap6 w6 o6 gr6 _ hl6
               have HO6 := Lib.hid o6
               have hk6 := grown_other HXa.out gr6 HGa.out (by decide)
               have HK6 := Lib.hid hk6
               have hc6 := Lib.cell_of_heap hk6 2
               have hf6 := Lib.frozen_of_heap hk6 2
               simp at hc6
               have hg6 : g < w6.heap.size := (Array.getElem?_eq_some_iff.1 hk6).1
               have HB6 := Lib.hid (HBa.out.mono hB |>.trans (below_grown HXa.out gr6 (by simp; omega)))
               clear o6 gr6 hk6))
          all_goals
            clear HXa HGa HBa P1 P2 P3 PB hcW u0 u1 u2 u3 u4 u5 hc6 hf6
            have hx7 : (w6.setCell ⟨g, 2, none⟩ (.slice (some ⟨g6, 0, none⟩) (len + 1) cap6)).heap[g]? = some (.cells #[.string rest, .int .i64 (k : Int), .slice (some ⟨g6, 0, none⟩) (len + 1) cap6] 60 (0, 0)) := by
              rw [heap_setCell_same _ _ 2 _ _ _ HK6.out]
              rfl
            have hr7 : RdAt B (w6.setCell ⟨g, 2, none⟩ (.slice (some ⟨g6, 0, none⟩) (len + 1) cap6)) g rest k (ts ++ [t]) := by
              refine ⟨some ⟨g6, 0, none⟩, cap6, ?_, ?_, h3⟩
              · rw [List.length_append, List.length_singleton, HM.out]
                exact hx7
              · rw [List.length_append, List.length_singleton, HM.out, tcells_snoc]
                exact own_set_farD HO6.out HK6.out (by decide) 2 _
            have HR7 := Lib.hid hr7
            have HB7 := Lib.hid (HB6.out.setCell (p := ⟨g, 2, none⟩) h3 (.slice (some ⟨g6, 0, none⟩) (len + 1) cap6))
            clear hx7 hr7 HO6 HK6 HB6
            generalize w6.setCell ⟨g, 2, none⟩ (.slice (some ⟨g6, 0, none⟩) (len + 1) cap6) = w7 at *
            go_wp2
            go_ret2
            exact ⟨HB7.out, rfl, HR7.out⟩
        | some p =>
          obtain ⟨m, hm⟩ : ∃ m, ts.length = m + 1 := by
            rcases Nat.eq_zero_or_pos ts.length with e | e
            · obtain rfl := List.eq_nil_of_length_eq_zero e
              simp at hgl
            · exact ⟨ts.length - 1, by omega⟩
          have hpl : ts[m]? = some p := by rw [← hgl, List.getLast?_eq_getElem?, hm, Nat.add_sub_cancel]
          obtain ⟨b, off, rfl, hb, k0, k1, k2, k3, k4, k5⟩ := (ownsRow.reads Q2.out).six hpl
          have HCm0 := fun W => tcmp_any W p t
          unfold Six.val at HCm0
          have hr := HRs.out
          unfold stepT at hr
          rw [hgl] at hr
          dsimp only at hr
          obtain ⟨c, hc⟩ : ∃ c, cmpBs p.list t.list = c := ⟨_, rfl⟩
          rw [hc] at HCm0 hr
          obtain ⟨bb, hbb⟩ : ∃ bb, decide (0 ≤ c) = bb := ⟨_, rfl⟩
          have hp0 : (0 : Int) < (m : Int) + 1 := by omega
          have hp1 : ¬ ((m : Int) + 1 ≤ m) := by omega
          have hw1 : IntKind.i64.wrap (m : Int) = (m : Int) := by rw [IntKind.wrap_i64]; omega
          have HRr := Lib.hid hr
          clear hr HRs
          have HCm := Lib.hid HCm0
          have HM := Lib.hid hm
          rw [hm] at Q1 Q2 d2 hc3 ht ⊢
          clear hgl hpl hc HCm0 hm
          go_upto_region 11 with fail
          refine wp_region_all (by kernel_rfl) [eqF (.int .i64 ((m : Int) + 1)), eqF (.bool true), eqF (.bool true), eqF (.pointer (some ⟨g, 0, none⟩)), eqF (.pointer (some ⟨g, 0, none⟩)), eqF (.pointer (some ⟨g, 2, none⟩)), eqF (.slice (some ⟨b, off, none⟩) (m + 1) cap'), eqF (.int .i64 ((m : Int) + 1)), eqF (.int .i64 (m : Int)), eqF (.pointer (some ⟨b, off + m * 6, none⟩)), eqF (.agg #[.string p.a, .string p.b, .string p.c, .string p.d, .string p.e, .string p.f]), eqF (.agg #[.string t.a, .string t.b, .string t.c, .string t.d, .string t.e, .string t.f]), eqF (.int .i64 c), eqF (.bool bb), eqF (.bool bb)] (by kernel_rfl) ⟨?_, ?_, ?_, ?_, ?_, ?_, ?_, ?_, ?_, ?_, ?_, ?_, ?_, ?_, ?_, trivial⟩ ⟨trivial, trivial, trivial, fun _ _ h => h, fun _ _ h => h, fun _ _ h => h, fun _ _ h => h, fun _ _ h => h, fun _ _ h => h, fun _ _ h => h, fun _ _ h => h, fun _ _ h => h, fun _ _ h => h, fun _ _ h => h, trivial, trivial⟩ ?_
          · intro ρ wx hρ hbx hl
            have e8 : ρ (.tmp 8) = .int .i64 ((m : Int) + 1) := hρ.tmp 8 (by decide +kernel)
            refine y_val (v := .int .i64 ((m : Int) + 1)) ?_ rfl
            simp [execOp, go_sem, e8]
          · intro ρ wx hρ hbx hl
            have e47 : ρ (.tmp 47) = .int .i64 ((m : Int) + 1) := hl 0 (by decide +kernel) 47 rfl
            refine y_val (v := .bool true) ?_ rfl
            simp [execOp, hρ.const, go_sem, e47, hp0]
          · intro ρ wx hρ hbx hl
            have e48 : ρ (.tmp 48) = .bool true := hl 1 (by decide +kernel) 48 rfl
            refine y_val (v := .bool true) ?_ rfl
            simp [execOp, go_sem, e48]
          · intro ρ wx hρ hbx hl
            have e0 : ρ (.tmp 0) = .pointer (some ⟨g, 0, none⟩) := hρ.tmp 0 (by decide +kernel)
            refine y_val (v := .pointer (some ⟨g, 0, none⟩)) ?_ rfl
            simp [execOp, go_sem, e0]
          · intro ρ wx hρ hbx hl
            have e50 : ρ (.tmp 50) = .pointer (some ⟨g, 0, none⟩) := hl 3 (by decide +kernel) 50 rfl
            refine y_val (v := .pointer (some ⟨g, 0, none⟩)) ?_ rfl
            simp [execOp, go_sem, e50]
          · intro ρ wx hρ hbx hl
            have e51 : ρ (.tmp 51) = .pointer (some ⟨g, 0, none⟩) := hl 4 (by decide +kernel) 51 rfl
            refine y_val (v := .pointer (some ⟨g, 2, none⟩)) ?_ rfl
            simp [execOp, go_sem, e51]
          · intro ρ wx hρ hbx hl
            have e52 : ρ (.tmp 52) = .pointer (some ⟨g, 2, none⟩) := hl 5 (by decide +kernel) 52 rfl
            have kk := (hbx.cell (hg3)).trans d2
            refine y_val (v := .slice (some ⟨b, off, none⟩) (m + 1) cap') ?_ rfl
            simp [execOp, go_sem, e52, kk]
          · intro ρ wx hρ hbx hl
            have e8 : ρ (.tmp 8) = .int .i64 ((m : Int) + 1) := hρ.tmp 8 (by decide +kernel)
            refine y_val (v := .int .i64 ((m : Int) + 1)) ?_ rfl
            simp [execOp, go_sem, e8]
          · intro ρ wx hρ hbx hl
            have e54 : ρ (.tmp 54) = .int .i64 ((m : Int) + 1) := hl 7 (by decide +kernel) 54 rfl
            refine y_val (v := .int .i64 (m : Int)) ?_ rfl
            simp [execOp, hρ.const, go_sem, e54, hw1]
          · intro ρ wx hρ hbx hl
            have e53 : ρ (.tmp 53) = .slice (some ⟨b, off, none⟩) (m + 1) cap' := hl 6 (by decide +kernel) 53 rfl
            have e55 : ρ (.tmp 55) = .int .i64 (m : Int) := hl 8 (by decide +kernel) 55 rfl
            refine y_val (v := .pointer (some ⟨b, off + m * 6, none⟩)) ?_ rfl
            simp [execOp, go_sem, e53, e55, hp1]
          · intro ρ wx hρ hbx hl
            have e56 : ρ (.tmp 56) = .pointer (some ⟨b, off + m * 6, none⟩) := hl 9 (by decide +kernel) 56 rfl
            have q0 := (hbx.cell (p := ⟨b, off + m * 6, none⟩) hb).trans k0
            have q1 := (hbx.cell (p := ⟨b, off + m * 6 + 1, none⟩) hb).trans k1
            have q2 := (hbx.cell (p := ⟨b, off + m * 6 + 2, none⟩) hb).trans k2
            have q3 := (hbx.cell (p := ⟨b, off + m * 6 + 3, none⟩) hb).trans k3
            have q4 := (hbx.cell (p := ⟨b, off + m * 6 + 4, none⟩) hb).trans k4
            have q5 := (hbx.cell (p := ⟨b, off + m * 6 + 5, none⟩) hb).trans k5
            refine y_val (v := .agg #[.string p.a, .string p.b, .string p.c, .string p.d, .string p.e, .string p.f]) ?_ rfl
            simp [execOp, go_sem, e56, q0, q1, q2, q3, q4, q5]
          · intro ρ wx hρ hbx hl
            have e6 : ρ (.tmp 6) = .pointer (some ⟨gt, 0, none⟩) := hρ.tmp 6 (by decide +kernel)
            have q := (hbx.block gt hgt).trans HN2.out
            have q0 := Lib.cell_of_heap q 0
            have q1 := Lib.cell_of_heap q 1
            have q2 := Lib.cell_of_heap q 2
            have q3 := Lib.cell_of_heap q 3
            have q4 := Lib.cell_of_heap q 4
            have q5 := Lib.cell_of_heap q 5
            simp at q0 q1 q2 q3 q4 q5
            refine y_val (v := .agg #[.string t.a, .string t.b, .string t.c, .string t.d, .string t.e, .string t.f]) ?_ rfl
            simp [execOp, go_sem, e6, q0, q1, q2, q3, q4, q5]
          · intro ρ wx hρ hbx hl
            have e57 : ρ (.tmp 57) = .agg #[.string p.a, .string p.b, .string p.c, .string p.d, .string p.e, .string p.f] := hl 10 (by decide +kernel) 57 rfl
            have e58 : ρ (.tmp 58) = .agg #[.string t.a, .string t.b, .string t.c, .string t.d, .string t.e, .string t.f] := hl 11 (by decide +kernel) 58 rfl
            refine y_call (f := 21) (args := #[.agg #[.string p.a, .string p.b, .string p.c, .string p.d, .string p.e, .string p.f], .agg #[.string t.a, .string t.b, .string t.c, .string t.d, .string t.e, .string t.f]]) (by simp [execOp, resolve, invoke, hρ.func, go_sem, e57, e58]) ?_
            refine (HCm.out wx).mono ?_
            rintro e w6 ⟨rfl, b7⟩
            exact ⟨_, rfl, rfl, b7⟩
          · intro ρ wx hρ hbx hl
            have e59 : ρ (.tmp 59) = .int .i64 c := hl 12 (by decide +kernel) 59 rfl
            refine y_val (v := .bool bb) ?_ rfl
            simp [execOp, hρ.const, go_sem, e59, hbb]
          · intro ρ wx hρ hbx hl
            have e49 : ρ (.tmp 49) = .bool true := hl 2 (by decide +kernel) 49 rfl
            have e60 : ρ (.tmp 60) = .bool bb := hl 13 (by decide +kernel) 60 rfl
            refine y_val (v := .bool bb) ?_ rfl
            simp [execOp, go_sem, e49, e60]
          intro aa w4 hdef hsz hlk hbz hf
          have ha := act_of_like hdef hsz hlk [47, 48, 49, 50, 51, 52, 53, 54, 55, 56, 57, 58, 59, 60, 61] 72 rfl (by decide +kernel)
          have e47 : aa.tmps.getD 47 undef = .int .i64 ((m : Int) + 1) := hf 0 _ 47 rfl rfl
          have e48 : aa.tmps.getD 48 undef = .bool true := hf 1 _ 48 rfl rfl
          have e49 : aa.tmps.getD 49 undef = .bool true := hf 2 _ 49 rfl rfl
          have e50 : aa.tmps.getD 50 undef = .pointer (some ⟨g, 0, none⟩) := hf 3 _ 50 rfl rfl
          have e51 : aa.tmps.getD 51 undef = .pointer (some ⟨g, 0, none⟩) := hf 4 _ 51 rfl rfl
          have e52 : aa.tmps.getD 52 undef = .pointer (some ⟨g, 2, none⟩) := hf 5 _ 52 rfl rfl
          have e53 : aa.tmps.getD 53 undef = .slice (some ⟨b, off, none⟩) (m + 1) cap' := hf 6 _ 53 rfl rfl
          have e54 : aa.tmps.getD 54 undef = .int .i64 ((m : Int) + 1) := hf 7 _ 54 rfl rfl
          have e55 : aa.tmps.getD 55 undef = .int .i64 (m : Int) := hf 8 _ 55 rfl rfl
          have e56 : aa.tmps.getD 56 undef = .pointer (some ⟨b, off + m * 6, none⟩) := hf 9 _ 56 rfl rfl
          have e57 : aa.tmps.getD 57 undef = .agg #[.string p.a, .string p.b, .string p.c, .string p.d, .string p.e, .string p.f] := hf 10 _ 57 rfl rfl
          have e58 : aa.tmps.getD 58 undef = .agg #[.string t.a, .string t.b, .string t.c, .string t.d, .string t.e, .string t.f] := hf 11 _ 58 rfl rfl
          have e59 : aa.tmps.getD 59 undef = .int .i64 c := hf 12 _ 59 rfl rfl
          have e60 : aa.tmps.getD 60 undef = .bool bb := hf 13 _ 60 rfl rfl
          have e61 : aa.tmps.getD 61 undef = .bool bb := hf 14 _ 61 rfl rfl
          simp only [putAll, List.foldl_cons, List.foldl_nil, e47, e48, e49, e50, e51, e52, e53, e54, e55, e56, e57, e58, e59, e60, e61] at ha
          simp [Act.put] at ha
          subst ha
          clear hdef hsz hlk hf e47 e48 e49 e50 e51 e52 e53 e54 e55 e56 e57 e58 e59 e60 e61
          have HB4 := Lib.hid (HB2.out.trans (hbz.mono HB2.out.size))
          have R3 : Hid (RdAt B w3 g rest k ts) := Lib.hid ⟨_, _, by rw [HM.out]; exact Q1.out, by rw [HM.out]; exact Q2.out, q3⟩
          cases bb with
          | true =>
            have hr := HRr.out
            rw [if_pos (by simpa using hbb)] at hr
            subst hr
            have R4 := Lib.hid (R3.out.below hbz)
            clear hbz
            go_wp2
            go_ret2
            exact ⟨HB4.out.mono hB, rfl, R4.out⟩
          | false =>
            have hr := HRr.out
            rw [if_neg (by simpa using hbb)] at hr
            subst hr
            have hgW : g < w4.heap.size := Nat.lt_of_lt_of_le hg3 hbz.size
            have P1 := Lib.hid ((hbz.block g hg3).trans Q1.out)
            have P2 := Lib.hid (owns_below Q2.out hbz)
            have P3 := Lib.hid ((hbz.block gt hgt).trans HN2.out)
            have PB := HB4
            have hcW := Lib.cell_of_heap P1.out 2
            simp at hcW
            have u0 := Lib.cell_of_heap P3.out 0
            have u1 := Lib.cell_of_heap P3.out 1
            have u2 := Lib.cell_of_heap P3.out 2
            have u3 := Lib.cell_of_heap P3.out 3
            have u4 := Lib.cell_of_heap P3.out 4
            have u5 := Lib.cell_of_heap P3.out 5
            simp at u0 u1 u2 u3 u4 u5
            obtain ⟨W, rfl⟩ : ∃ W : World, W = w4 := ⟨_, rfl⟩
            obtain ⟨len, hlen⟩ : ∃ len, m + 1 = len := ⟨_, rfl⟩
            have hlenI : (m : Int) + 1 = (len : Int) := by omega
            rw [hlen] at P1 P2 HM hcW hc3 ht ⊢
            rw [hlenI]
            clear hbz HB4 R3 k0 k1 k2 k3 k4 k5 d2 Q1 Q2 HN2 HB2 HCm HRr
            go_upto_region 13 with fail
            have HXa := Lib.hid (owns_drew' (P2.out.alloc (.cells #[.string t.a, .string t.b, .string t.c, .string t.d, .string t.e, .string t.f] 37)))
            have HGa := Lib.hid (heap_drew' (below_block' ((Below.refl W.heap.size W).alloc (Nat.le_refl _) (.cells #[.string t.a, .string t.b, .string t.c, .string t.d, .string t.e, .string t.f] 37)) P1.out hgW))
            have HBa := Lib.hid (Below.drew (PB.out.alloc PB.out.size (.cells #[.string t.a, .string t.b, .string t.c, .string t.d, .string t.e, .string t.f] 37)))
            go_region_law (first
              | (refine step_append_lies _ rfl _ _ 22 rfl B 37 i0 (.agg #[.string ⟨#[]⟩, .string ⟨#[]⟩, .string ⟨#[]⟩, .string ⟨#[]⟩, .string ⟨#[]⟩, .string ⟨#[]⟩]) 6 96 Tryd.underlying22 hi hz0 hz1 hz2 rfl (by decide) _ _ _ rfl HXa.out _ 1 1 [.string t.a, .string t.b, .string t.c, .string t.d, .string t.e, .string t.f] rfl rfl (six_cells_new _ _ _ _ _ _ _) (by intro u hu; simp at hu; rcases hu with rfl | rfl | rfl | rfl | rfl | rfl <;> rfl) (by decide) (by unfold maxLen; omega) (by omega) (by simp; omega) _ rfl ?_
                 intro g6 cap6 w6 o6 gr6 _ hl6
                 have HO6 := Lib.hid o6
                 have hk6 := grown_other HXa.out gr6 HGa.out (by decide)
                 have HK6 := Lib.hid hk6
                 have hc6 := Lib.cell_of_heap hk6 2
                 have hf6 := Lib.frozen_of_heap hk6 2
                 simp at hc6
                 have hg6 : g < w6.heap.size := (Array.getElem?_eq_some_iff.1 hk6).1
                 have HB6 := Lib.hid (HBa.out.mono hB |>.trans (below_grown HXa.out gr6 (by simp; omega)))
                 clear o6 gr6 hk6))
            all_goals
              clear HXa HGa HBa P1 P2 P3 PB hcW u0 u1 u2 u3 u4 u5 hc6 hf6
              have hx7 : (w6.setCell ⟨g, 2, none⟩ (.slice (some ⟨g6, 0, none⟩) (len + 1) cap6)).heap[g]? = some (.cells #[.string rest, .int .i64 (k : Int), .slice (some ⟨g6, 0, none⟩) (len + 1) cap6] 60 (0, 0)) := by
                rw [heap_setCell_same _ _ 2 _ _ _ HK6.out]
                rfl
              have hr7 : RdAt B (w6.setCell ⟨g, 2, none⟩ (.slice (some ⟨g6, 0, none⟩) (len + 1) cap6)) g rest k (ts ++ [t]) := by
                refine ⟨some ⟨g6, 0, none⟩, cap6, ?_, ?_, h3⟩
                · rw [List.length_append, List.length_singleton, HM.out]
                  exact hx7
                · rw [List.length_append, List.length_singleton, HM.out, tcells_snoc]
                  exact own_set_farD HO6.out HK6.out (by decide) 2 _
              have HR7 := Lib.hid hr7
              have HB7 := Lib.hid (HB6.out.setCell (p := ⟨g, 2, none⟩) h3 (.slice (some ⟨g6, 0, none⟩) (len + 1) cap6))
              clear hx7 hr7 HO6 HK6 HB6
              generalize w6.setCell ⟨g, 2, none⟩ (.slice (some ⟨g6, 0, none⟩) (len + 1) cap6) = w7 at *
              go_wp2
              go_ret2
              exact ⟨HB7.out, rfl, HR7.out⟩
end Go.Proofs.YtlibncefiibgaaaDoor
