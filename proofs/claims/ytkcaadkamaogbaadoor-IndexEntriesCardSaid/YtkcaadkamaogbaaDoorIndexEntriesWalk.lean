import Derived.Test.YtkcaadkamaogbaaDoorIndexRefEntries
import Derived.BigQuiet
import Derived.Deep.QuietTactic
namespace Go.Proofs.YtkcaadkamaogbaaDoor
open Go Go.RowKit

def EntYes (w : World) (es : List (ByteArray × Bool)) (n : Nat) (e : Ending) (w' : World) : Prop :=
  ∃ a cap, e = .returned (.tuple #[.slice a n cap, .int .i64 0]) ∧ Reads w' 3 (.slice a n cap) n (ecells es) ∧ Below w.heap.size w w'

theorem ent_yes {w : World} {l : List (Bool × Six)} {e : Ending} {w' : World} (h : EntPost w l e w') (ha : l.all (fun x => x.2.ok) = true) : EntYes w (entsOf l) (2 * l.length) e w' := by
  rcases h with ⟨h1, _⟩ | ⟨_, v, he, hr, hb⟩
  · rw [ha] at h1
    cases h1
  · obtain ⟨a, cap, rfl, _, _⟩ := hr.le
    exact ⟨a, cap, he, hr, hb⟩

theorem ent_no {w : World} {l : List (Bool × Six)} {e : Ending} {w' : World} (h : EntPost w l e w') (ha : l.all (fun x => x.2.ok) = false) : GivesVal w (.tuple #[.slice none 0 0, .int .i64 2]) e w' := by
  rcases h with ⟨_, he, hb⟩ | ⟨h1, _⟩
  · exact ⟨he, hb⟩
  · rw [ha] at h1
    cases h1

def WFewRel (w : World) (l : List (Bool × Six)) (n : Nat) (i : Value) (wr : World) : Prop :=
  ∃ k : Nat, i = .int .i64 (k : Int) ∧ k ≤ n ∧ (∀ x ∈ l.take k, Six.tight x.2 = true) ∧ Below w.heap.size w wr

def CmpRel (w : World) (m cap2 cap3 : Nat) (a2 a3 : Option Addr) (es : List (ByteArray × Bool)) (i : Value) (wr : World) : Prop :=
  ∃ k : Nat, i = .int .i64 (k : Int) ∧ k ≤ m ∧ Reads wr 3 (.slice a2 m cap2) m (ecells es) ∧ Reads wr 3 (.slice a3 m cap3) m (ecells es) ∧ Below w.heap.size w wr

set_option maxRecDepth 100000 in
set_option maxHeartbeats 2000000 in
theorem indexEntries_walk (w : World) (a : Option Addr) (n cap : Nat) (l : List (Bool × Six)) (h : Reads w 7 (.slice a n cap) n (wcells l)) (hl : l.length = n) (hcap : n ≤ cap ∧ cap ≤ maxLen) (hm : MaxInt w) :
    Calls Tryd.prog 6 #[.slice a n cap] w (SaysTrue w) := by
  have HL := Lib.hid hl
  have HR := Lib.hid h
  have HM := Lib.hid hm
  have HC := Lib.hid hcap
  unfold maxLen at hcap
  clear h hl hm
  go_enter Tryd.func6, Tryd.ntmps6
  go_wp2_with (go_at_call 7; go_must (refine (ifixed_any _ HM.out).mono ?_))
  rintro e w1 ⟨rfl, b1⟩
  have HB1 := Lib.hid b1
  clear b1 HM
  by_cases h60 : n ≤ 60
  · have h60I : ¬ (60 : Int) < n := by omega
    go_wp2
    go_loopw [17] (fun i wr => WFewRel w l n i wr) (fun i _ => n - (intOf i).toNat)
    case atStart => exact ⟨0, rfl, Nat.zero_le _, fun x hx => by simp at hx, HB1.out⟩
    case round =>
      obtain ⟨k, rfl, hk, hall, hb⟩ := hrel
      have hbs := hb.size
      have HB := Lib.hid hb
      have HA := Lib.hid hall
      clear hb hall
      by_cases hlt : k < n
      · obtain ⟨x, hx⟩ : ∃ x, l[k]? = some x := ⟨l[k]'(by rw [HL.out]; exact hlt), List.getElem?_eq_getElem _⟩
        have hcell : ∀ j u, (wcell x)[j]? = some u → ∃ b off, a = some ⟨b, off, none⟩ ∧ wr.cell? ⟨b, off + (k * 7 + j), none⟩ = some u := by
          intro j u hj
          have hj7 : j < 7 := (List.getElem?_eq_some_iff.1 hj).1
          obtain ⟨b, off, ha, hlb, hc⟩ := HR.out.at (j := k * 7 + j) (u := u) (by
            unfold wcells
            rw [flat_cell wcell 7 wcell_length l k x hx j hj7]
            exact hj)
          exact ⟨b, off, ha, (HB.out.cell (p := ⟨b, off + (k * 7 + j), none⟩) hlb).trans hc⟩
        obtain ⟨g, off, rfl, c0⟩ := hcell 0 _ rfl
        have hcell' : ∀ j u, (wcell x)[j]? = some u → wr.cell? ⟨g, off + k * 7 + j, none⟩ = some u := by
          intro j u hj
          obtain ⟨b', off', hb', hc⟩ := hcell j u hj
          cases hb'
          rw [← Nat.add_assoc] at hc
          exact hc
        have htk : ∀ h : x.2.tight = true, ∀ y ∈ l.take (k + 1), Six.tight y.2 = true := by
          intro h y hy
          rw [List.take_add_one, hx] at hy
          simp at hy
          rcases hy with hy | rfl
          · exact HA.out y hy
          · exact h
        obtain ⟨d, t⟩ := x
        have c0 := hcell' 0 (.bool d) rfl
        have c1 := hcell' 1 (.string t.a) rfl
        have c2 := hcell' 2 (.string t.b) rfl
        have c3 := hcell' 3 (.string t.c) rfl
        have c4 := hcell' 4 (.string t.d) rfl
        have c5 := hcell' 5 (.string t.e) rfl
        have c6 := hcell' 6 (.string t.f) rfl
        rw [Nat.add_zero] at c0
        have HTk := Lib.hid htk
        have hkI : (k : Int) < n := by omega
        have hb0 : Below w.heap.size w (wr.alloc (.cells #[.bool d, .string t.a, .string t.b, .string t.c, .string t.d, .string t.e, .string t.f] 47)) := HB.out.alloc hbs _
        have hnew := LiesAt.new (wr.alloc (.cells #[.bool d, .string t.a, .string t.b, .string t.c, .string t.d, .string t.e, .string t.f] 47)) t
        have hfew := few_any ((wr.alloc (.cells #[.bool d, .string t.a, .string t.b, .string t.c, .string t.d, .string t.e, .string t.f] 47)).alloc (.cells (scells t.list).toArray 27)) (wr.heap.size + 1) 1 1 [t] rfl (by decide) (by decide) (by simp) (by
          have := tups_one hnew
          simpa using this)
        have HB0 := Lib.hid (hb0.alloc (by simp; omega) (.cells (scells t.list).toArray 27))
        have HFew := Lib.hid hfew
        clear hcell hcell' htk hx hnew hfew hb0 HB HA HB1
        go_wp2_with (go_at_call 8; go_must (refine HFew.out.mono ?_))
        rintro e w2 ⟨rfl, b2⟩
        replace HB0 := Lib.hid (HB0.out.trans (b2.mono HB0.out.size))
        clear b2
        clear c0 c1 c2 c3 c4 c5 c6 HFew
        cases hfw : [t].all Six.tight with
        | false =>
          have ht : t.tight = false := by simpa using hfw
          clear hfw
          go_wp2
          go_ret
          exact ⟨rfl, HB0.out⟩
        | true =>
          have ht : t.tight = true := by simpa using hfw
          clear hfw
          go_wp2
          exact ⟨⟨k + 1, by go_num, by omega, HTk.out ht, HB0.out⟩, by simp [intOf]; omega⟩
      · obtain rfl : k = n := by omega
        have hkI : ¬ ((k : Int) < k) := by omega
        have htk : l.take k = l := by rw [← HL.out]; exact List.take_length
        have hA := HA.out
        rw [htk] at hA
        have hsh : ∀ x ∈ l, x.2.short 200 := fun x hx => tight_short (hA x hx)
        have hsh6 : ∀ x ∈ l, x.2.short 1000000 := fun x hx => by
          obtain ⟨h1, h2, h3, h4, h5, h6⟩ := hsh x hx
          exact ⟨by omega, by omega, by omega, by omega, by omega, by omega⟩
        have hsh9 : ∀ x ∈ l, x.2.short 1000000000 := fun x hx => up9_of (hsh6 x hx)
        have HRw := Lib.hid (HR.out.below' HB.out)
        have he1 := fun w (h : Reads w 7 (.slice a k cap) k (wcells l)) => entries_any w a k cap l h HL.out (by omega) HC.out hsh9
        have he2 := fun w (h : Reads w 7 (.slice a k cap) k (wcells l)) => refentries_any w a k cap l h HL.out (by omega) HC.out hsh6
        have HE1 := Lib.hid he1
        have HE2 := Lib.hid he2
        clear htk hA hsh hsh6 hsh9 he1 he2 HA HB1
        cases hall : l.all (fun x => x.2.ok) with
        | false =>
          have HAll := Lib.hid hall
          clear hall
          go_wp2_with (go_at_call 17; go_must (refine (HE1.out _ HRw.out).mono ?_))
          intro e w2 hp2
          obtain ⟨rfl, b2⟩ := ent_no hp2 HAll.out
          clear hp2
          replace HB := Lib.hid (HB.out.trans (b2.mono HB.out.size))
          replace HRw := Lib.hid (HRw.out.below' b2)
          clear b2
          go_wp2_with (go_at_call 18; go_must (refine (HE2.out _ HRw.out).mono ?_))
          intro e w3 hp3
          obtain ⟨rfl, b3⟩ := ent_no hp3 HAll.out
          clear hp3
          replace HB := Lib.hid (HB.out.trans (b3.mono HB.out.size))
          clear b3
          go_wp2
          refine wp_loop_rounds 1 ?_
          rw [rounds_succ]
          go_wp2
          go_ret
          exact ⟨rfl, HB.out⟩
        | true =>
          have HAll := Lib.hid hall
          clear hall
          have hm2 : 2 * l.length ≤ 120 := by rw [HL.out]; omega
          go_wp2_with (go_at_call 17; go_must (refine (HE1.out _ HRw.out).mono ?_))
          intro e w2 hp2
          obtain ⟨a2, cap2, rfl, r2, b2⟩ := ent_yes hp2 HAll.out
          have HQ2 := Lib.hid r2
          clear hp2 r2
          replace HB := Lib.hid (HB.out.trans (b2.mono HB.out.size))
          replace HRw := Lib.hid (HRw.out.below' b2)
          clear b2
          go_wp2_with (go_at_call 18; go_must (refine (HE2.out _ HRw.out).mono ?_))
          intro e w3 hp3
          obtain ⟨a3, cap3, rfl, r3, b3⟩ := ent_yes hp3 HAll.out
          have HQ3 := Lib.hid r3
          clear hp3 r3
          replace HB := Lib.hid (HB.out.trans (b3.mono HB.out.size))
          replace HQ2 := Lib.hid (HQ2.out.below' b3)
          clear b3
          have hel := ents_length l
          generalize hes : entsOf l = es at *
          generalize hm : 2 * l.length = m at *
          have hc2 := HQ2.out.le
          have hc3 := HQ3.out.le
          obtain ⟨_, _, hv2, hc21, hc22⟩ := hc2
          cases hv2
          obtain ⟨_, _, hv3, hc31, hc32⟩ := hc3
          cases hv3
          unfold maxLen at hc22 hc32
          clear HE1 HE2 HAll HRw HR hes hm
          have HEl := Lib.hid hel
          clear hel
          go_wp2
          go_loopw [49] (fun i wr => CmpRel w m cap2 cap3 a2 a3 es i wr) (fun i _ => m - (intOf i).toNat)
          case atStart => exact ⟨0, rfl, Nat.zero_le _, HQ2.out, HQ3.out, HB.out⟩
          case round =>
            obtain ⟨j, rfl, hj, hr2, hr3, hbj⟩ := hrel
            have HQ2 := Lib.hid hr2
            have HQ3 := Lib.hid hr3
            have HB := Lib.hid hbj
            clear hr2 hr3 hbj
            by_cases hjl : j < m
            · obtain ⟨x, hx⟩ : ∃ x, es[j]? = some x := ⟨es[j]'(by rw [HEl.out]; exact hjl), List.getElem?_eq_getElem _⟩
              have hcl2 : ∀ i u, (ecell x)[i]? = some u → ∃ b off, a2 = some ⟨b, off, none⟩ ∧ wr.cell? ⟨b, off + j * 3 + i, none⟩ = some u := by
                intro i u hi
                have hi3 : i < 3 := (List.getElem?_eq_some_iff.1 hi).1
                obtain ⟨b, off, ha, hlb, hc⟩ := HQ2.out.at (j := j * 3 + i) (u := u) (by
                  unfold ecells
                  rw [flat_cell ecell 3 ecell_length es j x hx i hi3]
                  exact hi)
                exact ⟨b, off, ha, by rw [Nat.add_assoc]; exact hc⟩
              have hcl3 : ∀ i u, (ecell x)[i]? = some u → ∃ b off, a3 = some ⟨b, off, none⟩ ∧ wr.cell? ⟨b, off + j * 3 + i, none⟩ = some u := by
                intro i u hi
                have hi3 : i < 3 := (List.getElem?_eq_some_iff.1 hi).1
                obtain ⟨b, off, ha, hlb, hc⟩ := HQ3.out.at (j := j * 3 + i) (u := u) (by
                  unfold ecells
                  rw [flat_cell ecell 3 ecell_length es j x hx i hi3]
                  exact hi)
                exact ⟨b, off, ha, by rw [Nat.add_assoc]; exact hc⟩
              obtain ⟨b2, o2, rfl, p0⟩ := hcl2 0 _ rfl
              obtain ⟨b2', o2', e2, p1⟩ := hcl2 1 _ rfl
              cases e2
              obtain ⟨b2', o2', e2, p2⟩ := hcl2 2 _ rfl
              cases e2
              obtain ⟨b3, o3, rfl, q0⟩ := hcl3 0 _ rfl
              obtain ⟨b3', o3', e3, q1⟩ := hcl3 1 _ rfl
              cases e3
              obtain ⟨b3', o3', e3, q2⟩ := hcl3 2 _ rfl
              cases e3
              rw [Nat.add_zero] at p0 q0
              have hjI : (j : Int) < m := by omega
              clear hcl2 hcl3 hx
              go_wp2
              go_quiet (fail)
              have hqn := below_drewN wr nq
              replace HB := Lib.hid (HB.out.trans (hqn.mono HB.out.size))
              replace HQ2 := Lib.hid (HQ2.out.below' hqn)
              replace HQ3 := Lib.hid (HQ3.out.below' hqn)
              clear hqn
              clear p0 p1 p2 q0 q1 q2
              generalize wr.drewN nq = w5 at *
              go_wp2
              exact ⟨⟨j + 1, by go_num, by omega, HQ2.out, HQ3.out, HB.out⟩, by simp [intOf]; omega⟩
            · obtain rfl : j = m := by omega
              have hjI : ¬ ((j : Int) < j) := by omega
              go_wp2
              go_ret
              exact ⟨rfl, HB.out⟩
  · have h60I : (60 : Int) < n := by omega
    go_wp2
    go_ret
    exact ⟨rfl, HB1.out⟩
end Go.Proofs.YtkcaadkamaogbaaDoor
