/- edit.Check of any version. -/
import Derived.Test.YthjimldojdhccaaZEditV
import Derived.Test.YthjimldojdhccaaMga
import Derived.Maps.OwnOps
import Derived.Maps.OwnSet
import Derived.Shelf.SlSortCmp.QuietGrown
namespace Go.Proofs.Ythjimldojdhccaa
open Go Go.RowKit Go.Lib Go.Sort Go.Maps

theorem seenU : Try.prog.underlying 74 = some (.map 3 75) := by kernel_rfl
theorem intKeyed : Keyed Try.prog 3 := int_keyed Try.underlying3

theorem good_step {next : Int} {l : List Tb} {k : Nat} {t : Tb} (h : l[k]? = some t) : goodTabs next (l.take k) (l.drop k) = (okTab next (l.take k) t && goodTabs next (l.take (k + 1)) (l.drop (k + 1))) := by
  have hk := (List.getElem?_eq_some_iff.1 h).1
  have hg := (List.getElem?_eq_some_iff.1 h).2
  rw [List.drop_eq_getElem_cons hk, goodTabs, List.take_add_one, h, hg]
  rfl

theorem last_take {α : Type} {l : List α} {k : Nat} (hk : k < l.length) : (l.take (k + 1)).getLast? = l[k]? := by
  rw [List.take_add_one, List.getElem?_eq_getElem hk, Option.toList_some, List.getLast?_concat]

def SeenIs (D : DataW Unit) (l : List Tb) : Prop := size D = l.length ∧ ∀ x : Int, has D (.int .i64 x) = l.any fun u => u.num == x

def ChkRel (w W0 : World) (M : Nat) (next : Int) (l : List Tb) (iv : Value) (wr : World) : Prop :=
  ∃ (k : Nat) (D : DataW Unit), iv = .int .i64 (k : Int) ∧ k ≤ l.length ∧ wr.ownsMap Try.prog 3 unitElem M k D ∧ SeenIs D (l.take k) ∧ goodTabs next [] l = goodTabs next (l.take k) (l.drop k) ∧ Below M W0 wr ∧ Below w.heap.size w wr

theorem grown_by (w : World) (n : Nat) (os : Array Obj) : w.grownBy (grow (w.drewN n) os) none := by
  refine ⟨rfl, rfl, rfl, by simp [grow, World.drewN], fun k hk _ => ?_⟩
  show ((w.drewN n).heap ++ os)[k]? = _
  rw [Array.getElem?_append_left (by exact hk)]
  rfl

/-- What is told of the head. -/
theorem chk_head {v : Ver} (h : headOk v = false) : chk v = 9 := by
  unfold chk
  rw [h]
  rfl
theorem chk_good {v : Ver} (h : headOk v = true) : chk v = if goodTabs v.next [] v.tabs then 0 else 9 := by
  unfold chk
  rw [h]
  rfl

theorem seen_put {D : DataW Unit} {l : List Tb} {k : Nat} {t : Tb} (hk : l[k]? = some t) (hm : Tidy D) (hs : SeenIs D (l.take k)) :
    size (D.put (.int .i64 t.num) (.agg [])) = (if (l.take k).any (fun u => u.num == t.num) then k else k + 1) ∧ ((l.take k).any (fun u => u.num == t.num) = false → SeenIs (D.put (.int .i64 t.num) (.agg [])) (l.take (k + 1))) := by
  obtain ⟨h1, h2⟩ := hs
  have hkl := (List.getElem?_eq_some_iff.1 hk).1
  have hl : (l.take k).length = k := by rw [List.length_take]; omega
  have hs := Go.Maps.size_put hm (k := .int .i64 t.num) (.agg [])
  rw [h1, hl, h2 t.num] at hs
  refine ⟨hs, fun ha => ⟨?_, fun x => ?_⟩⟩
  · rw [hs, ha, List.length_take]
    simp
    omega
  · rw [List.take_add_one, hk, List.any_append]
    by_cases hx : x = t.num
    · subst hx
      rw [has_put_same hm.isMap (by trivial)]
      simp
    · rw [has_put_other (fun e => hx (by cases e; rfl)), h2 x]
      simp [Ne.symm hx]

set_option maxRecDepth 100000 in
set_option maxHeartbeats 1000000 in
theorem chk_any (w : World) (v : Ver) (a1 : Option Addr) (n1 c1 : Nat) (h1 : TRows w (.slice a1 n1 c1) v.tabs) (hn : v.tabs.length ≤ 1000000) (hi : ∀ t ∈ v.tabs, (Lit.int .i64 t.num).wf = true) :
    Calls Try.prog 18 #[vv v a1 n1 c1] w (GivesInt w (chk v)) := by
  have hh : headOk v = (decide (v.floor ≤ v.head) && decide (1 ≤ v.next) && decide (v.next < 4611686018427387904) && decide (0 ≤ v.log) && decide (v.log ≤ v.next)) := rfl
  have hc0 := chk_head (v := v)
  have hc1 := chk_good (v := v)
  obtain ⟨tabs, fl, hd, log, next⟩ := v
  simp only [vv] at *
  have hl1 : n1 ≤ c1 ∧ c1 ≤ maxLen ∧ tabs.length = n1 := by
    obtain ⟨_, _, _, e, q1, q2, _⟩ := h1
    cases e
    exact ⟨q1, q2, rfl⟩
  obtain ⟨hcc1, hcc2, hcc3⟩ := hl1
  unfold maxLen at hcc2
  have HL := Lib.hid hcc3
  have HH := Lib.hid hh
  have H1 := Lib.hid h1
  have HC0 := Lib.hid hc0
  have HC1 := Lib.hid hc1
  have HI := Lib.hid hi
  have HN := Lib.hid hn
  clear hh h1 hc0 hc1 hi hcc3 hn
  have hmm := @run_makeMap Try.prog
  go_enter Try.func18, Try.ntmps18
  by_cases q1 : fl ≤ hd
  · by_cases q2 : 1 ≤ next
    · by_cases q3 : next < 4611686018427387904
      · by_cases q4 : 0 ≤ log
        · by_cases q5 : log ≤ next
          · have hg := HC1.out (HH.out.trans (by simp [q1, q2, q3, q4, q5]))
            have HG := Lib.hid hg
            clear hg HH HC0 HC1
            go_wp2
            have hwl : (w.alloc (.cells #[.slice a1 n1 c1, .int .u64 (fl : Int), .int .u64 (hd : Int), .int .i64 log, .int .i64 next] 38)).heap.size = w.heap.size + 1 := by simp
            have hown0 := World.ownsMap_made (H := Unit) (w.alloc (.cells #[.slice a1 n1 c1, .int .u64 (fl : Int), .int .u64 (hd : Int), .int .i64 log, .int .i64 next] 38)) Try.prog 3 unitElem
            rw [hwl] at hown0
            have hv0 : ((w.alloc (.cells #[.slice a1 n1 c1, .int .u64 (fl : Int), .int .u64 (hd : Int), .int .i64 log, .int .i64 next] 38)).alloc (.map #[] 0)).heap[w.heap.size]? = some (.cells #[.slice a1 n1 c1, .int .u64 (fl : Int), .int .u64 (hd : Int), .int .i64 log, .int .i64 next] 38 (0, 0)) := (Below.heap_alloc _ _ _ (by simp)).trans (heap_alloc_new w _)
            have hs0 : ((w.alloc (.cells #[.slice a1 n1 c1, .int .u64 (fl : Int), .int .u64 (hd : Int), .int .i64 log, .int .i64 next] 38)).alloc (.map #[] 0)).heap.size = w.heap.size + 1 + 1 := by simp
            have hb0 : Below w.heap.size w ((w.alloc (.cells #[.slice a1 n1 c1, .int .u64 (fl : Int), .int .u64 (hd : Int), .int .i64 log, .int .i64 next] 38)).alloc (.map #[] 0)) := ((Below.refl _ w).alloc (Nat.le_refl _) _).alloc (by simp) _
            generalize (w.alloc (.cells #[.slice a1 n1 c1, .int .u64 (fl : Int), .int .u64 (hd : Int), .int .i64 log, .int .i64 next] 38)).alloc (.map #[] 0) = W1 at *
            have HV0 := Lib.hid hv0
            have HS0 := Lib.hid hs0
            have HB0 := Lib.hid hb0
            have HO0 := Lib.hid hown0
            clear hv0 hs0 hb0 hown0 hwl
            go_loopw [37] (fun iv wr => ChkRel w W1 (w.heap.size + 1) next tabs iv wr) (fun iv _ => n1 - (intOf iv).toNat)
            case atStart => exact ⟨0, _, rfl, Nat.zero_le _, HO0.out, ⟨rfl, fun _ => rfl⟩, rfl, Below.refl _ _, HB0.out⟩
            case round =>
              obtain ⟨k, D, rfl, hk, hown, hse, hgd, hb1, hb⟩ := hrel
              rw [HL.out] at hk
              have HSe := Lib.hid hse
              have HGd := Lib.hid hgd
              have HB1 := Lib.hid hb1
              have HB := Lib.hid hb
              have hbs := hb.size
              have hbs1 := hb1.size
              rw [HS0.out] at hbs1
              clear hse hgd
              by_cases hlt : k < n1
              · have hkI : (k : Int) < n1 := by omega
                obtain ⟨x, hx⟩ : ∃ x, tabs[k]? = some x := ⟨tabs[k]'(by rw [HL.out]; exact hlt), List.getElem?_eq_getElem _⟩
                obtain ⟨g, off, rfl, hg, k0, k1, k2, k3, k4⟩ := (TRows.below H1.out hb).row hx
                have hkey := keyOf_int_mk Try.underlying3 (HI.out x (List.mem_of_getElem? hx))
                have HX := Lib.hid hx
                have HT := Lib.hid (hown.tidy intKeyed)
                obtain ⟨xn, xl, xz, xf, xt⟩ := x
                simp only at k0 k1 k2 k3 k4 hkey
                clear hx hb hb1
                have hnN := HN.out
                rw [HL.out] at hnN
                go_wp2_with (at_mapUpdate; refine wpList_mapUpdate_own _ rfl _ _ _ 74 rfl 3 75 intKeyed seenU unitElem (w.heap.size + 1) k D rfl (hown.alloc _) (by unfold maxLen; omega) _ _ (.int .i64 xn) rfl rfl hkey (.agg []) [] unitElem_mk ?_; intro w1 hown1 hgrow1)
                have hMr := (hown.lt : w.heap.size + 1 < wr.heap.size)
                obtain ⟨hsz, hse1⟩ := seen_put HX.out HT.out HSe.out
                have hb5 : w1.heap[wr.heap.size]? = some (.cells #[.int .i64 xn, .int .i64 xl, .int .i64 xz, .string xf, .string xt] 45 (0, 0)) := (hgrow1.block _ (by simp) (by simp; omega)).trans (heap_alloc_new wr _)
                have hbv : w1.heap[w.heap.size]? = some (.cells #[.slice (some ⟨g, off, none⟩) n1 c1, .int .u64 (fl : Int), .int .u64 (hd : Int), .int .i64 log, .int .i64 next] 38 (0, 0)) := (hgrow1.block _ (by simp; omega) (by simp)).trans ((Below.heap_alloc _ _ _ (by omega)).trans ((HB1.out.block _ (by omega)).trans HV0.out))
                have hbw : Below w.heap.size w w1 := HB.out.trans (((Below.refl _ wr).alloc (Nat.le_refl _) _).mono hbs |>.trans ((Touch.of_grown hgrow1).below (by simp; omega) (by simp)))
                have hs1 : wr.heap.size < w1.heap.size := by have := hgrow1.size; simp at this; omega
                have HSe1 := Lib.hid hse1
                have HBW := Lib.hid hbw
                have HO1 := Lib.hid hown1
                have HG1 := Lib.hid hgrow1
                have HHs := Lib.hid hsz
                have HM1 := Lib.hid (show RowKit.Below (w.heap.size + 1) _ w1 from (Touch.of_grown hgrow1).below (by simp; omega) (by simp))
                have HM2 := Lib.hid (show w.heap.size + 1 ≤ w1.heap.size by omega)
                clear hsz hse1 hbw hgrow1 hown1 hown hkey
                have z0 : w1.cell? ⟨wr.heap.size, 0, none⟩ = some (.int .i64 xn) := by simpa using Lib.cell_of_heap hb5 0
                have z1 : w1.cell? ⟨wr.heap.size, 1, none⟩ = some (.int .i64 xl) := by simpa using Lib.cell_of_heap hb5 1
                have z2 : w1.cell? ⟨wr.heap.size, 2, none⟩ = some (.int .i64 xz) := by simpa using Lib.cell_of_heap hb5 2
                have z3 : w1.cell? ⟨wr.heap.size, 3, none⟩ = some (.string xf) := by simpa using Lib.cell_of_heap hb5 3
                have z4 : w1.cell? ⟨wr.heap.size, 4, none⟩ = some (.string xt) := by simpa using Lib.cell_of_heap hb5 4
                have y0 : w1.cell? ⟨w.heap.size, 0, none⟩ = some (.slice (some ⟨g, off, none⟩) n1 c1) := by simpa using Lib.cell_of_heap hbv 0
                have y4 : w1.cell? ⟨w.heap.size, 4, none⟩ = some (.int .i64 next) := by simpa using Lib.cell_of_heap hbv 4
                have hsv : w.heap.size < w1.heap.size := by omega
                have hmay := fun W => mayBe_any W ⟨xn, xl, xz, xf, xt⟩ next
                simp only [tv] at hmay
                have hok : okTab next (tabs.take k) ⟨xn, xl, xz, xf, xt⟩ = (!((tabs.take k).any fun u => u.num == xn) && mayT ⟨xn, xl, xz, xf, xt⟩ next && (match (tabs.take k).getLast? with | none => true | some u => folT u ⟨xn, xl, xz, xf, xt⟩)) := rfl
                have HOk := Lib.hid hok
                clear hok hb5 hbv
                generalize mayT ⟨xn, xl, xz, xf, xt⟩ next = may at *
                have HMay := Lib.hid hmay
                clear hmay
                generalize hdup : ((tabs.take k).any fun u => u.num == xn) = dup at *
                have HD := Lib.hid hdup
                clear hdup
                cases dup with
                | true =>
                  simp only [if_true] at HHs
                  refine wp_region_some2 (by kernel_rfl) [5, 6, 7, 8, 9, 12, 13, 14, 15, 16, 17, 18, 19, 20, 21, 22, 23, 24] [eqF (.map (some (w.heap.size + 1))), eqF (.int .i64 (k : Int)), eqF (.int .i64 (k : Int)), eqF (.bool true), eqF (.bool true), eqF (undef), eqF (undef), eqF (undef), eqF (undef), eqF (undef), eqF (.bool true), eqF (.bool true), eqF (undef), eqF (undef), eqF (undef), eqF (undef), eqF (undef), eqF (undef), eqF (undef), eqF (undef), eqF (undef), eqF (undef), eqF (undef), eqF (undef), eqF (undef), eqF (.bool true)] (by kernel_rfl) ⟨on_goal (by decide) ?_, on_goal (by decide) ?_, on_goal (by decide) ?_, on_goal (by decide) ?_, on_goal (by decide) ?_, off_goal (by decide) fun _ => rfl, off_goal (by decide) fun _ => rfl, off_goal (by decide) fun _ => rfl, off_goal (by decide) fun _ => rfl, off_goal (by decide) fun _ => rfl, on_goal (by decide) ?_, on_goal (by decide) ?_, off_goal (by decide) fun _ => rfl, off_goal (by decide) fun _ => rfl, off_goal (by decide) fun _ => rfl, off_goal (by decide) fun _ => rfl, off_goal (by decide) fun _ => rfl, off_goal (by decide) fun _ => rfl, off_goal (by decide) fun _ => rfl, off_goal (by decide) fun _ => rfl, off_goal (by decide) fun _ => rfl, off_goal (by decide) fun _ => rfl, off_goal (by decide) fun _ => rfl, off_goal (by decide) fun _ => rfl, off_goal (by decide) fun _ => rfl, on_goal (by decide) ?_, trivial⟩ ⟨rfl, rfl, rfl, rfl, rfl, fun _ _ h => g_off (.inl h) rfl, fun _ _ h => g_off (.inl h) rfl, fun _ _ h => g_off (.inl h) rfl, fun _ _ h => g_off (.inl h) rfl, fun _ _ h => g_off (.inl h) rfl, rfl, rfl, fun _ _ h => g_off (.inl h) rfl, fun _ _ h => g_off (.inl h) rfl, fun _ _ h => g_off (.inl h) rfl, fun _ _ h => g_off (.inr h) rfl, fun _ _ h => g_off (.inr h) rfl, fun _ _ h => g_off (.inr h) rfl, fun _ _ h => g_off (.inr h) rfl, fun _ _ h => g_off (.inr h) rfl, fun _ _ h => g_off (.inr h) rfl, fun _ _ h => g_off (.inr h) rfl, fun _ _ h => g_off (.inr h) rfl, fun _ _ h => g_off (.inr h) rfl, fun _ _ h => g_off (.inl h) rfl, rfl, trivial⟩ ?_
                  · intro ρ wx hρ hbx hl
                    have e3 : ρ (.tmp 3) = .map (some (w.heap.size + 1)) := hρ.tmp 3 (by decide +kernel)
                    refine y_val (v := .map (some (w.heap.size + 1))) ?_ rfl
                    simp [execOp, go_sem, e3]
                  · intro ρ wx hρ hbx hl
                    have e46 : ρ (.tmp 46) = .map (some (w.heap.size + 1)) := hl 0 (by decide +kernel) 46 rfl
                    have kk := ((Touch.of_below hbx []).keepMap HO1.out (by simp)).len seenU 3
                    rw [HHs.out] at kk
                    refine y_val (v := .int .i64 (k : Int)) ?_ rfl
                    simp [go_sem, e46, kk]
                  · intro ρ wx hρ hbx hl
                    have e4 : ρ (.tmp 4) = .int .i64 (k : Int) := hρ.tmp 4 (by decide +kernel)
                    refine y_val (v := .int .i64 (k : Int)) ?_ rfl
                    simp [execOp, go_sem, e4]
                  · intro ρ wx hρ hbx hl
                    have e47 : ρ (.tmp 47) = .int .i64 (k : Int) := hl 1 (by decide +kernel) 47 rfl
                    have e48 : ρ (.tmp 48) = .int .i64 (k : Int) := hl 2 (by decide +kernel) 48 rfl
                    refine y_val (v := .bool true) ?_ rfl
                    simp [execOp, go_sem, e47, e48]
                  · intro ρ wx hρ hbx hl
                    have e49 : ρ (.tmp 49) = .bool true := hl 3 (by decide +kernel) 49 rfl
                    refine y_val (v := .bool true) ?_ rfl
                    simp [execOp, go_sem, e49]
                  · intro ρ wx hρ hbx hl
                    have e50 : ρ (.tmp 50) = .bool true := hl 4 (by decide +kernel) 50 rfl
                    have e55 : ρ (.tmp 55) = undef := hl 9 (by decide +kernel) 55 rfl
                    refine y_val (v := .bool true) ?_ rfl
                    simp [execOp, hρ.const, go_sem, e50]
                  · intro ρ wx hρ hbx hl
                    have e56 : ρ (.tmp 56) = .bool true := hl 10 (by decide +kernel) 56 rfl
                    refine y_val (v := .bool true) ?_ rfl
                    simp [execOp, go_sem, e56]
                  · intro ρ wx hρ hbx hl
                    have e57 : ρ (.tmp 57) = .bool true := hl 11 (by decide +kernel) 57 rfl
                    have e70 : ρ (.tmp 70) = undef := hl 24 (by decide +kernel) 70 rfl
                    refine y_val (v := .bool true) ?_ rfl
                    simp [execOp, hρ.const, go_sem, e57]
                  intro aa w2 hdef hsz hlk hbz hf
                  have ha := act_of_like hdef hsz hlk [46, 47, 48, 49, 50, 51, 52, 53, 54, 55, 56, 57, 58, 59, 60, 61, 62, 63, 64, 65, 66, 67, 68, 69, 70, 71] 73 rfl (by decide +kernel)
                  have e46 : aa.tmps.getD 46 undef = .map (some (w.heap.size + 1)) := hf 0 _ 46 rfl rfl
                  have e47 : aa.tmps.getD 47 undef = .int .i64 (k : Int) := hf 1 _ 47 rfl rfl
                  have e48 : aa.tmps.getD 48 undef = .int .i64 (k : Int) := hf 2 _ 48 rfl rfl
                  have e49 : aa.tmps.getD 49 undef = .bool true := hf 3 _ 49 rfl rfl
                  have e50 : aa.tmps.getD 50 undef = .bool true := hf 4 _ 50 rfl rfl
                  have e51 : aa.tmps.getD 51 undef = undef := hf 5 _ 51 rfl rfl
                  have e52 : aa.tmps.getD 52 undef = undef := hf 6 _ 52 rfl rfl
                  have e53 : aa.tmps.getD 53 undef = undef := hf 7 _ 53 rfl rfl
                  have e54 : aa.tmps.getD 54 undef = undef := hf 8 _ 54 rfl rfl
                  have e55 : aa.tmps.getD 55 undef = undef := hf 9 _ 55 rfl rfl
                  have e56 : aa.tmps.getD 56 undef = .bool true := hf 10 _ 56 rfl rfl
                  have e57 : aa.tmps.getD 57 undef = .bool true := hf 11 _ 57 rfl rfl
                  have e58 : aa.tmps.getD 58 undef = undef := hf 12 _ 58 rfl rfl
                  have e59 : aa.tmps.getD 59 undef = undef := hf 13 _ 59 rfl rfl
                  have e60 : aa.tmps.getD 60 undef = undef := hf 14 _ 60 rfl rfl
                  have e61 : aa.tmps.getD 61 undef = undef := hf 15 _ 61 rfl rfl
                  have e62 : aa.tmps.getD 62 undef = undef := hf 16 _ 62 rfl rfl
                  have e63 : aa.tmps.getD 63 undef = undef := hf 17 _ 63 rfl rfl
                  have e64 : aa.tmps.getD 64 undef = undef := hf 18 _ 64 rfl rfl
                  have e65 : aa.tmps.getD 65 undef = undef := hf 19 _ 65 rfl rfl
                  have e66 : aa.tmps.getD 66 undef = undef := hf 20 _ 66 rfl rfl
                  have e67 : aa.tmps.getD 67 undef = undef := hf 21 _ 67 rfl rfl
                  have e68 : aa.tmps.getD 68 undef = undef := hf 22 _ 68 rfl rfl
                  have e69 : aa.tmps.getD 69 undef = undef := hf 23 _ 69 rfl rfl
                  have e70 : aa.tmps.getD 70 undef = undef := hf 24 _ 70 rfl rfl
                  have e71 : aa.tmps.getD 71 undef = .bool true := hf 25 _ 71 rfl rfl
                  simp only [putAll, List.foldl_cons, List.foldl_nil, e46, e47, e48, e49, e50, e51, e52, e53, e54, e55, e56, e57, e58, e59, e60, e61, e62, e63, e64, e65, e66, e67, e68, e69, e70, e71] at ha
                  simp [Act.put] at ha
                  subst ha
                  clear hdef hsz hlk hf e46 e47 e48 e49 e50 e51 e52 e53 e54 e55 e56 e57 e58 e59 e60 e61 e62 e63 e64 e65 e66 e67 e68 e69 e70 e71
                  have E1 := Lib.hid (HOk.out.trans (by simp : _ = false))
                  go_wp2
                  go_ret
                  refine ⟨?_, HBW.out.trans (hbz.mono (HBW.out.size))⟩
                  rw [HG.out, HGd.out, good_step HX.out, E1.out]
                  rfl
                | false =>
                  have hse2 := HSe1.out rfl
                  have HSe2 := Lib.hid hse2
                  clear hse2 HSe1
                  simp only [Bool.false_eq_true, if_false] at HHs
                  cases may with
                  | false =>
                    refine wp_region_some2 (by kernel_rfl) [12, 13, 14, 15, 16, 17, 18, 19, 20, 21, 22, 23, 24] [eqF (.map (some (w.heap.size + 1))), eqF (.int .i64 ((k + 1 : Nat) : Int)), eqF (.int .i64 (k : Int)), eqF (.bool false), eqF (.bool false), eqF (.agg #[.int .i64 xn, .int .i64 xl, .int .i64 xz, .string xf, .string xt]), eqF (.pointer (some ⟨w.heap.size, 4, none⟩)), eqF (.int .i64 next), eqF (.bool false), eqF (.bool true), eqF (.bool true), eqF (.bool true), eqF (undef), eqF (undef), eqF (undef), eqF (undef), eqF (undef), eqF (undef), eqF (undef), eqF (undef), eqF (undef), eqF (undef), eqF (undef), eqF (undef), eqF (undef), eqF (.bool true)] (by kernel_rfl) ⟨on_goal (by decide) ?_, on_goal (by decide) ?_, on_goal (by decide) ?_, on_goal (by decide) ?_, on_goal (by decide) ?_, on_goal (by decide) ?_, on_goal (by decide) ?_, on_goal (by decide) ?_, on_goal (by decide) ?_, on_goal (by decide) ?_, on_goal (by decide) ?_, on_goal (by decide) ?_, off_goal (by decide) fun _ => rfl, off_goal (by decide) fun _ => rfl, off_goal (by decide) fun _ => rfl, off_goal (by decide) fun _ => rfl, off_goal (by decide) fun _ => rfl, off_goal (by decide) fun _ => rfl, off_goal (by decide) fun _ => rfl, off_goal (by decide) fun _ => rfl, off_goal (by decide) fun _ => rfl, off_goal (by decide) fun _ => rfl, off_goal (by decide) fun _ => rfl, off_goal (by decide) fun _ => rfl, off_goal (by decide) fun _ => rfl, on_goal (by decide) ?_, trivial⟩ ⟨rfl, rfl, rfl, rfl, rfl, fun _ _ h => g_on h rfl, fun _ _ h => g_on h rfl, fun _ _ h => g_on h rfl, fun _ _ h => g_on h rfl, fun _ _ h => g_on h rfl, rfl, rfl, fun _ _ h => g_off (.inl h) rfl, fun _ _ h => g_off (.inl h) rfl, fun _ _ h => g_off (.inl h) rfl, fun _ _ h => g_off (.inr h) rfl, fun _ _ h => g_off (.inr h) rfl, fun _ _ h => g_off (.inr h) rfl, fun _ _ h => g_off (.inr h) rfl, fun _ _ h => g_off (.inr h) rfl, fun _ _ h => g_off (.inr h) rfl, fun _ _ h => g_off (.inr h) rfl, fun _ _ h => g_off (.inr h) rfl, fun _ _ h => g_off (.inr h) rfl, fun _ _ h => g_off (.inl h) rfl, rfl, trivial⟩ ?_
                    · intro ρ wx hρ hbx hl
                      have e3 : ρ (.tmp 3) = .map (some (w.heap.size + 1)) := hρ.tmp 3 (by decide +kernel)
                      refine y_val (v := .map (some (w.heap.size + 1))) ?_ rfl
                      simp [execOp, go_sem, e3]
                    · intro ρ wx hρ hbx hl
                      have e46 : ρ (.tmp 46) = .map (some (w.heap.size + 1)) := hl 0 (by decide +kernel) 46 rfl
                      have kk := ((Touch.of_below hbx []).keepMap HO1.out (by simp)).len seenU 3
                      rw [HHs.out] at kk
                      refine y_val (v := .int .i64 ((k + 1 : Nat) : Int)) ?_ rfl
                      simp [go_sem, e46, kk]
                    · intro ρ wx hρ hbx hl
                      have e4 : ρ (.tmp 4) = .int .i64 (k : Int) := hρ.tmp 4 (by decide +kernel)
                      refine y_val (v := .int .i64 (k : Int)) ?_ rfl
                      simp [execOp, go_sem, e4]
                    · intro ρ wx hρ hbx hl
                      have e47 : ρ (.tmp 47) = .int .i64 ((k + 1 : Nat) : Int) := hl 1 (by decide +kernel) 47 rfl
                      have e48 : ρ (.tmp 48) = .int .i64 (k : Int) := hl 2 (by decide +kernel) 48 rfl
                      refine y_val (v := .bool false) ?_ rfl
                      simp [execOp, go_sem, e47, e48]
                      omega
                    · intro ρ wx hρ hbx hl
                      have e49 : ρ (.tmp 49) = .bool false := hl 3 (by decide +kernel) 49 rfl
                      refine y_val (v := .bool false) ?_ rfl
                      simp [execOp, go_sem, e49]
                    · intro ρ wx hρ hbx hl
                      have e5 : ρ (.tmp 5) = .pointer (some ⟨wr.heap.size, 0, none⟩) := hρ.tmp 5 (by decide +kernel)
                      have kk0 := (hbx.cell (hs1)).trans z0
                      have kk1 := (hbx.cell (hs1)).trans z1
                      have kk2 := (hbx.cell (hs1)).trans z2
                      have kk3 := (hbx.cell (hs1)).trans z3
                      have kk4 := (hbx.cell (hs1)).trans z4
                      refine y_val (v := .agg #[.int .i64 xn, .int .i64 xl, .int .i64 xz, .string xf, .string xt]) ?_ rfl
                      simp [execOp, go_sem, e5, kk0, kk1, kk2, kk3, kk4]
                    · intro ρ wx hρ hbx hl
                      have e1 : ρ (.tmp 1) = .pointer (some ⟨w.heap.size, 0, none⟩) := hρ.tmp 1 (by decide +kernel)
                      refine y_val (v := .pointer (some ⟨w.heap.size, 4, none⟩)) ?_ rfl
                      simp [execOp, go_sem, e1]
                    · intro ρ wx hρ hbx hl
                      have e52 : ρ (.tmp 52) = .pointer (some ⟨w.heap.size, 4, none⟩) := hl 6 (by decide +kernel) 52 rfl
                      have kk := (hbx.cell (hsv)).trans y4
                      refine y_val (v := .int .i64 next) ?_ rfl
                      simp [execOp, go_sem, e52, kk]
                    · intro ρ wx hρ hbx hl
                      have e51 : ρ (.tmp 51) = .agg #[.int .i64 xn, .int .i64 xl, .int .i64 xz, .string xf, .string xt] := hl 5 (by decide +kernel) 51 rfl
                      have e53 : ρ (.tmp 53) = .int .i64 next := hl 7 (by decide +kernel) 53 rfl
                      refine y_call (f := 37) (args := #[.agg #[.int .i64 xn, .int .i64 xl, .int .i64 xz, .string xf, .string xt], .int .i64 next]) (by simp [execOp, resolve, invoke, hρ.func, go_sem, e51, e53]) ?_
                      refine (HMay.out wx).mono ?_
                      rintro e w6 ⟨rfl, os, rfl⟩
                      exact ⟨_, rfl, rfl, grow_below _ _⟩
                    · intro ρ wx hρ hbx hl
                      have e54 : ρ (.tmp 54) = .bool false := hl 8 (by decide +kernel) 54 rfl
                      refine y_val (v := .bool true) ?_ rfl
                      simp [execOp, go_sem, e54]
                    · intro ρ wx hρ hbx hl
                      have e50 : ρ (.tmp 50) = .bool false := hl 4 (by decide +kernel) 50 rfl
                      have e55 : ρ (.tmp 55) = .bool true := hl 9 (by decide +kernel) 55 rfl
                      refine y_val (v := .bool true) ?_ rfl
                      simp [execOp, go_sem, e50, e55]
                    · intro ρ wx hρ hbx hl
                      have e56 : ρ (.tmp 56) = .bool true := hl 10 (by decide +kernel) 56 rfl
                      refine y_val (v := .bool true) ?_ rfl
                      simp [execOp, go_sem, e56]
                    · intro ρ wx hρ hbx hl
                      have e57 : ρ (.tmp 57) = .bool true := hl 11 (by decide +kernel) 57 rfl
                      have e70 : ρ (.tmp 70) = undef := hl 24 (by decide +kernel) 70 rfl
                      refine y_val (v := .bool true) ?_ rfl
                      simp [execOp, hρ.const, go_sem, e57]
                    intro aa w2 hdef hsz hlk hbz hf
                    have ha := act_of_like hdef hsz hlk [46, 47, 48, 49, 50, 51, 52, 53, 54, 55, 56, 57, 58, 59, 60, 61, 62, 63, 64, 65, 66, 67, 68, 69, 70, 71] 73 rfl (by decide +kernel)
                    have e46 : aa.tmps.getD 46 undef = .map (some (w.heap.size + 1)) := hf 0 _ 46 rfl rfl
                    have e47 : aa.tmps.getD 47 undef = .int .i64 ((k + 1 : Nat) : Int) := hf 1 _ 47 rfl rfl
                    have e48 : aa.tmps.getD 48 undef = .int .i64 (k : Int) := hf 2 _ 48 rfl rfl
                    have e49 : aa.tmps.getD 49 undef = .bool false := hf 3 _ 49 rfl rfl
                    have e50 : aa.tmps.getD 50 undef = .bool false := hf 4 _ 50 rfl rfl
                    have e51 : aa.tmps.getD 51 undef = .agg #[.int .i64 xn, .int .i64 xl, .int .i64 xz, .string xf, .string xt] := hf 5 _ 51 rfl rfl
                    have e52 : aa.tmps.getD 52 undef = .pointer (some ⟨w.heap.size, 4, none⟩) := hf 6 _ 52 rfl rfl
                    have e53 : aa.tmps.getD 53 undef = .int .i64 next := hf 7 _ 53 rfl rfl
                    have e54 : aa.tmps.getD 54 undef = .bool false := hf 8 _ 54 rfl rfl
                    have e55 : aa.tmps.getD 55 undef = .bool true := hf 9 _ 55 rfl rfl
                    have e56 : aa.tmps.getD 56 undef = .bool true := hf 10 _ 56 rfl rfl
                    have e57 : aa.tmps.getD 57 undef = .bool true := hf 11 _ 57 rfl rfl
                    have e58 : aa.tmps.getD 58 undef = undef := hf 12 _ 58 rfl rfl
                    have e59 : aa.tmps.getD 59 undef = undef := hf 13 _ 59 rfl rfl
                    have e60 : aa.tmps.getD 60 undef = undef := hf 14 _ 60 rfl rfl
                    have e61 : aa.tmps.getD 61 undef = undef := hf 15 _ 61 rfl rfl
                    have e62 : aa.tmps.getD 62 undef = undef := hf 16 _ 62 rfl rfl
                    have e63 : aa.tmps.getD 63 undef = undef := hf 17 _ 63 rfl rfl
                    have e64 : aa.tmps.getD 64 undef = undef := hf 18 _ 64 rfl rfl
                    have e65 : aa.tmps.getD 65 undef = undef := hf 19 _ 65 rfl rfl
                    have e66 : aa.tmps.getD 66 undef = undef := hf 20 _ 66 rfl rfl
                    have e67 : aa.tmps.getD 67 undef = undef := hf 21 _ 67 rfl rfl
                    have e68 : aa.tmps.getD 68 undef = undef := hf 22 _ 68 rfl rfl
                    have e69 : aa.tmps.getD 69 undef = undef := hf 23 _ 69 rfl rfl
                    have e70 : aa.tmps.getD 70 undef = undef := hf 24 _ 70 rfl rfl
                    have e71 : aa.tmps.getD 71 undef = .bool true := hf 25 _ 71 rfl rfl
                    simp only [putAll, List.foldl_cons, List.foldl_nil, e46, e47, e48, e49, e50, e51, e52, e53, e54, e55, e56, e57, e58, e59, e60, e61, e62, e63, e64, e65, e66, e67, e68, e69, e70, e71] at ha
                    simp [Act.put] at ha
                    subst ha
                    clear hdef hsz hlk hf e46 e47 e48 e49 e50 e51 e52 e53 e54 e55 e56 e57 e58 e59 e60 e61 e62 e63 e64 e65 e66 e67 e68 e69 e70 e71
                    have E1 := Lib.hid (HOk.out.trans (by simp : _ = false))
                    go_wp2
                    go_ret
                    refine ⟨?_, HBW.out.trans (hbz.mono (HBW.out.size))⟩
                    rw [HG.out, HGd.out, good_step HX.out, E1.out]
                    rfl
                  | true =>
                    by_cases hk0 : k = 0
                    · have hkn := Lib.hid hk0
                      refine wp_region_some2 (by kernel_rfl) [15, 16, 17, 18, 19, 20, 21, 22, 23] [eqF (.map (some (w.heap.size + 1))), eqF (.int .i64 ((k + 1 : Nat) : Int)), eqF (.int .i64 (k : Int)), eqF (.bool false), eqF (.bool false), eqF (.agg #[.int .i64 xn, .int .i64 xl, .int .i64 xz, .string xf, .string xt]), eqF (.pointer (some ⟨w.heap.size, 4, none⟩)), eqF (.int .i64 next), eqF (.bool true), eqF (.bool false), eqF (.bool false), eqF (.bool false), eqF (.int .i64 (k : Int)), eqF (.bool false), eqF (.bool false), eqF (undef), eqF (undef), eqF (undef), eqF (undef), eqF (undef), eqF (undef), eqF (undef), eqF (undef), eqF (undef), eqF (.bool false), eqF (.bool false)] (by kernel_rfl) ⟨on_goal (by decide) ?_, on_goal (by decide) ?_, on_goal (by decide) ?_, on_goal (by decide) ?_, on_goal (by decide) ?_, on_goal (by decide) ?_, on_goal (by decide) ?_, on_goal (by decide) ?_, on_goal (by decide) ?_, on_goal (by decide) ?_, on_goal (by decide) ?_, on_goal (by decide) ?_, on_goal (by decide) ?_, on_goal (by decide) ?_, on_goal (by decide) ?_, off_goal (by decide) fun _ => rfl, off_goal (by decide) fun _ => rfl, off_goal (by decide) fun _ => rfl, off_goal (by decide) fun _ => rfl, off_goal (by decide) fun _ => rfl, off_goal (by decide) fun _ => rfl, off_goal (by decide) fun _ => rfl, off_goal (by decide) fun _ => rfl, off_goal (by decide) fun _ => rfl, on_goal (by decide) ?_, on_goal (by decide) ?_, trivial⟩ ⟨rfl, rfl, rfl, rfl, rfl, fun _ _ h => g_on h rfl, fun _ _ h => g_on h rfl, fun _ _ h => g_on h rfl, fun _ _ h => g_on h rfl, fun _ _ h => g_on h rfl, rfl, rfl, fun _ _ h => g_on h rfl, fun _ _ h => g_on h rfl, fun _ _ h => g_on h rfl, fun _ _ h => g_off (.inl h) rfl, fun _ _ h => g_off (.inl h) rfl, fun _ _ h => g_off (.inl h) rfl, fun _ _ h => g_off (.inl h) rfl, fun _ _ h => g_off (.inl h) rfl, fun _ _ h => g_off (.inl h) rfl, fun _ _ h => g_off (.inl h) rfl, fun _ _ h => g_off (.inl h) rfl, fun _ _ h => g_off (.inl h) rfl, fun _ _ h => g_on h rfl, rfl, trivial⟩ ?_
                      · intro ρ wx hρ hbx hl
                        have e3 : ρ (.tmp 3) = .map (some (w.heap.size + 1)) := hρ.tmp 3 (by decide +kernel)
                        refine y_val (v := .map (some (w.heap.size + 1))) ?_ rfl
                        simp [execOp, go_sem, e3]
                      · intro ρ wx hρ hbx hl
                        have e46 : ρ (.tmp 46) = .map (some (w.heap.size + 1)) := hl 0 (by decide +kernel) 46 rfl
                        have kk := ((Touch.of_below hbx []).keepMap HO1.out (by simp)).len seenU 3
                        rw [HHs.out] at kk
                        refine y_val (v := .int .i64 ((k + 1 : Nat) : Int)) ?_ rfl
                        simp [go_sem, e46, kk]
                      · intro ρ wx hρ hbx hl
                        have e4 : ρ (.tmp 4) = .int .i64 (k : Int) := hρ.tmp 4 (by decide +kernel)
                        refine y_val (v := .int .i64 (k : Int)) ?_ rfl
                        simp [execOp, go_sem, e4]
                      · intro ρ wx hρ hbx hl
                        have e47 : ρ (.tmp 47) = .int .i64 ((k + 1 : Nat) : Int) := hl 1 (by decide +kernel) 47 rfl
                        have e48 : ρ (.tmp 48) = .int .i64 (k : Int) := hl 2 (by decide +kernel) 48 rfl
                        refine y_val (v := .bool false) ?_ rfl
                        simp [execOp, go_sem, e47, e48]
                        omega
                      · intro ρ wx hρ hbx hl
                        have e49 : ρ (.tmp 49) = .bool false := hl 3 (by decide +kernel) 49 rfl
                        refine y_val (v := .bool false) ?_ rfl
                        simp [execOp, go_sem, e49]
                      · intro ρ wx hρ hbx hl
                        have e5 : ρ (.tmp 5) = .pointer (some ⟨wr.heap.size, 0, none⟩) := hρ.tmp 5 (by decide +kernel)
                        have kk0 := (hbx.cell (hs1)).trans z0
                        have kk1 := (hbx.cell (hs1)).trans z1
                        have kk2 := (hbx.cell (hs1)).trans z2
                        have kk3 := (hbx.cell (hs1)).trans z3
                        have kk4 := (hbx.cell (hs1)).trans z4
                        refine y_val (v := .agg #[.int .i64 xn, .int .i64 xl, .int .i64 xz, .string xf, .string xt]) ?_ rfl
                        simp [execOp, go_sem, e5, kk0, kk1, kk2, kk3, kk4]
                      · intro ρ wx hρ hbx hl
                        have e1 : ρ (.tmp 1) = .pointer (some ⟨w.heap.size, 0, none⟩) := hρ.tmp 1 (by decide +kernel)
                        refine y_val (v := .pointer (some ⟨w.heap.size, 4, none⟩)) ?_ rfl
                        simp [execOp, go_sem, e1]
                      · intro ρ wx hρ hbx hl
                        have e52 : ρ (.tmp 52) = .pointer (some ⟨w.heap.size, 4, none⟩) := hl 6 (by decide +kernel) 52 rfl
                        have kk := (hbx.cell (hsv)).trans y4
                        refine y_val (v := .int .i64 next) ?_ rfl
                        simp [execOp, go_sem, e52, kk]
                      · intro ρ wx hρ hbx hl
                        have e51 : ρ (.tmp 51) = .agg #[.int .i64 xn, .int .i64 xl, .int .i64 xz, .string xf, .string xt] := hl 5 (by decide +kernel) 51 rfl
                        have e53 : ρ (.tmp 53) = .int .i64 next := hl 7 (by decide +kernel) 53 rfl
                        refine y_call (f := 37) (args := #[.agg #[.int .i64 xn, .int .i64 xl, .int .i64 xz, .string xf, .string xt], .int .i64 next]) (by simp [execOp, resolve, invoke, hρ.func, go_sem, e51, e53]) ?_
                        refine (HMay.out wx).mono ?_
                        rintro e w6 ⟨rfl, os, rfl⟩
                        exact ⟨_, rfl, rfl, grow_below _ _⟩
                      · intro ρ wx hρ hbx hl
                        have e54 : ρ (.tmp 54) = .bool true := hl 8 (by decide +kernel) 54 rfl
                        refine y_val (v := .bool false) ?_ rfl
                        simp [execOp, go_sem, e54]
                      · intro ρ wx hρ hbx hl
                        have e50 : ρ (.tmp 50) = .bool false := hl 4 (by decide +kernel) 50 rfl
                        have e55 : ρ (.tmp 55) = .bool false := hl 9 (by decide +kernel) 55 rfl
                        refine y_val (v := .bool false) ?_ rfl
                        simp [execOp, go_sem, e50, e55]
                      · intro ρ wx hρ hbx hl
                        have e56 : ρ (.tmp 56) = .bool false := hl 10 (by decide +kernel) 56 rfl
                        refine y_val (v := .bool false) ?_ rfl
                        simp [execOp, go_sem, e56]
                      · intro ρ wx hρ hbx hl
                        have e4 : ρ (.tmp 4) = .int .i64 (k : Int) := hρ.tmp 4 (by decide +kernel)
                        refine y_val (v := .int .i64 (k : Int)) ?_ rfl
                        simp [execOp, go_sem, e4]
                      · intro ρ wx hρ hbx hl
                        have e58 : ρ (.tmp 58) = .int .i64 (k : Int) := hl 12 (by decide +kernel) 58 rfl
                        refine y_val (v := .bool false) ?_ rfl
                        simp [execOp, hρ.const, go_sem, e58, hk0]
                      · intro ρ wx hρ hbx hl
                        have e59 : ρ (.tmp 59) = .bool false := hl 13 (by decide +kernel) 59 rfl
                        refine y_val (v := .bool false) ?_ rfl
                        simp [execOp, go_sem, e59]
                      · intro ρ wx hρ hbx hl
                        have e60 : ρ (.tmp 60) = .bool false := hl 14 (by decide +kernel) 60 rfl
                        have e69 : ρ (.tmp 69) = undef := hl 23 (by decide +kernel) 69 rfl
                        refine y_val (v := .bool false) ?_ rfl
                        simp [execOp, hρ.const, go_sem, e60]
                      · intro ρ wx hρ hbx hl
                        have e57 : ρ (.tmp 57) = .bool false := hl 11 (by decide +kernel) 57 rfl
                        have e70 : ρ (.tmp 70) = .bool false := hl 24 (by decide +kernel) 70 rfl
                        refine y_val (v := .bool false) ?_ rfl
                        simp [execOp, go_sem, e57, e70]
                      intro aa w2 hdef hsz hlk hbz hf
                      have ha := act_of_like hdef hsz hlk [46, 47, 48, 49, 50, 51, 52, 53, 54, 55, 56, 57, 58, 59, 60, 61, 62, 63, 64, 65, 66, 67, 68, 69, 70, 71] 73 rfl (by decide +kernel)
                      have e46 : aa.tmps.getD 46 undef = .map (some (w.heap.size + 1)) := hf 0 _ 46 rfl rfl
                      have e47 : aa.tmps.getD 47 undef = .int .i64 ((k + 1 : Nat) : Int) := hf 1 _ 47 rfl rfl
                      have e48 : aa.tmps.getD 48 undef = .int .i64 (k : Int) := hf 2 _ 48 rfl rfl
                      have e49 : aa.tmps.getD 49 undef = .bool false := hf 3 _ 49 rfl rfl
                      have e50 : aa.tmps.getD 50 undef = .bool false := hf 4 _ 50 rfl rfl
                      have e51 : aa.tmps.getD 51 undef = .agg #[.int .i64 xn, .int .i64 xl, .int .i64 xz, .string xf, .string xt] := hf 5 _ 51 rfl rfl
                      have e52 : aa.tmps.getD 52 undef = .pointer (some ⟨w.heap.size, 4, none⟩) := hf 6 _ 52 rfl rfl
                      have e53 : aa.tmps.getD 53 undef = .int .i64 next := hf 7 _ 53 rfl rfl
                      have e54 : aa.tmps.getD 54 undef = .bool true := hf 8 _ 54 rfl rfl
                      have e55 : aa.tmps.getD 55 undef = .bool false := hf 9 _ 55 rfl rfl
                      have e56 : aa.tmps.getD 56 undef = .bool false := hf 10 _ 56 rfl rfl
                      have e57 : aa.tmps.getD 57 undef = .bool false := hf 11 _ 57 rfl rfl
                      have e58 : aa.tmps.getD 58 undef = .int .i64 (k : Int) := hf 12 _ 58 rfl rfl
                      have e59 : aa.tmps.getD 59 undef = .bool false := hf 13 _ 59 rfl rfl
                      have e60 : aa.tmps.getD 60 undef = .bool false := hf 14 _ 60 rfl rfl
                      have e61 : aa.tmps.getD 61 undef = undef := hf 15 _ 61 rfl rfl
                      have e62 : aa.tmps.getD 62 undef = undef := hf 16 _ 62 rfl rfl
                      have e63 : aa.tmps.getD 63 undef = undef := hf 17 _ 63 rfl rfl
                      have e64 : aa.tmps.getD 64 undef = undef := hf 18 _ 64 rfl rfl
                      have e65 : aa.tmps.getD 65 undef = undef := hf 19 _ 65 rfl rfl
                      have e66 : aa.tmps.getD 66 undef = undef := hf 20 _ 66 rfl rfl
                      have e67 : aa.tmps.getD 67 undef = undef := hf 21 _ 67 rfl rfl
                      have e68 : aa.tmps.getD 68 undef = undef := hf 22 _ 68 rfl rfl
                      have e69 : aa.tmps.getD 69 undef = undef := hf 23 _ 69 rfl rfl
                      have e70 : aa.tmps.getD 70 undef = .bool false := hf 24 _ 70 rfl rfl
                      have e71 : aa.tmps.getD 71 undef = .bool false := hf 25 _ 71 rfl rfl
                      simp only [putAll, List.foldl_cons, List.foldl_nil, e46, e47, e48, e49, e50, e51, e52, e53, e54, e55, e56, e57, e58, e59, e60, e61, e62, e63, e64, e65, e66, e67, e68, e69, e70, e71] at ha
                      simp [Act.put] at ha
                      subst ha
                      clear hdef hsz hlk hf e46 e47 e48 e49 e50 e51 e52 e53 e54 e55 e56 e57 e58 e59 e60 e61 e62 e63 e64 e65 e66 e67 e68 e69 e70 e71
                      have E1 := Lib.hid (HOk.out.trans (by subst hk0; simp : _ = true))
                      go_wp2
                      refine ⟨⟨k + 1, _, by go_num, by rw [HL.out]; omega, (Touch.of_below hbz []).keepMap HO1.out (by simp), HSe2.out, ?_, ?_, ?_⟩, by simp [intOf]; omega⟩
                      · rw [HGd.out, good_step HX.out, E1.out, Bool.true_and]
                      · exact HB1.out.trans ((((Below.refl _ wr).alloc (Nat.le_refl _) _).mono (by omega)).trans (HM1.out.trans (hbz.mono HM2.out)))
                      · exact HBW.out.trans (hbz.mono (HBW.out.size))
                    · have hkp : 0 < k := by omega
                      obtain ⟨u, hu⟩ : ∃ u, tabs[k - 1]? = some u := ⟨tabs[k - 1]'(by rw [HL.out]; omega), List.getElem?_eq_getElem _⟩
                      have hlast : (tabs.take k).getLast? = some u := by
                        have := last_take (l := tabs) (k := k - 1) (by rw [HL.out]; omega)
                        rw [Nat.sub_add_cancel hkp, hu] at this
                        exact this
                      obtain ⟨_, _, e1, hsg0, p0, p1, p2, p3, p4⟩ := (TRows.below H1.out HBW.out).row hu
                      cases e1
                      have hsg : g < w1.heap.size := hsg0
                      have hfol := fun W => follows_any W u ⟨xn, xl, xz, xf, xt⟩
                      simp only [tv] at hfol
                      have hok2 := HOk.out
                      rw [hlast] at hok2
                      have HOk2 := Lib.hid hok2
                      clear hok2 HOk hu hlast hsg0
                      have hfo : ∀ fol, folT u ⟨xn, xl, xz, xf, xt⟩ = fol → okTab next (tabs.take k) ⟨xn, xl, xz, xf, xt⟩ = fol := fun fol h => HOk2.out.trans (by simp [h])
                      have HFo := Lib.hid hfo
                      clear hfo
                      generalize hfol2 : folT u ⟨xn, xl, xz, xf, xt⟩ = fol at *
                      obtain ⟨un, ul, uz, uf, ut⟩ := u
                      simp only at p0 p1 p2 p3 p4 hfol
                      have HFol := Lib.hid hfol
                      have E1 := Lib.hid (HFo.out fol rfl)
                      clear hfol HFo HOk2 hfol2
                      have hsub : IntKind.i64.wrap ((k : Int) - 1) = ((k - 1 : Nat) : Int) := by rw [IntKind.wrap_i64] <;> omega
                      have hidx : k - 1 < n1 := by omega
                      refine wp_region_all (by kernel_rfl) [eqF (.map (some (w.heap.size + 1))), eqF (.int .i64 ((k + 1 : Nat) : Int)), eqF (.int .i64 (k : Int)), eqF (.bool false), eqF (.bool false), eqF (.agg #[.int .i64 xn, .int .i64 xl, .int .i64 xz, .string xf, .string xt]), eqF (.pointer (some ⟨w.heap.size, 4, none⟩)), eqF (.int .i64 next), eqF (.bool true), eqF (.bool false), eqF (.bool false), eqF (.bool false), eqF (.int .i64 (k : Int)), eqF (.bool true), eqF (.bool true), eqF (.pointer (some ⟨w.heap.size, 0, none⟩)), eqF (.slice (some ⟨g, off, none⟩) n1 c1), eqF (.int .i64 (k : Int)), eqF (.int .i64 ((k - 1 : Nat) : Int)), eqF (.pointer (some ⟨g, off + (k - 1) * 5, none⟩)), eqF (.agg #[.int .i64 un, .int .i64 ul, .int .i64 uz, .string uf, .string ut]), eqF (.agg #[.int .i64 xn, .int .i64 xl, .int .i64 xz, .string xf, .string xt]), eqF (.bool fol), eqF (.bool (!fol)), eqF (.bool (!fol)), eqF (.bool (!fol))] (by kernel_rfl) ⟨?_, ?_, ?_, ?_, ?_, ?_, ?_, ?_, ?_, ?_, ?_, ?_, ?_, ?_, ?_, ?_, ?_, ?_, ?_, ?_, ?_, ?_, ?_, ?_, ?_, ?_, trivial⟩ ⟨trivial, trivial, trivial, trivial, trivial, fun _ _ h => h, fun _ _ h => h, fun _ _ h => h, fun _ _ h => h, fun _ _ h => h, trivial, trivial, fun _ _ h => h, fun _ _ h => h, fun _ _ h => h, fun _ _ h => h, fun _ _ h => h, fun _ _ h => h, fun _ _ h => h, fun _ _ h => h, fun _ _ h => h, fun _ _ h => h, fun _ _ h => h, fun _ _ h => h, fun _ _ h => h, trivial, trivial⟩ ?_
                      · intro ρ wx hρ hbx hl
                        have e3 : ρ (.tmp 3) = .map (some (w.heap.size + 1)) := hρ.tmp 3 (by decide +kernel)
                        refine y_val (v := .map (some (w.heap.size + 1))) ?_ rfl
                        simp [execOp, go_sem, e3]
                      · intro ρ wx hρ hbx hl
                        have e46 : ρ (.tmp 46) = .map (some (w.heap.size + 1)) := hl 0 (by decide +kernel) 46 rfl
                        have kk := ((Touch.of_below hbx []).keepMap HO1.out (by simp)).len seenU 3
                        rw [HHs.out] at kk
                        refine y_val (v := .int .i64 ((k + 1 : Nat) : Int)) ?_ rfl
                        simp [go_sem, e46, kk]
                      · intro ρ wx hρ hbx hl
                        have e4 : ρ (.tmp 4) = .int .i64 (k : Int) := hρ.tmp 4 (by decide +kernel)
                        refine y_val (v := .int .i64 (k : Int)) ?_ rfl
                        simp [execOp, go_sem, e4]
                      · intro ρ wx hρ hbx hl
                        have e47 : ρ (.tmp 47) = .int .i64 ((k + 1 : Nat) : Int) := hl 1 (by decide +kernel) 47 rfl
                        have e48 : ρ (.tmp 48) = .int .i64 (k : Int) := hl 2 (by decide +kernel) 48 rfl
                        refine y_val (v := .bool false) ?_ rfl
                        simp [execOp, go_sem, e47, e48]
                        omega
                      · intro ρ wx hρ hbx hl
                        have e49 : ρ (.tmp 49) = .bool false := hl 3 (by decide +kernel) 49 rfl
                        refine y_val (v := .bool false) ?_ rfl
                        simp [execOp, go_sem, e49]
                      · intro ρ wx hρ hbx hl
                        have e5 : ρ (.tmp 5) = .pointer (some ⟨wr.heap.size, 0, none⟩) := hρ.tmp 5 (by decide +kernel)
                        have kk0 := (hbx.cell (hs1)).trans z0
                        have kk1 := (hbx.cell (hs1)).trans z1
                        have kk2 := (hbx.cell (hs1)).trans z2
                        have kk3 := (hbx.cell (hs1)).trans z3
                        have kk4 := (hbx.cell (hs1)).trans z4
                        refine y_val (v := .agg #[.int .i64 xn, .int .i64 xl, .int .i64 xz, .string xf, .string xt]) ?_ rfl
                        simp [execOp, go_sem, e5, kk0, kk1, kk2, kk3, kk4]
                      · intro ρ wx hρ hbx hl
                        have e1 : ρ (.tmp 1) = .pointer (some ⟨w.heap.size, 0, none⟩) := hρ.tmp 1 (by decide +kernel)
                        refine y_val (v := .pointer (some ⟨w.heap.size, 4, none⟩)) ?_ rfl
                        simp [execOp, go_sem, e1]
                      · intro ρ wx hρ hbx hl
                        have e52 : ρ (.tmp 52) = .pointer (some ⟨w.heap.size, 4, none⟩) := hl 6 (by decide +kernel) 52 rfl
                        have kk := (hbx.cell (hsv)).trans y4
                        refine y_val (v := .int .i64 next) ?_ rfl
                        simp [execOp, go_sem, e52, kk]
                      · intro ρ wx hρ hbx hl
                        have e51 : ρ (.tmp 51) = .agg #[.int .i64 xn, .int .i64 xl, .int .i64 xz, .string xf, .string xt] := hl 5 (by decide +kernel) 51 rfl
                        have e53 : ρ (.tmp 53) = .int .i64 next := hl 7 (by decide +kernel) 53 rfl
                        refine y_call (f := 37) (args := #[.agg #[.int .i64 xn, .int .i64 xl, .int .i64 xz, .string xf, .string xt], .int .i64 next]) (by simp [execOp, resolve, invoke, hρ.func, go_sem, e51, e53]) ?_
                        refine (HMay.out wx).mono ?_
                        rintro e w6 ⟨rfl, os, rfl⟩
                        exact ⟨_, rfl, rfl, grow_below _ _⟩
                      · intro ρ wx hρ hbx hl
                        have e54 : ρ (.tmp 54) = .bool true := hl 8 (by decide +kernel) 54 rfl
                        refine y_val (v := .bool false) ?_ rfl
                        simp [execOp, go_sem, e54]
                      · intro ρ wx hρ hbx hl
                        have e50 : ρ (.tmp 50) = .bool false := hl 4 (by decide +kernel) 50 rfl
                        have e55 : ρ (.tmp 55) = .bool false := hl 9 (by decide +kernel) 55 rfl
                        refine y_val (v := .bool false) ?_ rfl
                        simp [execOp, go_sem, e50, e55]
                      · intro ρ wx hρ hbx hl
                        have e56 : ρ (.tmp 56) = .bool false := hl 10 (by decide +kernel) 56 rfl
                        refine y_val (v := .bool false) ?_ rfl
                        simp [execOp, go_sem, e56]
                      · intro ρ wx hρ hbx hl
                        have e4 : ρ (.tmp 4) = .int .i64 (k : Int) := hρ.tmp 4 (by decide +kernel)
                        refine y_val (v := .int .i64 (k : Int)) ?_ rfl
                        simp [execOp, go_sem, e4]
                      · intro ρ wx hρ hbx hl
                        have e58 : ρ (.tmp 58) = .int .i64 (k : Int) := hl 12 (by decide +kernel) 58 rfl
                        refine y_val (v := .bool true) ?_ rfl
                        simp [execOp, hρ.const, go_sem, e58, hkp]
                      · intro ρ wx hρ hbx hl
                        have e59 : ρ (.tmp 59) = .bool true := hl 13 (by decide +kernel) 59 rfl
                        refine y_val (v := .bool true) ?_ rfl
                        simp [execOp, go_sem, e59]
                      · intro ρ wx hρ hbx hl
                        have e1 : ρ (.tmp 1) = .pointer (some ⟨w.heap.size, 0, none⟩) := hρ.tmp 1 (by decide +kernel)
                        refine y_val (v := .pointer (some ⟨w.heap.size, 0, none⟩)) ?_ rfl
                        simp [execOp, go_sem, e1]
                      · intro ρ wx hρ hbx hl
                        have e61 : ρ (.tmp 61) = .pointer (some ⟨w.heap.size, 0, none⟩) := hl 15 (by decide +kernel) 61 rfl
                        have kk := (hbx.cell (hsv)).trans y0
                        refine y_val (v := .slice (some ⟨g, off, none⟩) n1 c1) ?_ rfl
                        simp [execOp, go_sem, e61, kk]
                      · intro ρ wx hρ hbx hl
                        have e4 : ρ (.tmp 4) = .int .i64 (k : Int) := hρ.tmp 4 (by decide +kernel)
                        refine y_val (v := .int .i64 (k : Int)) ?_ rfl
                        simp [execOp, go_sem, e4]
                      · intro ρ wx hρ hbx hl
                        have e63 : ρ (.tmp 63) = .int .i64 (k : Int) := hl 17 (by decide +kernel) 63 rfl
                        refine y_val (v := .int .i64 ((k - 1 : Nat) : Int)) ?_ rfl
                        simp [execOp, hρ.const, go_sem, e63, hsub]
                      · intro ρ wx hρ hbx hl
                        have e62 : ρ (.tmp 62) = .slice (some ⟨g, off, none⟩) n1 c1 := hl 16 (by decide +kernel) 62 rfl
                        have e64 : ρ (.tmp 64) = .int .i64 ((k - 1 : Nat) : Int) := hl 18 (by decide +kernel) 64 rfl
                        refine y_val (v := .pointer (some ⟨g, off + (k - 1) * 5, none⟩)) ?_ rfl
                        simp [execOp, go_sem, e62, e64, hidx]
                      · intro ρ wx hρ hbx hl
                        have e65 : ρ (.tmp 65) = .pointer (some ⟨g, off + (k - 1) * 5, none⟩) := hl 19 (by decide +kernel) 65 rfl
                        have kk0 := (hbx.cell (hsg)).trans p0
                        have kk1 := (hbx.cell (hsg)).trans p1
                        have kk2 := (hbx.cell (hsg)).trans p2
                        have kk3 := (hbx.cell (hsg)).trans p3
                        have kk4 := (hbx.cell (hsg)).trans p4
                        refine y_val (v := .agg #[.int .i64 un, .int .i64 ul, .int .i64 uz, .string uf, .string ut]) ?_ rfl
                        simp [execOp, go_sem, e65, kk0, kk1, kk2, kk3, kk4]
                      · intro ρ wx hρ hbx hl
                        have e5 : ρ (.tmp 5) = .pointer (some ⟨wr.heap.size, 0, none⟩) := hρ.tmp 5 (by decide +kernel)
                        have kk0 := (hbx.cell (hs1)).trans z0
                        have kk1 := (hbx.cell (hs1)).trans z1
                        have kk2 := (hbx.cell (hs1)).trans z2
                        have kk3 := (hbx.cell (hs1)).trans z3
                        have kk4 := (hbx.cell (hs1)).trans z4
                        refine y_val (v := .agg #[.int .i64 xn, .int .i64 xl, .int .i64 xz, .string xf, .string xt]) ?_ rfl
                        simp [execOp, go_sem, e5, kk0, kk1, kk2, kk3, kk4]
                      · intro ρ wx hρ hbx hl
                        have e66 : ρ (.tmp 66) = .agg #[.int .i64 un, .int .i64 ul, .int .i64 uz, .string uf, .string ut] := hl 20 (by decide +kernel) 66 rfl
                        have e67 : ρ (.tmp 67) = .agg #[.int .i64 xn, .int .i64 xl, .int .i64 xz, .string xf, .string xt] := hl 21 (by decide +kernel) 67 rfl
                        refine y_call (f := 38) (args := #[.agg #[.int .i64 un, .int .i64 ul, .int .i64 uz, .string uf, .string ut], .agg #[.int .i64 xn, .int .i64 xl, .int .i64 xz, .string xf, .string xt]]) (by simp [execOp, resolve, invoke, hρ.func, go_sem, e66, e67]) ?_
                        refine (HFol.out wx).mono ?_
                        rintro e w6 ⟨rfl, os, rfl⟩
                        exact ⟨_, rfl, rfl, grow_below _ _⟩
                      · intro ρ wx hρ hbx hl
                        have e68 : ρ (.tmp 68) = .bool fol := hl 22 (by decide +kernel) 68 rfl
                        refine y_val (v := .bool (!fol)) ?_ rfl
                        simp [execOp, go_sem, e68]
                      · intro ρ wx hρ hbx hl
                        have e60 : ρ (.tmp 60) = .bool true := hl 14 (by decide +kernel) 60 rfl
                        have e69 : ρ (.tmp 69) = .bool (!fol) := hl 23 (by decide +kernel) 69 rfl
                        refine y_val (v := .bool (!fol)) ?_ rfl
                        simp [execOp, go_sem, e60, e69]
                      · intro ρ wx hρ hbx hl
                        have e57 : ρ (.tmp 57) = .bool false := hl 11 (by decide +kernel) 57 rfl
                        have e70 : ρ (.tmp 70) = .bool (!fol) := hl 24 (by decide +kernel) 70 rfl
                        refine y_val (v := .bool (!fol)) ?_ rfl
                        simp [execOp, go_sem, e57, e70]
                      intro aa w2 hdef hsz hlk hbz hf
                      have ha := act_of_like hdef hsz hlk [46, 47, 48, 49, 50, 51, 52, 53, 54, 55, 56, 57, 58, 59, 60, 61, 62, 63, 64, 65, 66, 67, 68, 69, 70, 71] 73 rfl (by decide +kernel)
                      have e46 : aa.tmps.getD 46 undef = .map (some (w.heap.size + 1)) := hf 0 _ 46 rfl rfl
                      have e47 : aa.tmps.getD 47 undef = .int .i64 ((k + 1 : Nat) : Int) := hf 1 _ 47 rfl rfl
                      have e48 : aa.tmps.getD 48 undef = .int .i64 (k : Int) := hf 2 _ 48 rfl rfl
                      have e49 : aa.tmps.getD 49 undef = .bool false := hf 3 _ 49 rfl rfl
                      have e50 : aa.tmps.getD 50 undef = .bool false := hf 4 _ 50 rfl rfl
                      have e51 : aa.tmps.getD 51 undef = .agg #[.int .i64 xn, .int .i64 xl, .int .i64 xz, .string xf, .string xt] := hf 5 _ 51 rfl rfl
                      have e52 : aa.tmps.getD 52 undef = .pointer (some ⟨w.heap.size, 4, none⟩) := hf 6 _ 52 rfl rfl
                      have e53 : aa.tmps.getD 53 undef = .int .i64 next := hf 7 _ 53 rfl rfl
                      have e54 : aa.tmps.getD 54 undef = .bool true := hf 8 _ 54 rfl rfl
                      have e55 : aa.tmps.getD 55 undef = .bool false := hf 9 _ 55 rfl rfl
                      have e56 : aa.tmps.getD 56 undef = .bool false := hf 10 _ 56 rfl rfl
                      have e57 : aa.tmps.getD 57 undef = .bool false := hf 11 _ 57 rfl rfl
                      have e58 : aa.tmps.getD 58 undef = .int .i64 (k : Int) := hf 12 _ 58 rfl rfl
                      have e59 : aa.tmps.getD 59 undef = .bool true := hf 13 _ 59 rfl rfl
                      have e60 : aa.tmps.getD 60 undef = .bool true := hf 14 _ 60 rfl rfl
                      have e61 : aa.tmps.getD 61 undef = .pointer (some ⟨w.heap.size, 0, none⟩) := hf 15 _ 61 rfl rfl
                      have e62 : aa.tmps.getD 62 undef = .slice (some ⟨g, off, none⟩) n1 c1 := hf 16 _ 62 rfl rfl
                      have e63 : aa.tmps.getD 63 undef = .int .i64 (k : Int) := hf 17 _ 63 rfl rfl
                      have e64 : aa.tmps.getD 64 undef = .int .i64 ((k - 1 : Nat) : Int) := hf 18 _ 64 rfl rfl
                      have e65 : aa.tmps.getD 65 undef = .pointer (some ⟨g, off + (k - 1) * 5, none⟩) := hf 19 _ 65 rfl rfl
                      have e66 : aa.tmps.getD 66 undef = .agg #[.int .i64 un, .int .i64 ul, .int .i64 uz, .string uf, .string ut] := hf 20 _ 66 rfl rfl
                      have e67 : aa.tmps.getD 67 undef = .agg #[.int .i64 xn, .int .i64 xl, .int .i64 xz, .string xf, .string xt] := hf 21 _ 67 rfl rfl
                      have e68 : aa.tmps.getD 68 undef = .bool fol := hf 22 _ 68 rfl rfl
                      have e69 : aa.tmps.getD 69 undef = .bool (!fol) := hf 23 _ 69 rfl rfl
                      have e70 : aa.tmps.getD 70 undef = .bool (!fol) := hf 24 _ 70 rfl rfl
                      have e71 : aa.tmps.getD 71 undef = .bool (!fol) := hf 25 _ 71 rfl rfl
                      simp only [putAll, List.foldl_cons, List.foldl_nil, e46, e47, e48, e49, e50, e51, e52, e53, e54, e55, e56, e57, e58, e59, e60, e61, e62, e63, e64, e65, e66, e67, e68, e69, e70, e71] at ha
                      simp [Act.put] at ha
                      subst ha
                      clear hdef hsz hlk hf e46 e47 e48 e49 e50 e51 e52 e53 e54 e55 e56 e57 e58 e59 e60 e61 e62 e63 e64 e65 e66 e67 e68 e69 e70 e71
                      cases fol with
                      | false =>
                        go_wp2
                        go_ret
                        refine ⟨?_, HBW.out.trans (hbz.mono (HBW.out.size))⟩
                        rw [HG.out, HGd.out, good_step HX.out, E1.out]
                        rfl
                      | true =>
                        go_wp2
                        refine ⟨⟨k + 1, _, by go_num, by rw [HL.out]; omega, (Touch.of_below hbz []).keepMap HO1.out (by simp), HSe2.out, ?_, ?_, ?_⟩, by simp [intOf]; omega⟩
                        · rw [HGd.out, good_step HX.out, E1.out, Bool.true_and]
                        · exact HB1.out.trans ((((Below.refl _ wr).alloc (Nat.le_refl _) _).mono (by omega)).trans (HM1.out.trans (hbz.mono HM2.out)))
                        · exact HBW.out.trans (hbz.mono (HBW.out.size))
              · obtain rfl : k = n1 := by omega
                go_wp2
                go_ret
                refine ⟨?_, HB.out⟩
                rw [HG.out, HGd.out, List.drop_of_length_le (by rw [HL.out]; exact Nat.le_refl _)]
                rfl
          · have E1 := Lib.hid (HC0.out (HH.out.trans (by simp [q5])))
            clear HC0 HC1 HH
            go_wp2
            go_ret
            exact ⟨by rw [E1.out]; rfl, (Below.refl _ w).alloc (Nat.le_refl _) _⟩
        · have E1 := Lib.hid (HC0.out (HH.out.trans (by simp [q4])))
          clear HC0 HC1 HH
          go_wp2
          go_ret
          exact ⟨by rw [E1.out]; rfl, (Below.refl _ w).alloc (Nat.le_refl _) _⟩
      · have E1 := Lib.hid (HC0.out (HH.out.trans (by simp [q3])))
        clear HC0 HC1 HH
        go_wp2
        go_ret
        exact ⟨by rw [E1.out]; rfl, (Below.refl _ w).alloc (Nat.le_refl _) _⟩
    · have E1 := Lib.hid (HC0.out (HH.out.trans (by simp [q2])))
      clear HC0 HC1 HH
      go_wp2
      go_ret
      exact ⟨by rw [E1.out]; rfl, (Below.refl _ w).alloc (Nat.le_refl _) _⟩
  · have E1 := Lib.hid (HC0.out (HH.out.trans (by simp [q1])))
    clear HC0 HC1 HH
    go_wp2
    go_ret
    exact ⟨by rw [E1.out]; rfl, (Below.refl _ w).alloc (Nat.le_refl _) _⟩
end Go.Proofs.Ythjimldojdhccaa
