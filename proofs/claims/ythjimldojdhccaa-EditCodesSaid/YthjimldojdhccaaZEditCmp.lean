/- How two tables stand: places, cmp.Or, the closure of the sort, follows, mayBe. -/
import Derived.Test.YthjimldojdhccaaZEditM
import Derived.Test.YthjimldojdhccaaZShelf
import Derived.Test.YthjimldojdhccaaMga
import Derived.BigQuiet
import Derived.Deep.QuietTactic
namespace Go.Proofs.Ythjimldojdhccaa
open Go Go.RowKit Go.Lib Go.Sort

/-- A number is told; the world is as it was. -/
def KeepsInt (w : World) (n : Int) (e : Ending) (w' : World) : Prop := e = .returned (.int .i64 n) ∧ w = w'
/-- A number is told; nothing old is changed. -/
def GivesInt (w : World) (n : Int) (e : Ending) (w' : World) : Prop := e = .returned (.int .i64 n) ∧ Below w.heap.size w w'
/-- A number is told; the world has grown. -/
def GrowsInt (w : World) (n : Int) (e : Ending) (w' : World) : Prop := e = .returned (.int .i64 n) ∧ ∃ os, w' = grow w os

/-- A truth is told; the world has grown. -/
def GrowsBool (w : World) (b : Bool) (e : Ending) (w' : World) : Prop := e = .returned (.bool b) ∧ ∃ os, w' = grow w os

def tv (t : Tb) : Value := .agg #[.int .i64 t.num, .int .i64 t.lev, .int .i64 t.size, .string t.first, .string t.last]
theorem tv_eq (t : Tb) : tv t = .agg t.cells.toArray := rfl

def orI (x y : Int) : Int := if x = 0 then y else x

set_option maxRecDepth 100000 in
set_option maxHeartbeats 1000000 in
theorem or_two (w : World) (b : Nat) (x y : Int) (h0 : w.cell? ⟨b, 0, none⟩ = some (.int .i64 x)) (h1 : w.cell? ⟨b, 1, none⟩ = some (.int .i64 y)) :
    Calls Try.prog 48 #[.slice (some ⟨b, 0, none⟩) 2 2] w (KeepsInt w (orI x y)) := by
  by_cases hx : x = 0
  · subst hx
    by_cases hy : y = 0
    · subst hy
      go_enter Try.func48, Try.ntmps48
      go_wp2
      refine wp_loop_rounds 3 ?_
      rw [rounds_succ]
      go_wp2
      rw [rounds_succ]
      go_wp2
      rw [rounds_succ]
      go_wp2
      go_ret
      exact ⟨rfl, rfl⟩
    · have hb : ((y : Int) == 0) = false := by simpa using hy
      go_enter Try.func48, Try.ntmps48
      go_wp2
      refine wp_loop_rounds 2 ?_
      rw [rounds_succ]
      go_wp2
      rw [rounds_succ]
      go_wp2
      go_ret
      exact ⟨rfl, rfl⟩
  · have hb : ((x : Int) == 0) = false := by simpa using hx
    have ho : orI x y = x := if_neg hx
    rw [ho]
    clear ho
    go_enter Try.func48, Try.ntmps48
    go_wp2
    refine wp_loop_rounds 1 ?_
    rw [rounds_succ]
    go_wp2
    go_ret
    exact ⟨rfl, rfl⟩

theorem cmpi_any (w : World) (x y : Int) : Calls Try.prog 50 #[.int .i64 x, .int .i64 y] w (KeepsInt w (compareInt x y)) :=
  (Try.cmp_Compare_int x y w).mono fun _ _ h => ⟨h.1, h.2.symm⟩
theorem cmps_any (w : World) (x y : ByteArray) : Calls Try.prog 57 #[.string x, .string y] w (KeepsInt w (cmpS x y)) :=
  (Try.strings_Compare x y w).mono fun _ _ h => ⟨h.1, h.2.symm⟩

theorem new_cell (w : World) (o : Array Value) (t : TypeId) {N : Nat} (hN : w.heap.size = N) {j : Nat} {u : Value} (hj : o[j]? = some u) : (w.alloc (.cells o t)).cell? ⟨N, j, none⟩ = some u := by
  subst hN
  rw [World.cell?_alloc_new w _ _ j]
  exact hj

theorem grow_below (w : World) (os : Array Obj) : Below w.heap.size w (grow w os) := by
  refine ⟨rfl, rfl, rfl, by simp [grow], fun k hk => ?_⟩
  simp [grow, Array.getElem?_append, hk]

theorem two_boxes (w : World) (A B : Array Value) (s t : TypeId) : ((w.alloc (.cells A s)).alloc (.cells B t)).heap[w.heap.size]? = some (.cells A s (0, 0)) ∧ ((w.alloc (.cells A s)).alloc (.cells B t)).heap[w.heap.size + 1]? = some (.cells B t (0, 0)) ∧
    Below w.heap.size w ((w.alloc (.cells A s)).alloc (.cells B t)) ∧ ((w.alloc (.cells A s)).alloc (.cells B t)).heap.size = w.heap.size + 1 + 1 := by
  refine ⟨(Below.heap_alloc _ _ _ (by simp)).trans (heap_alloc_new w _), ?_, ((Below.refl _ w).alloc (Nat.le_refl _) _).alloc (by simp) _, by simp⟩
  have := heap_alloc_new (w.alloc (.cells A s)) (.cells B t)
  simpa using this

theorem grow_two (w : World) (a b : Obj) : (w.alloc a).alloc b = grow w #[a, b] := by rw [alloc_eq_grow, alloc_eq_grow, grow_grow]; rfl
theorem grow_three (w : World) (a b c : Obj) : ((w.alloc a).alloc b).alloc c = grow w #[a, b, c] := by rw [grow_two, alloc_eq_grow, grow_grow]; rfl

set_option maxRecDepth 100000 in
set_option maxHeartbeats 1000000 in
theorem places_any (w : World) (a b : Tb) : Calls Try.prog 49 #[tv a, tv b] w (GrowsInt w (plc a b)) := by
  have hl := fun w => cmpi_any w a.lev b.lev
  have hn := fun w => cmpi_any w a.num b.num
  have hs := fun w => cmps_any w a.first b.first
  have hp : plc a b = if compareInt a.lev b.lev = 0 then (if a.lev = 0 then compareInt a.num b.num else cmpS a.first b.first) else compareInt a.lev b.lev := rfl
  generalize compareInt a.lev b.lev = cl at *
  generalize compareInt a.num b.num = cn at *
  generalize cmpS a.first b.first = cs at *
  have HP := Lib.hid hp
  clear hp
  obtain ⟨an, al, az, af, at'⟩ := a
  obtain ⟨bn, bl, bz, bf, bt⟩ := b
  simp only [tv] at *
  by_cases h0 : cl = 0
  · subst h0
    rw [if_pos rfl] at HP
    by_cases ha : al = 0
    · subst ha
      rw [if_pos rfl] at HP
      go_enter Try.func49, Try.ntmps49
      go_wp2_with (go_at_call 50; go_must (refine (hl _).mono ?_))
      rintro e w1 ⟨rfl, rfl⟩
      go_wp2_with (go_at_call 50; go_must (refine (hn _).mono ?_))
      rintro e w1 ⟨rfl, rfl⟩
      go_wp2
      go_ret
      rw [HP.out]
      exact ⟨rfl, _, grow_two _ _ _⟩
    · rw [if_neg ha] at HP
      have hb : ((al : Int) == 0) = false := by simpa using ha
      go_enter Try.func49, Try.ntmps49
      go_wp2_with (go_at_call 50; go_must (refine (hl _).mono ?_))
      rintro e w1 ⟨rfl, rfl⟩
      go_wp2_with (go_at_call 57; go_must (refine (hs _).mono ?_))
      rintro e w1 ⟨rfl, rfl⟩
      go_wp2_with (go_at_call 48; go_must (refine (or_two _ _ 0 cs (new_cell _ _ _ (by simp) rfl) (new_cell _ _ _ (by simp) rfl)).mono ?_))
      rintro e w1 ⟨rfl, rfl⟩
      go_wp2
      go_ret
      rw [HP.out]
      exact ⟨rfl, _, grow_three _ _ _ _⟩
  · rw [if_neg h0] at HP
    have hb : ((cl : Int) == 0) = false := by simpa using h0
    have ho : orI cl cs = cl := if_neg h0
    go_enter Try.func49, Try.ntmps49
    go_wp2_with (go_at_call 50; go_must (refine (hl _).mono ?_))
    rintro e w1 ⟨rfl, rfl⟩
    go_wp2_with (go_at_call 57; go_must (refine (hs _).mono ?_))
    rintro e w1 ⟨rfl, rfl⟩
    go_wp2_with (go_at_call 48; go_must (refine (or_two _ _ cl cs (new_cell _ _ _ (by simp) rfl) (new_cell _ _ _ (by simp) rfl)).mono ?_))
    rintro e w1 ⟨rfl, rfl⟩
    rw [ho]
    go_wp2
    go_ret
    rw [HP.out]
    exact ⟨rfl, _, grow_three _ _ _ _⟩

set_option maxRecDepth 100000 in
set_option maxHeartbeats 1000000 in
theorem mayBe_any (w : World) (t : Tb) (n : Int) : Calls Try.prog 37 #[tv t, .int .i64 n] w (GrowsBool w (mayT t n)) := by
  have hm : mayT t n = (decide (1 ≤ t.num) && decide (t.num < n) && decide (0 ≤ t.lev) && decide (t.lev < 4) && decide (1 ≤ t.size) && decide (t.size < 4611686018427387904) && leB t.first t.last) := rfl
  have hle : (Op.bytesLess t.first.toList t.last.toList || t.first.toList == t.last.toList) = leB t.first t.last := leB_spell _ _
  have HM := Lib.hid hm
  clear hm
  generalize leB t.first t.last = lb at *
  obtain ⟨tn, tl, tz, tf, tt⟩ := t
  simp only [tv] at *
  go_enter Try.func37, Try.ntmps37
  by_cases h1 : 1 ≤ tn
  · by_cases h2 : tn < n
    · by_cases h3 : 0 ≤ tl
      · by_cases h4 : tl < 4
        · by_cases h5 : 1 ≤ tz
          · by_cases h6 : tz < 4611686018427387904
            · have e1 : _ = lb := HM.out.trans (by simp [h1, h2, h3, h4, h5, h6])
              rw [e1]
              clear e1 HM
              go_wp2
              go_ret
              exact ⟨rfl, _, alloc_eq_grow _ _⟩
            · have e1 : _ = false := HM.out.trans (by simp [h6])
              rw [e1]
              clear e1 HM
              go_wp2
              go_ret
              exact ⟨rfl, _, alloc_eq_grow _ _⟩
          · have e1 : _ = false := HM.out.trans (by simp [h5])
            rw [e1]
            clear e1 HM
            go_wp2
            go_ret
            exact ⟨rfl, _, alloc_eq_grow _ _⟩
        · have e1 : _ = false := HM.out.trans (by simp [h4])
          rw [e1]
          clear e1 HM
          go_wp2
          go_ret
          exact ⟨rfl, _, alloc_eq_grow _ _⟩
      · have e1 : _ = false := HM.out.trans (by simp [h3])
        rw [e1]
        clear e1 HM
        go_wp2
        go_ret
        exact ⟨rfl, _, alloc_eq_grow _ _⟩
    · have e1 : _ = false := HM.out.trans (by simp [h2])
      rw [e1]
      clear e1 HM
      go_wp2
      go_ret
      exact ⟨rfl, _, alloc_eq_grow _ _⟩
  · have e1 : _ = false := HM.out.trans (by simp [h1])
    rw [e1]
    clear e1 HM
    go_wp2
    go_ret
    exact ⟨rfl, _, alloc_eq_grow _ _⟩

set_option maxRecDepth 100000 in
set_option maxHeartbeats 1000000 in
theorem follows_any (w : World) (a b : Tb) : Calls Try.prog 38 #[tv a, tv b] w (GrowsBool w (folT a b)) := by
  have hp := fun w => places_any w a b
  have hf : folT a b = (decide (plc a b ≤ 0) && (decide (a.lev ≠ b.lev) || decide (a.lev = 0) || bl a.last b.first)) := rfl
  have hlt : Op.bytesLess a.last.toList b.first.toList = bl a.last b.first := bl_spell _ _
  generalize plc a b = p at *
  generalize bl a.last b.first = lb at *
  have HF := Lib.hid hf
  clear hf
  obtain ⟨an, al, az, af, at'⟩ := a
  obtain ⟨bn, bl, bz, bf, bt⟩ := b
  simp only [tv] at *
  obtain ⟨t1, t2, t3, t4⟩ := two_boxes w #[.int .i64 an, .int .i64 al, .int .i64 az, .string af, .string at'] #[.int .i64 bn, .int .i64 bl, .int .i64 bz, .string bf, .string bt] 45 45
  have T1 := Lib.hid t1
  have T2 := Lib.hid t2
  have T3 := Lib.hid t3
  have T4 := Lib.hid t4
  have g0 := grow_two w (.cells #[.int .i64 an, .int .i64 al, .int .i64 az, .string af, .string at'] 45) (.cells #[.int .i64 bn, .int .i64 bl, .int .i64 bz, .string bf, .string bt] 45)
  have G0 := Lib.hid g0
  clear g0
  clear t1 t2 t3 t4
  go_enter Try.func38, Try.ntmps38
  go_wp2_with (go_at_call 49; go_must (refine (hp _).mono ?_))
  rintro e w2 ⟨rfl, os, hw2⟩
  generalize (w.alloc (.cells #[.int .i64 an, .int .i64 al, .int .i64 az, .string af, .string at'] 45)).alloc (.cells #[.int .i64 bn, .int .i64 bl, .int .i64 bz, .string bf, .string bt] 45) = w1 at *
  have g1 : Below w1.heap.size w1 w2 := by rw [hw2]; exact grow_below _ _
  have s1 := T4.out
  have c1 := (g1.block w.heap.size (by omega)).trans T1.out
  have c2 := (g1.block (w.heap.size + 1) (by omega)).trans T2.out
  have HB := Lib.hid (show ∃ os, w2 = grow w os from ⟨_, by rw [hw2, G0.out, grow_grow]⟩)
  clear g1 s1 hw2 T1 T2 T3 T4 hp
  have x1 := Lib.cell_of_heap c1 1
  have x4 := Lib.cell_of_heap c1 4
  have y1 := Lib.cell_of_heap c2 1
  have y3 := Lib.cell_of_heap c2 3
  simp at x1 x4 y1 y3
  clear c1 c2
  by_cases h1 : p ≤ 0
  · by_cases h2 : al = bl
    · by_cases h3 : al = 0
      · have E1 := Lib.hid (HF.out.trans ((by simp [h1, h3]) : _ = true))
        clear HF
        subst h2
        subst h3
        go_wp2
        go_ret
        exact ⟨by rw [E1.out]; rfl, HB.out⟩
      · have E1 := Lib.hid (HF.out.trans ((by simp [h1, h2]; intro h; exact absurd (h2.trans h) h3) : _ = lb))
        clear HF
        subst h2
        have h4 : ((al : Int) == 0) = false := by simpa using h3
        go_wp2
        go_ret
        exact ⟨by rw [E1.out]; rfl, HB.out⟩
    · have E1 := Lib.hid (HF.out.trans ((by simp [h1, h2]) : _ = true))
      clear HF
      have h4 : ((al : Int) == bl) = false := by simpa using h2
      go_wp2
      go_ret
      exact ⟨by rw [E1.out]; rfl, HB.out⟩
  · have E1 := Lib.hid (HF.out.trans ((by simp [h1]) : _ = false))
    clear HF
    go_wp2
    go_ret
    exact ⟨by rw [E1.out]; rfl, HB.out⟩

/-- How the sort holds two tables against each other. -/
def GrownInt (w : World) (n : Int) (e : Ending) (w' : World) : Prop := e = .returned (.int .i64 n) ∧ ∃ q os, w' = grow (w.drewN q) os

end Go.Proofs.Ythjimldojdhccaa
