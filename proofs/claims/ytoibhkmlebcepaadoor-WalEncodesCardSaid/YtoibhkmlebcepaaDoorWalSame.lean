import Derived.Test.YtoibhkmlebcepaaDoorWalRefReplay
import Derived.Test.YtoibhkmlebcepaaDoorDrawnAct
import Derived.BigQuiet
import Derived.Deep.QuietTactic
namespace Go.Proofs.YtoibhkmlebcepaaDoor
open Go Go.RowKit

def SameRel (w : World) (rev : Nat) (va vb : Value) (n : Nat) (i : Value) (wr : World) : Prop :=
  ∃ k : Nat, i = .int .i64 (k : Int) ∧ k ≤ n ∧ Below w.heap.size w wr ∧ wr.heap[w.heap.size]? = some (.cells #[.int .u64 (rev : Int), va] 25 (0, 0)) ∧ wr.heap[w.heap.size + 1]? = some (.cells #[.int .u64 (rev : Int), vb] 25 (0, 0))

theorem two_boxes (w : World) (c d : Array Value) (t u : TypeId) :
    ((w.alloc (.cells c t)).alloc (.cells d u)).heap[w.heap.size]? = some (.cells c t (0, 0)) ∧ ((w.alloc (.cells c t)).alloc (.cells d u)).heap[w.heap.size + 1]? = some (.cells d u (0, 0)) := by
  refine ⟨(heap_alloc_old _ _ (by simp)).trans (heap_alloc_new w _), ?_⟩
  have := heap_alloc_new (w.alloc (.cells c t)) (.cells d u)
  simpa using this

set_option maxRecDepth 100000 in
set_option maxHeartbeats 1000000 in
theorem same_any (w : World) (rev : Nat) (a a2 : Option Addr) (n cap cap2 : Nat) (es : List Ent) (h : Reads w 3 (.slice a n cap) n (ecells es)) (h2 : Reads w 3 (.slice a2 n cap2) n (ecells es)) (hl : es.length = n) :
    Calls Tryd.prog 14 #[.agg #[.int .u64 (rev : Int), .slice a n cap], .agg #[.int .u64 (rev : Int), .slice a2 n cap2]] w (GivesVal w (.bool true)) := by
  have HL := Lib.hid hl
  have HR := Lib.hid h
  have HR2 := Lib.hid h2
  obtain ⟨_, _, hv, hc1, hc2⟩ := h.le
  cases hv
  obtain ⟨_, _, hv, hc3, hc4⟩ := h2.le
  cases hv
  unfold maxLen at hc2 hc4
  have hB : Below w.heap.size w ((w.alloc (.cells #[.int .u64 (rev : Int), .slice a n cap] 25)).alloc (.cells #[.int .u64 (rev : Int), .slice a2 n cap2] 25)) :=
    ((Below.refl _ w).alloc (Nat.le_refl _) _).alloc (by simp) _
  have hG := two_boxes w #[.int .u64 (rev : Int), .slice a n cap] #[.int .u64 (rev : Int), .slice a2 n cap2] 25 25
  have HB := Lib.hid hB
  have HG := Lib.hid hG
  clear h h2 hl hB hG
  go_enter Tryd.func14, Tryd.ntmps14
  go_wp2
  go_loopw [23] (fun i wr => SameRel w rev (.slice a n cap) (.slice a2 n cap2) n i wr) (fun i _ => n - (intOf i).toNat)
  case atStart => exact ⟨0, rfl, Nat.zero_le _, HB.out, HG.out⟩
  case round =>
    obtain ⟨k, rfl, hk, hb, hg, hg2⟩ := hrel
    have hbs := hb.size
    have q0 := Lib.cell_of_heap hg 0
    have q1 := Lib.cell_of_heap hg 1
    have p0 := Lib.cell_of_heap hg2 0
    have p1 := Lib.cell_of_heap hg2 1
    simp at q0 q1 p0 p1
    have hlt0 : w.heap.size < wr.heap.size := (Array.getElem?_eq_some_iff.1 hg).1
    have hlt1 : w.heap.size + 1 < wr.heap.size := (Array.getElem?_eq_some_iff.1 hg2).1
    clear HB HG
    have HB := Lib.hid hb
    have HG := Lib.hid hg
    have HG2 := Lib.hid hg2
    clear hb hg hg2
    by_cases hlt : k < n
    · obtain ⟨x, hx⟩ : ∃ x, es[k]? = some x := ⟨es[k]'(by rw [HL.out]; exact hlt), List.getElem?_eq_getElem _⟩
      obtain ⟨g, off, rfl, hgl, c0, c1, c2⟩ := ent_cells (HR.out.below' HB.out) hx
      obtain ⟨g2, off2, rfl, hgl2, d0, d1, d2⟩ := ent_cells (HR2.out.below' HB.out) hx
      have hkI : (k : Int) < n := by omega
      obtain ⟨key, r, d⟩ := x
      dsimp only at c0 c1 c2 d0 d1 d2
      clear hx
      go_wp2
      go_quiet (fail)
      have hqn := below_drewN (Below.refl wr.heap.size wr) nq
      replace HB := Lib.hid (HB.out.trans (hqn.mono HB.out.size))
      replace HG := Lib.hid (below_block hqn HG.out (Array.getElem?_eq_some_iff.1 HG.out).1)
      replace HG2 := Lib.hid (below_block hqn HG2.out (Array.getElem?_eq_some_iff.1 HG2.out).1)
      clear hqn
      clear q0 q1 p0 p1 c0 c1 c2 d0 d1 d2 hgl hgl2
      generalize wr.drewN nq = w5 at *
      go_wp2
      exact ⟨⟨k + 1, by go_num, by omega, HB.out, HG.out, HG2.out⟩, by simp [intOf]; omega⟩
    · obtain rfl : k = n := by omega
      have hkI : ¬ ((k : Int) < k) := by omega
      go_wp2
      go_ret
      exact ⟨rfl, HB.out⟩

/-- A slice of commits that can be looked at. -/
def CSee (w : World) (v : Value) (cs : List (Nat × List Ent)) : Prop :=
  ∃ a cap, v = .slice a cs.length cap ∧ cs.length ≤ cap ∧ cap ≤ maxLen ∧ ∀ (i : Nat) (c : Nat × List Ent), cs[i]? = some c → ∃ g sa scap, a = some ⟨g, 0, none⟩ ∧ g < w.heap.size ∧ w.cell? ⟨g, i * 2, none⟩ = some (.int .u64 (c.1 : Int)) ∧ w.cell? ⟨g, i * 2 + 1, none⟩ = some (.slice sa c.2.length scap) ∧ Reads w 3 (.slice sa c.2.length scap) c.2.length (ecells c.2)

theorem CSee.below {w w' : World} {v : Value} {cs : List (Nat × List Ent)} (h : CSee w v cs) (hb : Below w.heap.size w w') : CSee w' v cs := by
  obtain ⟨a, cap, hv, h1, h2, h3⟩ := h
  refine ⟨a, cap, hv, h1, h2, fun i c hi => ?_⟩
  obtain ⟨g, sa, scap, ha, hg, c0, c1, hr⟩ := h3 i c hi
  exact ⟨g, sa, scap, ha, by have := hb.size; omega, (hb.cell (p := ⟨g, i * 2, none⟩) hg).trans c0, (hb.cell (p := ⟨g, i * 2 + 1, none⟩) hg).trans c1, hr.below' hb⟩

theorem CRows.see {B : Nat} {w : World} {v : Value} {cs : List (Nat × List Ent)} (h : CRows B w v cs) : CSee w v cs := by
  obtain ⟨a, cap, rfl, h1, h2⟩ := h.form
  refine ⟨a, cap, rfl, h1, h2, fun i c hi => ?_⟩
  obtain ⟨g, cap', sv, hv, _, _, hg, c0, c1, sa, scap, rfl, ho⟩ := h.rev hi
  cases hv
  exact ⟨g, sa, scap, rfl, hg, c0, c1, ownsRow.reads ho⟩

def AllRel (w : World) (n : Nat) (i : Value) (wr : World) : Prop := ∃ k : Nat, i = .int .i64 (k : Int) ∧ k ≤ n ∧ Below w.heap.size w wr

set_option maxRecDepth 100000 in
set_option maxHeartbeats 1000000 in
theorem sameall_any (w : World) (v v2 : Value) (cs : List (Nat × List Ent)) (h : CSee w v cs) (h2 : CSee w v2 cs) :
    Calls Tryd.prog 18 #[v, v2] w (GivesVal w (.bool true)) := by
  have hm : Tryd.prog.follows .mixedOrders = true := rfl
  obtain ⟨a, cap, rfl, hc1, hc2, hs⟩ := h
  obtain ⟨a2, cap2, rfl, hc3, hc4, hs2⟩ := h2
  unfold maxLen at hc2 hc4
  have HS := Lib.hid hs
  have HS2 := Lib.hid hs2
  have HB := Lib.hid (Below.refl w.heap.size w)
  clear hs hs2
  generalize hn : cs.length = n at *
  have HN := Lib.hid hn
  clear hn
  go_enter Tryd.func18, Tryd.ntmps18
  go_wp2
  go_loopw [13] (fun i wr => AllRel w n i wr) (fun i _ => n - (intOf i).toNat)
  case atStart => exact ⟨0, rfl, Nat.zero_le _, HB.out⟩
  case round =>
    obtain ⟨k, rfl, hk, hb⟩ := hrel
    have hbs := hb.size
    clear HB
    have HB := Lib.hid hb
    clear hb
    by_cases hlt : k < n
    · obtain ⟨c, hx⟩ : ∃ x, cs[k]? = some x := ⟨cs[k]'(by rw [HN.out]; exact hlt), List.getElem?_eq_getElem _⟩
      obtain ⟨g, sa, scap, rfl, hg, c0, c1, hr⟩ := HS.out k c hx
      obtain ⟨g2, sa2, scap2, rfl, hg2, d0, d1, hr2⟩ := HS2.out k c hx
      have hkI : (k : Int) < n := by omega
      obtain ⟨rev, es⟩ := c
      dsimp only at c0 c1 d0 d1 hr hr2
      have hw0 := (HB.out.cell (p := ⟨g, k * 2, none⟩) hg).trans c0
      have hw1 := (HB.out.cell (p := ⟨g, k * 2 + 1, none⟩) hg).trans c1
      have hw2 := (HB.out.cell (p := ⟨g2, k * 2, none⟩) hg2).trans d0
      have hw3 := (HB.out.cell (p := ⟨g2, k * 2 + 1, none⟩) hg2).trans d1
      have hrr := hr.below' HB.out
      have hrr2 := hr2.below' HB.out
      have hgl : g < wr.heap.size := by omega
      have hgl2 : g2 < wr.heap.size := by omega
      generalize hmm : es.length = m at *
      clear hx c0 c1 d0 d1 hr hr2 hg hg2 HS HS2
      go_wp2_with fail
      refine wp_region_all (by kernel_rfl) [eqF (.slice (some ⟨g, 0, none⟩) n cap), eqF (.int .i64 (k : Int)), eqF (.pointer (some ⟨g, k * 2, none⟩)), eqF (.agg #[.int .u64 (rev : Int), .slice sa m scap]), eqF (.slice (some ⟨g2, 0, none⟩) n cap2), eqF (.int .i64 (k : Int)), eqF (.pointer (some ⟨g2, k * 2, none⟩)), eqF (.agg #[.int .u64 (rev : Int), .slice sa2 m scap2]), eqF (.bool true), eqF (.bool false)] (by kernel_rfl) ⟨?_, ?_, ?_, ?_, ?_, ?_, ?_, ?_, ?_, ?_, trivial⟩ ⟨trivial, trivial, trivial, trivial, trivial, trivial, trivial, trivial, trivial, trivial, trivial⟩ ?_
      · intro ρ wx hρ hbx hl
        have e0 : ρ (.tmp 0) = .slice (some ⟨g, 0, none⟩) n cap := hρ.tmp 0 (by decide +kernel)
        refine y_val (v := .slice (some ⟨g, 0, none⟩) n cap) ?_ rfl
        simp [execOp, go_sem, e0]
      · intro ρ wx hρ hbx hl
        have e5 : ρ (.tmp 5) = .int .i64 (k : Int) := hρ.tmp 5 (by decide +kernel)
        refine y_val (v := .int .i64 (k : Int)) ?_ rfl
        simp [execOp, go_sem, e5]
      · intro ρ wx hρ hbx hl
        have e16 : ρ (.tmp 16) = .slice (some ⟨g, 0, none⟩) n cap := hl 0 (by decide +kernel) 16 rfl
        have e17 : ρ (.tmp 17) = .int .i64 (k : Int) := hl 1 (by decide +kernel) 17 rfl
        refine y_val (v := .pointer (some ⟨g, k * 2, none⟩)) ?_ rfl
        simp [execOp, go_sem, e16, e17]
        first | done | omega | (intro h; omega)
      · intro ρ wx hρ hbx hl
        have e18 : ρ (.tmp 18) = .pointer (some ⟨g, k * 2, none⟩) := hl 2 (by decide +kernel) 18 rfl
        have k0 := (hbx.cell (p := ⟨g, k * 2, none⟩) hgl).trans hw0
        have k1 := (hbx.cell (p := ⟨g, k * 2 + 1, none⟩) hgl).trans hw1
        refine y_val (v := .agg #[.int .u64 (rev : Int), .slice sa m scap]) ?_ rfl
        simp [execOp, go_sem, e18, k0, k1]
      · intro ρ wx hρ hbx hl
        have e1 : ρ (.tmp 1) = .slice (some ⟨g2, 0, none⟩) n cap2 := hρ.tmp 1 (by decide +kernel)
        refine y_val (v := .slice (some ⟨g2, 0, none⟩) n cap2) ?_ rfl
        simp [execOp, go_sem, e1]
      · intro ρ wx hρ hbx hl
        have e5 : ρ (.tmp 5) = .int .i64 (k : Int) := hρ.tmp 5 (by decide +kernel)
        refine y_val (v := .int .i64 (k : Int)) ?_ rfl
        simp [execOp, go_sem, e5]
      · intro ρ wx hρ hbx hl
        have e20 : ρ (.tmp 20) = .slice (some ⟨g2, 0, none⟩) n cap2 := hl 4 (by decide +kernel) 20 rfl
        have e21 : ρ (.tmp 21) = .int .i64 (k : Int) := hl 5 (by decide +kernel) 21 rfl
        refine y_val (v := .pointer (some ⟨g2, k * 2, none⟩)) ?_ rfl
        simp [execOp, go_sem, e20, e21]
        first | done | omega | (intro h; omega)
      · intro ρ wx hρ hbx hl
        have e22 : ρ (.tmp 22) = .pointer (some ⟨g2, k * 2, none⟩) := hl 6 (by decide +kernel) 22 rfl
        have k0 := (hbx.cell (p := ⟨g2, k * 2, none⟩) hgl2).trans hw2
        have k1 := (hbx.cell (p := ⟨g2, k * 2 + 1, none⟩) hgl2).trans hw3
        refine y_val (v := .agg #[.int .u64 (rev : Int), .slice sa2 m scap2]) ?_ rfl
        simp [execOp, go_sem, e22, k0, k1]
      · intro ρ wx hρ hbx hl
        have e19 : ρ (.tmp 19) = .agg #[.int .u64 (rev : Int), .slice sa m scap] := hl 3 (by decide +kernel) 19 rfl
        have e23 : ρ (.tmp 23) = .agg #[.int .u64 (rev : Int), .slice sa2 m scap2] := hl 7 (by decide +kernel) 23 rfl
        refine y_call (f := 14) (args := #[.agg #[.int .u64 (rev : Int), .slice sa m scap], .agg #[.int .u64 (rev : Int), .slice sa2 m scap2]]) (by simp [execOp, resolve, invoke, hρ.func, go_sem, e19, e23]) ?_
        refine (same_any wx rev sa sa2 m scap scap2 es (hrr.below' hbx) (hrr2.below' hbx) hmm).mono ?_
        rintro e w6 ⟨rfl, b6⟩
        exact ⟨_, rfl, rfl, b6⟩
      · intro ρ wx hρ hbx hl
        have e24 : ρ (.tmp 24) = .bool true := hl 8 (by decide +kernel) 24 rfl
        refine y_val (v := .bool false) ?_ rfl
        simp [execOp, go_sem, e24]
      intro aa wz hdef hsz hlk hbz hf
      have ha := act_of_like hdef hsz hlk [16, 17, 18, 19, 20, 21, 22, 23, 24, 25] 27 rfl (by decide +kernel)
      have e16 : aa.tmps.getD 16 undef = .slice (some ⟨g, 0, none⟩) n cap := hf 0 _ 16 rfl rfl
      have e17 : aa.tmps.getD 17 undef = .int .i64 (k : Int) := hf 1 _ 17 rfl rfl
      have e18 : aa.tmps.getD 18 undef = .pointer (some ⟨g, k * 2, none⟩) := hf 2 _ 18 rfl rfl
      have e19 : aa.tmps.getD 19 undef = .agg #[.int .u64 (rev : Int), .slice sa m scap] := hf 3 _ 19 rfl rfl
      have e20 : aa.tmps.getD 20 undef = .slice (some ⟨g2, 0, none⟩) n cap2 := hf 4 _ 20 rfl rfl
      have e21 : aa.tmps.getD 21 undef = .int .i64 (k : Int) := hf 5 _ 21 rfl rfl
      have e22 : aa.tmps.getD 22 undef = .pointer (some ⟨g2, k * 2, none⟩) := hf 6 _ 22 rfl rfl
      have e23 : aa.tmps.getD 23 undef = .agg #[.int .u64 (rev : Int), .slice sa2 m scap2] := hf 7 _ 23 rfl rfl
      have e24 : aa.tmps.getD 24 undef = .bool true := hf 8 _ 24 rfl rfl
      have e25 : aa.tmps.getD 25 undef = .bool false := hf 9 _ 25 rfl rfl
      simp only [putAll, List.foldl_cons, List.foldl_nil, e16, e17, e18, e19, e20, e21, e22, e23, e24, e25] at ha
      simp [Act.put] at ha
      subst ha
      clear hdef hsz hlk hf e16 e17 e18 e19 e20 e21 e22 e23 e24 e25
      have HB := Lib.hid (HB.out.trans (hbz.mono hbs))
      clear hbz
      go_wp2
      exact ⟨⟨k + 1, by go_num, by omega, HB.out⟩, by simp [intOf]; omega⟩
    · obtain rfl : k = n := by omega
      have hkI : ¬ ((k : Int) < k) := by omega
      go_wp2
      go_ret
      exact ⟨rfl, HB.out⟩
end Go.Proofs.YtoibhkmlebcepaaDoor
