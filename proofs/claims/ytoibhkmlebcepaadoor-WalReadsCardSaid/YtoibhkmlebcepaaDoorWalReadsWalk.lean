import Derived.Test.YtoibhkmlebcepaaDoorWalFixed
namespace Go.Proofs.YtoibhkmlebcepaaDoor
open Go Go.RowKit

theorem Sl.up {w w' : World} {v : Value} {l : List UInt8} (h : Sl w.heap.size w v l) (hb : Below w.heap.size w w') : Sl w'.heap.size w' v l := by
  rcases h.below hb with h | ⟨b, off, cap, rfl, h1, h2, h3⟩
  · exact .inl h
  · exact .inr ⟨b, off, cap, rfl, h2, h2, h3⟩

def decOut : Option (Nat × List Ent) → Nat × List Ent × Nat
  | none => (0, [], 9)
  | some (rev, es) => (rev, es, 0)

theorem dec_out {w : World} {o : Option (Nat × List Ent)} {e : Ending} {w' : World} (h : DecPost w o e w') :
    ∃ a cap, e = .returned (.tuple #[.agg #[.int .u64 ((decOut o).1 : Int), .slice a (decOut o).2.1.length cap], .int .i64 ((decOut o).2.2 : Int)]) ∧ Reads w' 3 (.slice a (decOut o).2.1.length cap) (decOut o).2.1.length (ecells (decOut o).2.1) ∧ Below w.heap.size w w' := by
  cases o with
  | none => exact ⟨none, 0, h.1, ereads_nil w', h.2⟩
  | some p =>
    obtain ⟨rev, es⟩ := p
    obtain ⟨a, cap, he, ho, hb⟩ := h
    exact ⟨a, cap, he, ownsRow.reads ho, hb⟩

theorem rep_out {w : World} {b : List UInt8} {e : Ending} {w' : World} (h : RepPost w b e w') : ∃ v, e = .returned (.tuple #[v, .int .i64 ((replGo none b).2 : Int)]) ∧ CSee w' v (replGo none b).1 ∧ Below w.heap.size w w' := by
  obtain ⟨v, he, hc, hb⟩ := h
  exact ⟨v, he, hc.see, hb⟩

set_option maxRecDepth 100000 in
set_option maxHeartbeats 2000000 in
theorem walReads_walk (w : World) (v : Value) (b : List UInt8) (hs : Sl w.heap.size w v b) (hst : Steps w) :
    Calls Tryd.prog 4 #[v] w (SaysTrue w) := by
  obtain ⟨va, vcap, rfl⟩ := hs.form
  obtain ⟨_, _, hv, hc1, hc2⟩ := hs.reads.le
  cases hv
  unfold maxLen at hc2
  have HS := Lib.hid hs
  have ST := Lib.hid hst
  clear hs hst
  go_enter Tryd.func4, Tryd.ntmps4
  go_wp2_with (go_at_call 7; go_must (refine (wal_fixed w ST.out).mono ?_))
  rintro e w1 ⟨rfl, b1⟩
  have HB := Lib.hid b1
  replace HS := Lib.hid (HS.out.up b1)
  replace ST := Lib.hid (ST.out.below b1)
  clear b1
  by_cases hn : b.length ≤ 3000
  · have hnI : ¬ (3000 : Int) < b.length := by omega
    have hd1 := fun w' (h : Sl w'.heap.size w' (.slice va b.length vcap) b) => decode_any w' _ b h (by omega)
    have hd2 := fun w' (h : Sl w'.heap.size w' (.slice va b.length vcap) b) => refdecode_any w' _ b h (by omega)
    have hr1 := fun w' (h : Sl w'.heap.size w' (.slice va b.length vcap) b) hst => replay_any w' _ b h (by omega) hst
    have hr2 := fun w' (h : Sl w'.heap.size w' (.slice va b.length vcap) b) => refreplay_any w' _ b h (by omega)
    have HD1 := Lib.hid hd1
    have HD2 := Lib.hid hd2
    have HR1 := Lib.hid hr1
    have HR2 := Lib.hid hr2
    clear hd1 hd2 hr1 hr2
    go_wp2_with (go_at_call 13; go_must (refine (HD1.out _ HS.out).mono ?_))
    intro e w2 hp
    obtain ⟨a1, cap1, rfl, r1, b2⟩ := dec_out hp
    have HQ1 := Lib.hid r1
    clear hp r1 HD1
    replace HS := Lib.hid (HS.out.up b2)
    replace HB := Lib.hid (HB.out.trans (b2.mono HB.out.size))
    replace ST := Lib.hid (ST.out.below b2)
    clear b2
    generalize hrev : (decOut (decL b)).1 = rev at *
    generalize hes : (decOut (decL b)).2.1 = es at *
    generalize her : (decOut (decL b)).2.2 = er at *
    have b3 := (Below.refl w2.heap.size w2).alloc (Nat.le_refl _) (.cells #[.int .u64 (rev : Int), .slice a1 es.length cap1] 25)
    have g3 := heap_alloc_new w2 (.cells #[.int .u64 (rev : Int), .slice a1 es.length cap1] 25)
    replace HS := Lib.hid (HS.out.up b3)
    have HG := Lib.hid g3
    clear g3
    replace HB := Lib.hid (HB.out.trans (b3.mono HB.out.size))
    replace ST := Lib.hid (ST.out.below b3)
    replace HQ1 := Lib.hid (HQ1.out.below' b3)
    clear b3
    go_wp2_with fail
    generalize w2.alloc (.cells #[.int .u64 (rev : Int), .slice a1 es.length cap1] 25) = w3 at *
    generalize w2.heap.size = p1 at *
    go_wp2_with (go_at_call 15; go_must (refine (HD2.out _ HS.out).mono ?_))
    intro e w4 hp
    obtain ⟨a2, cap2, rfl, r2, b4⟩ := dec_out hp
    rw [hrev, hes, her] at *
    have HQ2 := Lib.hid r2
    clear hp r2 HD2 hrev hes her
    replace HS := Lib.hid (HS.out.up b4)
    replace HB := Lib.hid (HB.out.trans (b4.mono HB.out.size))
    replace ST := Lib.hid (ST.out.below b4)
    replace HQ1 := Lib.hid (HQ1.out.below' b4)
    replace HG := Lib.hid (below_block b4 HG.out (Array.getElem?_eq_some_iff.1 HG.out).1)
    clear b4
    have b5 := (Below.refl w4.heap.size w4).alloc (Nat.le_refl _) (.cells #[.int .u64 (rev : Int), .slice a2 es.length cap2] 25)
    have g5 := heap_alloc_new w4 (.cells #[.int .u64 (rev : Int), .slice a2 es.length cap2] 25)
    replace HS := Lib.hid (HS.out.up b5)
    have HH := Lib.hid g5
    clear g5
    replace HB := Lib.hid (HB.out.trans (b5.mono HB.out.size))
    replace ST := Lib.hid (ST.out.below b5)
    replace HQ1 := Lib.hid (HQ1.out.below' b5)
    replace HQ2 := Lib.hid (HQ2.out.below' b5)
    replace HG := Lib.hid (below_block b5 HG.out (Array.getElem?_eq_some_iff.1 HG.out).1)
    clear b5
    go_wp2_with fail
    generalize w4.alloc (.cells #[.int .u64 (rev : Int), .slice a2 es.length cap2] 25) = w5 at *
    generalize w4.heap.size = p2 at *
    go_wp2_with (go_at_call 16; go_must (refine (HR1.out _ HS.out ST.out).mono ?_))
    intro e w6 hp
    obtain ⟨v6, rfl, s6, b6⟩ := rep_out hp
    have HC6 := Lib.hid s6
    clear hp s6 HR1
    replace HS := Lib.hid (HS.out.up b6)
    replace HB := Lib.hid (HB.out.trans (b6.mono HB.out.size))
    replace ST := Lib.hid (ST.out.below b6)
    replace HQ1 := Lib.hid (HQ1.out.below' b6)
    replace HQ2 := Lib.hid (HQ2.out.below' b6)
    replace HG := Lib.hid (below_block b6 HG.out (Array.getElem?_eq_some_iff.1 HG.out).1)
    replace HH := Lib.hid (below_block b6 HH.out (Array.getElem?_eq_some_iff.1 HH.out).1)
    clear b6
    go_wp2_with (go_at_call 17; go_must (refine (HR2.out _ HS.out).mono ?_))
    intro e w7 hp
    obtain ⟨v7, rfl, s7, b7⟩ := rep_out hp
    have HC7 := Lib.hid s7
    clear hp s7 HR2
    replace HC6 := Lib.hid (HC6.out.below b7)
    replace HB := Lib.hid (HB.out.trans (b7.mono HB.out.size))
    replace HQ1 := Lib.hid (HQ1.out.below' b7)
    replace HQ2 := Lib.hid (HQ2.out.below' b7)
    replace HG := Lib.hid (below_block b7 HG.out (Array.getElem?_eq_some_iff.1 HG.out).1)
    replace HH := Lib.hid (below_block b7 HH.out (Array.getElem?_eq_some_iff.1 HH.out).1)
    clear b7
    have q0 := Lib.cell_of_heap HG.out 0
    have q1 := Lib.cell_of_heap HG.out 1
    have d0 := Lib.cell_of_heap HH.out 0
    have d1 := Lib.cell_of_heap HH.out 1
    simp at q0 q1 d0 d1
    have hq := (Array.getElem?_eq_some_iff.1 HG.out).1
    have hd := (Array.getElem?_eq_some_iff.1 HH.out).1
    generalize (replGo none b).1 = cs at *
    generalize (replGo none b).2 = rn at *
    have hsm := same_any w7 rev a1 a2 es.length cap1 cap2 es HQ1.out HQ2.out rfl
    have HSm := Lib.hid hsm
    clear hsm
    go_wp2_with (go_at_call 14; go_must (refine HSm.out.mono ?_))
    rintro e w8 ⟨rfl, b8⟩
    have hsa := sameall_any w8 v6 v7 cs (HC6.out.below b8) (HC7.out.below b8)
    have HSa := Lib.hid hsa
    replace HB := Lib.hid (HB.out.trans (b8.mono HB.out.size))
    clear b8
    clear hsa q0 q1 d0 d1 HSm HC6 HC7 HG HH HQ1 HQ2
    go_wp2_with (go_at_call 18; go_must (refine HSa.out.mono ?_))
    rintro e w9 ⟨rfl, b9⟩
    replace HB := Lib.hid (HB.out.trans (b9.mono HB.out.size))
    clear b9
    go_wp2
    go_ret
    exact ⟨rfl, HB.out⟩
  · have hnI : (3000 : Int) < b.length := by omega
    go_wp2
    go_ret
    exact ⟨rfl, HB.out⟩
end Go.Proofs.YtoibhkmlebcepaaDoor
