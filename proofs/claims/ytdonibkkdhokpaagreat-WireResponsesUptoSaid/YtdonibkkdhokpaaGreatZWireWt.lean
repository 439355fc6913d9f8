/- The writer's rules and nodes, of any depth (written by gen_wirewt.py). -/
import Derived.Test.YtdonibkkdhokpaaGreatZWireWt0
namespace Go.Proofs.YtdonibkkdhokpaaGreat
open Go Go.RowKit

set_option maxRecDepth 100000 in
set_option maxHeartbeats 2000000 in
theorem wputSubs_any (w : World) (B g : Nat) (l : List UInt8) (d : Int) (a : Option Addr) (n cap : Nat) (xs : List T3) (h : WAt B w g l d false) (hB : B ≤ w.heap.size) (hkl : xs.length = n) (hr : ∀ W, Below B w W → Reads W 3 (.slice a n cap) n (xs.flatMap T3.cells)) (hl : l.length + (listB t3B xs).length ≤ 1000000000) (hn : n ≤ 20000000) :
    Calls Tryz.prog 93 #[.pointer (some ⟨g, 0, none⟩), .slice a n cap, .func (.func 87) #[.pointer (some ⟨g, 0, none⟩)] #[]] w (WPost B w g (l ++ listB t3B xs) d false) := by
  obtain ⟨_, _, hv, hc1, hc2⟩ := (hr w (Below.refl _ _)).le
  cases hv
  unfold maxLen at hc2
  have hen : ∀ (args : Array Value) (w : World), (callFunc 87 args).run Tryz.prog w = .ok (.enter 87 args) w := fun _ _ => by kernel_rfl
  have hw0 : IntKind.u64.wrap (n : Int) = (n : Int) := by rw [IntKind.wrap_u64]; omega
  have heq : l ++ listB t3B xs = l ++ enc n ++ xs.flatMap t3B := by unfold listB; rw [hkl, List.append_assoc]
  have hlen := congrArg List.length heq
  simp only [List.length_append] at hlen
  obtain ⟨FIN, hF⟩ : ∃ FIN, l ++ listB t3B xs = FIN := ⟨_, rfl⟩
  rw [hF] at heq ⊢
  have HNum := Lib.hid (wnumber_any w B g l d false n h hB (by omega) (by omega))
  have HR := Lib.hid hr
  have HL := Lib.hid hkl
  clear h hr hkl hF
  go_enter Tryz.func93, Tryz.ntmps93
  go_wp2_with (go_at_call 17; go_must (refine HNum.out.mono ?_))
  rintro e w1 ⟨rfl, hw1, hb1, hk1⟩
  obtain ⟨L, hL⟩ : ∃ L, l ++ enc n = L := ⟨_, rfl⟩
  have hLl : L.length + (xs.flatMap t3B).length ≤ 1000000000 := by rw [← hL, List.length_append]; omega
  rw [hL] at hw1 heq
  have HF := Lib.hid heq
  have HW1 := Lib.hid hw1
  have HB1 := Lib.hid hb1
  have HK1 := Lib.hid hk1
  clear hw1 hb1 hk1 HNum hlen hL hl heq
  go_wp2
  go_loopw [15] (fun v wr => PLRel t3B B w g L d xs v wr) (fun v _ => n - (intOf v).toNat)
  case atStart => exact ⟨0, rfl, Nat.zero_le _, by simpa using HW1.out, HB1.out, HK1.out⟩
  case round =>
    obtain ⟨i, rfl, hin, hw, hb, hk⟩ := hrel
    rw [HL.out] at hin
    clear HW1 HB1 HK1
    by_cases hlt : i < n
    · have hltI : (i : Int) < n := by omega
      obtain ⟨x, hx⟩ : ∃ x, xs[i]? = some x := ⟨xs[i]'(by rw [HL.out]; exact hlt), List.getElem?_eq_getElem _⟩
      obtain ⟨b, off, rfl, hb2, hcs⟩ := rows_at T3.cells 3 (fun _ => rfl) (HR.out wr hb) hx (by decide)
      have k0 := hcs 0 _ rfl
      have k1 := hcs 1 _ rfl
      have k2 := hcs 2 _ rfl
      simp only [Nat.add_zero] at k0
      have hne := flat_next t3B hx
      have htk := flat_take t3B xs (i + 1)
      rw [hne, List.length_append] at htk
      have hxm := List.mem_of_getElem? hx
      obtain ⟨c, hc⟩ : ∃ c, L ++ (xs.take i).flatMap t3B = c := ⟨_, rfl⟩
      have hcl : c.length + (t3B x).length ≤ 1000000000 := by rw [← hc, List.length_append]; omega
      have hfin : L ++ (xs.take (i + 1)).flatMap t3B = c ++ t3B x := by rw [hne, ← hc, List.append_assoc]
      rw [hc] at hw
      have hwB : B ≤ wr.heap.size := Nat.le_trans hB hb.size
      have hba : Below wr.heap.size wr (wr.alloc (.cells #[.string x.a, .string x.b, .string x.c] 60)) := (Below.refl _ _).alloc (Nat.le_refl _) _
      have hbx : (wr.alloc (.cells #[.string x.a, .string x.b, .string x.c] 60)).heap[wr.heap.size]? = some (.cells #[.string x.a, .string x.b, .string x.c] 60 (0, 0)) := heap_alloc_new _ _
      have hdeep : (wr.alloc (.cells #[.string x.a, .string x.b, .string x.c] 60)).cell? ⟨g, 2, none⟩ = some (.bool false) := by
        obtain ⟨_, _, q1, _, _⟩ := hw.below hba
        have := Lib.cell_of_heap q1 2
        simpa using this
      have hg := (hw.below hba).lt
      have HW2 := Lib.hid (hw.below hba)
      have HB2 := Lib.hid (hb.trans (hba.mono hwB))
      have HK2 := Lib.hid (hk.trans (KeepW.of_below (g := g) hba))
      have HBx := Lib.hid hbx
      have HFn := Lib.hid hfin
      have hc2' := hcl
      clear hw hb hk hba hbx hfin hne htk hx hc hcs
      go_upto_region 4 with fail
      generalize wr.alloc (.cells #[.string x.a, .string x.b, .string x.c] 60) = w2 at *
      have x0 := Lib.cell_of_heap HBx.out 0
      have x1 := Lib.cell_of_heap HBx.out 1
      have x2 := Lib.cell_of_heap HBx.out 2
      simp at x0 x1 x2
      have hbl : wr.heap.size < w2.heap.size := (Array.getElem?_eq_some_iff.1 HBx.out).1
      have HIt := Lib.hid (wsub_t3 w2 B g c d false x HW2.out (Nat.le_trans hwB (Nat.le_of_lt hbl)) (by omega))
      go_wp2_with (go_at_call 87; go_must (refine HIt.out.mono ?_))
      rintro e w3 ⟨rfl, hw3, hb3, hk3⟩
      have HW3 := Lib.hid hw3
      have HB3 := Lib.hid (HB2.out.trans hb3)
      have HK3 := Lib.hid (HK2.out.trans hk3)
      clear hw3 hb3 hk3 HIt
      go_wp2
      exact ⟨⟨i + 1, by go_num, by rw [HL.out]; omega, by rw [HFn.out]; exact HW3.out, HB3.out, HK3.out⟩, by simp [intOf]; omega⟩
    · obtain rfl : i = n := by omega
      have hltI : ¬ (i : Int) < i := by omega
      rw [List.take_of_length_le (by rw [HL.out]; exact Nat.le_refl _), ← HF.out] at hw
      have HWf := Lib.hid hw
      have HBf := Lib.hid hb
      have HKf := Lib.hid hk
      clear hw hb hk
      go_wp2
      go_end0
      exact ⟨rfl, HWf.out, HBf.out, HKf.out⟩

/-- What is told of a rule of which one call is made. -/
def WRuOk (n : Nat) : Prop := ∀ (h : RuH) (ps : List (Tr RuH)), (Tr.mk h ps).depth ≤ n → (Tr.mk h ps).all ruIn → ∀ (w : World) (B g : Nat) (l : List UInt8) (d : Int) (a : Option Addr) (cap : Nat), WAt B w g l d false → B ≤ w.heap.size → ps.length ≤ cap → cap ≤ maxLen → TrsAt ruHd (· < B) 4 w a 0 ps →
  l.length + ((Tr.mk h ps).bytes ruB).length ≤ 1000000000 → 0 ≤ d → d ≤ 64 →
    Calls Tryz.prog 89 #[.pointer (some ⟨g, 0, none⟩), .agg #[.int .i64 h.kind, .string h.a, .string h.b, .slice a ps.length cap]] w (WSPost B w g (l ++ (Tr.mk h ps).bytes ruB) d (fit d (Tr.mk h ps)))

theorem trRu_open {ok : Nat → Prop} {w : World} {cs : List Value} {h : RuH} {ps : List (Tr RuH)} (k : TrAt ruHd ok 4 w cs (.mk h ps)) : ∃ a cap, cs = [.int .i64 h.kind, .string h.a, .string h.b, .slice a ps.length cap] ∧ ps.length ≤ cap ∧ cap ≤ maxLen ∧ TrsAt ruHd ok 4 w a 0 ps := by
  rw [TrAt] at k
  obtain ⟨hc, a, cap, rfl, _, h3, h4, h5, h6⟩ := k
  exact ⟨a, cap, by rw [h3]; rfl, h4, h5, h6⟩

set_option maxRecDepth 100000 in
set_option maxHeartbeats 4000000 in
theorem wputRus_any (n : Nat) (ih : WRuOk n) (w : World) (B g : Nat) (l : List UInt8) (d : Int) (a : Option Addr) (m cap : Nat) (ps : List (Tr RuH)) (h : WAt B w g l d false) (hB : B ≤ w.heap.size) (hps : ∀ p ∈ ps, p.depth ≤ n ∧ p.all ruIn) (hr : TrsAt ruHd (· < B) 4 w a 0 ps) (hkl : ps.length = m) (hcap : m ≤ cap) (hl : l.length + (listB (Tr.bytes ruB) ps).length ≤ 1000000000) (hn : m ≤ 1000000000) (hd0 : 0 ≤ d) (hd1 : d ≤ 64) :
    Calls Tryz.prog 111 #[.pointer (some ⟨g, 0, none⟩), .slice a m cap, .func (.func 89) #[.pointer (some ⟨g, 0, none⟩)] #[]] w (WSPost B w g (l ++ listB (Tr.bytes ruB) ps) d (ps.all (fit d))) := by
  have hen : ∀ (args : Array Value) (w : World), (callFunc 89 args).run Tryz.prog w = .ok (.enter 89 args) w := fun _ _ => by kernel_rfl
  have hw0 : IntKind.u64.wrap (m : Int) = (m : Int) := by rw [IntKind.wrap_u64]; omega
  obtain ⟨f, hf⟩ : ∃ f, Tr.bytes ruB = f := ⟨_, rfl⟩
  have Hf := Lib.hid hf
  rw [hf] at hl ⊢
  have heq : l ++ listB f ps = l ++ enc m ++ ps.flatMap f := by unfold listB; rw [hkl, List.append_assoc]
  have hlen := congrArg List.length heq
  simp only [List.length_append] at hlen
  obtain ⟨FIN, hF⟩ : ∃ FIN, l ++ listB f ps = FIN := ⟨_, rfl⟩
  rw [hF] at heq ⊢
  obtain ⟨RES, hR⟩ : ∃ R, ps.all (fit d) = R := ⟨_, rfl⟩
  rw [hR]
  have HNum := Lib.hid (wnumber_any w B g l d false m h hB (by omega) (by omega))
  have HR := Lib.hid hr
  have HL := Lib.hid hkl
  have HRes := Lib.hid hR
  have HIh := Lib.hid ih
  have HPs := Lib.hid hps
  clear h hr hkl hF hR ih hps hf
  go_enter Tryz.func111, Tryz.ntmps111
  go_wp2_with (go_at_call 17; go_must (refine HNum.out.mono ?_))
  rintro e w1 ⟨rfl, hw1, hb1, hk1⟩
  obtain ⟨L, hL⟩ : ∃ L, l ++ enc m = L := ⟨_, rfl⟩
  have hLl : L.length + (ps.flatMap f).length ≤ 1000000000 := by rw [← hL, List.length_append]; omega
  rw [hL] at hw1 heq
  have HF := Lib.hid heq
  have HW1 := Lib.hid hw1
  have HB1 := Lib.hid hb1
  have HK1 := Lib.hid hk1
  clear hw1 hb1 hk1 HNum hlen hL hl heq
  go_wp2
  go_loopw [15] (fun v wr => TLRel f B w g L d ps v wr) (fun v _ => m - (intOf v).toNat)
  case atStart => exact ⟨0, rfl, Nat.zero_le _, WS.yes (by simpa using HW1.out), HB1.out, HK1.out⟩
  case round =>
    obtain ⟨i, rfl, hin, hw, hb, hk⟩ := hrel
    rw [HL.out] at hin
    clear HW1 HB1 HK1
    by_cases hlt : i < m
    · have hltI : (i : Int) < m := by omega
      obtain ⟨x, hx⟩ : ∃ x, ps[i]? = some x := ⟨ps[i]'(by rw [HL.out]; exact hlt), List.getElem?_eq_getElem _⟩
      obtain ⟨b, off, cs, rfl, hbB, hbl, hcl, hcs, htr⟩ := (TrsAt.keep (Keeps.of_below hb) (ruHd_keep (Keeps.of_below hb)) ps HR.out).get hx
      have hxm := List.mem_of_getElem? hx
      obtain ⟨xh, xp⟩ := x
      obtain ⟨xa, xcap, rfl, hxc1, hxc2, hxt⟩ := trRu_open htr
      clear hcl htr
      have k0 := hcs 0 _ rfl
      have k1 := hcs 1 _ rfl
      have k2 := hcs 2 _ rfl
      have k3 := hcs 3 _ rfl
      simp only [Nat.zero_add, Nat.add_zero] at k0 k1 k2 k3
      have hne := flat_next f hx
      have htk := flat_take f ps (i + 1)
      rw [hne, List.length_append] at htk
      obtain ⟨c, hc⟩ : ∃ c, L ++ (ps.take i).flatMap f = c := ⟨_, rfl⟩
      have hcl : c.length + (f (Tr.mk xh xp)).length ≤ 1000000000 := by rw [← hc, List.length_append]; omega
      have hfin : L ++ (ps.take (i + 1)).flatMap f = c ++ f (Tr.mk xh xp) := by rw [hne, ← hc, List.append_assoc]
      have hal : (ps.take (i + 1)).all (fit d) = ((ps.take i).all (fit d) && fit d (Tr.mk xh xp)) := by rw [List.take_add_one, hx]; simp
      have hcf : c.length ≤ FIN.length := by
        have := flat_take f ps i
        rw [HF.out, ← hc, List.length_append, List.length_append]
        omega
      rw [hc] at hw
      have hwB : B ≤ wr.heap.size := Nat.le_trans hB hb.size
      have hba : Below wr.heap.size wr (wr.alloc (.cells #[.int .i64 xh.kind, .string xh.a, .string xh.b, .slice xa xp.length xcap] 71)) := (Below.refl _ _).alloc (Nat.le_refl _) _
      have hbx : (wr.alloc (.cells #[.int .i64 xh.kind, .string xh.a, .string xh.b, .slice xa xp.length xcap] 71)).heap[wr.heap.size]? = some (.cells #[.int .i64 xh.kind, .string xh.a, .string xh.b, .slice xa xp.length xcap] 71 (0, 0)) := heap_alloc_new _ _
      have HB2 := Lib.hid (hb.trans (hba.mono hwB))
      have HK2 := Lib.hid (hk.trans (KeepW.of_below (g := g) hba))
      have HBx := Lib.hid hbx
      have HFn := Lib.hid hfin
      have HAl := Lib.hid hal
      have hbaB := hba.mono hwB
      have HXt := Lib.hid (TrsAt.keep (Keeps.of_below hbaB) (ruHd_keep (Keeps.of_below hbaB)) xp hxt)

      rcases hw with ⟨ht, hw⟩ | ⟨hf, l', hl', hw⟩
      · have hdeep : (wr.alloc (.cells #[.int .i64 xh.kind, .string xh.a, .string xh.b, .slice xa xp.length xcap] 71)).cell? ⟨g, 2, none⟩ = some (.bool false) := by
          obtain ⟨_, _, q1, _, _⟩ := hw.below hba
          have := Lib.cell_of_heap q1 2
          simpa using this
        have hg := (hw.below hba).lt
        have HW2 := Lib.hid (hw.below hba)
        have HIt0 := Lib.hid (HIh.out xh xp (HPs.out _ hxm).1 (HPs.out _ hxm).2)
        have HTk := Lib.hid ht
        rw [← Hf.out] at hcl
        have hcl2 := hcl
        clear hw hb hk hba hbaB hbx hfin hne htk hx hc hcs hal ht hxt
        go_upto_region 4 with fail
        generalize wr.alloc (.cells #[.int .i64 xh.kind, .string xh.a, .string xh.b, .slice xa xp.length xcap] 71) = w2 at *
        have x0 := Lib.cell_of_heap HBx.out 0
        have x1 := Lib.cell_of_heap HBx.out 1
        have x2 := Lib.cell_of_heap HBx.out 2
        have x3 := Lib.cell_of_heap HBx.out 3
        simp at x0 x1 x2 x3
        have hbl2 : wr.heap.size < w2.heap.size := (Array.getElem?_eq_some_iff.1 HBx.out).1
        have HIt := Lib.hid (HIt0.out w2 B g c d xa xcap HW2.out (Nat.le_trans hwB (Nat.le_of_lt hbl2)) hxc1 hxc2 HXt.out hcl2 hd0 hd1)
        rw [Hf.out] at HIt
        go_wp2_with (go_at_call 89; go_must (refine HIt.out.mono ?_))
        rintro e w3 ⟨rfl, hw3, hb3, hk3⟩
        have HW3 := Lib.hid hw3
        have HB3 := Lib.hid (HB2.out.trans hb3)
        have HK3 := Lib.hid (HK2.out.trans hk3)
        clear hw3 hb3 hk3 HIt HIt0
        go_wp2
        exact ⟨⟨i + 1, by go_num, by rw [HL.out]; omega, by rw [HFn.out, HAl.out, HTk.out, Bool.true_and]; exact HW3.out, HB3.out, HK3.out⟩, by simp [intOf]; omega⟩
      · have hdeep : (wr.alloc (.cells #[.int .i64 xh.kind, .string xh.a, .string xh.b, .slice xa xp.length xcap] 71)).cell? ⟨g, 2, none⟩ = some (.bool true) := by
          obtain ⟨_, _, q1, _, _⟩ := hw.below hba
          have := Lib.cell_of_heap q1 2
          simpa using this
        have hg := (hw.below hba).lt
        have hres : RES = false := by
          rw [← HRes.out, List.all_eq_false]
          obtain ⟨y, hy, hyf⟩ := List.all_eq_false.1 hf
          exact ⟨y, List.mem_of_mem_take hy, hyf⟩
        subst hres
        have HWz := Lib.hid (show WS B (wr.alloc (.cells #[.int .i64 xh.kind, .string xh.a, .string xh.b, .slice xa xp.length xcap] 71)) g FIN d false from .inr ⟨rfl, l', Nat.le_trans hl' hcf, hw.below hba⟩)
        clear hw hb hk hba hbaB hbx hfin hne htk hx hc hcs hal hxt hl' hf HXt
        go_upto_region 4 with fail
        generalize wr.alloc (.cells #[.int .i64 xh.kind, .string xh.a, .string xh.b, .slice xa xp.length xcap] 71) = w2 at *
        go_wp2
        go_end0
        exact ⟨rfl, HWz.out, HB2.out, HK2.out⟩
    · obtain rfl : i = m := by omega
      have hltI : ¬ (i : Int) < i := by omega
      rw [List.take_of_length_le (by rw [HL.out]; exact Nat.le_refl _), ← HF.out, HRes.out] at hw
      have HWf := Lib.hid hw
      have HBf := Lib.hid hb
      have HKf := Lib.hid hk
      clear hw hb hk
      go_wp2
      go_end0
      exact ⟨rfl, HWf.out, HBf.out, HKf.out⟩

/-- What is told of a node of which one call is made. -/
def WNoOk (n : Nat) : Prop := ∀ (h : NoH) (ps : List (Tr NoH)), (Tr.mk h ps).depth ≤ n → (Tr.mk h ps).all noIn → ∀ (w : World) (B g : Nat) (l : List UInt8) (d : Int) (a : Option Addr) (cap : Nat) (sa : Option Addr) (sc : Nat), WAt B w g l d false → B ≤ w.heap.size → ps.length ≤ cap → cap ≤ maxLen → TrsAt noHd (· < B) 6 w a 0 ps → RowsAt (· < B) w (.slice sa h.subs.length sc) h.subs.length (h.subs.flatMap T3.cells) →
  l.length + ((Tr.mk h ps).bytes noB).length ≤ 1000000000 → 0 ≤ d → d ≤ 64 →
    Calls Tryz.prog 30 #[.pointer (some ⟨g, 0, none⟩), .agg #[.int .i64 h.kind, .string h.o, .string h.i, .string h.rel, .slice sa h.subs.length sc, .slice a ps.length cap]] w (WSPost B w g (l ++ (Tr.mk h ps).bytes noB) d (fit d (Tr.mk h ps)))

theorem trNo_open {ok : Nat → Prop} {w : World} {cs : List Value} {h : NoH} {ps : List (Tr NoH)} (k : TrAt noHd ok 6 w cs (.mk h ps)) : ∃ a cap sa sc, cs = [.int .i64 h.kind, .string h.o, .string h.i, .string h.rel, .slice sa h.subs.length sc, .slice a ps.length cap] ∧ ps.length ≤ cap ∧ cap ≤ maxLen ∧ TrsAt noHd ok 6 w a 0 ps ∧ RowsAt ok w (.slice sa h.subs.length sc) h.subs.length (h.subs.flatMap T3.cells) := by
  rw [TrAt] at k
  obtain ⟨hc, a, cap, rfl, _, h3, h4, h5, h6⟩ := k
  obtain ⟨sv, rfl, h7⟩ := h3
  have h8 := h7
  obtain ⟨sa, sc, rfl, _, _, _⟩ := h8
  exact ⟨a, cap, sa, sc, rfl, h4, h5, h6, h7⟩

set_option maxRecDepth 100000 in
set_option maxHeartbeats 4000000 in
theorem wputNos_any (n : Nat) (ih : WNoOk n) (w : World) (B g : Nat) (l : List UInt8) (d : Int) (a : Option Addr) (m cap : Nat) (ps : List (Tr NoH)) (h : WAt B w g l d false) (hB : B ≤ w.heap.size) (hps : ∀ p ∈ ps, p.depth ≤ n ∧ p.all noIn) (hr : TrsAt noHd (· < B) 6 w a 0 ps) (hkl : ps.length = m) (hcap : m ≤ cap) (hl : l.length + (listB (Tr.bytes noB) ps).length ≤ 1000000000) (hn : m ≤ 1000000000) (hd0 : 0 ≤ d) (hd1 : d ≤ 64) :
    Calls Tryz.prog 94 #[.pointer (some ⟨g, 0, none⟩), .slice a m cap, .func (.func 30) #[.pointer (some ⟨g, 0, none⟩)] #[]] w (WSPost B w g (l ++ listB (Tr.bytes noB) ps) d (ps.all (fit d))) := by
  have hen : ∀ (args : Array Value) (w : World), (callFunc 30 args).run Tryz.prog w = .ok (.enter 30 args) w := fun _ _ => by kernel_rfl
  have hw0 : IntKind.u64.wrap (m : Int) = (m : Int) := by rw [IntKind.wrap_u64]; omega
  obtain ⟨f, hf⟩ : ∃ f, Tr.bytes noB = f := ⟨_, rfl⟩
  have Hf := Lib.hid hf
  rw [hf] at hl ⊢
  have heq : l ++ listB f ps = l ++ enc m ++ ps.flatMap f := by unfold listB; rw [hkl, List.append_assoc]
  have hlen := congrArg List.length heq
  simp only [List.length_append] at hlen
  obtain ⟨FIN, hF⟩ : ∃ FIN, l ++ listB f ps = FIN := ⟨_, rfl⟩
  rw [hF] at heq ⊢
  obtain ⟨RES, hR⟩ : ∃ R, ps.all (fit d) = R := ⟨_, rfl⟩
  rw [hR]
  have HNum := Lib.hid (wnumber_any w B g l d false m h hB (by omega) (by omega))
  have HR := Lib.hid hr
  have HL := Lib.hid hkl
  have HRes := Lib.hid hR
  have HIh := Lib.hid ih
  have HPs := Lib.hid hps
  clear h hr hkl hF hR ih hps hf
  go_enter Tryz.func94, Tryz.ntmps94
  go_wp2_with (go_at_call 17; go_must (refine HNum.out.mono ?_))
  rintro e w1 ⟨rfl, hw1, hb1, hk1⟩
  obtain ⟨L, hL⟩ : ∃ L, l ++ enc m = L := ⟨_, rfl⟩
  have hLl : L.length + (ps.flatMap f).length ≤ 1000000000 := by rw [← hL, List.length_append]; omega
  rw [hL] at hw1 heq
  have HF := Lib.hid heq
  have HW1 := Lib.hid hw1
  have HB1 := Lib.hid hb1
  have HK1 := Lib.hid hk1
  clear hw1 hb1 hk1 HNum hlen hL hl heq
  go_wp2
  go_loopw [15] (fun v wr => TLRel f B w g L d ps v wr) (fun v _ => m - (intOf v).toNat)
  case atStart => exact ⟨0, rfl, Nat.zero_le _, WS.yes (by simpa using HW1.out), HB1.out, HK1.out⟩
  case round =>
    obtain ⟨i, rfl, hin, hw, hb, hk⟩ := hrel
    rw [HL.out] at hin
    clear HW1 HB1 HK1
    by_cases hlt : i < m
    · have hltI : (i : Int) < m := by omega
      obtain ⟨x, hx⟩ : ∃ x, ps[i]? = some x := ⟨ps[i]'(by rw [HL.out]; exact hlt), List.getElem?_eq_getElem _⟩
      obtain ⟨b, off, cs, rfl, hbB, hbl, hcl, hcs, htr⟩ := (TrsAt.keep (Keeps.of_below hb) (noHd_keep (Keeps.of_below hb)) ps HR.out).get hx
      have hxm := List.mem_of_getElem? hx
      obtain ⟨xh, xp⟩ := x
      obtain ⟨xa, xcap, xsa, xsc, rfl, hxc1, hxc2, hxt, hxs⟩ := trNo_open htr
      clear hcl htr
      have k0 := hcs 0 _ rfl
      have k1 := hcs 1 _ rfl
      have k2 := hcs 2 _ rfl
      have k3 := hcs 3 _ rfl
      have k4 := hcs 4 _ rfl
      have k5 := hcs 5 _ rfl
      simp only [Nat.zero_add, Nat.add_zero] at k0 k1 k2 k3 k4 k5
      have hne := flat_next f hx
      have htk := flat_take f ps (i + 1)
      rw [hne, List.length_append] at htk
      obtain ⟨c, hc⟩ : ∃ c, L ++ (ps.take i).flatMap f = c := ⟨_, rfl⟩
      have hcl : c.length + (f (Tr.mk xh xp)).length ≤ 1000000000 := by rw [← hc, List.length_append]; omega
      have hfin : L ++ (ps.take (i + 1)).flatMap f = c ++ f (Tr.mk xh xp) := by rw [hne, ← hc, List.append_assoc]
      have hal : (ps.take (i + 1)).all (fit d) = ((ps.take i).all (fit d) && fit d (Tr.mk xh xp)) := by rw [List.take_add_one, hx]; simp
      have hcf : c.length ≤ FIN.length := by
        have := flat_take f ps i
        rw [HF.out, ← hc, List.length_append, List.length_append]
        omega
      rw [hc] at hw
      have hwB : B ≤ wr.heap.size := Nat.le_trans hB hb.size
      have hba : Below wr.heap.size wr (wr.alloc (.cells #[.int .i64 xh.kind, .string xh.o, .string xh.i, .string xh.rel, .slice xsa xh.subs.length xsc, .slice xa xp.length xcap] 34)) := (Below.refl _ _).alloc (Nat.le_refl _) _
      have hbx : (wr.alloc (.cells #[.int .i64 xh.kind, .string xh.o, .string xh.i, .string xh.rel, .slice xsa xh.subs.length xsc, .slice xa xp.length xcap] 34)).heap[wr.heap.size]? = some (.cells #[.int .i64 xh.kind, .string xh.o, .string xh.i, .string xh.rel, .slice xsa xh.subs.length xsc, .slice xa xp.length xcap] 34 (0, 0)) := heap_alloc_new _ _
      have HB2 := Lib.hid (hb.trans (hba.mono hwB))
      have HK2 := Lib.hid (hk.trans (KeepW.of_below (g := g) hba))
      have HBx := Lib.hid hbx
      have HFn := Lib.hid hfin
      have HAl := Lib.hid hal
      have hbaB := hba.mono hwB
      have HXt := Lib.hid (TrsAt.keep (Keeps.of_below hbaB) (noHd_keep (Keeps.of_below hbaB)) xp hxt)
      have HXs := Lib.hid ((hxs.keep (Keeps.of_below hbaB)))
      rcases hw with ⟨ht, hw⟩ | ⟨hf, l', hl', hw⟩
      · have hdeep : (wr.alloc (.cells #[.int .i64 xh.kind, .string xh.o, .string xh.i, .string xh.rel, .slice xsa xh.subs.length xsc, .slice xa xp.length xcap] 34)).cell? ⟨g, 2, none⟩ = some (.bool false) := by
          obtain ⟨_, _, q1, _, _⟩ := hw.below hba
          have := Lib.cell_of_heap q1 2
          simpa using this
        have hg := (hw.below hba).lt
        have HW2 := Lib.hid (hw.below hba)
        have HIt0 := Lib.hid (HIh.out xh xp (HPs.out _ hxm).1 (HPs.out _ hxm).2)
        have HTk := Lib.hid ht
        rw [← Hf.out] at hcl
        have hcl2 := hcl
        clear hw hb hk hba hbaB hbx hfin hne htk hx hc hcs hal ht hxt hxs
        go_upto_region 4 with fail
        generalize wr.alloc (.cells #[.int .i64 xh.kind, .string xh.o, .string xh.i, .string xh.rel, .slice xsa xh.subs.length xsc, .slice xa xp.length xcap] 34) = w2 at *
        have x0 := Lib.cell_of_heap HBx.out 0
        have x1 := Lib.cell_of_heap HBx.out 1
        have x2 := Lib.cell_of_heap HBx.out 2
        have x3 := Lib.cell_of_heap HBx.out 3
        have x4 := Lib.cell_of_heap HBx.out 4
        have x5 := Lib.cell_of_heap HBx.out 5
        simp at x0 x1 x2 x3 x4 x5
        have hbl2 : wr.heap.size < w2.heap.size := (Array.getElem?_eq_some_iff.1 HBx.out).1
        have HIt := Lib.hid (HIt0.out w2 B g c d xa xcap xsa xsc HW2.out (Nat.le_trans hwB (Nat.le_of_lt hbl2)) hxc1 hxc2 HXt.out HXs.out hcl2 hd0 hd1)
        rw [Hf.out] at HIt
        go_wp2_with (go_at_call 30; go_must (refine HIt.out.mono ?_))
        rintro e w3 ⟨rfl, hw3, hb3, hk3⟩
        have HW3 := Lib.hid hw3
        have HB3 := Lib.hid (HB2.out.trans hb3)
        have HK3 := Lib.hid (HK2.out.trans hk3)
        clear hw3 hb3 hk3 HIt HIt0
        go_wp2
        exact ⟨⟨i + 1, by go_num, by rw [HL.out]; omega, by rw [HFn.out, HAl.out, HTk.out, Bool.true_and]; exact HW3.out, HB3.out, HK3.out⟩, by simp [intOf]; omega⟩
      · have hdeep : (wr.alloc (.cells #[.int .i64 xh.kind, .string xh.o, .string xh.i, .string xh.rel, .slice xsa xh.subs.length xsc, .slice xa xp.length xcap] 34)).cell? ⟨g, 2, none⟩ = some (.bool true) := by
          obtain ⟨_, _, q1, _, _⟩ := hw.below hba
          have := Lib.cell_of_heap q1 2
          simpa using this
        have hg := (hw.below hba).lt
        have hres : RES = false := by
          rw [← HRes.out, List.all_eq_false]
          obtain ⟨y, hy, hyf⟩ := List.all_eq_false.1 hf
          exact ⟨y, List.mem_of_mem_take hy, hyf⟩
        subst hres
        have HWz := Lib.hid (show WS B (wr.alloc (.cells #[.int .i64 xh.kind, .string xh.o, .string xh.i, .string xh.rel, .slice xsa xh.subs.length xsc, .slice xa xp.length xcap] 34)) g FIN d false from .inr ⟨rfl, l', Nat.le_trans hl' hcf, hw.below hba⟩)
        clear hw hb hk hba hbaB hbx hfin hne htk hx hc hcs hal hxt hl' hf HXt hxs
        go_upto_region 4 with fail
        generalize wr.alloc (.cells #[.int .i64 xh.kind, .string xh.o, .string xh.i, .string xh.rel, .slice xsa xh.subs.length xsc, .slice xa xp.length xcap] 34) = w2 at *
        go_wp2
        go_end0
        exact ⟨rfl, HWz.out, HB2.out, HK2.out⟩
    · obtain rfl : i = m := by omega
      have hltI : ¬ (i : Int) < i := by omega
      rw [List.take_of_length_le (by rw [HL.out]; exact Nat.le_refl _), ← HF.out, HRes.out] at hw
      have HWf := Lib.hid hw
      have HBf := Lib.hid hb
      have HKf := Lib.hid hk
      clear hw hb hk
      go_wp2
      go_end0
      exact ⟨rfl, HWf.out, HBf.out, HKf.out⟩

end Go.Proofs.YtdonibkkdhokpaaGreat
