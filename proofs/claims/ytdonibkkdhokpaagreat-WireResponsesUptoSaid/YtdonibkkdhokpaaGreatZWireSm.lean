/- What counts a tree's parts, and how deep it is (written by gen_wiresm.py). -/
import Derived.Test.YtdonibkkdhokpaaGreatZWireTo
import Derived.Test.YtdonibkkdhokpaaGreatZWireWu
namespace Go.Proofs.YtdonibkkdhokpaaGreat
open Go Go.RowKit Go.Lib

def GivesInt (w : World) (e : Ending) (w' : World) : Prop := ∃ k : Int, e = .returned (.int .i64 k) ∧ Below w.heap.size w w'
def GivesNum (w : World) (n : Nat) (e : Ending) (w' : World) : Prop := e = .returned (.int .i64 (n : Int)) ∧ Below w.heap.size w w'
def CtRel (B : Nat) (w : World) (n : Nat) (dv iv : Value) (wr : World) : Prop := ∃ (i : Nat) (k : Int), iv = .int .i64 (i : Int) ∧ dv = .int .i64 k ∧ i ≤ n ∧ Below B w wr
def DpRel {α : Type} (B : Nat) (w : World) (ps : List (Tr α)) (dv iv : Value) (wr : World) : Prop := ∃ i : Nat, iv = .int .i64 (i : Int) ∧ dv = .int .i64 (Tr.depthL (ps.take i) : Int) ∧ i ≤ ps.length ∧ Below B w wr

theorem Tr.depthL_snoc {α : Type} (p : Tr α) : ∀ ps : List (Tr α), Tr.depthL (ps ++ [p]) = max (Tr.depthL ps) p.depth
  | [] => by simp [Tr.depthL]
  | q :: qs => by
    rw [List.cons_append, Tr.depthL, Tr.depthL, Tr.depthL_snoc p qs, Nat.max_assoc]

theorem Tr.depth_bytes {α : Type} (f : α → List UInt8) : ∀ (n : Nat) (t : Tr α), t.depth ≤ n → t.depth ≤ (t.bytes f).length
  | 0, .mk h ps, hd => by rw [Tr.depth_mk] at hd; omega
  | n + 1, .mk h ps, hd => by
    rw [Tr.depth_mk] at hd ⊢
    rw [Tr.bytes_mk, List.length_append]
    have h1 : Tr.depthL ps ≤ (ps.flatMap (Tr.bytes f)).length := (Tr.depthL_le ps).2 fun p hp => by
      have h2 := Tr.depth_bytes f n p ((Tr.depthL_le ps).1 (by omega) p hp)
      have h3 : (p.bytes f).length ≤ (ps.flatMap (Tr.bytes f)).length := by
        obtain ⟨l1, l2, rfl⟩ := List.append_of_mem hp
        simp only [List.flatMap_append, List.flatMap_cons, List.length_append]
        omega
      omega
    have h4 : 1 ≤ (enc ps.length).length := by
      unfold enc
      split <;> simp
    unfold listB
    rw [List.length_append]
    omega

def few28Ok (n : Nat) : Prop := ∀ (h : NoH) (ps : List (Tr NoH)), (Tr.mk h ps).depth ≤ n → ∀ (w : World) (a : Option Addr) (cap : Nat) (sa : Option Addr) (sc : Nat) (left : Int), ps.length ≤ cap → cap ≤ maxLen → TrsAt noHd (· < w.heap.size) 6 w a 0 ps →
  Calls Tryz.prog 14 #[.agg #[.int .i64 h.kind, .string h.o, .string h.i, .string h.rel, .slice sa h.subs.length sc, .slice a ps.length cap], .int .i64 left] w (GivesInt w)

set_option maxRecDepth 100000 in
set_option maxHeartbeats 4000000 in
theorem few28_ok : ∀ n : Nat, n ≤ 1000000000 → few28Ok n
  | 0, _ => fun h ps hd => by rw [Tr.depth_mk] at hd; omega
  | n + 1, hn9 => by
    have ih := few28_ok n (by omega)
    intro h ps hdep w a cap sa sc left hcap hmax hr
    rw [Tr.depth_mk] at hdep
    have hps : ∀ p ∈ ps, p.depth ≤ n := (Tr.depthL_le ps).1 (by omega)
    obtain ⟨m, hm⟩ : ∃ m, ps.length = m := ⟨_, rfl⟩
    have HL := Lib.hid hm
    have HR := Lib.hid hr
    have HIh := Lib.hid ih
    have HPs := Lib.hid hps
    unfold maxLen at hmax
    rw [hm] at hcap
    rw [hm]
    have HB := Lib.hid (show Below w.heap.size w (w.alloc (.cells #[.int .i64 h.kind, .string h.o, .string h.i, .string h.rel, .slice sa h.subs.length sc, .slice a m cap] 34)) from (Below.refl _ _).alloc (Nat.le_refl _) _)
    clear hr ih hps hm
    go_enter Tryz.func14, Tryz.ntmps14
    go_wp2
    go_loopw [1, 16] (fun dv iv wr => CtRel w.heap.size w m dv iv wr) (fun _ iv _ => m - (intOf iv).toNat)
    case atStart => exact ⟨0, _, rfl, rfl, Nat.zero_le _, HB.out⟩
    case round =>
      obtain ⟨i, lf, rfl, rfl, hin, hb⟩ := hrel
      clear HB
      by_cases hlt : i < m
      · have hltI : (i : Int) < m := by omega
        obtain ⟨x, hx⟩ : ∃ x, ps[i]? = some x := ⟨ps[i]'(by rw [HL.out]; exact hlt), List.getElem?_eq_getElem _⟩
        obtain ⟨b, off, cs, rfl, hbB, hbl, hcl, hcs, htr⟩ := (TrsAt.keep (Keeps.of_below hb) (noHd_keep (Keeps.of_below hb)) ps HR.out).get hx
        have hxm := List.mem_of_getElem? hx
        obtain ⟨xh, xp⟩ := x
        obtain ⟨xa, xcap, xsa, xsc, rfl, hxc1, hxc2, hxt, hxs⟩ := trNo_open htr
        clear hcl htr
        have k0 := hcs 0 _ rfl
        have k1 := hcs 1 _ rfl
        have k2 := hcs 2 _ rfl
        have k3 := hcs 3 _ rfl
        have k4 := hcs 4 _ rfl
        have k5 := hcs 5 _ rfl
        simp only [Nat.zero_add, Nat.add_zero] at k0 k1 k2 k3 k4 k5
        have hba : Below wr.heap.size wr (wr.alloc (.cells #[.int .i64 xh.kind, .string xh.o, .string xh.i, .string xh.rel, .slice xsa xh.subs.length xsc, .slice xa xp.length xcap] 34)) := (Below.refl _ _).alloc (Nat.le_refl _) _
        have HBx := Lib.hid (heap_alloc_new wr (.cells #[.int .i64 xh.kind, .string xh.o, .string xh.i, .string xh.rel, .slice xsa xh.subs.length xsc, .slice xa xp.length xcap] 34))
        have HB2 := Lib.hid (hb.trans (hba.mono hb.size))
        have hbaB := hba.mono hb.size
        have HXt := Lib.hid (TrsAt.mono (ok' := (· < (wr.alloc (.cells #[.int .i64 xh.kind, .string xh.o, .string xh.i, .string xh.rel, .slice xsa xh.subs.length xsc, .slice xa xp.length xcap] 34)).heap.size)) (fun x hx _ => hx) (noHd_mono (fun x hx _ => hx)) xp (TrsAt.keep (Keeps.of_below hbaB) (noHd_keep (Keeps.of_below hbaB)) xp hxt))
        have hbs := hb.size
        clear hb hba hbaB hx hcs hxt hxs
        by_cases hneg : lf < 0
        · go_wp2
          go_ret
          exact ⟨lf, rfl, HB2.out⟩
        · go_upto_region 5 with fail
          generalize wr.alloc (.cells #[.int .i64 xh.kind, .string xh.o, .string xh.i, .string xh.rel, .slice xsa xh.subs.length xsc, .slice xa xp.length xcap] 34) = w2 at *
          have x0 := Lib.cell_of_heap HBx.out 0; have x1 := Lib.cell_of_heap HBx.out 1; have x2 := Lib.cell_of_heap HBx.out 2; have x3 := Lib.cell_of_heap HBx.out 3; have x4 := Lib.cell_of_heap HBx.out 4; have x5 := Lib.cell_of_heap HBx.out 5
          simp at x0 x1 x2 x3 x4 x5
          have hbl2 : wr.heap.size < w2.heap.size := (Array.getElem?_eq_some_iff.1 HBx.out).1
          have HIt := Lib.hid (HIh.out xh xp (HPs.out _ hxm) w2 xa xcap xsa xsc lf hxc1 hxc2 HXt.out)
          go_wp2_with (go_at_call 14; go_must (refine HIt.out.mono ?_))
          rintro e w3 ⟨lf2, rfl, b3⟩
          have HB3 := Lib.hid (HB2.out.trans (b3.mono (by omega)))
          clear b3 HIt HB2 HBx HXt x0 x1 x2 x3 x4 x5 k0 k1 k2 k3 k4 k5
          go_wp2
          exact ⟨⟨i + 1, lf2, by go_num, rfl, by omega, HB3.out⟩, by simp [intOf]; omega⟩
      · obtain rfl : i = m := by omega
        have hltI : ¬ (i : Int) < i := by omega
        have HB3 := Lib.hid hb
        clear hb
        go_wp2
        go_ret
        exact ⟨lf, rfl, HB3.out⟩

def small05Ok (n : Nat) : Prop := ∀ (h : RuH) (ps : List (Tr RuH)), (Tr.mk h ps).depth ≤ n → ∀ (w : World) (a : Option Addr) (cap : Nat)  (left : Int), ps.length ≤ cap → cap ≤ maxLen → TrsAt ruHd (· < w.heap.size) 4 w a 0 ps →
  Calls Tryz.prog 16 #[.agg #[.int .i64 h.kind, .string h.a, .string h.b, .slice a ps.length cap], .int .i64 left] w (GivesInt w)

set_option maxRecDepth 100000 in
set_option maxHeartbeats 4000000 in
theorem small05_ok : ∀ n : Nat, n ≤ 1000000000 → small05Ok n
  | 0, _ => fun h ps hd => by rw [Tr.depth_mk] at hd; omega
  | n + 1, hn9 => by
    have ih := small05_ok n (by omega)
    intro h ps hdep w a cap  left hcap hmax hr
    rw [Tr.depth_mk] at hdep
    have hps : ∀ p ∈ ps, p.depth ≤ n := (Tr.depthL_le ps).1 (by omega)
    obtain ⟨m, hm⟩ : ∃ m, ps.length = m := ⟨_, rfl⟩
    have HL := Lib.hid hm
    have HR := Lib.hid hr
    have HIh := Lib.hid ih
    have HPs := Lib.hid hps
    unfold maxLen at hmax
    rw [hm] at hcap
    rw [hm]
    have HB := Lib.hid (show Below w.heap.size w (w.alloc (.cells #[.int .i64 h.kind, .string h.a, .string h.b, .slice a m cap] 71)) from (Below.refl _ _).alloc (Nat.le_refl _) _)
    clear hr ih hps hm
    go_enter Tryz.func16, Tryz.ntmps16
    go_wp2
    go_loopw [1, 22] (fun dv iv wr => CtRel w.heap.size w m dv iv wr) (fun _ iv _ => m - (intOf iv).toNat)
    case atStart => exact ⟨0, _, rfl, rfl, Nat.zero_le _, HB.out⟩
    case round =>
      obtain ⟨i, lf, rfl, rfl, hin, hb⟩ := hrel
      clear HB
      by_cases hlt : i < m
      · have hltI : (i : Int) < m := by omega
        obtain ⟨x, hx⟩ : ∃ x, ps[i]? = some x := ⟨ps[i]'(by rw [HL.out]; exact hlt), List.getElem?_eq_getElem _⟩
        obtain ⟨b, off, cs, rfl, hbB, hbl, hcl, hcs, htr⟩ := (TrsAt.keep (Keeps.of_below hb) (ruHd_keep (Keeps.of_below hb)) ps HR.out).get hx
        have hxm := List.mem_of_getElem? hx
        obtain ⟨xh, xp⟩ := x
        obtain ⟨xa, xcap, rfl, hxc1, hxc2, hxt⟩ := trRu_open htr
        clear hcl htr
        have k0 := hcs 0 _ rfl
        have k1 := hcs 1 _ rfl
        have k2 := hcs 2 _ rfl
        have k3 := hcs 3 _ rfl
        simp only [Nat.zero_add, Nat.add_zero] at k0 k1 k2 k3
        have hba : Below wr.heap.size wr (wr.alloc (.cells #[.int .i64 xh.kind, .string xh.a, .string xh.b, .slice xa xp.length xcap] 71)) := (Below.refl _ _).alloc (Nat.le_refl _) _
        have HBx := Lib.hid (heap_alloc_new wr (.cells #[.int .i64 xh.kind, .string xh.a, .string xh.b, .slice xa xp.length xcap] 71))
        have HB2 := Lib.hid (hb.trans (hba.mono hb.size))
        have hbaB := hba.mono hb.size
        have HXt := Lib.hid (TrsAt.mono (ok' := (· < (wr.alloc (.cells #[.int .i64 xh.kind, .string xh.a, .string xh.b, .slice xa xp.length xcap] 71)).heap.size)) (fun x hx _ => hx) (ruHd_mono (fun x hx _ => hx)) xp (TrsAt.keep (Keeps.of_below hbaB) (ruHd_keep (Keeps.of_below hbaB)) xp hxt))
        have hbs := hb.size
        clear hb hba hbaB hx hcs hxt 
        by_cases hneg : lf < 0
        · go_wp2
          go_ret
          exact ⟨lf, rfl, HB2.out⟩
        · go_upto_region 5 with fail
          generalize wr.alloc (.cells #[.int .i64 xh.kind, .string xh.a, .string xh.b, .slice xa xp.length xcap] 71) = w2 at *
          have x0 := Lib.cell_of_heap HBx.out 0; have x1 := Lib.cell_of_heap HBx.out 1; have x2 := Lib.cell_of_heap HBx.out 2; have x3 := Lib.cell_of_heap HBx.out 3
          simp at x0 x1 x2 x3
          have hbl2 : wr.heap.size < w2.heap.size := (Array.getElem?_eq_some_iff.1 HBx.out).1
          have HIt := Lib.hid (HIh.out xh xp (HPs.out _ hxm) w2 xa xcap  lf hxc1 hxc2 HXt.out)
          go_wp2_with (go_at_call 16; go_must (refine HIt.out.mono ?_))
          rintro e w3 ⟨lf2, rfl, b3⟩
          have HB3 := Lib.hid (HB2.out.trans (b3.mono (by omega)))
          clear b3 HIt HB2 HBx HXt x0 x1 x2 x3 k0 k1 k2 k3
          go_wp2
          exact ⟨⟨i + 1, lf2, by go_num, rfl, by omega, HB3.out⟩, by simp [intOf]; omega⟩
      · obtain rfl : i = m := by omega
        have hltI : ¬ (i : Int) < i := by omega
        have HB3 := Lib.hid hb
        clear hb
        go_wp2
        go_ret
        exact ⟨lf, rfl, HB3.out⟩

def depth37Ok (n : Nat) : Prop := ∀ (h : RuH) (ps : List (Tr RuH)), (Tr.mk h ps).depth ≤ n → ∀ (w : World) (a : Option Addr) (cap : Nat)  , ps.length ≤ cap → cap ≤ maxLen → TrsAt ruHd (· < w.heap.size) 4 w a 0 ps →
  Calls Tryz.prog 32 #[.agg #[.int .i64 h.kind, .string h.a, .string h.b, .slice a ps.length cap]] w (GivesNum w (Tr.mk h ps).depth)

set_option maxRecDepth 100000 in
set_option maxHeartbeats 4000000 in
theorem depth37_ok : ∀ n : Nat, n ≤ 1000000000 → depth37Ok n
  | 0, _ => fun h ps hd => by rw [Tr.depth_mk] at hd; omega
  | n + 1, hn9 => by
    have ih := depth37_ok n (by omega)
    intro h ps hdep w a cap   hcap hmax hr
    rw [Tr.depth_mk] at hdep
    have hps : ∀ p ∈ ps, p.depth ≤ n := (Tr.depthL_le ps).1 (by omega)
    obtain ⟨m, hm⟩ : ∃ m, ps.length = m := ⟨_, rfl⟩
    have hdl : Tr.depthL ps ≤ n := by omega
    rw [Tr.depth_mk]
    obtain ⟨D, hD⟩ : ∃ D, Tr.depthL ps = D := ⟨_, rfl⟩
    rw [hD] at hdl ⊢
    have HDl := Lib.hid hD
    clear hD hdep
    have HL := Lib.hid hm
    have HR := Lib.hid hr
    have HIh := Lib.hid ih
    have HPs := Lib.hid hps
    unfold maxLen at hmax
    rw [hm] at hcap
    rw [hm]
    have HB := Lib.hid (show Below w.heap.size w (w.alloc (.cells #[.int .i64 h.kind, .string h.a, .string h.b, .slice a m cap] 71)) from (Below.refl _ _).alloc (Nat.le_refl _) _)
    clear hr ih hps hm
    go_enter Tryz.func32, Tryz.ntmps32
    go_wp2
    go_loopw [3, 9] (fun dv iv wr => DpRel w.heap.size w ps dv iv wr) (fun _ iv _ => m - (intOf iv).toNat)
    case atStart => exact ⟨0, rfl, by rw [List.take_zero, Tr.depthL]; rfl, Nat.zero_le _, HB.out⟩
    case round =>
      obtain ⟨i, rfl, rfl, hin, hb⟩ := hrel
      rw [HL.out] at hin
      clear HB
      by_cases hlt : i < m
      · have hltI : (i : Int) < m := by omega
        obtain ⟨x, hx⟩ : ∃ x, ps[i]? = some x := ⟨ps[i]'(by rw [HL.out]; exact hlt), List.getElem?_eq_getElem _⟩
        obtain ⟨b, off, cs, rfl, hbB, hbl, hcl, hcs, htr⟩ := (TrsAt.keep (Keeps.of_below hb) (ruHd_keep (Keeps.of_below hb)) ps HR.out).get hx
        have hxm := List.mem_of_getElem? hx
        obtain ⟨xh, xp⟩ := x
        obtain ⟨xa, xcap, rfl, hxc1, hxc2, hxt⟩ := trRu_open htr
        clear hcl htr
        have k0 := hcs 0 _ rfl
        have k1 := hcs 1 _ rfl
        have k2 := hcs 2 _ rfl
        have k3 := hcs 3 _ rfl
        simp only [Nat.zero_add, Nat.add_zero] at k0 k1 k2 k3
        have hba : Below wr.heap.size wr (wr.alloc (.cells #[.int .i64 xh.kind, .string xh.a, .string xh.b, .slice xa xp.length xcap] 71)) := (Below.refl _ _).alloc (Nat.le_refl _) _
        have HBx := Lib.hid (heap_alloc_new wr (.cells #[.int .i64 xh.kind, .string xh.a, .string xh.b, .slice xa xp.length xcap] 71))
        have HB2 := Lib.hid (hb.trans (hba.mono hb.size))
        have hbaB := hba.mono hb.size
        have HXt := Lib.hid (TrsAt.mono (ok' := (· < (wr.alloc (.cells #[.int .i64 xh.kind, .string xh.a, .string xh.b, .slice xa xp.length xcap] 71)).heap.size)) (fun x hx _ => hx) (ruHd_mono (fun x hx _ => hx)) xp (TrsAt.keep (Keeps.of_below hbaB) (ruHd_keep (Keeps.of_below hbaB)) xp hxt))
        have hbs := hb.size
        have hsn : Tr.depthL (ps.take (i + 1)) = max (Tr.depthL (ps.take i)) (Tr.mk xh xp).depth := by rw [List.take_add_one, hx]; exact Tr.depthL_snoc _ _
        have HSn := Lib.hid hsn
        obtain ⟨E, hE⟩ : ∃ E, Tr.depthL (ps.take i) = E := ⟨_, rfl⟩
        rw [hE] at HSn
        rw [hE]
        clear hb hba hbaB hx hcs hxt hsn hE 
        go_upto_region 5 with fail
        generalize wr.alloc (.cells #[.int .i64 xh.kind, .string xh.a, .string xh.b, .slice xa xp.length xcap] 71) = w2 at *
        have x0 := Lib.cell_of_heap HBx.out 0; have x1 := Lib.cell_of_heap HBx.out 1; have x2 := Lib.cell_of_heap HBx.out 2; have x3 := Lib.cell_of_heap HBx.out 3
        simp at x0 x1 x2 x3
        have hbl2 : wr.heap.size < w2.heap.size := (Array.getElem?_eq_some_iff.1 HBx.out).1
        have HIt := Lib.hid (HIh.out xh xp (HPs.out _ hxm) w2 xa xcap   hxc1 hxc2 HXt.out)
        obtain ⟨E2, hE2⟩ : ∃ E2, (Tr.mk xh xp).depth = E2 := ⟨_, rfl⟩
        rw [hE2] at HSn HIt
        clear hE2
        go_wp2_with (go_at_call 32; go_must (refine HIt.out.mono ?_))
        rintro e w3 ⟨rfl, b3⟩
        have HB3 := Lib.hid (HB2.out.trans (b3.mono (by omega)))
        clear b3 HIt HB2 HBx HXt x0 x1 x2 x3 k0 k1 k2 k3
        go_wp2
        refine ⟨⟨i + 1, by go_num, ?_, by rw [HL.out]; omega, HB3.out⟩, by simp [intOf]; omega⟩
        rw [HSn.out]
        congr 1
        split <;> omega
      · obtain rfl : i = m := by omega
        have hltI : ¬ (i : Int) < i := by omega
        have HB3 := Lib.hid hb
        clear hb
        rw [List.take_of_length_le (by rw [HL.out]; exact Nat.le_refl _), HDl.out]
        have hw1 : IntKind.i64.wrap ((D : Int) + 1) = ((D + 1 : Nat) : Int) := by rw [IntKind.wrap_i64] <;> omega
        go_wp2
        go_ret
        exact ⟨rfl, HB3.out⟩

def deep37Ok (n : Nat) : Prop := ∀ (h : NoH) (ps : List (Tr NoH)), (Tr.mk h ps).depth ≤ n → ∀ (w : World) (a : Option Addr) (cap : Nat) (sa : Option Addr) (sc : Nat) , ps.length ≤ cap → cap ≤ maxLen → TrsAt noHd (· < w.heap.size) 6 w a 0 ps →
  Calls Tryz.prog 33 #[.agg #[.int .i64 h.kind, .string h.o, .string h.i, .string h.rel, .slice sa h.subs.length sc, .slice a ps.length cap]] w (GivesNum w (Tr.mk h ps).depth)

set_option maxRecDepth 100000 in
set_option maxHeartbeats 4000000 in
theorem deep37_ok : ∀ n : Nat, n ≤ 1000000000 → deep37Ok n
  | 0, _ => fun h ps hd => by rw [Tr.depth_mk] at hd; omega
  | n + 1, hn9 => by
    have ih := deep37_ok n (by omega)
    intro h ps hdep w a cap sa sc  hcap hmax hr
    rw [Tr.depth_mk] at hdep
    have hps : ∀ p ∈ ps, p.depth ≤ n := (Tr.depthL_le ps).1 (by omega)
    obtain ⟨m, hm⟩ : ∃ m, ps.length = m := ⟨_, rfl⟩
    have hdl : Tr.depthL ps ≤ n := by omega
    rw [Tr.depth_mk]
    obtain ⟨D, hD⟩ : ∃ D, Tr.depthL ps = D := ⟨_, rfl⟩
    rw [hD] at hdl ⊢
    have HDl := Lib.hid hD
    clear hD hdep
    have HL := Lib.hid hm
    have HR := Lib.hid hr
    have HIh := Lib.hid ih
    have HPs := Lib.hid hps
    unfold maxLen at hmax
    rw [hm] at hcap
    rw [hm]
    have HB := Lib.hid (show Below w.heap.size w (w.alloc (.cells #[.int .i64 h.kind, .string h.o, .string h.i, .string h.rel, .slice sa h.subs.length sc, .slice a m cap] 34)) from (Below.refl _ _).alloc (Nat.le_refl _) _)
    clear hr ih hps hm
    go_enter Tryz.func33, Tryz.ntmps33
    go_wp2
    go_loopw [3, 9] (fun dv iv wr => DpRel w.heap.size w ps dv iv wr) (fun _ iv _ => m - (intOf iv).toNat)
    case atStart => exact ⟨0, rfl, by rw [List.take_zero, Tr.depthL]; rfl, Nat.zero_le _, HB.out⟩
    case round =>
      obtain ⟨i, rfl, rfl, hin, hb⟩ := hrel
      rw [HL.out] at hin
      clear HB
      by_cases hlt : i < m
      · have hltI : (i : Int) < m := by omega
        obtain ⟨x, hx⟩ : ∃ x, ps[i]? = some x := ⟨ps[i]'(by rw [HL.out]; exact hlt), List.getElem?_eq_getElem _⟩
        obtain ⟨b, off, cs, rfl, hbB, hbl, hcl, hcs, htr⟩ := (TrsAt.keep (Keeps.of_below hb) (noHd_keep (Keeps.of_below hb)) ps HR.out).get hx
        have hxm := List.mem_of_getElem? hx
        obtain ⟨xh, xp⟩ := x
        obtain ⟨xa, xcap, xsa, xsc, rfl, hxc1, hxc2, hxt, hxs⟩ := trNo_open htr
        clear hcl htr
        have k0 := hcs 0 _ rfl
        have k1 := hcs 1 _ rfl
        have k2 := hcs 2 _ rfl
        have k3 := hcs 3 _ rfl
        have k4 := hcs 4 _ rfl
        have k5 := hcs 5 _ rfl
        simp only [Nat.zero_add, Nat.add_zero] at k0 k1 k2 k3 k4 k5
        have hba : Below wr.heap.size wr (wr.alloc (.cells #[.int .i64 xh.kind, .string xh.o, .string xh.i, .string xh.rel, .slice xsa xh.subs.length xsc, .slice xa xp.length xcap] 34)) := (Below.refl _ _).alloc (Nat.le_refl _) _
        have HBx := Lib.hid (heap_alloc_new wr (.cells #[.int .i64 xh.kind, .string xh.o, .string xh.i, .string xh.rel, .slice xsa xh.subs.length xsc, .slice xa xp.length xcap] 34))
        have HB2 := Lib.hid (hb.trans (hba.mono hb.size))
        have hbaB := hba.mono hb.size
        have HXt := Lib.hid (TrsAt.mono (ok' := (· < (wr.alloc (.cells #[.int .i64 xh.kind, .string xh.o, .string xh.i, .string xh.rel, .slice xsa xh.subs.length xsc, .slice xa xp.length xcap] 34)).heap.size)) (fun x hx _ => hx) (noHd_mono (fun x hx _ => hx)) xp (TrsAt.keep (Keeps.of_below hbaB) (noHd_keep (Keeps.of_below hbaB)) xp hxt))
        have hbs := hb.size
        have hsn : Tr.depthL (ps.take (i + 1)) = max (Tr.depthL (ps.take i)) (Tr.mk xh xp).depth := by rw [List.take_add_one, hx]; exact Tr.depthL_snoc _ _
        have HSn := Lib.hid hsn
        obtain ⟨E, hE⟩ : ∃ E, Tr.depthL (ps.take i) = E := ⟨_, rfl⟩
        rw [hE] at HSn
        rw [hE]
        clear hb hba hbaB hx hcs hxt hsn hE hxs
        go_upto_region 5 with fail
        generalize wr.alloc (.cells #[.int .i64 xh.kind, .string xh.o, .string xh.i, .string xh.rel, .slice xsa xh.subs.length xsc, .slice xa xp.length xcap] 34) = w2 at *
        have x0 := Lib.cell_of_heap HBx.out 0; have x1 := Lib.cell_of_heap HBx.out 1; have x2 := Lib.cell_of_heap HBx.out 2; have x3 := Lib.cell_of_heap HBx.out 3; have x4 := Lib.cell_of_heap HBx.out 4; have x5 := Lib.cell_of_heap HBx.out 5
        simp at x0 x1 x2 x3 x4 x5
        have hbl2 : wr.heap.size < w2.heap.size := (Array.getElem?_eq_some_iff.1 HBx.out).1
        have HIt := Lib.hid (HIh.out xh xp (HPs.out _ hxm) w2 xa xcap xsa xsc  hxc1 hxc2 HXt.out)
        obtain ⟨E2, hE2⟩ : ∃ E2, (Tr.mk xh xp).depth = E2 := ⟨_, rfl⟩
        rw [hE2] at HSn HIt
        clear hE2
        go_wp2_with (go_at_call 33; go_must (refine HIt.out.mono ?_))
        rintro e w3 ⟨rfl, b3⟩
        have HB3 := Lib.hid (HB2.out.trans (b3.mono (by omega)))
        clear b3 HIt HB2 HBx HXt x0 x1 x2 x3 x4 x5 k0 k1 k2 k3 k4 k5
        go_wp2
        refine ⟨⟨i + 1, by go_num, ?_, by rw [HL.out]; omega, HB3.out⟩, by simp [intOf]; omega⟩
        rw [HSn.out]
        congr 1
        split <;> omega
      · obtain rfl : i = m := by omega
        have hltI : ¬ (i : Int) < i := by omega
        have HB3 := Lib.hid hb
        clear hb
        rw [List.take_of_length_le (by rw [HL.out]; exact Nat.le_refl _), HDl.out]
        have hw1 : IntKind.i64.wrap ((D : Int) + 1) = ((D + 1 : Nat) : Int) := by rw [IntKind.wrap_i64] <;> omega
        go_wp2
        go_ret
        exact ⟨rfl, HB3.out⟩

end Go.Proofs.YtdonibkkdhokpaaGreat
