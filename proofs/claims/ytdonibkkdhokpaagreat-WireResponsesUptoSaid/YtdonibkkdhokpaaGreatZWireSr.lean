/- sentryref37.SameResponse of responses that read alike (written by gen_wiresr.py). -/
import Derived.Test.YtdonibkkdhokpaaGreatZWireSm
import Derived.Test.YtdonibkkdhokpaaGreatMga
import Derived.BigQuiet
namespace Go.Proofs.YtdonibkkdhokpaaGreat
open Go Go.RowKit Go.Lib

def SrRel (w : World) (n : Nat) (v : Value) (wr : World) : Prop := ∃ k : Nat, v = .int .i64 (k : Int) ∧ k ≤ n ∧ Below w.heap.size w wr
theorem below_quietS {B : Nat} {w wr : World} (h : Below B w wr) (n : Nat) : Below B w (wr.drewN n) := ⟨h.os, h.tape, h.output, h.size, h.block⟩

set_option maxRecDepth 100000 in
set_option maxHeartbeats 1000000 in
theorem samefl_any (w : World) (a a2 : Option Addr) (n cap cap2 : Nat) (l : List Bool) (hl : l.length = n) (h : Reads w 1 (.slice a n cap) n (l.flatMap (fun x => [flagC x]))) (h2 : Reads w 1 (.slice a2 n cap2) n (l.flatMap (fun x => [flagC x]))) :
    Calls Tryz.prog 60 #[.slice a n cap, .slice a2 n cap2] w (GivesBool w true) := by
  obtain ⟨_, _, hv, hc1, hc2⟩ := h.le
  cases hv
  obtain ⟨_, _, hv, hd1, hd2⟩ := h2.le
  cases hv
  unfold maxLen at hc2
  have HR := Lib.hid h
  have HK := Lib.hid h2
  have HL := Lib.hid hl
  clear h h2 hl hd2
  go_enter Tryz.func60, Tryz.ntmps60
  go_wp2
  go_loopw [13] (fun v wr => SrRel w n v wr) (fun v _ => n - (intOf v).toNat)
  case atStart => exact ⟨0, rfl, Nat.zero_le _, Below.refl _ _⟩
  case round =>
    obtain ⟨i, rfl, hin, hb⟩ := hrel
    have HB := Lib.hid hb
    clear hb
    by_cases hlt : i < n
    · have hltI : (i : Int) < n := by omega
      obtain ⟨t, ht⟩ : ∃ t, l[i]? = some t := ⟨l[i]'(by rw [HL.out]; exact hlt), List.getElem?_eq_getElem _⟩
      obtain ⟨b, off, rfl, hb, hcs⟩ := rows_at (fun x => [flagC x]) 1 (fun _ => rfl) (HR.out.below' HB.out) ht (by decide)
      obtain ⟨b2, off2, rfl, hb2, hcs2⟩ := rows_at (fun x => [flagC x]) 1 (fun _ => rfl) (HK.out.below' HB.out) ht (by decide)
      have k0 := hcs 0 _ rfl
      have q0 := hcs2 0 _ rfl
      simp only [Nat.add_zero, Nat.mul_one, flagC] at k0 q0
      clear ht hcs hcs2
      go_wp2_with fail
      go_quiet (fail)
      go_wp2
      exact ⟨⟨i + 1, by go_num, by omega, below_quietS HB.out _⟩, by simp [intOf]; omega⟩
    · obtain rfl : i = n := by omega
      have hltI : ¬ (i : Int) < i := by omega
      go_wp2
      go_ret
      exact ⟨rfl, HB.out⟩

set_option maxRecDepth 100000 in
set_option maxHeartbeats 1000000 in
theorem sametp_any (w : World) (a a2 : Option Addr) (n cap cap2 : Nat) (l : List T6) (hl : l.length = n) (h : Reads w 6 (.slice a n cap) n (l.flatMap T6.cells)) (h2 : Reads w 6 (.slice a2 n cap2) n (l.flatMap T6.cells)) :
    Calls Tryz.prog 61 #[.slice a n cap, .slice a2 n cap2] w (GivesBool w true) := by
  obtain ⟨_, _, hv, hc1, hc2⟩ := h.le
  cases hv
  obtain ⟨_, _, hv, hd1, hd2⟩ := h2.le
  cases hv
  unfold maxLen at hc2
  have HR := Lib.hid h
  have HK := Lib.hid h2
  have HL := Lib.hid hl
  clear h h2 hl hd2
  go_enter Tryz.func61, Tryz.ntmps61
  go_wp2
  go_loopw [13] (fun v wr => SrRel w n v wr) (fun v _ => n - (intOf v).toNat)
  case atStart => exact ⟨0, rfl, Nat.zero_le _, Below.refl _ _⟩
  case round =>
    obtain ⟨i, rfl, hin, hb⟩ := hrel
    have HB := Lib.hid hb
    clear hb
    by_cases hlt : i < n
    · have hltI : (i : Int) < n := by omega
      obtain ⟨t, ht⟩ : ∃ t, l[i]? = some t := ⟨l[i]'(by rw [HL.out]; exact hlt), List.getElem?_eq_getElem _⟩
      obtain ⟨b, off, rfl, hb, hcs⟩ := rows_at T6.cells 6 (fun _ => rfl) (HR.out.below' HB.out) ht (by decide)
      obtain ⟨b2, off2, rfl, hb2, hcs2⟩ := rows_at T6.cells 6 (fun _ => rfl) (HK.out.below' HB.out) ht (by decide)
      have k0 := hcs 0 _ rfl; have k1 := hcs 1 _ rfl; have k2 := hcs 2 _ rfl; have k3 := hcs 3 _ rfl; have k4 := hcs 4 _ rfl; have k5 := hcs 5 _ rfl
      have q0 := hcs2 0 _ rfl; have q1 := hcs2 1 _ rfl; have q2 := hcs2 2 _ rfl; have q3 := hcs2 3 _ rfl; have q4 := hcs2 4 _ rfl; have q5 := hcs2 5 _ rfl
      simp only [Nat.add_zero] at k0 k1 k2 k3 k4 k5 q0 q1 q2 q3 q4 q5
      clear ht hcs hcs2
      go_wp2_with fail
      go_quiet (fail)
      go_wp2
      exact ⟨⟨i + 1, by go_num, by omega, below_quietS HB.out _⟩, by simp [intOf]; omega⟩
    · obtain rfl : i = n := by omega
      have hltI : ¬ (i : Int) < i := by omega
      go_wp2
      go_ret
      exact ⟨rfl, HB.out⟩

set_option maxRecDepth 100000 in
set_option maxHeartbeats 1000000 in
theorem sameob_any (w : World) (a a2 : Option Addr) (n cap cap2 : Nat) (l : List T2) (hl : l.length = n) (h : Reads w 2 (.slice a n cap) n (l.flatMap T2.cells)) (h2 : Reads w 2 (.slice a2 n cap2) n (l.flatMap T2.cells)) :
    Calls Tryz.prog 62 #[.slice a n cap, .slice a2 n cap2] w (GivesBool w true) := by
  obtain ⟨_, _, hv, hc1, hc2⟩ := h.le
  cases hv
  obtain ⟨_, _, hv, hd1, hd2⟩ := h2.le
  cases hv
  unfold maxLen at hc2
  have HR := Lib.hid h
  have HK := Lib.hid h2
  have HL := Lib.hid hl
  clear h h2 hl hd2
  go_enter Tryz.func62, Tryz.ntmps62
  go_wp2
  go_loopw [13] (fun v wr => SrRel w n v wr) (fun v _ => n - (intOf v).toNat)
  case atStart => exact ⟨0, rfl, Nat.zero_le _, Below.refl _ _⟩
  case round =>
    obtain ⟨i, rfl, hin, hb⟩ := hrel
    have HB := Lib.hid hb
    clear hb
    by_cases hlt : i < n
    · have hltI : (i : Int) < n := by omega
      obtain ⟨t, ht⟩ : ∃ t, l[i]? = some t := ⟨l[i]'(by rw [HL.out]; exact hlt), List.getElem?_eq_getElem _⟩
      obtain ⟨b, off, rfl, hb, hcs⟩ := rows_at T2.cells 2 (fun _ => rfl) (HR.out.below' HB.out) ht (by decide)
      obtain ⟨b2, off2, rfl, hb2, hcs2⟩ := rows_at T2.cells 2 (fun _ => rfl) (HK.out.below' HB.out) ht (by decide)
      have k0 := hcs 0 _ rfl; have k1 := hcs 1 _ rfl
      have q0 := hcs2 0 _ rfl; have q1 := hcs2 1 _ rfl
      simp only [Nat.add_zero] at k0 k1 q0 q1
      clear ht hcs hcs2
      go_wp2_with fail
      go_quiet (fail)
      go_wp2
      exact ⟨⟨i + 1, by go_num, by omega, below_quietS HB.out _⟩, by simp [intOf]; omega⟩
    · obtain rfl : i = n := by omega
      have hltI : ¬ (i : Int) < i := by omega
      go_wp2
      go_ret
      exact ⟨rfl, HB.out⟩

set_option maxRecDepth 100000 in
set_option maxHeartbeats 1000000 in
theorem sameev_any (w : World) (a a2 : Option Addr) (n cap cap2 : Nat) (l : List Evt) (hl : l.length = n) (h : Reads w 8 (.slice a n cap) n (l.flatMap Evt.cells)) (h2 : Reads w 8 (.slice a2 n cap2) n (l.flatMap Evt.cells)) :
    Calls Tryz.prog 63 #[.slice a n cap, .slice a2 n cap2] w (GivesBool w true) := by
  obtain ⟨_, _, hv, hc1, hc2⟩ := h.le
  cases hv
  obtain ⟨_, _, hv, hd1, hd2⟩ := h2.le
  cases hv
  unfold maxLen at hc2
  have HR := Lib.hid h
  have HK := Lib.hid h2
  have HL := Lib.hid hl
  clear h h2 hl hd2
  go_enter Tryz.func63, Tryz.ntmps63
  go_wp2
  go_loopw [13] (fun v wr => SrRel w n v wr) (fun v _ => n - (intOf v).toNat)
  case atStart => exact ⟨0, rfl, Nat.zero_le _, Below.refl _ _⟩
  case round =>
    obtain ⟨i, rfl, hin, hb⟩ := hrel
    have HB := Lib.hid hb
    clear hb
    by_cases hlt : i < n
    · have hltI : (i : Int) < n := by omega
      obtain ⟨t, ht⟩ : ∃ t, l[i]? = some t := ⟨l[i]'(by rw [HL.out]; exact hlt), List.getElem?_eq_getElem _⟩
      obtain ⟨b, off, rfl, hb, hcs⟩ := rows_at Evt.cells 8 (fun _ => rfl) (HR.out.below' HB.out) ht (by decide)
      obtain ⟨b2, off2, rfl, hb2, hcs2⟩ := rows_at Evt.cells 8 (fun _ => rfl) (HK.out.below' HB.out) ht (by decide)
      have k0 := hcs 0 _ rfl; have k1 := hcs 1 _ rfl; have k2 := hcs 2 _ rfl; have k3 := hcs 3 _ rfl; have k4 := hcs 4 _ rfl; have k5 := hcs 5 _ rfl; have k6 := hcs 6 _ rfl; have k7 := hcs 7 _ rfl
      have q0 := hcs2 0 _ rfl; have q1 := hcs2 1 _ rfl; have q2 := hcs2 2 _ rfl; have q3 := hcs2 3 _ rfl; have q4 := hcs2 4 _ rfl; have q5 := hcs2 5 _ rfl; have q6 := hcs2 6 _ rfl; have q7 := hcs2 7 _ rfl
      simp only [Nat.add_zero] at k0 k1 k2 k3 k4 k5 k6 k7 q0 q1 q2 q3 q4 q5 q6 q7
      clear ht hcs hcs2
      go_wp2_with fail
      go_quiet (fail)
      go_wp2
      exact ⟨⟨i + 1, by go_num, by omega, below_quietS HB.out _⟩, by simp [intOf]; omega⟩
    · obtain rfl : i = n := by omega
      have hltI : ¬ (i : Int) < i := by omega
      go_wp2
      go_ret
      exact ⟨rfl, HB.out⟩

set_option maxRecDepth 100000 in
set_option maxHeartbeats 1000000 in
theorem samesb_any (w : World) (a a2 : Option Addr) (n cap cap2 : Nat) (l : List T3) (hl : l.length = n) (h : Reads w 3 (.slice a n cap) n (l.flatMap T3.cells)) (h2 : Reads w 3 (.slice a2 n cap2) n (l.flatMap T3.cells)) :
    Calls Tryz.prog 108 #[.slice a n cap, .slice a2 n cap2] w (GivesBool w true) := by
  obtain ⟨_, _, hv, hc1, hc2⟩ := h.le
  cases hv
  obtain ⟨_, _, hv, hd1, hd2⟩ := h2.le
  cases hv
  unfold maxLen at hc2
  have HR := Lib.hid h
  have HK := Lib.hid h2
  have HL := Lib.hid hl
  clear h h2 hl hd2
  go_enter Tryz.func108, Tryz.ntmps108
  go_wp2
  go_loopw [13] (fun v wr => SrRel w n v wr) (fun v _ => n - (intOf v).toNat)
  case atStart => exact ⟨0, rfl, Nat.zero_le _, Below.refl _ _⟩
  case round =>
    obtain ⟨i, rfl, hin, hb⟩ := hrel
    have HB := Lib.hid hb
    clear hb
    by_cases hlt : i < n
    · have hltI : (i : Int) < n := by omega
      obtain ⟨t, ht⟩ : ∃ t, l[i]? = some t := ⟨l[i]'(by rw [HL.out]; exact hlt), List.getElem?_eq_getElem _⟩
      obtain ⟨b, off, rfl, hb, hcs⟩ := rows_at T3.cells 3 (fun _ => rfl) (HR.out.below' HB.out) ht (by decide)
      obtain ⟨b2, off2, rfl, hb2, hcs2⟩ := rows_at T3.cells 3 (fun _ => rfl) (HK.out.below' HB.out) ht (by decide)
      have k0 := hcs 0 _ rfl; have k1 := hcs 1 _ rfl; have k2 := hcs 2 _ rfl
      have q0 := hcs2 0 _ rfl; have q1 := hcs2 1 _ rfl; have q2 := hcs2 2 _ rfl
      simp only [Nat.add_zero] at k0 k1 k2 q0 q1 q2
      clear ht hcs hcs2
      go_wp2_with fail
      go_quiet (fail)
      go_wp2
      exact ⟨⟨i + 1, by go_num, by omega, below_quietS HB.out _⟩, by simp [intOf]; omega⟩
    · obtain rfl : i = n := by omega
      have hltI : ¬ (i : Int) < i := by omega
      go_wp2
      go_ret
      exact ⟨rfl, HB.out⟩

def sameruleOk (n : Nat) : Prop := ∀ (h : RuH) (ps : List (Tr RuH)), (Tr.mk h ps).depth ≤ n → ∀ (w : World) (a : Option Addr) (cap : Nat) (b : Option Addr) (dap : Nat) , ps.length ≤ cap → cap ≤ maxLen → TrsAt ruHd (· < w.heap.size) 4 w a 0 ps → ps.length ≤ dap → dap ≤ maxLen → TrsAt ruHd (· < w.heap.size) 4 w b 0 ps →
  Calls Tryz.prog 65 #[.agg #[.int .i64 h.kind, .string h.a, .string h.b, .slice a ps.length cap], .agg #[.int .i64 h.kind, .string h.a, .string h.b, .slice b ps.length dap]] w (GivesBool w true)

set_option maxRecDepth 100000 in
set_option maxHeartbeats 4000000 in
theorem samerule_ok : ∀ n : Nat, sameruleOk n
  | 0 => fun h ps hd => by rw [Tr.depth_mk] at hd; omega
  | n + 1 => by
    have ih := samerule_ok n
    intro h ps hdep w a cap b dap  hcap hmax hr hdap hdmax hr2 
    rw [Tr.depth_mk] at hdep
    have hps : ∀ p ∈ ps, p.depth ≤ n := (Tr.depthL_le ps).1 (by omega)
    obtain ⟨m, hm⟩ : ∃ m, ps.length = m := ⟨_, rfl⟩
    have HL := Lib.hid hm
    have HR := Lib.hid hr
    have HR2 := Lib.hid hr2
    have HIh := Lib.hid ih
    have HPs := Lib.hid hps
    unfold maxLen at hmax hdmax
    rw [hm] at hcap hdap
    rw [hm]
    obtain ⟨W0, hW0⟩ : ∃ W, W = w.alloc (.cells #[.int .i64 h.kind, .string h.a, .string h.b, .slice a m cap] 71) := ⟨_, rfl⟩
    obtain ⟨W1, hW1⟩ : ∃ W, W = W0.alloc (.cells #[.int .i64 h.kind, .string h.a, .string h.b, .slice b m dap] 71) := ⟨_, rfl⟩
    obtain ⟨N, hN⟩ : ∃ N, w.heap.size = N := ⟨_, rfl⟩
    have s0 : W0.heap.size = N + 1 := by rw [hW0, ← hN]; simp
    have s1 : W1.heap.size = N + 2 := by rw [hW1]; simp [s0]
    have b01 : Below W0.heap.size W0 W1 := by rw [hW1]; exact (Below.refl _ _).alloc (Nat.le_refl _) _
    have b0 : Below w.heap.size w W0 := by rw [hW0]; exact (Below.refl _ _).alloc (Nat.le_refl _) _
    have e0 : W0.heap[N]? = some (.cells #[.int .i64 h.kind, .string h.a, .string h.b, .slice a m cap] 71 (0, 0)) := by rw [hW0, ← hN]; exact heap_alloc_new w _
    have e1 : W1.heap[N + 1]? = some (.cells #[.int .i64 h.kind, .string h.a, .string h.b, .slice b m dap] 71 (0, 0)) := by rw [hW1, ← s0]; exact heap_alloc_new W0 _
    have e0' := (b01.block N (by omega)).trans e0
    have HX1 := Lib.hid e0'
    have HX2 := Lib.hid e1
    have HB := Lib.hid (b0.trans (b01.mono (by omega)))
    have HW0 := Lib.hid hW0
    have HW1 := Lib.hid hW1
    have HN := Lib.hid hN
    clear hr hr2 ih hps hm b01 b0 e0 e1 e0' hW0 hW1 hN
    go_enter Tryz.func65, Tryz.ntmps65
    go_upto_region 1 with fail
    rw [HN.out, ← HW0.out, ← HW1.out]
    clear HW0 HW1 s0
    have x0 := Lib.cell_of_heap HX1.out 0; have x1 := Lib.cell_of_heap HX1.out 1; have x2 := Lib.cell_of_heap HX1.out 2; have x3 := Lib.cell_of_heap HX1.out 3
    have y0 := Lib.cell_of_heap HX2.out 0; have y1 := Lib.cell_of_heap HX2.out 1; have y2 := Lib.cell_of_heap HX2.out 2; have y3 := Lib.cell_of_heap HX2.out 3
    simp at x0 x1 x2 x3 y0 y1 y2 y3
    have hl1 : N < W1.heap.size := by omega
    have hl2 : N + 1 < W1.heap.size := by omega
    go_wp2
    clear x0 x1 x2 x3 y0 y1 y2 y3
    go_loopw [37] (fun iv wr => SrRel W1 m iv wr) (fun iv _ => m - (intOf iv).toNat)
    case atStart => exact ⟨0, rfl, Nat.zero_le _, Below.refl _ _⟩
    case round =>
      obtain ⟨i, rfl, hin, hb⟩ := hrel
      by_cases hlt : i < m
      · have hltI : (i : Int) < m := by omega
        have h0I : (0 : Int) ≤ i := by omega
        have hbw := HB.out.trans (hb.mono HB.out.size)
        obtain ⟨x, hx⟩ : ∃ x, ps[i]? = some x := ⟨ps[i]'(by rw [HL.out]; exact hlt), List.getElem?_eq_getElem _⟩
        obtain ⟨b, off, cs, rfl, hbB, hbl, hcl, hcs, htr⟩ := (TrsAt.keep (Keeps.of_below hbw) (ruHd_keep (Keeps.of_below hbw)) ps HR.out).get hx
        obtain ⟨b2, off2, cs2, rfl, hbB2, hbl2, hcl2, hcs2, htr2⟩ := (TrsAt.keep (Keeps.of_below hbw) (ruHd_keep (Keeps.of_below hbw)) ps HR2.out).get hx
        have hxm := List.mem_of_getElem? hx
        obtain ⟨xh, xp⟩ := x
        obtain ⟨xa, xcap, rfl, x1, x2, xt⟩ := trRu_open htr
        obtain ⟨ya, ycap, rfl, y1, y2, yt⟩ := trRu_open htr2
        have k0 := hcs 0 _ rfl; have k1 := hcs 1 _ rfl; have k2 := hcs 2 _ rfl; have k3 := hcs 3 _ rfl
        have q0 := hcs2 0 _ rfl; have q1 := hcs2 1 _ rfl; have q2 := hcs2 2 _ rfl; have q3 := hcs2 3 _ rfl
        simp only [Nat.zero_add, Nat.add_zero] at k0 k1 k2 k3 q0 q1 q2 q3
        have hx1 := (hb.block N hl1).trans HX1.out
        have hx2 := (hb.block (N + 1) hl2).trans HX2.out
        have z1 := Lib.cell_of_heap hx1 3
        have z2 := Lib.cell_of_heap hx2 3
        simp at z1 z2
        have hbs := hb.size
        have hm1 : N < wr.heap.size := by omega
        have hm2 : N + 1 < wr.heap.size := by omega
        have HIt := Lib.hid (HIh.out xh xp (HPs.out _ hxm))
        have HBr := Lib.hid hb
        have HXt := Lib.hid xt
        have HYt := Lib.hid yt
        clear hcl hcl2 hcs hcs2 htr htr2 hx hb hbw xt yt hx1 hx2
        go_upto_region 6 with fail
        refine wp_region_all (by kernel_rfl) [eqF (.pointer (some ⟨N, 3, none⟩)), eqF (.slice (some ⟨b, off, none⟩) m cap), eqF (.int .i64 (i : Int)), eqF (.pointer (some ⟨b, off + i * 4, none⟩)), eqF (.agg #[.int .i64 xh.kind, .string xh.a, .string xh.b, .slice xa xp.length xcap]), eqF (.pointer (some ⟨N + 1, 3, none⟩)), eqF (.slice (some ⟨b2, off2, none⟩) m dap), eqF (.int .i64 (i : Int)), eqF (.pointer (some ⟨b2, off2 + i * 4, none⟩)), eqF (.agg #[.int .i64 xh.kind, .string xh.a, .string xh.b, .slice ya xp.length ycap]), eqF (.bool true), eqF (.bool false)] (by kernel_rfl) ⟨?_, ?_, ?_, ?_, ?_, ?_, ?_, ?_, ?_, ?_, ?_, ?_, trivial⟩ ⟨trivial, trivial, trivial, trivial, trivial, trivial, trivial, trivial, trivial, trivial, trivial, trivial, trivial⟩ ?_
        · intro ρ wx hρ hbx hl
          have e2 : ρ (.tmp 2) = .pointer (some ⟨N, 0, none⟩) := hρ.tmp 2 (by decide +kernel)
          refine y_val (v := .pointer (some ⟨N, 3, none⟩)) ?_ rfl
          simp [execOp, go_sem, e2]
        · intro ρ wx hρ hbx hl
          have e40 : ρ (.tmp 40) = .pointer (some ⟨N, 3, none⟩) := hl 0 (by decide +kernel) 40 rfl
          have kk := (hbx.cell (hm1)).trans z1
          refine y_val (v := .slice (some ⟨b, off, none⟩) m cap) ?_ rfl
          simp [execOp, go_sem, e40, kk]
        · intro ρ wx hρ hbx hl
          have e5 : ρ (.tmp 5) = .int .i64 (i : Int) := hρ.tmp 5 (by decide +kernel)
          refine y_val (v := .int .i64 (i : Int)) ?_ rfl
          simp [execOp, go_sem, e5]
        · intro ρ wx hρ hbx hl
          have e41 : ρ (.tmp 41) = .slice (some ⟨b, off, none⟩) m cap := hl 1 (by decide +kernel) 41 rfl
          have e42 : ρ (.tmp 42) = .int .i64 (i : Int) := hl 2 (by decide +kernel) 42 rfl
          refine y_val (v := .pointer (some ⟨b, off + i * 4, none⟩)) ?_ rfl
          simp [execOp, go_sem, e41, e42, hltI, h0I]
        · intro ρ wx hρ hbx hl
          have e43 : ρ (.tmp 43) = .pointer (some ⟨b, off + i * 4, none⟩) := hl 3 (by decide +kernel) 43 rfl
          have j0 := (hbx.cell (p := ⟨b, off + i * 4, none⟩) hbl).trans k0
          have j1 := (hbx.cell (p := ⟨b, off + i * 4 + 1, none⟩) hbl).trans k1
          have j2 := (hbx.cell (p := ⟨b, off + i * 4 + 2, none⟩) hbl).trans k2
          have j3 := (hbx.cell (p := ⟨b, off + i * 4 + 3, none⟩) hbl).trans k3
          refine y_val (v := .agg #[.int .i64 xh.kind, .string xh.a, .string xh.b, .slice xa xp.length xcap]) ?_ rfl
          simp [execOp, go_sem, e43, j0, j1, j2, j3]
        · intro ρ wx hρ hbx hl
          have e3 : ρ (.tmp 3) = .pointer (some ⟨N + 1, 0, none⟩) := hρ.tmp 3 (by decide +kernel)
          refine y_val (v := .pointer (some ⟨N + 1, 3, none⟩)) ?_ rfl
          simp [execOp, go_sem, e3]
        · intro ρ wx hρ hbx hl
          have e45 : ρ (.tmp 45) = .pointer (some ⟨N + 1, 3, none⟩) := hl 5 (by decide +kernel) 45 rfl
          have kk := (hbx.cell (hm2)).trans z2
          refine y_val (v := .slice (some ⟨b2, off2, none⟩) m dap) ?_ rfl
          simp [execOp, go_sem, e45, kk]
        · intro ρ wx hρ hbx hl
          have e5 : ρ (.tmp 5) = .int .i64 (i : Int) := hρ.tmp 5 (by decide +kernel)
          refine y_val (v := .int .i64 (i : Int)) ?_ rfl
          simp [execOp, go_sem, e5]
        · intro ρ wx hρ hbx hl
          have e46 : ρ (.tmp 46) = .slice (some ⟨b2, off2, none⟩) m dap := hl 6 (by decide +kernel) 46 rfl
          have e47 : ρ (.tmp 47) = .int .i64 (i : Int) := hl 7 (by decide +kernel) 47 rfl
          refine y_val (v := .pointer (some ⟨b2, off2 + i * 4, none⟩)) ?_ rfl
          simp [execOp, go_sem, e46, e47, hltI, h0I]
        · intro ρ wx hρ hbx hl
          have e48 : ρ (.tmp 48) = .pointer (some ⟨b2, off2 + i * 4, none⟩) := hl 8 (by decide +kernel) 48 rfl
          have j0 := (hbx.cell (p := ⟨b2, off2 + i * 4, none⟩) hbl2).trans q0
          have j1 := (hbx.cell (p := ⟨b2, off2 + i * 4 + 1, none⟩) hbl2).trans q1
          have j2 := (hbx.cell (p := ⟨b2, off2 + i * 4 + 2, none⟩) hbl2).trans q2
          have j3 := (hbx.cell (p := ⟨b2, off2 + i * 4 + 3, none⟩) hbl2).trans q3
          refine y_val (v := .agg #[.int .i64 xh.kind, .string xh.a, .string xh.b, .slice ya xp.length ycap]) ?_ rfl
          simp [execOp, go_sem, e48, j0, j1, j2, j3]
        · intro ρ wx hρ hbx hl
          have e44 : ρ (.tmp 44) = .agg #[.int .i64 xh.kind, .string xh.a, .string xh.b, .slice xa xp.length xcap] := hl 4 (by decide +kernel) 44 rfl
          have e49 : ρ (.tmp 49) = .agg #[.int .i64 xh.kind, .string xh.a, .string xh.b, .slice ya xp.length ycap] := hl 9 (by decide +kernel) 49 rfl
          refine y_call (f := 65) (args := #[.agg #[.int .i64 xh.kind, .string xh.a, .string xh.b, .slice xa xp.length xcap], .agg #[.int .i64 xh.kind, .string xh.a, .string xh.b, .slice ya xp.length ycap]]) (by simp [execOp, resolve, invoke, hρ.func, go_sem, e44, e49]) ?_
          refine (HIt.out wx xa xcap ya ycap  x1 x2 (TrsAt.mono (fun x hx _ => hx) (ruHd_mono (fun x hx _ => hx)) xp (TrsAt.keep (Keeps.of_below_size hbx) (ruHd_keep (Keeps.of_below_size hbx)) xp (TrsAt.mono (ok' := (· < wr.heap.size)) (fun x hx _ => hx) (ruHd_mono (fun x hx _ => hx)) xp HXt.out))) y1 y2 (TrsAt.mono (fun x hx _ => hx) (ruHd_mono (fun x hx _ => hx)) xp (TrsAt.keep (Keeps.of_below_size hbx) (ruHd_keep (Keeps.of_below_size hbx)) xp (TrsAt.mono (ok' := (· < wr.heap.size)) (fun x hx _ => hx) (ruHd_mono (fun x hx _ => hx)) xp HYt.out)))).mono ?_
          rintro e w6 ⟨rfl, b6⟩
          exact ⟨_, rfl, rfl, b6⟩
        · intro ρ wx hρ hbx hl
          have e50 : ρ (.tmp 50) = .bool true := hl 10 (by decide +kernel) 50 rfl
          refine y_val (v := .bool false) ?_ rfl
          simp [execOp, go_sem, e50]
        intro aa wz hdef hsz hlk hbz hf
        have ha := act_of_like hdef hsz hlk [40, 41, 42, 43, 44, 45, 46, 47, 48, 49, 50, 51] 53 rfl (by decide +kernel)
        have e40 : aa.tmps.getD 40 undef = .pointer (some ⟨N, 3, none⟩) := hf 0 _ 40 rfl rfl
        have e41 : aa.tmps.getD 41 undef = .slice (some ⟨b, off, none⟩) m cap := hf 1 _ 41 rfl rfl
        have e42 : aa.tmps.getD 42 undef = .int .i64 (i : Int) := hf 2 _ 42 rfl rfl
        have e43 : aa.tmps.getD 43 undef = .pointer (some ⟨b, off + i * 4, none⟩) := hf 3 _ 43 rfl rfl
        have e44 : aa.tmps.getD 44 undef = .agg #[.int .i64 xh.kind, .string xh.a, .string xh.b, .slice xa xp.length xcap] := hf 4 _ 44 rfl rfl
        have e45 : aa.tmps.getD 45 undef = .pointer (some ⟨N + 1, 3, none⟩) := hf 5 _ 45 rfl rfl
        have e46 : aa.tmps.getD 46 undef = .slice (some ⟨b2, off2, none⟩) m dap := hf 6 _ 46 rfl rfl
        have e47 : aa.tmps.getD 47 undef = .int .i64 (i : Int) := hf 7 _ 47 rfl rfl
        have e48 : aa.tmps.getD 48 undef = .pointer (some ⟨b2, off2 + i * 4, none⟩) := hf 8 _ 48 rfl rfl
        have e49 : aa.tmps.getD 49 undef = .agg #[.int .i64 xh.kind, .string xh.a, .string xh.b, .slice ya xp.length ycap] := hf 9 _ 49 rfl rfl
        have e50 : aa.tmps.getD 50 undef = .bool true := hf 10 _ 50 rfl rfl
        have e51 : aa.tmps.getD 51 undef = .bool false := hf 11 _ 51 rfl rfl
        simp only [putAll, List.foldl_cons, List.foldl_nil, e40, e41, e42, e43, e44, e45, e46, e47, e48, e49, e50, e51] at ha
        simp [Act.put] at ha
        subst ha
        clear hdef hsz hlk hf e40 e41 e42 e43 e44 e45 e46 e47 e48 e49 e50 e51

        have HBz := Lib.hid (HBr.out.trans (hbz.mono hbs))
        clear hbz HIt HXt HYt HBr z1 z2 k0 k1 k2 k3 q0 q1 q2 q3
        go_wp2
        exact ⟨⟨i + 1, by go_num, by omega, HBz.out⟩, by simp [intOf]; omega⟩
      · obtain rfl : i = m := by omega
        have hltI : ¬ (i : Int) < i := by omega
        have HBz := Lib.hid (HB.out.trans (hb.mono HB.out.size))
        clear hb
        go_wp2
        go_ret
        exact ⟨rfl, HBz.out⟩

def samenodeOk (n : Nat) : Prop := ∀ (h : NoH) (ps : List (Tr NoH)), (Tr.mk h ps).depth ≤ n → ∀ (w : World) (a : Option Addr) (cap : Nat) (b : Option Addr) (dap : Nat) (sa : Option Addr) (sc : Nat) (sb : Option Addr) (sd : Nat), ps.length ≤ cap → cap ≤ maxLen → TrsAt noHd (· < w.heap.size) 6 w a 0 ps → ps.length ≤ dap → dap ≤ maxLen → TrsAt noHd (· < w.heap.size) 6 w b 0 ps → RowsAt (· < w.heap.size) w (.slice sa h.subs.length sc) h.subs.length (h.subs.flatMap T3.cells) → RowsAt (· < w.heap.size) w (.slice sb h.subs.length sd) h.subs.length (h.subs.flatMap T3.cells) →
  Calls Tryz.prog 64 #[.agg #[.int .i64 h.kind, .string h.o, .string h.i, .string h.rel, .slice sa h.subs.length sc, .slice a ps.length cap], .agg #[.int .i64 h.kind, .string h.o, .string h.i, .string h.rel, .slice sb h.subs.length sd, .slice b ps.length dap]] w (GivesBool w true)

set_option maxRecDepth 100000 in
set_option maxHeartbeats 4000000 in
theorem samenode_ok : ∀ n : Nat, samenodeOk n
  | 0 => fun h ps hd => by rw [Tr.depth_mk] at hd; omega
  | n + 1 => by
    have ih := samenode_ok n
    intro h ps hdep w a cap b dap sa sc sb sd hcap hmax hr hdap hdmax hr2 hsa hsb
    rw [Tr.depth_mk] at hdep
    have hps : ∀ p ∈ ps, p.depth ≤ n := (Tr.depthL_le ps).1 (by omega)
    obtain ⟨m, hm⟩ : ∃ m, ps.length = m := ⟨_, rfl⟩
    have HL := Lib.hid hm
    have HR := Lib.hid hr
    have HR2 := Lib.hid hr2
    have HIh := Lib.hid ih
    have HPs := Lib.hid hps
    unfold maxLen at hmax hdmax
    rw [hm] at hcap hdap
    rw [hm]
    have HSa := Lib.hid hsa
    have HSb := Lib.hid hsb
    clear hsa hsb
    obtain ⟨W0, hW0⟩ : ∃ W, W = w.alloc (.cells #[.int .i64 h.kind, .string h.o, .string h.i, .string h.rel, .slice sa h.subs.length sc, .slice a m cap] 34) := ⟨_, rfl⟩
    obtain ⟨W1, hW1⟩ : ∃ W, W = W0.alloc (.cells #[.int .i64 h.kind, .string h.o, .string h.i, .string h.rel, .slice sb h.subs.length sd, .slice b m dap] 34) := ⟨_, rfl⟩
    obtain ⟨N, hN⟩ : ∃ N, w.heap.size = N := ⟨_, rfl⟩
    have s0 : W0.heap.size = N + 1 := by rw [hW0, ← hN]; simp
    have s1 : W1.heap.size = N + 2 := by rw [hW1]; simp [s0]
    have b01 : Below W0.heap.size W0 W1 := by rw [hW1]; exact (Below.refl _ _).alloc (Nat.le_refl _) _
    have b0 : Below w.heap.size w W0 := by rw [hW0]; exact (Below.refl _ _).alloc (Nat.le_refl _) _
    have e0 : W0.heap[N]? = some (.cells #[.int .i64 h.kind, .string h.o, .string h.i, .string h.rel, .slice sa h.subs.length sc, .slice a m cap] 34 (0, 0)) := by rw [hW0, ← hN]; exact heap_alloc_new w _
    have e1 : W1.heap[N + 1]? = some (.cells #[.int .i64 h.kind, .string h.o, .string h.i, .string h.rel, .slice sb h.subs.length sd, .slice b m dap] 34 (0, 0)) := by rw [hW1, ← s0]; exact heap_alloc_new W0 _
    have e0' := (b01.block N (by omega)).trans e0
    have HX1 := Lib.hid e0'
    have HX2 := Lib.hid e1
    have HB := Lib.hid (b0.trans (b01.mono (by omega)))
    have HW0 := Lib.hid hW0
    have HW1 := Lib.hid hW1
    have HN := Lib.hid hN
    clear hr hr2 ih hps hm b01 b0 e0 e1 e0' hW0 hW1 hN
    go_enter Tryz.func64, Tryz.ntmps64
    go_upto_region 1 with fail
    rw [HN.out, ← HW0.out, ← HW1.out]
    clear HW0 HW1 s0
    have x0 := Lib.cell_of_heap HX1.out 0; have x1 := Lib.cell_of_heap HX1.out 1; have x2 := Lib.cell_of_heap HX1.out 2; have x3 := Lib.cell_of_heap HX1.out 3; have x4 := Lib.cell_of_heap HX1.out 4; have x5 := Lib.cell_of_heap HX1.out 5
    have y0 := Lib.cell_of_heap HX2.out 0; have y1 := Lib.cell_of_heap HX2.out 1; have y2 := Lib.cell_of_heap HX2.out 2; have y3 := Lib.cell_of_heap HX2.out 3; have y4 := Lib.cell_of_heap HX2.out 4; have y5 := Lib.cell_of_heap HX2.out 5
    simp at x0 x1 x2 x3 x4 x5 y0 y1 y2 y3 y4 y5
    have hl1 : N < W1.heap.size := by omega
    have hl2 : N + 1 < W1.heap.size := by omega
    have hSb := samesb_any W1 sa sb h.subs.length sc sd h.subs rfl ((HSa.out.keep (Keeps.of_below HB.out)).reads (flat_lenk T3.cells 3 (fun _ => rfl) _)) ((HSb.out.keep (Keeps.of_below HB.out)).reads (flat_lenk T3.cells 3 (fun _ => rfl) _))
    have HSs := Lib.hid hSb
    clear hSb
    go_wp2_with (go_at_call 108; go_must (refine HSs.out.mono ?_))
    rintro e W2 ⟨rfl, b2⟩
    have HX1 := Lib.hid ((b2.block N hl1).trans HX1.out)
    have HX2 := Lib.hid ((b2.block (N + 1) hl2).trans HX2.out)
    have HB := Lib.hid (HB.out.trans (b2.mono HB.out.size))
    have hl1 : N < W2.heap.size := (Array.getElem?_eq_some_iff.1 HX1.out).1
    have hl2 : N + 1 < W2.heap.size := (Array.getElem?_eq_some_iff.1 HX2.out).1
    clear b2 HSs HSa HSb x0 x1 x2 x3 x4 x5 y0 y1 y2 y3 y4 y5
    have x0 := Lib.cell_of_heap HX1.out 0; have x1 := Lib.cell_of_heap HX1.out 1; have x2 := Lib.cell_of_heap HX1.out 2; have x3 := Lib.cell_of_heap HX1.out 3; have x4 := Lib.cell_of_heap HX1.out 4; have x5 := Lib.cell_of_heap HX1.out 5
    have y0 := Lib.cell_of_heap HX2.out 0; have y1 := Lib.cell_of_heap HX2.out 1; have y2 := Lib.cell_of_heap HX2.out 2; have y3 := Lib.cell_of_heap HX2.out 3; have y4 := Lib.cell_of_heap HX2.out 4; have y5 := Lib.cell_of_heap HX2.out 5
    simp at x0 x1 x2 x3 x4 x5 y0 y1 y2 y3 y4 y5
    go_wp2
    clear x0 x1 x2 x3 x4 x5 y0 y1 y2 y3 y4 y5
    go_loopw [45] (fun iv wr => SrRel W2 m iv wr) (fun iv _ => m - (intOf iv).toNat)
    case atStart => exact ⟨0, rfl, Nat.zero_le _, Below.refl _ _⟩
    case round =>
      obtain ⟨i, rfl, hin, hb⟩ := hrel
      by_cases hlt : i < m
      · have hltI : (i : Int) < m := by omega
        have h0I : (0 : Int) ≤ i := by omega
        have hbw := HB.out.trans (hb.mono HB.out.size)
        obtain ⟨x, hx⟩ : ∃ x, ps[i]? = some x := ⟨ps[i]'(by rw [HL.out]; exact hlt), List.getElem?_eq_getElem _⟩
        obtain ⟨b, off, cs, rfl, hbB, hbl, hcl, hcs, htr⟩ := (TrsAt.keep (Keeps.of_below hbw) (noHd_keep (Keeps.of_below hbw)) ps HR.out).get hx
        obtain ⟨b2, off2, cs2, rfl, hbB2, hbl2, hcl2, hcs2, htr2⟩ := (TrsAt.keep (Keeps.of_below hbw) (noHd_keep (Keeps.of_below hbw)) ps HR2.out).get hx
        have hxm := List.mem_of_getElem? hx
        obtain ⟨xh, xp⟩ := x
        obtain ⟨xa, xcap, xsa, xsc, rfl, x1, x2, xt, xs⟩ := trNo_open htr
        obtain ⟨ya, ycap, ysa, ysc, rfl, y1, y2, yt, ys⟩ := trNo_open htr2
        have k0 := hcs 0 _ rfl; have k1 := hcs 1 _ rfl; have k2 := hcs 2 _ rfl; have k3 := hcs 3 _ rfl; have k4 := hcs 4 _ rfl; have k5 := hcs 5 _ rfl
        have q0 := hcs2 0 _ rfl; have q1 := hcs2 1 _ rfl; have q2 := hcs2 2 _ rfl; have q3 := hcs2 3 _ rfl; have q4 := hcs2 4 _ rfl; have q5 := hcs2 5 _ rfl
        simp only [Nat.zero_add, Nat.add_zero] at k0 k1 k2 k3 k4 k5 q0 q1 q2 q3 q4 q5
        have hx1 := (hb.block N hl1).trans HX1.out
        have hx2 := (hb.block (N + 1) hl2).trans HX2.out
        have z1 := Lib.cell_of_heap hx1 5
        have z2 := Lib.cell_of_heap hx2 5
        simp at z1 z2
        have hbs := hb.size
        have hm1 : N < wr.heap.size := by omega
        have hm2 : N + 1 < wr.heap.size := by omega
        have HIt := Lib.hid (HIh.out xh xp (HPs.out _ hxm))
        have HBr := Lib.hid hb
        have HXt := Lib.hid xt
        have HYt := Lib.hid yt
        have HXs := Lib.hid xs
        have HYs := Lib.hid ys
        clear xs ys
        clear hcl hcl2 hcs hcs2 htr htr2 hx hb hbw xt yt hx1 hx2
        go_upto_region 6 with fail
        refine wp_region_all (by kernel_rfl) [eqF (.pointer (some ⟨N, 5, none⟩)), eqF (.slice (some ⟨b, off, none⟩) m cap), eqF (.int .i64 (i : Int)), eqF (.pointer (some ⟨b, off + i * 6, none⟩)), eqF (.agg #[.int .i64 xh.kind, .string xh.o, .string xh.i, .string xh.rel, .slice xsa xh.subs.length xsc, .slice xa xp.length xcap]), eqF (.pointer (some ⟨N + 1, 5, none⟩)), eqF (.slice (some ⟨b2, off2, none⟩) m dap), eqF (.int .i64 (i : Int)), eqF (.pointer (some ⟨b2, off2 + i * 6, none⟩)), eqF (.agg #[.int .i64 xh.kind, .string xh.o, .string xh.i, .string xh.rel, .slice ysa xh.subs.length ysc, .slice ya xp.length ycap]), eqF (.bool true), eqF (.bool false)] (by kernel_rfl) ⟨?_, ?_, ?_, ?_, ?_, ?_, ?_, ?_, ?_, ?_, ?_, ?_, trivial⟩ ⟨trivial, trivial, trivial, trivial, trivial, trivial, trivial, trivial, trivial, trivial, trivial, trivial, trivial⟩ ?_
        · intro ρ wx hρ hbx hl
          have e2 : ρ (.tmp 2) = .pointer (some ⟨N, 0, none⟩) := hρ.tmp 2 (by decide +kernel)
          refine y_val (v := .pointer (some ⟨N, 5, none⟩)) ?_ rfl
          simp [execOp, go_sem, e2]
        · intro ρ wx hρ hbx hl
          have e48 : ρ (.tmp 48) = .pointer (some ⟨N, 5, none⟩) := hl 0 (by decide +kernel) 48 rfl
          have kk := (hbx.cell (hm1)).trans z1
          refine y_val (v := .slice (some ⟨b, off, none⟩) m cap) ?_ rfl
          simp [execOp, go_sem, e48, kk]
        · intro ρ wx hρ hbx hl
          have e5 : ρ (.tmp 5) = .int .i64 (i : Int) := hρ.tmp 5 (by decide +kernel)
          refine y_val (v := .int .i64 (i : Int)) ?_ rfl
          simp [execOp, go_sem, e5]
        · intro ρ wx hρ hbx hl
          have e49 : ρ (.tmp 49) = .slice (some ⟨b, off, none⟩) m cap := hl 1 (by decide +kernel) 49 rfl
          have e50 : ρ (.tmp 50) = .int .i64 (i : Int) := hl 2 (by decide +kernel) 50 rfl
          refine y_val (v := .pointer (some ⟨b, off + i * 6, none⟩)) ?_ rfl
          simp [execOp, go_sem, e49, e50, hltI, h0I]
        · intro ρ wx hρ hbx hl
          have e51 : ρ (.tmp 51) = .pointer (some ⟨b, off + i * 6, none⟩) := hl 3 (by decide +kernel) 51 rfl
          have j0 := (hbx.cell (p := ⟨b, off + i * 6, none⟩) hbl).trans k0
          have j1 := (hbx.cell (p := ⟨b, off + i * 6 + 1, none⟩) hbl).trans k1
          have j2 := (hbx.cell (p := ⟨b, off + i * 6 + 2, none⟩) hbl).trans k2
          have j3 := (hbx.cell (p := ⟨b, off + i * 6 + 3, none⟩) hbl).trans k3
          have j4 := (hbx.cell (p := ⟨b, off + i * 6 + 4, none⟩) hbl).trans k4
          have j5 := (hbx.cell (p := ⟨b, off + i * 6 + 5, none⟩) hbl).trans k5
          refine y_val (v := .agg #[.int .i64 xh.kind, .string xh.o, .string xh.i, .string xh.rel, .slice xsa xh.subs.length xsc, .slice xa xp.length xcap]) ?_ rfl
          simp [execOp, go_sem, e51, j0, j1, j2, j3, j4, j5]
        · intro ρ wx hρ hbx hl
          have e3 : ρ (.tmp 3) = .pointer (some ⟨N + 1, 0, none⟩) := hρ.tmp 3 (by decide +kernel)
          refine y_val (v := .pointer (some ⟨N + 1, 5, none⟩)) ?_ rfl
          simp [execOp, go_sem, e3]
        · intro ρ wx hρ hbx hl
          have e53 : ρ (.tmp 53) = .pointer (some ⟨N + 1, 5, none⟩) := hl 5 (by decide +kernel) 53 rfl
          have kk := (hbx.cell (hm2)).trans z2
          refine y_val (v := .slice (some ⟨b2, off2, none⟩) m dap) ?_ rfl
          simp [execOp, go_sem, e53, kk]
        · intro ρ wx hρ hbx hl
          have e5 : ρ (.tmp 5) = .int .i64 (i : Int) := hρ.tmp 5 (by decide +kernel)
          refine y_val (v := .int .i64 (i : Int)) ?_ rfl
          simp [execOp, go_sem, e5]
        · intro ρ wx hρ hbx hl
          have e54 : ρ (.tmp 54) = .slice (some ⟨b2, off2, none⟩) m dap := hl 6 (by decide +kernel) 54 rfl
          have e55 : ρ (.tmp 55) = .int .i64 (i : Int) := hl 7 (by decide +kernel) 55 rfl
          refine y_val (v := .pointer (some ⟨b2, off2 + i * 6, none⟩)) ?_ rfl
          simp [execOp, go_sem, e54, e55, hltI, h0I]
        · intro ρ wx hρ hbx hl
          have e56 : ρ (.tmp 56) = .pointer (some ⟨b2, off2 + i * 6, none⟩) := hl 8 (by decide +kernel) 56 rfl
          have j0 := (hbx.cell (p := ⟨b2, off2 + i * 6, none⟩) hbl2).trans q0
          have j1 := (hbx.cell (p := ⟨b2, off2 + i * 6 + 1, none⟩) hbl2).trans q1
          have j2 := (hbx.cell (p := ⟨b2, off2 + i * 6 + 2, none⟩) hbl2).trans q2
          have j3 := (hbx.cell (p := ⟨b2, off2 + i * 6 + 3, none⟩) hbl2).trans q3
          have j4 := (hbx.cell (p := ⟨b2, off2 + i * 6 + 4, none⟩) hbl2).trans q4
          have j5 := (hbx.cell (p := ⟨b2, off2 + i * 6 + 5, none⟩) hbl2).trans q5
          refine y_val (v := .agg #[.int .i64 xh.kind, .string xh.o, .string xh.i, .string xh.rel, .slice ysa xh.subs.length ysc, .slice ya xp.length ycap]) ?_ rfl
          simp [execOp, go_sem, e56, j0, j1, j2, j3, j4, j5]
        · intro ρ wx hρ hbx hl
          have e52 : ρ (.tmp 52) = .agg #[.int .i64 xh.kind, .string xh.o, .string xh.i, .string xh.rel, .slice xsa xh.subs.length xsc, .slice xa xp.length xcap] := hl 4 (by decide +kernel) 52 rfl
          have e57 : ρ (.tmp 57) = .agg #[.int .i64 xh.kind, .string xh.o, .string xh.i, .string xh.rel, .slice ysa xh.subs.length ysc, .slice ya xp.length ycap] := hl 9 (by decide +kernel) 57 rfl
          refine y_call (f := 64) (args := #[.agg #[.int .i64 xh.kind, .string xh.o, .string xh.i, .string xh.rel, .slice xsa xh.subs.length xsc, .slice xa xp.length xcap], .agg #[.int .i64 xh.kind, .string xh.o, .string xh.i, .string xh.rel, .slice ysa xh.subs.length ysc, .slice ya xp.length ycap]]) (by simp [execOp, resolve, invoke, hρ.func, go_sem, e52, e57]) ?_
          refine (HIt.out wx xa xcap ya ycap xsa xsc ysa ysc x1 x2 (TrsAt.mono (fun x hx _ => hx) (noHd_mono (fun x hx _ => hx)) xp (TrsAt.keep (Keeps.of_below_size hbx) (noHd_keep (Keeps.of_below_size hbx)) xp (TrsAt.mono (ok' := (· < wr.heap.size)) (fun x hx _ => hx) (noHd_mono (fun x hx _ => hx)) xp HXt.out))) y1 y2 (TrsAt.mono (fun x hx _ => hx) (noHd_mono (fun x hx _ => hx)) xp (TrsAt.keep (Keeps.of_below_size hbx) (noHd_keep (Keeps.of_below_size hbx)) xp (TrsAt.mono (ok' := (· < wr.heap.size)) (fun x hx _ => hx) (noHd_mono (fun x hx _ => hx)) xp HYt.out))) ((((HXs.out).mono (ok' := (· < wr.heap.size)) (fun x hx _ => hx)).keep (Keeps.of_below_size hbx)).mono (fun x hx _ => hx)) ((((HYs.out).mono (ok' := (· < wr.heap.size)) (fun x hx _ => hx)).keep (Keeps.of_below_size hbx)).mono (fun x hx _ => hx))).mono ?_
          rintro e w6 ⟨rfl, b6⟩
          exact ⟨_, rfl, rfl, b6⟩
        · intro ρ wx hρ hbx hl
          have e58 : ρ (.tmp 58) = .bool true := hl 10 (by decide +kernel) 58 rfl
          refine y_val (v := .bool false) ?_ rfl
          simp [execOp, go_sem, e58]
        intro aa wz hdef hsz hlk hbz hf
        have ha := act_of_like hdef hsz hlk [48, 49, 50, 51, 52, 53, 54, 55, 56, 57, 58, 59] 61 rfl (by decide +kernel)
        have e48 : aa.tmps.getD 48 undef = .pointer (some ⟨N, 5, none⟩) := hf 0 _ 48 rfl rfl
        have e49 : aa.tmps.getD 49 undef = .slice (some ⟨b, off, none⟩) m cap := hf 1 _ 49 rfl rfl
        have e50 : aa.tmps.getD 50 undef = .int .i64 (i : Int) := hf 2 _ 50 rfl rfl
        have e51 : aa.tmps.getD 51 undef = .pointer (some ⟨b, off + i * 6, none⟩) := hf 3 _ 51 rfl rfl
        have e52 : aa.tmps.getD 52 undef = .agg #[.int .i64 xh.kind, .string xh.o, .string xh.i, .string xh.rel, .slice xsa xh.subs.length xsc, .slice xa xp.length xcap] := hf 4 _ 52 rfl rfl
        have e53 : aa.tmps.getD 53 undef = .pointer (some ⟨N + 1, 5, none⟩) := hf 5 _ 53 rfl rfl
        have e54 : aa.tmps.getD 54 undef = .slice (some ⟨b2, off2, none⟩) m dap := hf 6 _ 54 rfl rfl
        have e55 : aa.tmps.getD 55 undef = .int .i64 (i : Int) := hf 7 _ 55 rfl rfl
        have e56 : aa.tmps.getD 56 undef = .pointer (some ⟨b2, off2 + i * 6, none⟩) := hf 8 _ 56 rfl rfl
        have e57 : aa.tmps.getD 57 undef = .agg #[.int .i64 xh.kind, .string xh.o, .string xh.i, .string xh.rel, .slice ysa xh.subs.length ysc, .slice ya xp.length ycap] := hf 9 _ 57 rfl rfl
        have e58 : aa.tmps.getD 58 undef = .bool true := hf 10 _ 58 rfl rfl
        have e59 : aa.tmps.getD 59 undef = .bool false := hf 11 _ 59 rfl rfl
        simp only [putAll, List.foldl_cons, List.foldl_nil, e48, e49, e50, e51, e52, e53, e54, e55, e56, e57, e58, e59] at ha
        simp [Act.put] at ha
        subst ha
        clear hdef hsz hlk hf e48 e49 e50 e51 e52 e53 e54 e55 e56 e57 e58 e59

        have HBz := Lib.hid (HBr.out.trans (hbz.mono hbs))
        clear hbz HIt HXt HYt HBr z1 z2 k0 k1 k2 k3 k4 k5 q0 q1 q2 q3 q4 q5
        go_wp2
        exact ⟨⟨i + 1, by go_num, by omega, HBz.out⟩, by simp [intOf]; omega⟩
      · obtain rfl : i = m := by omega
        have hltI : ¬ (i : Int) < i := by omega
        have HBz := Lib.hid (HB.out.trans (hb.mono HB.out.size))
        clear hb
        go_wp2
        go_ret
        exact ⟨rfl, HBz.out⟩

end Go.Proofs.YtdonibkkdhokpaaGreat
