/- sentryref05.SameRule of two rules that read alike. -/
import Derived.Test.YtopnldebekhelaaDoorMga
import Derived.BigQuiet
namespace Go.Proofs.YtopnldebekhelaaDoor
open Go Go.RowKit

def SrRel (w : World) (n : Nat) (v : Value) (wr : World) : Prop := ∃ k : Nat, v = .int .i64 (k : Int) ∧ k ≤ n ∧ Below w.heap.size w wr

def sameruleOk (n : Nat) : Prop := ∀ (h : RuH) (ps : List (Tr RuH)), (Tr.mk h ps).depth ≤ n → ∀ (w : World) (a : Option Addr) (cap : Nat) (b : Option Addr) (dap : Nat) , ps.length ≤ cap → cap ≤ maxLen → TrsAt ruHd (· < w.heap.size) 4 w a 0 ps → ps.length ≤ dap → dap ≤ maxLen → TrsAt ruHd (· < w.heap.size) 4 w b 0 ps →
  Calls Tryd.prog 23 #[.agg #[.int .i64 h.kind, .string h.a, .string h.b, .slice a ps.length cap], .agg #[.int .i64 h.kind, .string h.a, .string h.b, .slice b ps.length dap]] w (GivesBool w true)

set_option maxRecDepth 100000 in
set_option maxHeartbeats 4000000 in
theorem samerule_ok : ∀ n : Nat, sameruleOk n
  | 0 => fun h ps hd => by rw [Tr.depth_mk] at hd; omega
  | n + 1 => by
    have ih := samerule_ok n
    intro h ps hdep w a cap b dap  hcap hmax hr hdap hdmax hr2 
    rw [Tr.depth_mk] at hdep
    have hps : ∀ p ∈ ps, p.depth ≤ n := (Tr.depthL_le ps).1 (by omega)
    obtain ⟨m, hm⟩ : ∃ m, ps.length = m := ⟨_, rfl⟩
    have HL := Lib.hid hm
    have HR := Lib.hid hr
    have HR2 := Lib.hid hr2
    have HIh := Lib.hid ih
    have HPs := Lib.hid hps
    unfold maxLen at hmax hdmax
    rw [hm] at hcap hdap
    rw [hm]
    obtain ⟨W0, hW0⟩ : ∃ W, W = w.alloc (.cells #[.int .i64 h.kind, .string h.a, .string h.b, .slice a m cap] 42) := ⟨_, rfl⟩
    obtain ⟨W1, hW1⟩ : ∃ W, W = W0.alloc (.cells #[.int .i64 h.kind, .string h.a, .string h.b, .slice b m dap] 42) := ⟨_, rfl⟩
    obtain ⟨N, hN⟩ : ∃ N, w.heap.size = N := ⟨_, rfl⟩
    have s0 : W0.heap.size = N + 1 := by rw [hW0, ← hN]; simp
    have s1 : W1.heap.size = N + 2 := by rw [hW1]; simp [s0]
    have b01 : Below W0.heap.size W0 W1 := by rw [hW1]; exact (Below.refl _ _).alloc (Nat.le_refl _) _
    have b0 : Below w.heap.size w W0 := by rw [hW0]; exact (Below.refl _ _).alloc (Nat.le_refl _) _
    have e0 : W0.heap[N]? = some (.cells #[.int .i64 h.kind, .string h.a, .string h.b, .slice a m cap] 42 (0, 0)) := by rw [hW0, ← hN]; exact heap_alloc_new w _
    have e1 : W1.heap[N + 1]? = some (.cells #[.int .i64 h.kind, .string h.a, .string h.b, .slice b m dap] 42 (0, 0)) := by rw [hW1, ← s0]; exact heap_alloc_new W0 _
    have e0' := (b01.block N (by omega)).trans e0
    have HX1 := Lib.hid e0'
    have HX2 := Lib.hid e1
    have HB := Lib.hid (b0.trans (b01.mono (by omega)))
    have HW0 := Lib.hid hW0
    have HW1 := Lib.hid hW1
    have HN := Lib.hid hN
    clear hr hr2 ih hps hm b01 b0 e0 e1 e0' hW0 hW1 hN
    go_enter Tryd.func23, Tryd.ntmps23
    go_upto_region 1 with fail
    rw [HN.out, ← HW0.out, ← HW1.out]
    clear HW0 HW1 s0
    have x0 := Lib.cell_of_heap HX1.out 0; have x1 := Lib.cell_of_heap HX1.out 1; have x2 := Lib.cell_of_heap HX1.out 2; have x3 := Lib.cell_of_heap HX1.out 3
    have y0 := Lib.cell_of_heap HX2.out 0; have y1 := Lib.cell_of_heap HX2.out 1; have y2 := Lib.cell_of_heap HX2.out 2; have y3 := Lib.cell_of_heap HX2.out 3
    simp at x0 x1 x2 x3 y0 y1 y2 y3
    have hl1 : N < W1.heap.size := by omega
    have hl2 : N + 1 < W1.heap.size := by omega
    go_wp2
    clear x0 x1 x2 x3 y0 y1 y2 y3
    go_loopw [37] (fun iv wr => SrRel W1 m iv wr) (fun iv _ => m - (intOf iv).toNat)
    case atStart => exact ⟨0, rfl, Nat.zero_le _, Below.refl _ _⟩
    case round =>
      obtain ⟨i, rfl, hin, hb⟩ := hrel
      by_cases hlt : i < m
      · have hltI : (i : Int) < m := by omega
        have h0I : (0 : Int) ≤ i := by omega
        have hbw := HB.out.trans (hb.mono HB.out.size)
        obtain ⟨x, hx⟩ : ∃ x, ps[i]? = some x := ⟨ps[i]'(by rw [HL.out]; exact hlt), List.getElem?_eq_getElem _⟩
        obtain ⟨b, off, cs, rfl, hbB, hbl, hcl, hcs, htr⟩ := (TrsAt.keep (Keeps.of_below hbw) (ruHd_keep (Keeps.of_below hbw)) ps HR.out).get hx
        obtain ⟨b2, off2, cs2, rfl, hbB2, hbl2, hcl2, hcs2, htr2⟩ := (TrsAt.keep (Keeps.of_below hbw) (ruHd_keep (Keeps.of_below hbw)) ps HR2.out).get hx
        have hxm := List.mem_of_getElem? hx
        obtain ⟨xh, xp⟩ := x
        obtain ⟨xa, xcap, rfl, x1, x2, xt⟩ := trRu_open htr
        obtain ⟨ya, ycap, rfl, y1, y2, yt⟩ := trRu_open htr2
        have k0 := hcs 0 _ rfl; have k1 := hcs 1 _ rfl; have k2 := hcs 2 _ rfl; have k3 := hcs 3 _ rfl
        have q0 := hcs2 0 _ rfl; have q1 := hcs2 1 _ rfl; have q2 := hcs2 2 _ rfl; have q3 := hcs2 3 _ rfl
        simp only [Nat.zero_add, Nat.add_zero] at k0 k1 k2 k3 q0 q1 q2 q3
        have hx1 := (hb.block N hl1).trans HX1.out
        have hx2 := (hb.block (N + 1) hl2).trans HX2.out
        have z1 := Lib.cell_of_heap hx1 3
        have z2 := Lib.cell_of_heap hx2 3
        simp at z1 z2
        have hbs := hb.size
        have hm1 : N < wr.heap.size := by omega
        have hm2 : N + 1 < wr.heap.size := by omega
        have HIt := Lib.hid (HIh.out xh xp (HPs.out _ hxm))
        have HBr := Lib.hid hb
        have HXt := Lib.hid xt
        have HYt := Lib.hid yt
        clear hcl hcl2 hcs hcs2 htr htr2 hx hb hbw xt yt hx1 hx2
        go_upto_region 6 with fail
        refine wp_region_all (by kernel_rfl) [eqF (.pointer (some ⟨N, 3, none⟩)), eqF (.slice (some ⟨b, off, none⟩) m cap), eqF (.int .i64 (i : Int)), eqF (.pointer (some ⟨b, off + i * 4, none⟩)), eqF (.agg #[.int .i64 xh.kind, .string xh.a, .string xh.b, .slice xa xp.length xcap]), eqF (.pointer (some ⟨N + 1, 3, none⟩)), eqF (.slice (some ⟨b2, off2, none⟩) m dap), eqF (.int .i64 (i : Int)), eqF (.pointer (some ⟨b2, off2 + i * 4, none⟩)), eqF (.agg #[.int .i64 xh.kind, .string xh.a, .string xh.b, .slice ya xp.length ycap]), eqF (.bool true), eqF (.bool false)] (by kernel_rfl) ⟨?_, ?_, ?_, ?_, ?_, ?_, ?_, ?_, ?_, ?_, ?_, ?_, trivial⟩ ⟨trivial, trivial, trivial, trivial, trivial, trivial, trivial, trivial, trivial, trivial, trivial, trivial, trivial⟩ ?_
        · intro ρ wx hρ hbx hl
          have e2 : ρ (.tmp 2) = .pointer (some ⟨N, 0, none⟩) := hρ.tmp 2 (by decide +kernel)
          refine y_val (v := .pointer (some ⟨N, 3, none⟩)) ?_ rfl
          simp [execOp, go_sem, e2]
        · intro ρ wx hρ hbx hl
          have e40 : ρ (.tmp 40) = .pointer (some ⟨N, 3, none⟩) := hl 0 (by decide +kernel) 40 rfl
          have kk := (hbx.cell (hm1)).trans z1
          refine y_val (v := .slice (some ⟨b, off, none⟩) m cap) ?_ rfl
          simp [execOp, go_sem, e40, kk]
        · intro ρ wx hρ hbx hl
          have e5 : ρ (.tmp 5) = .int .i64 (i : Int) := hρ.tmp 5 (by decide +kernel)
          refine y_val (v := .int .i64 (i : Int)) ?_ rfl
          simp [execOp, go_sem, e5]
        · intro ρ wx hρ hbx hl
          have e41 : ρ (.tmp 41) = .slice (some ⟨b, off, none⟩) m cap := hl 1 (by decide +kernel) 41 rfl
          have e42 : ρ (.tmp 42) = .int .i64 (i : Int) := hl 2 (by decide +kernel) 42 rfl
          refine y_val (v := .pointer (some ⟨b, off + i * 4, none⟩)) ?_ rfl
          simp [execOp, go_sem, e41, e42, hltI, h0I]
        · intro ρ wx hρ hbx hl
          have e43 : ρ (.tmp 43) = .pointer (some ⟨b, off + i * 4, none⟩) := hl 3 (by decide +kernel) 43 rfl
          have j0 := (hbx.cell (p := ⟨b, off + i * 4, none⟩) hbl).trans k0
          have j1 := (hbx.cell (p := ⟨b, off + i * 4 + 1, none⟩) hbl).trans k1
          have j2 := (hbx.cell (p := ⟨b, off + i * 4 + 2, none⟩) hbl).trans k2
          have j3 := (hbx.cell (p := ⟨b, off + i * 4 + 3, none⟩) hbl).trans k3
          refine y_val (v := .agg #[.int .i64 xh.kind, .string xh.a, .string xh.b, .slice xa xp.length xcap]) ?_ rfl
          simp [execOp, go_sem, e43, j0, j1, j2, j3]
        · intro ρ wx hρ hbx hl
          have e3 : ρ (.tmp 3) = .pointer (some ⟨N + 1, 0, none⟩) := hρ.tmp 3 (by decide +kernel)
          refine y_val (v := .pointer (some ⟨N + 1, 3, none⟩)) ?_ rfl
          simp [execOp, go_sem, e3]
        · intro ρ wx hρ hbx hl
          have e45 : ρ (.tmp 45) = .pointer (some ⟨N + 1, 3, none⟩) := hl 5 (by decide +kernel) 45 rfl
          have kk := (hbx.cell (hm2)).trans z2
          refine y_val (v := .slice (some ⟨b2, off2, none⟩) m dap) ?_ rfl
          simp [execOp, go_sem, e45, kk]
        · intro ρ wx hρ hbx hl
          have e5 : ρ (.tmp 5) = .int .i64 (i : Int) := hρ.tmp 5 (by decide +kernel)
          refine y_val (v := .int .i64 (i : Int)) ?_ rfl
          simp [execOp, go_sem, e5]
        · intro ρ wx hρ hbx hl
          have e46 : ρ (.tmp 46) = .slice (some ⟨b2, off2, none⟩) m dap := hl 6 (by decide +kernel) 46 rfl
          have e47 : ρ (.tmp 47) = .int .i64 (i : Int) := hl 7 (by decide +kernel) 47 rfl
          refine y_val (v := .pointer (some ⟨b2, off2 + i * 4, none⟩)) ?_ rfl
          simp [execOp, go_sem, e46, e47, hltI, h0I]
        · intro ρ wx hρ hbx hl
          have e48 : ρ (.tmp 48) = .pointer (some ⟨b2, off2 + i * 4, none⟩) := hl 8 (by decide +kernel) 48 rfl
          have j0 := (hbx.cell (p := ⟨b2, off2 + i * 4, none⟩) hbl2).trans q0
          have j1 := (hbx.cell (p := ⟨b2, off2 + i * 4 + 1, none⟩) hbl2).trans q1
          have j2 := (hbx.cell (p := ⟨b2, off2 + i * 4 + 2, none⟩) hbl2).trans q2
          have j3 := (hbx.cell (p := ⟨b2, off2 + i * 4 + 3, none⟩) hbl2).trans q3
          refine y_val (v := .agg #[.int .i64 xh.kind, .string xh.a, .string xh.b, .slice ya xp.length ycap]) ?_ rfl
          simp [execOp, go_sem, e48, j0, j1, j2, j3]
        · intro ρ wx hρ hbx hl
          have e44 : ρ (.tmp 44) = .agg #[.int .i64 xh.kind, .string xh.a, .string xh.b, .slice xa xp.length xcap] := hl 4 (by decide +kernel) 44 rfl
          have e49 : ρ (.tmp 49) = .agg #[.int .i64 xh.kind, .string xh.a, .string xh.b, .slice ya xp.length ycap] := hl 9 (by decide +kernel) 49 rfl
          refine y_call (f := 23) (args := #[.agg #[.int .i64 xh.kind, .string xh.a, .string xh.b, .slice xa xp.length xcap], .agg #[.int .i64 xh.kind, .string xh.a, .string xh.b, .slice ya xp.length ycap]]) (by simp [execOp, resolve, invoke, hρ.func, go_sem, e44, e49]) ?_
          refine (HIt.out wx xa xcap ya ycap  x1 x2 (TrsAt.mono (fun x hx _ => hx) (ruHd_mono (fun x hx _ => hx)) xp (TrsAt.keep (Keeps.of_below_size hbx) (ruHd_keep (Keeps.of_below_size hbx)) xp (TrsAt.mono (ok' := (· < wr.heap.size)) (fun x hx _ => hx) (ruHd_mono (fun x hx _ => hx)) xp HXt.out))) y1 y2 (TrsAt.mono (fun x hx _ => hx) (ruHd_mono (fun x hx _ => hx)) xp (TrsAt.keep (Keeps.of_below_size hbx) (ruHd_keep (Keeps.of_below_size hbx)) xp (TrsAt.mono (ok' := (· < wr.heap.size)) (fun x hx _ => hx) (ruHd_mono (fun x hx _ => hx)) xp HYt.out)))).mono ?_
          rintro e w6 ⟨rfl, b6⟩
          exact ⟨_, rfl, rfl, b6⟩
        · intro ρ wx hρ hbx hl
          have e50 : ρ (.tmp 50) = .bool true := hl 10 (by decide +kernel) 50 rfl
          refine y_val (v := .bool false) ?_ rfl
          simp [execOp, go_sem, e50]
        intro aa wz hdef hsz hlk hbz hf
        have ha := act_of_like hdef hsz hlk [40, 41, 42, 43, 44, 45, 46, 47, 48, 49, 50, 51] 53 rfl (by decide +kernel)
        have e40 : aa.tmps.getD 40 undef = .pointer (some ⟨N, 3, none⟩) := hf 0 _ 40 rfl rfl
        have e41 : aa.tmps.getD 41 undef = .slice (some ⟨b, off, none⟩) m cap := hf 1 _ 41 rfl rfl
        have e42 : aa.tmps.getD 42 undef = .int .i64 (i : Int) := hf 2 _ 42 rfl rfl
        have e43 : aa.tmps.getD 43 undef = .pointer (some ⟨b, off + i * 4, none⟩) := hf 3 _ 43 rfl rfl
        have e44 : aa.tmps.getD 44 undef = .agg #[.int .i64 xh.kind, .string xh.a, .string xh.b, .slice xa xp.length xcap] := hf 4 _ 44 rfl rfl
        have e45 : aa.tmps.getD 45 undef = .pointer (some ⟨N + 1, 3, none⟩) := hf 5 _ 45 rfl rfl
        have e46 : aa.tmps.getD 46 undef = .slice (some ⟨b2, off2, none⟩) m dap := hf 6 _ 46 rfl rfl
        have e47 : aa.tmps.getD 47 undef = .int .i64 (i : Int) := hf 7 _ 47 rfl rfl
        have e48 : aa.tmps.getD 48 undef = .pointer (some ⟨b2, off2 + i * 4, none⟩) := hf 8 _ 48 rfl rfl
        have e49 : aa.tmps.getD 49 undef = .agg #[.int .i64 xh.kind, .string xh.a, .string xh.b, .slice ya xp.length ycap] := hf 9 _ 49 rfl rfl
        have e50 : aa.tmps.getD 50 undef = .bool true := hf 10 _ 50 rfl rfl
        have e51 : aa.tmps.getD 51 undef = .bool false := hf 11 _ 51 rfl rfl
        simp only [putAll, List.foldl_cons, List.foldl_nil, e40, e41, e42, e43, e44, e45, e46, e47, e48, e49, e50, e51] at ha
        simp [Act.put] at ha
        subst ha
        clear hdef hsz hlk hf e40 e41 e42 e43 e44 e45 e46 e47 e48 e49 e50 e51

        have HBz := Lib.hid (HBr.out.trans (hbz.mono hbs))
        clear hbz HIt HXt HYt HBr z1 z2 k0 k1 k2 k3 q0 q1 q2 q3
        go_wp2
        exact ⟨⟨i + 1, by go_num, by omega, HBz.out⟩, by simp [intOf]; omega⟩
      · obtain rfl : i = m := by omega
        have hltI : ¬ (i : Int) < i := by omega
        have HBz := Lib.hid (HB.out.trans (hb.mono HB.out.size))
        clear hb
        go_wp2
        go_ret
        exact ⟨rfl, HBz.out⟩

end Go.Proofs.YtopnldebekhelaaDoor
