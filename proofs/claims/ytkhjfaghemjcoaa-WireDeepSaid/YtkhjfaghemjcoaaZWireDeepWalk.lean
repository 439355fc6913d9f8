/- The law WireDeep (written by gen_wiredeep2.py). -/
import Derived.Test.YtkhjfaghemjcoaaZWireDeepM
namespace Go.Proofs.Ytkhjfaghemjcoaa
open Go Go.RowKit

theorem rows_nil {ok : Nat → Prop} {w : World} : ∀ (_ : Unit) (_ : Unit), RowsAt ok w (.slice none 0 0) 0 [] := fun _ _ => ⟨none, 0, rfl, Nat.le_refl _, Nat.zero_le _, fun j u hj => by simp at hj⟩

/-- A response lies in block gp. -/
def DeepP (K gp : Nat) (w : World) : Prop :=
  ∃ p a1 a2 a3 a4 a5 sa a c1 c2 c3 c4 c5 sc cap, w.heap[gp]? = some (.cells #[.int .u64 (p.id : Int), .int .i64 p.err, .int .u64 (p.rev : Int), .string p.token, .slice a1 p.flags.length c1, .slice a2 p.tuples.length c2, .slice a3 p.objs.length c3, .slice a4 p.events.length c4, .slice a5 p.steps.length c5, .int .i64 p.th.kind, .string p.th.o, .string p.th.i, .string p.th.rel, .slice sa p.th.subs.length sc, .slice a p.tps.length cap] 54 (0, 0)) ∧ RespR (· < w.heap.size) w p a1 a2 a3 a4 a5 sa a c1 c2 c3 c4 c5 sc cap ∧ RespOk p K

/-- The chain of rules so far, in block gr. -/
def RuChain (B gp gr : Nat) (w0 : World) (K : Nat) (iv : Value) (w : World) : Prop :=
  ∃ i : Nat, iv = .int .i64 (i : Int) ∧ i < K ∧ ∃ h ps a cap, chain (ruK 1) (ruK 4) i = .mk h ps ∧ w.heap[gr]? = some (.cells #[.int .i64 h.kind, .string ⟨#[]⟩, .string ⟨#[]⟩, .slice a ps.length cap] 61 (0, 0)) ∧ h.a = e0 ∧ h.b = e0 ∧
    ps.length ≤ cap ∧ cap ≤ maxLen ∧ TrsAt ruHd (fun b => gr < b) 4 w a 0 ps ∧ w.heap[gp]? = some (.cells #[.int .u64 0, .int .i64 0, .int .u64 0, .string ⟨#[]⟩, .slice none 0 0, .slice none 0 0, .slice none 0 0, .slice none 0 0, .slice none 0 0, .int .i64 0, .string ⟨#[]⟩, .string ⟨#[]⟩, .string ⟨#[]⟩, .slice none 0 0, .slice none 0 0] 54 (0, 0)) ∧ Below B w0 w

/-- The chain of nodes so far, in block gp. -/
def NoChain (B gp : Nat) (w0 : World) (K : Nat) (iv : Value) (w : World) : Prop :=
  ∃ i : Nat, iv = .int .i64 (i : Int) ∧ i < K ∧ ∃ h ps a cap, chain (noK 0) (noK 4) i = .mk h ps ∧ w.heap[gp]? = some (.cells #[.int .u64 0, .int .i64 0, .int .u64 0, .string ⟨#[]⟩, .slice none 0 0, .slice none 0 0, .slice none 0 0, .slice none 0 0, .slice none 0 0, .int .i64 h.kind, .string ⟨#[]⟩, .string ⟨#[]⟩, .string ⟨#[]⟩, .slice none 0 0, .slice a ps.length cap] 54 (0, 0)) ∧ (∃ k, h = noK k) ∧
    ps.length ≤ cap ∧ cap ≤ maxLen ∧ TrsAt noHd (fun b => gp < b) 6 w a 0 ps ∧ Below B w0 w

set_option maxRecDepth 100000 in
set_option maxHeartbeats 8000000 in
theorem wireDeep_walk (w : World) (n : Nat) (hn : n < 256) (rule : Bool) :
    Calls Try.prog 5 #[.int .u8 (n : Int), .bool rule] w (SaysTrue w) := by
  have HF := Lib.hid (fixed37_any w)
  have hrem : Int.tmod (n : Int) 100 = ((n % 100 : Nat) : Int) := by rw [Int.tmod_eq_emod_of_nonneg (by omega)]; omega
  obtain ⟨m, hm⟩ : ∃ m, n % 100 = m := ⟨_, rfl⟩
  have hm100 : m < 100 := by omega
  rw [hm] at hrem
  clear hm
  go_enter Try.func5, Try.ntmps5
  go_wp2_with (go_at_call 6; go_must (refine HF.out.mono ?_))
  rintro e w1 ⟨rfl, b1⟩
  have hba : Below w1.heap.size w1 (w1.alloc (.cells #[.int .u64 0, .int .i64 0, .int .u64 0, .string ⟨#[]⟩, .slice none 0 0, .slice none 0 0, .slice none 0 0, .slice none 0 0, .slice none 0 0, .int .i64 0, .string ⟨#[]⟩, .string ⟨#[]⟩, .string ⟨#[]⟩, .slice none 0 0, .slice none 0 0] 54)) := (Below.refl _ _).alloc (Nat.le_refl _) _
  have HB := Lib.hid (b1.trans (hba.mono b1.size))
  have HP0 := Lib.hid (heap_alloc_new w1 (.cells #[.int .u64 0, .int .i64 0, .int .u64 0, .string ⟨#[]⟩, .slice none 0 0, .slice none 0 0, .slice none 0 0, .slice none 0 0, .slice none 0 0, .int .i64 0, .string ⟨#[]⟩, .string ⟨#[]⟩, .string ⟨#[]⟩, .slice none 0 0, .slice none 0 0] 54))
  have hB1 : w.heap.size ≤ w1.heap.size := b1.size
  clear HF b1 hba
  go_upto_region 5 with fail
  obtain ⟨gp, hgpe⟩ : ∃ g, w1.heap.size = g := ⟨_, rfl⟩
  rw [hgpe] at HP0 hB1
  rw [hgpe]
  clear hgpe
  generalize w1.alloc (.cells #[.int .u64 0, .int .i64 0, .int .u64 0, .string ⟨#[]⟩, .slice none 0 0, .slice none 0 0, .slice none 0 0, .slice none 0 0, .slice none 0 0, .int .i64 0, .string ⟨#[]⟩, .string ⟨#[]⟩, .string ⟨#[]⟩, .slice none 0 0, .slice none 0 0] 54) = w2 at *
  have HP := Lib.hid HP0.out
  have hgp2 := (Array.getElem?_eq_some_iff.1 HP0.out).1
  clear HP0
  cases rule with
  | true =>
    have hba : Below w2.heap.size w2 (w2.alloc (.cells #[.int .i64 1, .string ⟨#[]⟩, .string ⟨#[]⟩, .slice none 0 0] 61)) := (Below.refl _ _).alloc (Nat.le_refl _) _
    have HB := Lib.hid (HB.out.trans (hba.mono HB.out.size))
    have HP := Lib.hid ((hba.block gp hgp2).trans HP.out)
    have HG0 := Lib.hid (heap_alloc_new w2 (.cells #[.int .i64 1, .string ⟨#[]⟩, .string ⟨#[]⟩, .slice none 0 0] 61))
    clear hba
    go_upto_region 7 with fail
    obtain ⟨gr, hgre⟩ : ∃ g, w2.heap.size = g := ⟨_, rfl⟩
    rw [hgre] at HG0 hgp2
    rw [hgre]
    clear hgre
    generalize w2.alloc (.cells #[.int .i64 1, .string ⟨#[]⟩, .string ⟨#[]⟩, .slice none 0 0] 61) = w3 at *
    have HG := Lib.hid HG0.out
    clear HG0
    have hgB : w.heap.size ≤ gr := by omega
    go_wp2_with fail
    go_loopw [23] (fun iv wr => RuChain w.heap.size gp gr w (m + 1) iv wr) (fun iv _ => m - (intOf iv).toNat)
    case atStart => exact ⟨0, rfl, by omega, ruK 1, [], none, 0, by rw [chain], HG.out, rfl, rfl, Nat.le_refl _, Nat.zero_le _, by rw [TrsAt]; trivial, HP.out, HB.out⟩
    case round =>
      obtain ⟨i, rfl, hi, h, ps, a, cap, hch, hgr, ha, hb, hc1, hc2, htr, hpx, hbel⟩ := hrel
      have q0 := Lib.cell_of_heap hgr 0
      have q1 := Lib.cell_of_heap hgr 1
      have q2 := Lib.cell_of_heap hgr 2
      have q3 := Lib.cell_of_heap hgr 3
      have f0 := Lib.frozen_of_heap hgr
      simp at q0 q1 q2 q3
      have hgl := (Array.getElem?_eq_some_iff.1 hgr).1
      by_cases hlt : i < m
      · have hltI : (i : Int) < m := by omega
        have s1 := heap_setCell_same _ _ 0 _ _ (.int .i64 4) hgr
        have s2 := heap_setCell_same _ _ 1 _ _ (.string ⟨#[]⟩) s1
        have s3 := heap_setCell_same _ _ 2 _ _ (.string ⟨#[]⟩) s2
        have s4 := heap_setCell_same _ _ 3 _ _ (.slice (some ⟨wr.heap.size, 0, none⟩) 1 1) s3
        simp at s4
        obtain ⟨ws, hws⟩ : ∃ x, ((((wr.setCell ⟨gr, 0, none⟩ (.int .i64 4)).setCell ⟨gr, 1, none⟩ (.string ⟨#[]⟩)).setCell ⟨gr, 2, none⟩ (.string ⟨#[]⟩)).setCell ⟨gr, 3, none⟩ (.slice (some ⟨wr.heap.size, 0, none⟩) 1 1)) = x := ⟨_, rfl⟩
        have hwsz : ws.heap.size = wr.heap.size := by rw [← hws]; simp [World.setCell]
        have htw : Touch wr ws [gr] := by
          rw [← hws]
          exact ((((Touch.refl wr [gr]).setCell (p := ⟨gr, 0, none⟩) (.inl (by simp)) _).setCell (p := ⟨gr, 1, none⟩) (.inl (by simp)) _).setCell (p := ⟨gr, 2, none⟩) (.inl (by simp)) _).setCell (p := ⟨gr, 3, none⟩) (.inl (by simp)) _
        rw [hws] at s4
        have hal : Below ws.heap.size ws (ws.alloc (.cells #[.int .i64 h.kind, .string ⟨#[]⟩, .string ⟨#[]⟩, .slice a ps.length cap] 61)) := (Below.refl _ _).alloc (Nat.le_refl _) _
        have hnew := heap_alloc_new ws (.cells #[.int .i64 h.kind, .string ⟨#[]⟩, .string ⟨#[]⟩, .slice a ps.length cap] 61)
        have hkp : Keeps (fun b => gr < b) wr (ws.alloc (.cells #[.int .i64 h.kind, .string ⟨#[]⟩, .string ⟨#[]⟩, .slice a ps.length cap] 61)) := (⟨htw.size, fun b hb hl => htw.block b hl (by simp; omega)⟩ : Keeps (fun b => gr < b) wr ws).trans (Keeps.of_below_size hal)
        have hrel : RuChain w.heap.size gp gr w (m + 1) (.int .i64 ((i + 1 : Nat) : Int)) (ws.alloc (.cells #[.int .i64 h.kind, .string ⟨#[]⟩, .string ⟨#[]⟩, .slice a ps.length cap] 61)) := by
          refine ⟨i + 1, rfl, by omega, ruK 4, [chain (ruK 1) (ruK 4) i], some ⟨wr.heap.size, 0, none⟩, 1, by rw [chain], (hal.block gr (by omega)).trans s4, rfl, rfl, Nat.le_refl _, by unfold maxLen; decide, ?_, (hal.block gp (by have := (Array.getElem?_eq_some_iff.1 hpx).1; omega)).trans (htw.keep hpx (by simp; omega)), ?_⟩
          · refine TrsAt.of_all _ _ fun j p hj => ?_
            have hj0 : j = 0 := by have := (List.getElem?_eq_some_iff.1 hj).1; simp at this; omega
            subst hj0
            simp at hj
            subst hj
            refine ⟨wr.heap.size, 0, [.int .i64 h.kind, .string ⟨#[]⟩, .string ⟨#[]⟩, .slice a ps.length cap], rfl, hgl, by simp; omega, rfl, fun k u hk => ?_, ?_⟩
            · rw [← hwsz, Nat.zero_mul, Nat.add_zero, Nat.zero_add, Lib.cell_of_heap hnew k]
              simpa using hk
            · rw [hch, TrAt]
              exact ⟨[.int .i64 h.kind, .string ⟨#[]⟩, .string ⟨#[]⟩], a, cap, rfl, rfl, by unfold ruHd; rw [ha, hb]; rfl, hc1, hc2, TrsAt.keep hkp (ruHd_keep hkp) _ htr⟩
          · exact (hbel.trans (htw.below hbel.size (fun x hx => by simp at hx; omega))).trans (hal.mono (by rw [hwsz]; exact hbel.size))
        rw [← hws] at hrel
        have HRl := Lib.hid hrel
        clear hrel hkp hnew hal htw hwsz s1 s2 s3 s4 hws hch htr hpx hbel hgr
        go_wp2
        refine ⟨?_, by simp [intOf]; omega⟩
        exact HRl.out
      · obtain rfl : m = i := by omega
        have hltI : ¬ (m : Int) < m := by omega
        have hgp1 := (Array.getElem?_eq_some_iff.1 hpx).1
        have p8 := Lib.cell_of_heap hpx 8
        have fp := Lib.frozen_of_heap hpx
        simp at p8
        have hd : DeepP (m + 1) gp ((wr.setCell ⟨gp, 8, none⟩ (.slice (some ⟨wr.heap.size, 0, none⟩) 1 1)).alloc (.cells #[.string ⟨#[]⟩, .string ⟨#[]⟩, .string ⟨#[]⟩, .int .i64 h.kind, .string ⟨#[]⟩, .string ⟨#[]⟩, .slice a ps.length cap, .string ⟨#[]⟩, .string ⟨#[]⟩, .string ⟨#[]⟩, .slice none 0 0] 67)) ∧ Below w.heap.size w ((wr.setCell ⟨gp, 8, none⟩ (.slice (some ⟨wr.heap.size, 0, none⟩) 1 1)).alloc (.cells #[.string ⟨#[]⟩, .string ⟨#[]⟩, .string ⟨#[]⟩, .int .i64 h.kind, .string ⟨#[]⟩, .string ⟨#[]⟩, .slice a ps.length cap, .string ⟨#[]⟩, .string ⟨#[]⟩, .string ⟨#[]⟩, .slice none 0 0] 67)) := by
          have hpe : ruResp m = ⟨0, 0, 0, e0, [], [], [], [], [⟨⟨e0, e0, e0⟩, h, ps, ⟨e0, e0, e0⟩, []⟩], noK 0, []⟩ := by unfold ruResp; rw [hch]; rfl
          have hok := ruResp_ok m hm100
          rw [hpe] at hok
          have s1 := heap_setCell_same _ _ 8 _ _ (.slice (some ⟨wr.heap.size, 0, none⟩) 1 1) hpx
          simp at s1
          have htw : Touch wr (wr.setCell ⟨gp, 8, none⟩ (.slice (some ⟨wr.heap.size, 0, none⟩) 1 1)) [gp] := (Touch.refl wr [gp]).setCell (p := ⟨gp, 8, none⟩) (.inl (by simp)) _
          obtain ⟨ws, hws⟩ : ∃ x, wr.setCell ⟨gp, 8, none⟩ (.slice (some ⟨wr.heap.size, 0, none⟩) 1 1) = x := ⟨_, rfl⟩
          have hwsz : ws.heap.size = wr.heap.size := by rw [← hws]; simp [World.setCell]
          rw [hws] at htw s1 ⊢
          have hal : Below ws.heap.size ws (ws.alloc (.cells #[.string ⟨#[]⟩, .string ⟨#[]⟩, .string ⟨#[]⟩, .int .i64 h.kind, .string ⟨#[]⟩, .string ⟨#[]⟩, .slice a ps.length cap, .string ⟨#[]⟩, .string ⟨#[]⟩, .string ⟨#[]⟩, .slice none 0 0] 67)) := (Below.refl _ _).alloc (Nat.le_refl _) _
          have hnew := heap_alloc_new ws (.cells #[.string ⟨#[]⟩, .string ⟨#[]⟩, .string ⟨#[]⟩, .int .i64 h.kind, .string ⟨#[]⟩, .string ⟨#[]⟩, .slice a ps.length cap, .string ⟨#[]⟩, .string ⟨#[]⟩, .string ⟨#[]⟩, .slice none 0 0] 67)
          have hnl := (Array.getElem?_eq_some_iff.1 hnew).1
          have hkp : Keeps (fun b => gr < b) wr (ws.alloc (.cells #[.string ⟨#[]⟩, .string ⟨#[]⟩, .string ⟨#[]⟩, .int .i64 h.kind, .string ⟨#[]⟩, .string ⟨#[]⟩, .slice a ps.length cap, .string ⟨#[]⟩, .string ⟨#[]⟩, .string ⟨#[]⟩, .slice none 0 0] 67)) := (⟨htw.size, fun b hb hl => htw.block b hl (by simp; omega)⟩ : Keeps (fun b => gr < b) wr ws).trans (Keeps.of_below_size hal)
          have htr2 := TrsAt.mono (fun x hx _ => hx) (ruHd_mono (fun x hx _ => hx)) ps (TrsAt.keep hkp (ruHd_keep hkp) _ htr)
          refine ⟨⟨_, none, none, none, none, some ⟨wr.heap.size, 0, none⟩, none, none, 0, 0, 0, 0, 1, 0, 0, (hal.block gp (by omega)).trans s1, ⟨rows_nil () (), rows_nil () (), rows_nil () (), rows_nil () (), ⟨_, 1, rfl, Nat.le_refl _, by unfold maxLen; decide, fun j y hj => ?_⟩, rows_nil () (), Nat.le_refl _, Nat.zero_le _, by rw [TrsAt]; trivial⟩, hok⟩, (hbel.trans (htw.below hbel.size (fun x hx => by simp at hx; omega))).trans (hal.mono (by rw [hwsz]; exact hbel.size))⟩
          have hj0 : j = 0 := by have := (List.getElem?_eq_some_iff.1 hj).1; simp at this; omega
          subst hj0
          simp at hj
          subst hj
          refine ⟨wr.heap.size, 0, [.string ⟨#[]⟩, .string ⟨#[]⟩, .string ⟨#[]⟩, .int .i64 h.kind, .string ⟨#[]⟩, .string ⟨#[]⟩, .slice a ps.length cap, .string ⟨#[]⟩, .string ⟨#[]⟩, .string ⟨#[]⟩, .slice none 0 0], rfl, by omega, by omega, fun k u hk => ?_, ?_⟩
          · rw [← hwsz, Nat.zero_mul, Nat.add_zero, Nat.zero_add, Lib.cell_of_heap hnew k]
            simpa using hk
          · exact ⟨a, cap, none, 0, by rw [ha, hb]; rfl, hc1, hc2, htr2, rows_nil () ()⟩
        have HD := Lib.hid hd.1
        have HB := Lib.hid hd.2
        clear hd hch htr hbel hgr hpx ha hb HP HG
        go_upto_region 16 with fail
        clear q0 q1 q2 q3 f0 p8 fp hgp1 hgl
        generalize ((wr.setCell ⟨gp, 8, none⟩ (.slice (some ⟨wr.heap.size, 0, none⟩) 1 1)).alloc (.cells #[.string ⟨#[]⟩, .string ⟨#[]⟩, .string ⟨#[]⟩, .int .i64 h.kind, .string ⟨#[]⟩, .string ⟨#[]⟩, .slice a ps.length cap, .string ⟨#[]⟩, .string ⟨#[]⟩, .string ⟨#[]⟩, .slice none 0 0] 67)) = wq at *
        obtain ⟨p, a1, a2, a3, a4, a5, sa, a, c1, c2, c3, c4, c5, sc, cap, hpx, hrr, hok⟩ := HD.out
        have HP := Lib.hid hpx
        have HR := Lib.hid hrr
        have HOk := Lib.hid hok
        clear hpx hrr hok HD
        have k0 := Lib.cell_of_heap HP.out 0
        have k1 := Lib.cell_of_heap HP.out 1
        have k2 := Lib.cell_of_heap HP.out 2
        have k3 := Lib.cell_of_heap HP.out 3
        have k4 := Lib.cell_of_heap HP.out 4
        have k5 := Lib.cell_of_heap HP.out 5
        have k6 := Lib.cell_of_heap HP.out 6
        have k7 := Lib.cell_of_heap HP.out 7
        have k8 := Lib.cell_of_heap HP.out 8
        have k9 := Lib.cell_of_heap HP.out 9
        have k10 := Lib.cell_of_heap HP.out 10
        have k11 := Lib.cell_of_heap HP.out 11
        have k12 := Lib.cell_of_heap HP.out 12
        have k13 := Lib.cell_of_heap HP.out 13
        have k14 := Lib.cell_of_heap HP.out 14
        simp at k0 k1 k2 k3 k4 k5 k6 k7 k8 k9 k10 k11 k12 k13 k14
        have hgp := (Array.getElem?_eq_some_iff.1 HP.out).1
        have HC := Lib.hid (putresponse_any wq p a1 a2 a3 a4 a5 sa a c1 c2 c3 c4 c5 sc cap HR.out HOk.out.ok HOk.out.len)
        go_wp2_with (go_at_call 14; go_must (refine HC.out.mono ?_))
        intro e wa hp
        have hpost : ∃ v ee, e = .returned (.tuple #[v, .int .i64 ee]) ∧ Below wq.heap.size wq wa ∧ (respFit p = true → ee = 0) ∧ (respFit p = false → ee = 10 ∧ v = .slice none 0 0) ∧ ∃ va vn vc, v = .slice va vn vc := by
          rcases hp with ⟨hf, v, rfl, ho, hb⟩ | ⟨hf, rfl, hb⟩
          · obtain ⟨va, vc, rfl, _, _⟩ := (ownsRow.reads ho).le
            exact ⟨_, _, rfl, hb, fun _ => rfl, (fun h => by rw [hf] at h; cases h), va, _, vc, rfl⟩
          · exact ⟨_, _, rfl, hb, (fun h => by rw [hf] at h; cases h), fun _ => ⟨rfl, rfl⟩, _, _, _, rfl⟩
        obtain ⟨v8, ee, rfl, b8, hee1, hee2, va, vn, vc, rfl⟩ := hpost
        have HE1 := Lib.hid hee1
        have HE2 := Lib.hid hee2
        have HB := Lib.hid (HB.out.trans (b8.mono HB.out.size))
        have HP := Lib.hid ((b8.block gp hgp).trans HP.out)
        have HR := Lib.hid ((HR.out.keep (Keeps.of_below_size b8)).mono (fun x _ hx => Nat.lt_of_lt_of_le hx b8.size))
        clear b8 hp hee1 hee2 HC k0 k1 k2 k3 k4 k5 k6 k7 k8 k9 k10 k11 k12 k13 k14 hgp
        have k0 := Lib.cell_of_heap HP.out 0
        have k1 := Lib.cell_of_heap HP.out 1
        have k2 := Lib.cell_of_heap HP.out 2
        have k3 := Lib.cell_of_heap HP.out 3
        have k4 := Lib.cell_of_heap HP.out 4
        have k5 := Lib.cell_of_heap HP.out 5
        have k6 := Lib.cell_of_heap HP.out 6
        have k7 := Lib.cell_of_heap HP.out 7
        have k8 := Lib.cell_of_heap HP.out 8
        have k9 := Lib.cell_of_heap HP.out 9
        have k10 := Lib.cell_of_heap HP.out 10
        have k11 := Lib.cell_of_heap HP.out 11
        have k12 := Lib.cell_of_heap HP.out 12
        have k13 := Lib.cell_of_heap HP.out 13
        have k14 := Lib.cell_of_heap HP.out 14
        simp at k0 k1 k2 k3 k4 k5 k6 k7 k8 k9 k10 k11 k12 k13 k14
        have hgp := (Array.getElem?_eq_some_iff.1 HP.out).1
        have HC := Lib.hid (refresponse_any wa p a1 a2 a3 a4 a5 sa a c1 c2 c3 c4 c5 sc cap HR.out HOk.out.ok HOk.out.len)
        go_wp2_with (go_at_call 13; go_must (refine HC.out.mono ?_))
        rintro e wb ⟨v9, rfl, o9, b9⟩
        have HSl := Lib.hid (own_sl o9)
        obtain ⟨oa, oc, rfl, _, _⟩ := (ownsRow.reads o9).le
        have HB := Lib.hid (HB.out.trans (b9.mono HB.out.size))
        clear o9 b9 HC k0 k1 k2 k3 k4 k5 k6 k7 k8 k9 k10 k11 k12 k13 k14 hgp HP HR
        have hrd := readResp_B p HOk.out.ok HOk.out.sm HOk.out.len
        have hC := getresponse_any wb wb.heap.size _ (respB p) HSl.out (Nat.le_refl _) HOk.out.len
        have HRd := Lib.hid hrd
        have HC := Lib.hid hC
        clear hrd hC
        go_wp2_with (go_at_call 12; go_must (refine HC.out.mono ?_))
        intro e wc hp
        have hpost : ∃ x0 x1 x2 x3 y0 m0 d0 y1 m1 d1 y2 m2 d2 y3 m3 d3 y4 m4 d4 x4 x5 x6 x7 y5 m5 d5 y6 m6 d6 ee2, e = .returned (.tuple #[.agg #[.int .u64 x0, .int .i64 x1, .int .u64 x2, .string x3, .slice y0 m0 d0, .slice y1 m1 d1, .slice y2 m2 d2, .slice y3 m3 d3, .slice y4 m4 d4, .int .i64 x4, .string x5, .string x6, .string x7, .slice y5 m5 d5, .slice y6 m6 d6], .int .i64 ee2]) ∧ Below wb.heap.size wb wc ∧ (respFit p = true → ee2 = 0) ∧ (respFit p = false → ee2 = 9) := by
          obtain ⟨hb, ⟨hn, rfl⟩ | ⟨p', z1, z2, z3, z4, z5, z6, z7, t1, t2, t3, t4, t5, t6, t7, hs, rfl, _⟩⟩ := hp
          · exact ⟨_, _, _, _, _, _, _, _, _, _, _, _, _, _, _, _, _, _, _, _, _, _, _, _, _, _, _, _, _, _, rfl, hb, (fun h => by rw [HRd.out.1 h] at hn; cases hn), fun _ => rfl⟩
          · exact ⟨_, _, _, _, _, _, _, _, _, _, _, _, _, _, _, _, _, _, _, _, _, _, _, _, _, _, _, _, _, _, rfl, hb, fun _ => rfl, (fun h => by rw [HRd.out.2 h] at hs; cases hs)⟩
        obtain ⟨x0, x1, x2, x3, y0, m0, d0, y1, m1, d1, y2, m2, d2, y3, m3, d3, y4, m4, d4, x4, x5, x6, x7, y5, m5, d5, y6, m6, d6, ee2, rfl, b10, hg1, hg2⟩ := hpost
        have hba : Below wc.heap.size wc (wc.alloc (.cells #[.int .u64 x0, .int .i64 x1, .int .u64 x2, .string x3, .slice y0 m0 d0, .slice y1 m1 d1, .slice y2 m2 d2, .slice y3 m3 d3, .slice y4 m4 d4, .int .i64 x4, .string x5, .string x6, .string x7, .slice y5 m5 d5, .slice y6 m6 d6] 54)) := (Below.refl _ _).alloc (Nat.le_refl _) _
        have HBz := Lib.hid ((HB.out.trans (b10.mono HB.out.size)).trans (hba.mono (Nat.le_trans HB.out.size b10.size)))
        have hfit := HOk.out.fit
        by_cases h64 : m + 1 ≤ 64
        · have h64I : ¬ (64 : Int) < 1 + (m : Int) := by omega
          rw [decide_eq_true h64] at hfit
          obtain rfl := HE1.out hfit
          obtain rfl := hg1 hfit
          clear hfit hg1 hg2 HE1 HE2 HC HRd HOk HSl hp hba b10
          go_wp2
          go_ret
          exact ⟨rfl, HBz.out⟩
        · have h64I : (64 : Int) < 1 + (m : Int) := by omega
          rw [decide_eq_false h64] at hfit
          obtain ⟨rfl, hv⟩ := HE2.out hfit
          cases hv
          obtain rfl := hg2 hfit
          clear hfit hg1 hg2 HE1 HE2 HC HRd HOk HSl hp hba b10
          go_wp2
          go_ret
          exact ⟨rfl, HBz.out⟩
  | false =>
    go_wp2_with fail
    go_loopw [35] (fun iv wr => NoChain w.heap.size gp w (m + 1) iv wr) (fun iv _ => m - (intOf iv).toNat)
    case atStart => exact ⟨0, rfl, by omega, noK 0, [], none, 0, by rw [chain], HP.out, ⟨0, rfl⟩, Nat.le_refl _, Nat.zero_le _, by rw [TrsAt]; trivial, HB.out⟩
    case round =>
      obtain ⟨i, rfl, hi, h, ps, a, cap, hch, hgr, ⟨hk0, hk1⟩, hc1, hc2, htr, hbel⟩ := hrel
      have q9 := Lib.cell_of_heap hgr 9
      have q10 := Lib.cell_of_heap hgr 10
      have q11 := Lib.cell_of_heap hgr 11
      have q12 := Lib.cell_of_heap hgr 12
      have q13 := Lib.cell_of_heap hgr 13
      have q14 := Lib.cell_of_heap hgr 14
      have f0 := Lib.frozen_of_heap hgr
      simp at q9 q10 q11 q12 q13 q14
      have hgl := (Array.getElem?_eq_some_iff.1 hgr).1
      by_cases hlt : i < m
      · have hltI : (i : Int) < m := by omega
        have s1 := heap_setCell_same _ _ 9 _ _ (.int .i64 4) hgr
        have s2 := heap_setCell_same _ _ 10 _ _ (.string ⟨#[]⟩) s1
        have s3 := heap_setCell_same _ _ 11 _ _ (.string ⟨#[]⟩) s2
        have s4 := heap_setCell_same _ _ 12 _ _ (.string ⟨#[]⟩) s3
        have s5 := heap_setCell_same _ _ 13 _ _ (.slice none 0 0) s4
        have s6 := heap_setCell_same _ _ 14 _ _ (.slice (some ⟨wr.heap.size, 0, none⟩) 1 1) s5
        simp at s6
        obtain ⟨ws, hws⟩ : ∃ x, ((((((wr.setCell ⟨gp, 9, none⟩ (.int .i64 4)).setCell ⟨gp, 10, none⟩ (.string ⟨#[]⟩)).setCell ⟨gp, 11, none⟩ (.string ⟨#[]⟩)).setCell ⟨gp, 12, none⟩ (.string ⟨#[]⟩)).setCell ⟨gp, 13, none⟩ (.slice none 0 0)).setCell ⟨gp, 14, none⟩ (.slice (some ⟨wr.heap.size, 0, none⟩) 1 1)) = x := ⟨_, rfl⟩
        have hwsz : ws.heap.size = wr.heap.size := by rw [← hws]; simp [World.setCell]
        have htw : Touch wr ws [gp] := by
          rw [← hws]
          exact (((((((Touch.refl wr [gp]).setCell (p := ⟨gp, 9, none⟩) (.inl (by simp)) _).setCell (p := ⟨gp, 10, none⟩) (.inl (by simp)) _).setCell (p := ⟨gp, 11, none⟩) (.inl (by simp)) _).setCell (p := ⟨gp, 12, none⟩) (.inl (by simp)) _).setCell (p := ⟨gp, 13, none⟩) (.inl (by simp)) _).setCell (p := ⟨gp, 14, none⟩) (.inl (by simp)) _)
        rw [hws] at s6
        have hal : Below ws.heap.size ws (ws.alloc (.cells #[.int .i64 h.kind, .string ⟨#[]⟩, .string ⟨#[]⟩, .string ⟨#[]⟩, .slice none 0 0, .slice a ps.length cap] 52)) := (Below.refl _ _).alloc (Nat.le_refl _) _
        have hnew := heap_alloc_new ws (.cells #[.int .i64 h.kind, .string ⟨#[]⟩, .string ⟨#[]⟩, .string ⟨#[]⟩, .slice none 0 0, .slice a ps.length cap] 52)
        have hkp : Keeps (fun b => gp < b) wr (ws.alloc (.cells #[.int .i64 h.kind, .string ⟨#[]⟩, .string ⟨#[]⟩, .string ⟨#[]⟩, .slice none 0 0, .slice a ps.length cap] 52)) := (⟨htw.size, fun b hb hl => htw.block b hl (by simp; omega)⟩ : Keeps (fun b => gp < b) wr ws).trans (Keeps.of_below_size hal)
        have hrel : NoChain w.heap.size gp w (m + 1) (.int .i64 ((i + 1 : Nat) : Int)) (ws.alloc (.cells #[.int .i64 h.kind, .string ⟨#[]⟩, .string ⟨#[]⟩, .string ⟨#[]⟩, .slice none 0 0, .slice a ps.length cap] 52)) := by
          refine ⟨i + 1, rfl, by omega, noK 4, [chain (noK 0) (noK 4) i], some ⟨wr.heap.size, 0, none⟩, 1, by rw [chain], (hal.block gp (by omega)).trans s6, ⟨4, rfl⟩, Nat.le_refl _, by unfold maxLen; decide, ?_, ?_⟩
          · refine TrsAt.of_all _ _ fun j p hj => ?_
            have hj0 : j = 0 := by have := (List.getElem?_eq_some_iff.1 hj).1; simp at this; omega
            subst hj0
            simp at hj
            subst hj
            refine ⟨wr.heap.size, 0, [.int .i64 h.kind, .string ⟨#[]⟩, .string ⟨#[]⟩, .string ⟨#[]⟩, .slice none 0 0, .slice a ps.length cap], rfl, hgl, by simp; omega, rfl, fun k u hk => ?_, ?_⟩
            · rw [← hwsz, Nat.zero_mul, Nat.add_zero, Nat.zero_add, Lib.cell_of_heap hnew k]
              simpa using hk
            · rw [hch, TrAt]
              exact ⟨[.int .i64 h.kind, .string ⟨#[]⟩, .string ⟨#[]⟩, .string ⟨#[]⟩, .slice none 0 0], a, cap, rfl, rfl, ⟨.slice none 0 0, by rw [hk1]; rfl, by rw [hk1]; exact rows_nil () ()⟩, hc1, hc2, TrsAt.keep hkp (noHd_keep hkp) _ htr⟩
          · exact (hbel.trans (htw.below hbel.size (fun x hx => by simp at hx; omega))).trans (hal.mono (by rw [hwsz]; exact hbel.size))
        rw [← hws] at hrel
        have HRl := Lib.hid hrel
        clear hrel hkp hnew hal htw hwsz s1 s2 s3 s4 s5 s6 hws hch htr hbel hgr hk1
        go_wp2
        refine ⟨?_, by simp [intOf]; omega⟩
        exact HRl.out
      · obtain rfl : m = i := by omega
        have hltI : ¬ (m : Int) < m := by omega
        have hd : DeepP (m + 1) gp wr := by
          have hpe : noResp m = ⟨0, 0, 0, e0, [], [], [], [], [], h, ps⟩ := by unfold noResp; rw [hch]; rfl
          have hok := noResp_ok m hm100
          rw [hpe] at hok
          subst hk1
          exact ⟨_, none, none, none, none, none, none, a, 0, 0, 0, 0, 0, 0, cap, hgr, ⟨rows_nil () (), rows_nil () (), rows_nil () (), rows_nil () (), ⟨none, 0, rfl, Nat.le_refl _, Nat.zero_le _, fun j y hj => by simp at hj⟩, rows_nil () (), hc1, hc2, TrsAt.mono (fun x hx _ => hx) (noHd_mono (fun x hx _ => hx)) _ htr⟩, hok⟩
        have HD := Lib.hid hd
        have HB := Lib.hid hbel
        clear hd hch htr hbel hgr hk1 HP
        go_upto_region 16 with fail
        clear q9 q10 q11 q12 q13 q14 f0
        obtain ⟨wq, hwq⟩ : ∃ x, x = wr := ⟨_, rfl⟩
        subst hwq
        obtain ⟨p, a1, a2, a3, a4, a5, sa, a, c1, c2, c3, c4, c5, sc, cap, hpx, hrr, hok⟩ := HD.out
        have HP := Lib.hid hpx
        have HR := Lib.hid hrr
        have HOk := Lib.hid hok
        clear hpx hrr hok HD
        have k0 := Lib.cell_of_heap HP.out 0
        have k1 := Lib.cell_of_heap HP.out 1
        have k2 := Lib.cell_of_heap HP.out 2
        have k3 := Lib.cell_of_heap HP.out 3
        have k4 := Lib.cell_of_heap HP.out 4
        have k5 := Lib.cell_of_heap HP.out 5
        have k6 := Lib.cell_of_heap HP.out 6
        have k7 := Lib.cell_of_heap HP.out 7
        have k8 := Lib.cell_of_heap HP.out 8
        have k9 := Lib.cell_of_heap HP.out 9
        have k10 := Lib.cell_of_heap HP.out 10
        have k11 := Lib.cell_of_heap HP.out 11
        have k12 := Lib.cell_of_heap HP.out 12
        have k13 := Lib.cell_of_heap HP.out 13
        have k14 := Lib.cell_of_heap HP.out 14
        simp at k0 k1 k2 k3 k4 k5 k6 k7 k8 k9 k10 k11 k12 k13 k14
        have hgp := (Array.getElem?_eq_some_iff.1 HP.out).1
        have HC := Lib.hid (putresponse_any wq p a1 a2 a3 a4 a5 sa a c1 c2 c3 c4 c5 sc cap HR.out HOk.out.ok HOk.out.len)
        go_wp2_with (go_at_call 14; go_must (refine HC.out.mono ?_))
        intro e wa hp
        have hpost : ∃ v ee, e = .returned (.tuple #[v, .int .i64 ee]) ∧ Below wq.heap.size wq wa ∧ (respFit p = true → ee = 0) ∧ (respFit p = false → ee = 10 ∧ v = .slice none 0 0) ∧ ∃ va vn vc, v = .slice va vn vc := by
          rcases hp with ⟨hf, v, rfl, ho, hb⟩ | ⟨hf, rfl, hb⟩
          · obtain ⟨va, vc, rfl, _, _⟩ := (ownsRow.reads ho).le
            exact ⟨_, _, rfl, hb, fun _ => rfl, (fun h => by rw [hf] at h; cases h), va, _, vc, rfl⟩
          · exact ⟨_, _, rfl, hb, (fun h => by rw [hf] at h; cases h), fun _ => ⟨rfl, rfl⟩, _, _, _, rfl⟩
        obtain ⟨v8, ee, rfl, b8, hee1, hee2, va, vn, vc, rfl⟩ := hpost
        have HE1 := Lib.hid hee1
        have HE2 := Lib.hid hee2
        have HB := Lib.hid (HB.out.trans (b8.mono HB.out.size))
        have HP := Lib.hid ((b8.block gp hgp).trans HP.out)
        have HR := Lib.hid ((HR.out.keep (Keeps.of_below_size b8)).mono (fun x _ hx => Nat.lt_of_lt_of_le hx b8.size))
        clear b8 hp hee1 hee2 HC k0 k1 k2 k3 k4 k5 k6 k7 k8 k9 k10 k11 k12 k13 k14 hgp
        have k0 := Lib.cell_of_heap HP.out 0
        have k1 := Lib.cell_of_heap HP.out 1
        have k2 := Lib.cell_of_heap HP.out 2
        have k3 := Lib.cell_of_heap HP.out 3
        have k4 := Lib.cell_of_heap HP.out 4
        have k5 := Lib.cell_of_heap HP.out 5
        have k6 := Lib.cell_of_heap HP.out 6
        have k7 := Lib.cell_of_heap HP.out 7
        have k8 := Lib.cell_of_heap HP.out 8
        have k9 := Lib.cell_of_heap HP.out 9
        have k10 := Lib.cell_of_heap HP.out 10
        have k11 := Lib.cell_of_heap HP.out 11
        have k12 := Lib.cell_of_heap HP.out 12
        have k13 := Lib.cell_of_heap HP.out 13
        have k14 := Lib.cell_of_heap HP.out 14
        simp at k0 k1 k2 k3 k4 k5 k6 k7 k8 k9 k10 k11 k12 k13 k14
        have hgp := (Array.getElem?_eq_some_iff.1 HP.out).1
        have HC := Lib.hid (refresponse_any wa p a1 a2 a3 a4 a5 sa a c1 c2 c3 c4 c5 sc cap HR.out HOk.out.ok HOk.out.len)
        go_wp2_with (go_at_call 13; go_must (refine HC.out.mono ?_))
        rintro e wb ⟨v9, rfl, o9, b9⟩
        have HSl := Lib.hid (own_sl o9)
        obtain ⟨oa, oc, rfl, _, _⟩ := (ownsRow.reads o9).le
        have HB := Lib.hid (HB.out.trans (b9.mono HB.out.size))
        clear o9 b9 HC k0 k1 k2 k3 k4 k5 k6 k7 k8 k9 k10 k11 k12 k13 k14 hgp HP HR
        have hrd := readResp_B p HOk.out.ok HOk.out.sm HOk.out.len
        have hC := getresponse_any wb wb.heap.size _ (respB p) HSl.out (Nat.le_refl _) HOk.out.len
        have HRd := Lib.hid hrd
        have HC := Lib.hid hC
        clear hrd hC
        go_wp2_with (go_at_call 12; go_must (refine HC.out.mono ?_))
        intro e wc hp
        have hpost : ∃ x0 x1 x2 x3 y0 m0 d0 y1 m1 d1 y2 m2 d2 y3 m3 d3 y4 m4 d4 x4 x5 x6 x7 y5 m5 d5 y6 m6 d6 ee2, e = .returned (.tuple #[.agg #[.int .u64 x0, .int .i64 x1, .int .u64 x2, .string x3, .slice y0 m0 d0, .slice y1 m1 d1, .slice y2 m2 d2, .slice y3 m3 d3, .slice y4 m4 d4, .int .i64 x4, .string x5, .string x6, .string x7, .slice y5 m5 d5, .slice y6 m6 d6], .int .i64 ee2]) ∧ Below wb.heap.size wb wc ∧ (respFit p = true → ee2 = 0) ∧ (respFit p = false → ee2 = 9) := by
          obtain ⟨hb, ⟨hn, rfl⟩ | ⟨p', z1, z2, z3, z4, z5, z6, z7, t1, t2, t3, t4, t5, t6, t7, hs, rfl, _⟩⟩ := hp
          · exact ⟨_, _, _, _, _, _, _, _, _, _, _, _, _, _, _, _, _, _, _, _, _, _, _, _, _, _, _, _, _, _, rfl, hb, (fun h => by rw [HRd.out.1 h] at hn; cases hn), fun _ => rfl⟩
          · exact ⟨_, _, _, _, _, _, _, _, _, _, _, _, _, _, _, _, _, _, _, _, _, _, _, _, _, _, _, _, _, _, rfl, hb, fun _ => rfl, (fun h => by rw [HRd.out.2 h] at hs; cases hs)⟩
        obtain ⟨x0, x1, x2, x3, y0, m0, d0, y1, m1, d1, y2, m2, d2, y3, m3, d3, y4, m4, d4, x4, x5, x6, x7, y5, m5, d5, y6, m6, d6, ee2, rfl, b10, hg1, hg2⟩ := hpost
        have hba : Below wc.heap.size wc (wc.alloc (.cells #[.int .u64 x0, .int .i64 x1, .int .u64 x2, .string x3, .slice y0 m0 d0, .slice y1 m1 d1, .slice y2 m2 d2, .slice y3 m3 d3, .slice y4 m4 d4, .int .i64 x4, .string x5, .string x6, .string x7, .slice y5 m5 d5, .slice y6 m6 d6] 54)) := (Below.refl _ _).alloc (Nat.le_refl _) _
        have HBz := Lib.hid ((HB.out.trans (b10.mono HB.out.size)).trans (hba.mono (Nat.le_trans HB.out.size b10.size)))
        have hfit := HOk.out.fit
        by_cases h64 : m + 1 ≤ 64
        · have h64I : ¬ (64 : Int) < 1 + (m : Int) := by omega
          rw [decide_eq_true h64] at hfit
          obtain rfl := HE1.out hfit
          obtain rfl := hg1 hfit
          clear hfit hg1 hg2 HE1 HE2 HC HRd HOk HSl hp hba b10
          go_wp2
          go_ret
          exact ⟨rfl, HBz.out⟩
        · have h64I : (64 : Int) < 1 + (m : Int) := by omega
          rw [decide_eq_false h64] at hfit
          obtain ⟨rfl, hv⟩ := HE2.out hfit
          cases hv
          obtain rfl := hg2 hfit
          clear hfit hg1 hg2 HE1 HE2 HC HRd HOk HSl hp hba b10
          go_wp2
          go_ret
          exact ⟨rfl, HBz.out⟩
end Go.Proofs.Ytkhjfaghemjcoaa
