/- sentryref05.Same of two schemas that read alike. -/
import Derived.Test.YtopnldebekhelaaDoorZSchSr
import Derived.Test.YtopnldebekhelaaDoorZSchPrM
import Derived.Test.YtopnldebekhelaaDoorMga
namespace Go.Proofs.YtopnldebekhelaaDoor
open Go Go.RowKit

theorem SchAt.shape {ok : Nat → Prop} {w : World} {tv : Value} {S : List Ty} {n : Nat} (h : SchAt ok w tv S) (hn : S.length = n) : ∃ ta tcap, tv = .slice ta n tcap ∧ n ≤ tcap ∧ tcap ≤ maxLen := by
  obtain ⟨es, _, ⟨a, cap, hv, h1, h2, _⟩, _⟩ := h
  rw [hn] at hv h1
  exact ⟨a, cap, hv, h1, h2⟩

theorem meas_next {j m : Nat} (h : j < m) : m - ((j : Int) + 1).toNat < m - ((j : Int)).toNat := by omega

theorem trs_later {ok : Nat → Prop} {wj wx : World} {xa : Option Addr} {xp : List (Tr RuH)} (h : TrsAt ruHd ok 4 wj xa 0 xp) (hb : Below wj.heap.size wj wx) : TrsAt ruHd (· < wx.heap.size) 4 wx xa 0 xp :=
  TrsAt.mono (fun _ hx _ => hx) (ruHd_mono (fun _ hx _ => hx)) xp (TrsAt.keep (Keeps.of_below_size hb) (ruHd_keep (Keeps.of_below_size hb)) xp (TrsAt.mono (ok' := (· < wj.heap.size)) (fun _ hx _ => hx) (ruHd_mono (fun _ hx _ => hx)) xp h))

set_option maxRecDepth 100000 in
set_option maxHeartbeats 8000000 in
theorem same_any (w : World) (tv tv2 : Value) (S : List Ty) (h : SchAt (· < w.heap.size) w tv S) (h2 : SchAt (· < w.heap.size) w tv2 S) :
    Calls Tryd.prog 10 #[.agg #[tv], .agg #[tv2]] w (GivesBool w true) := by
  obtain ⟨n, hn⟩ : ∃ n, S.length = n := ⟨_, rfl⟩
  obtain ⟨ta, tcap, rfl, htc1, htc2⟩ := h.shape hn
  obtain ⟨ta2, tcap2, rfl, htd1, htd2⟩ := h2.shape hn
  obtain ⟨N, hN⟩ : ∃ N, w.heap.size = N := ⟨_, rfl⟩
  obtain ⟨W0, hW0⟩ : ∃ W, W = w.alloc (.cells #[.slice ta n tcap] 25) := ⟨_, rfl⟩
  obtain ⟨W1, hW1⟩ : ∃ W, W = W0.alloc (.cells #[.slice ta2 n tcap2] 25) := ⟨_, rfl⟩
  have s0 : W0.heap.size = N + 1 := by rw [hW0, ← hN]; simp
  have s1 : W1.heap.size = N + 2 := by rw [hW1]; simp [s0]
  have b01 : Below W0.heap.size W0 W1 := by rw [hW1]; exact (Below.refl _ _).alloc (Nat.le_refl _) _
  have b0 : Below w.heap.size w W0 := by rw [hW0]; exact (Below.refl _ _).alloc (Nat.le_refl _) _
  have e0 : W0.heap[N]? = some (.cells #[.slice ta n tcap] 25 (0, 0)) := by rw [hW0, ← hN]; exact heap_alloc_new w _
  have e1 : W1.heap[N + 1]? = some (.cells #[.slice ta2 n tcap2] 25 (0, 0)) := by rw [hW1, ← s0]; exact heap_alloc_new W0 _
  have e0' := (b01.block N (by omega)).trans e0
  have hb : Below w.heap.size w W1 := b0.trans (b01.mono (by omega))
  have HSch := Lib.hid (h.keep (Keeps.of_below hb))
  have HSch2 := Lib.hid (h2.keep (Keeps.of_below hb))
  have HX1 := Lib.hid e0'
  have HX2 := Lib.hid e1
  have HB := Lib.hid hb
  have HW0 := Lib.hid hW0
  have HW1 := Lib.hid hW1
  have HN := Lib.hid hN
  have HL := Lib.hid hn
  unfold maxLen at htc2 htd2
  clear h h2 hb b01 b0 e0 e1 e0' hW0 hW1 hN hn
  go_enter Tryd.func10, Tryd.ntmps10
  go_upto_region 1 with fail
  rw [HN.out, ← HW0.out, ← HW1.out]
  clear HW0 HW1 s0
  have x0 := Lib.cell_of_heap HX1.out 0
  have y0 := Lib.cell_of_heap HX2.out 0
  simp at x0 y0
  have hl1 : N < W1.heap.size := by omega
  have hl2 : N + 1 < W1.heap.size := by omega
  go_wp2
  clear x0 y0
  go_loopw [19] (fun iv wr => SrRel W1 n iv wr) (fun iv _ => n - (intOf iv).toNat)
  case atStart => exact ⟨0, rfl, Nat.zero_le _, Below.refl _ _⟩
  case round =>
    obtain ⟨i, rfl, hin, hb⟩ := hrel
    by_cases hlt : i < n
    · have hltI : (i : Int) < n := by omega
      have h0I : (0 : Int) ≤ i := by omega
      obtain ⟨t, hti⟩ : ∃ t, S[i]? = some t := ⟨S[i]'(by rw [HL.out]; exact hlt), List.getElem?_eq_getElem _⟩
      obtain ⟨tn, rels⟩ := t
      have hsz := hb.size
      have hNw : N ≤ W1.heap.size := by omega
      obtain ⟨b, off, ra, rcap, ⟨vc, hvc⟩, hbB, hbl, k0, k1, hrels⟩ := ty_get (HSch.out.keep (Keeps.of_below (hb.mono (by rw [HN.out]; exact hNw)))) hti
      obtain ⟨b2, off2, ra2, rcap2, ⟨vc2, hvc2⟩, hbB2, hbl2, q0, q1, hrels2⟩ := ty_get (HSch2.out.keep (Keeps.of_below (hb.mono (by rw [HN.out]; exact hNw)))) hti
      dsimp only at k0 k1 q0 q1 hrels hrels2
      obtain ⟨m, hm⟩ : ∃ m, rels.length = m := ⟨_, rfl⟩
      rw [hm] at k1 q1
      rw [HL.out] at hvc hvc2
      cases hvc
      cases hvc2
      have hx1 := (hb.block N hl1).trans HX1.out
      have hx2 := (hb.block (N + 1) hl2).trans HX2.out
      have z1 := Lib.cell_of_heap hx1 0
      have z2 := Lib.cell_of_heap hx2 0
      simp at z1 z2
      have hm1 : N < wr.heap.size := by omega
      have hm2 : N + 1 < wr.heap.size := by omega
      have HBr := Lib.hid hb
      have HRl := Lib.hid hm
      have HRa := Lib.hid hrels
      have hmM : m ≤ maxLen := by
        obtain ⟨rs, _, ⟨_, _, e, h3, h4, _⟩, _⟩ := hrels
        rw [hm] at h3
        exact Nat.le_trans h3 h4
      have HMc := Lib.hid hmM
      clear hmM
      have HRb := Lib.hid hrels2
      clear hm hrels hrels2 hx1 hx2 hb hti
      go_upto_region 6 with fail
      refine wp_region_two (l := [_, _, _, _, _, _, _, _, _, _]) (by kernel_rfl) [.pointer (some ⟨N, 0, none⟩), .slice (some ⟨b, off, none⟩) n tcap, .int .i64 (i : Int), .pointer (some ⟨b, off + i * 2, none⟩), .agg #[.string tn, .slice ra m rcap], .pointer (some ⟨N + 1, 0, none⟩), .slice (some ⟨b2, off2, none⟩) n tcap2, .int .i64 (i : Int), .pointer (some ⟨b2, off2 + i * 2, none⟩), .agg #[.string tn, .slice ra2 m rcap2]] (.cells #[.string ⟨#[]⟩, .slice none 0 0] 39 (0, 0)) (.cells #[.string tn, .slice ra m rcap] 39 (0, 0)) (.cells #[.string tn, .slice ra2 m rcap2] 39 (0, 0)) 6 7 (by kernel_rfl) (by kernel_rfl) rfl rfl rfl rfl (by decide +kernel) (by decide +kernel) ⟨?_, ?_, ?_, ?_, ?_, ?_, ?_, ?_, ?_, ?_, trivial⟩ ?_ ?_ ?_ ?_ ?_
      · intro ρ wx hρ hbx hl
        have e2 : ρ (.tmp 2) = .pointer (some ⟨N, 0, none⟩) := hρ.tmp 2 (by decide +kernel)
        refine t_val (v := .pointer (some ⟨N, 0, none⟩)) ?_ rfl
        simp [execOp, go_sem, e2]
      · intro ρ wx hρ hbx hl
        have e22 : ρ (.tmp 22) = .pointer (some ⟨N, 0, none⟩) := hl 0 (by decide +kernel) 22 rfl
        have kk := (hbx.cell hm1).trans z1
        refine t_val (v := .slice (some ⟨b, off, none⟩) n tcap) ?_ rfl
        simp [execOp, go_sem, e22, kk]
      · intro ρ wx hρ hbx hl
        have e5 : ρ (.tmp 5) = .int .i64 (i : Int) := hρ.tmp 5 (by decide +kernel)
        refine t_val (v := .int .i64 (i : Int)) ?_ rfl
        simp [execOp, go_sem, e5]
      · intro ρ wx hρ hbx hl
        have e23 : ρ (.tmp 23) = .slice (some ⟨b, off, none⟩) n tcap := hl 1 (by decide +kernel) 23 rfl
        have e24 : ρ (.tmp 24) = .int .i64 (i : Int) := hl 2 (by decide +kernel) 24 rfl
        refine t_val (v := .pointer (some ⟨b, off + i * 2, none⟩)) ?_ rfl
        simp [execOp, go_sem, e23, e24, hltI, h0I]
      · intro ρ wx hρ hbx hl
        have e25 : ρ (.tmp 25) = .pointer (some ⟨b, off + i * 2, none⟩) := hl 3 (by decide +kernel) 25 rfl
        have j0 := (hbx.cell (p := ⟨b, off + i * 2, none⟩) hbl).trans k0
        have j1 := (hbx.cell (p := ⟨b, off + i * 2 + 1, none⟩) hbl).trans k1
        refine t_val (v := .agg #[.string tn, .slice ra m rcap]) ?_ rfl
        simp [execOp, go_sem, e25, j0, j1]
      · intro ρ wx hρ hbx hl
        have e3 : ρ (.tmp 3) = .pointer (some ⟨N + 1, 0, none⟩) := hρ.tmp 3 (by decide +kernel)
        refine t_val (v := .pointer (some ⟨N + 1, 0, none⟩)) ?_ rfl
        simp [execOp, go_sem, e3]
      · intro ρ wx hρ hbx hl
        have e27 : ρ (.tmp 27) = .pointer (some ⟨N + 1, 0, none⟩) := hl 5 (by decide +kernel) 27 rfl
        have kk := (hbx.cell hm2).trans z2
        refine t_val (v := .slice (some ⟨b2, off2, none⟩) n tcap2) ?_ rfl
        simp [execOp, go_sem, e27, kk]
      · intro ρ wx hρ hbx hl
        have e5 : ρ (.tmp 5) = .int .i64 (i : Int) := hρ.tmp 5 (by decide +kernel)
        refine t_val (v := .int .i64 (i : Int)) ?_ rfl
        simp [execOp, go_sem, e5]
      · intro ρ wx hρ hbx hl
        have e28 : ρ (.tmp 28) = .slice (some ⟨b2, off2, none⟩) n tcap2 := hl 6 (by decide +kernel) 28 rfl
        have e29 : ρ (.tmp 29) = .int .i64 (i : Int) := hl 7 (by decide +kernel) 29 rfl
        refine t_val (v := .pointer (some ⟨b2, off2 + i * 2, none⟩)) ?_ rfl
        simp [execOp, go_sem, e28, e29, hltI, h0I]
      · intro ρ wx hρ hbx hl
        have e30 : ρ (.tmp 30) = .pointer (some ⟨b2, off2 + i * 2, none⟩) := hl 8 (by decide +kernel) 30 rfl
        have j0 := (hbx.cell (p := ⟨b2, off2 + i * 2, none⟩) hbl2).trans q0
        have j1 := (hbx.cell (p := ⟨b2, off2 + i * 2 + 1, none⟩) hbl2).trans q1
        refine t_val (v := .agg #[.string tn, .slice ra2 m rcap2]) ?_ rfl
        simp [execOp, go_sem, e30, j0, j1]
      · intro ρ wx
        refine t_made (w' := wx.alloc (.cells #[.string ⟨#[]⟩, .slice none 0 0] 39)) (by simp [execOp, go_sem, ptrTo]) ((Below.refl _ _).alloc (Nat.le_refl _) _) (heap_alloc_new wx _)
      · intro ρ wx
        refine t_made (w' := wx.alloc (.cells #[.string ⟨#[]⟩, .slice none 0 0] 39)) (by simp [execOp, go_sem, ptrTo]) ((Below.refl _ _).alloc (Nat.le_refl _) _) (heap_alloc_new wx _)
      · intro ρ wx g hρ hbx hl hs hz
        have e26 : ρ (.tmp 26) = .agg #[.string tn, .slice ra m rcap] := hl 4 (by decide +kernel) 26 rfl
        have c0 := Lib.cell_of_heap hz 0
        have c1 := Lib.cell_of_heap hz 1
        simp at c0 c1
        refine t_store (w' := (wx.setCell ⟨g, 0, none⟩ (.string tn)).setCell ⟨g, 1, none⟩ (.slice ra m rcap)) (by unfold ptrTo at hs; simp [execOp, go_sem, hs, e26, c0, c1, Lib.frozen_of_heap hz]) (((Touch.refl _ _).setCell (.inl (by simp)) _).setCell (.inl (by simp)) _) ?_
        have h1 := heap_setCell_same wx g 0 _ _ (.string tn) hz
        exact heap_setCell_same _ g 1 _ _ (.slice ra m rcap) h1
      · intro ρ wx g hρ hbx hl hs hz
        have e31 : ρ (.tmp 31) = .agg #[.string tn, .slice ra2 m rcap2] := hl 9 (by decide +kernel) 31 rfl
        have c0 := Lib.cell_of_heap hz 0
        have c1 := Lib.cell_of_heap hz 1
        simp at c0 c1
        refine t_store (w' := (wx.setCell ⟨g, 0, none⟩ (.string tn)).setCell ⟨g, 1, none⟩ (.slice ra2 m rcap2)) (by unfold ptrTo at hs; simp [execOp, go_sem, hs, e31, c0, c1, Lib.frozen_of_heap hz]) (((Touch.refl _ _).setCell (.inl (by simp)) _).setCell (.inl (by simp)) _) ?_
        have h1 := heap_setCell_same wx g 0 _ _ (.string tn) hz
        exact heap_setCell_same _ g 1 _ _ (.slice ra2 m rcap2) h1
      intro aa wz g h hdef hsz hlk hbz hf e6 e7 hg hh hgh hZ1 hZ2
      have ha := act_of_like hdef hsz hlk [6, 7, 22, 23, 24, 25, 26, 27, 28, 29, 30, 31] 83 rfl (by decide +kernel)
      have e22 : aa.tmps.getD 22 undef = .pointer (some ⟨N, 0, none⟩) := hf 0 _ 22 rfl rfl
      have e23 : aa.tmps.getD 23 undef = .slice (some ⟨b, off, none⟩) n tcap := hf 1 _ 23 rfl rfl
      have e24 : aa.tmps.getD 24 undef = .int .i64 (i : Int) := hf 2 _ 24 rfl rfl
      have e25 : aa.tmps.getD 25 undef = .pointer (some ⟨b, off + i * 2, none⟩) := hf 3 _ 25 rfl rfl
      have e26 : aa.tmps.getD 26 undef = .agg #[.string tn, .slice ra m rcap] := hf 4 _ 26 rfl rfl
      have e27 : aa.tmps.getD 27 undef = .pointer (some ⟨N + 1, 0, none⟩) := hf 5 _ 27 rfl rfl
      have e28 : aa.tmps.getD 28 undef = .slice (some ⟨b2, off2, none⟩) n tcap2 := hf 6 _ 28 rfl rfl
      have e29 : aa.tmps.getD 29 undef = .int .i64 (i : Int) := hf 7 _ 29 rfl rfl
      have e30 : aa.tmps.getD 30 undef = .pointer (some ⟨b2, off2 + i * 2, none⟩) := hf 8 _ 30 rfl rfl
      have e31 : aa.tmps.getD 31 undef = .agg #[.string tn, .slice ra2 m rcap2] := hf 9 _ 31 rfl rfl
      simp only [putAll, List.foldl_cons, List.foldl_nil, e6, e7, e22, e23, e24, e25, e26, e27, e28, e29, e30, e31] at ha
      unfold ptrTo at ha
      simp [Act.put] at ha
      subst ha
      clear hdef hsz hlk hf e6 e7 e22 e23 e24 e25 e26 e27 e28 e29 e30 e31
      have HBz := Lib.hid hbz
      have hgz := (Array.getElem?_eq_some_iff.1 hZ1).1
      have hhz := (Array.getElem?_eq_some_iff.1 hZ2).1
      have HZ1 := Lib.hid hZ1
      have HZ2 := Lib.hid hZ2
      clear hbz hZ1 hZ2 k0 k1 q0 q1 z1 z2 hbB hbB2
      have c0 := Lib.cell_of_heap HZ1.out 0
      have c1 := Lib.cell_of_heap HZ1.out 1
      have d0 := Lib.cell_of_heap HZ2.out 0
      have d1 := Lib.cell_of_heap HZ2.out 1
      simp at c0 c1 d0 d1
      go_wp2
      clear c0 c1 d0 d1
      go_loopw [49] (fun jv wj => SrRel wz m jv wj) (fun jv _ => m - (intOf jv).toNat)
      case atStart => exact ⟨0, rfl, Nat.zero_le _, Below.refl _ _⟩
      case round =>
        rename World => wj
        obtain ⟨j, rfl, hjn, hbj⟩ := hrel
        by_cases hltj : j < m
        · have hltJ : (j : Int) < m := by omega
          have h0J : (0 : Int) ≤ j := by omega
          obtain ⟨rl, hrj⟩ : ∃ rl, rels[j]? = some rl := ⟨rels[j]'(by rw [HRl.out]; exact hltj), List.getElem?_eq_getElem _⟩
          obtain ⟨nm, ⟨xh, xp⟩⟩ := rl
          have hzs := HBz.out.size
          have hrs := HBr.out.size
          have hww : Below w.heap.size wr wj := (HBz.out.mono (by rw [HN.out]; omega)).trans (hbj.mono (by rw [HN.out]; omega))
          obtain ⟨rb, roff, xa, xcap, hra, hrl, k0, k1, k2, k3, k4, x1, x2, xt⟩ := rel_get (HRa.out.keep (Keeps.of_below hww)) hrj
          obtain ⟨rb2, roff2, ya, ycap, hra2, hrl2, q0, q1, q2, q3, q4, y1, y2, yt⟩ := rel_get (HRb.out.keep (Keeps.of_below hww)) hrj
          subst hra
          subst hra2
          have HXt := Lib.hid xt
          have HYt := Lib.hid yt
          have c1 := Lib.cell_of_heap ((hbj.block g hgz).trans HZ1.out) 1
          have d1 := Lib.cell_of_heap ((hbj.block h hhz).trans HZ2.out) 1
          simp at c1 d1
          have hjs := hbj.size
          have hgl : g < wj.heap.size := by omega
          have hhl : h < wj.heap.size := by omega
          have HBj := Lib.hid hbj
          clear xt yt hww hrj hbj
          go_upto_region 12 with fail
          refine wp_region_all (by kernel_rfl) [eqF (.pointer (some ⟨g, 1, none⟩)), eqF (.slice (some ⟨rb, roff, none⟩) m rcap), eqF (.int .i64 (j : Int)), eqF (.pointer (some ⟨rb, roff + j * 5, none⟩)), eqF (.pointer (some ⟨rb, roff + j * 5, none⟩)), eqF (.string nm), eqF (.pointer (some ⟨h, 1, none⟩)), eqF (.slice (some ⟨rb2, roff2, none⟩) m rcap2), eqF (.int .i64 (j : Int)), eqF (.pointer (some ⟨rb2, roff2 + j * 5, none⟩)), eqF (.pointer (some ⟨rb2, roff2 + j * 5, none⟩)), eqF (.string nm), eqF (.bool false), eqF (.bool false), eqF (.pointer (some ⟨g, 1, none⟩)), eqF (.slice (some ⟨rb, roff, none⟩) m rcap), eqF (.int .i64 (j : Int)), eqF (.pointer (some ⟨rb, roff + j * 5, none⟩)), eqF (.pointer (some ⟨rb, roff + j * 5 + 1, none⟩)), eqF (.agg #[.int .i64 xh.kind, .string xh.a, .string xh.b, .slice xa xp.length xcap]), eqF (.pointer (some ⟨h, 1, none⟩)), eqF (.slice (some ⟨rb2, roff2, none⟩) m rcap2), eqF (.int .i64 (j : Int)), eqF (.pointer (some ⟨rb2, roff2 + j * 5, none⟩)), eqF (.pointer (some ⟨rb2, roff2 + j * 5 + 1, none⟩)), eqF (.agg #[.int .i64 xh.kind, .string xh.a, .string xh.b, .slice ya xp.length ycap]), eqF (.bool true), eqF (.bool false), eqF (.bool false)] (by kernel_rfl) ⟨?_, ?_, ?_, ?_, ?_, ?_, ?_, ?_, ?_, ?_, ?_, ?_, ?_, ?_, ?_, ?_, ?_, ?_, ?_, ?_, ?_, ?_, ?_, ?_, ?_, ?_, ?_, ?_, ?_, trivial⟩ ⟨trivial, trivial, trivial, trivial, trivial, trivial, trivial, trivial, trivial, trivial, trivial, trivial, trivial, trivial, fun _ _ h => h, fun _ _ h => h, fun _ _ h => h, fun _ _ h => h, fun _ _ h => h, fun _ _ h => h, fun _ _ h => h, fun _ _ h => h, fun _ _ h => h, fun _ _ h => h, fun _ _ h => h, fun _ _ h => h, fun _ _ h => h, fun _ _ h => h, trivial, trivial⟩ ?_
          · intro ρ wx hρ hbx hl
            have e6 : ρ (.tmp 6) = .pointer (some ⟨g, 0, none⟩) := hρ.tmp 6 (by decide +kernel)
            refine y_val (v := .pointer (some ⟨g, 1, none⟩)) ?_ rfl
            simp [execOp, go_sem, e6]
          · intro ρ wx hρ hbx hl
            have e52 : ρ (.tmp 52) = .pointer (some ⟨g, 1, none⟩) := hl 0 (by decide +kernel) 52 rfl
            have kk := (hbx.cell (hgl)).trans c1
            refine y_val (v := .slice (some ⟨rb, roff, none⟩) m rcap) ?_ rfl
            simp [execOp, go_sem, e52, kk]
          · intro ρ wx hρ hbx hl
            have e8 : ρ (.tmp 8) = .int .i64 (j : Int) := hρ.tmp 8 (by decide +kernel)
            refine y_val (v := .int .i64 (j : Int)) ?_ rfl
            simp [execOp, go_sem, e8]
          · intro ρ wx hρ hbx hl
            have e53 : ρ (.tmp 53) = .slice (some ⟨rb, roff, none⟩) m rcap := hl 1 (by decide +kernel) 53 rfl
            have e54 : ρ (.tmp 54) = .int .i64 (j : Int) := hl 2 (by decide +kernel) 54 rfl
            refine y_val (v := .pointer (some ⟨rb, roff + j * 5, none⟩)) ?_ rfl
            simp [execOp, go_sem, e53, e54, hltJ, h0J]
          · intro ρ wx hρ hbx hl
            have e55 : ρ (.tmp 55) = .pointer (some ⟨rb, roff + j * 5, none⟩) := hl 3 (by decide +kernel) 55 rfl
            refine y_val (v := .pointer (some ⟨rb, roff + j * 5, none⟩)) ?_ rfl
            simp [execOp, go_sem, e55]
          · intro ρ wx hρ hbx hl
            have e56 : ρ (.tmp 56) = .pointer (some ⟨rb, roff + j * 5, none⟩) := hl 4 (by decide +kernel) 56 rfl
            have kk := (hbx.cell (hrl)).trans k0
            refine y_val (v := .string nm) ?_ rfl
            simp [execOp, go_sem, e56, kk]
          · intro ρ wx hρ hbx hl
            have e7 : ρ (.tmp 7) = .pointer (some ⟨h, 0, none⟩) := hρ.tmp 7 (by decide +kernel)
            refine y_val (v := .pointer (some ⟨h, 1, none⟩)) ?_ rfl
            simp [execOp, go_sem, e7]
          · intro ρ wx hρ hbx hl
            have e58 : ρ (.tmp 58) = .pointer (some ⟨h, 1, none⟩) := hl 6 (by decide +kernel) 58 rfl
            have kk := (hbx.cell (hhl)).trans d1
            refine y_val (v := .slice (some ⟨rb2, roff2, none⟩) m rcap2) ?_ rfl
            simp [execOp, go_sem, e58, kk]
          · intro ρ wx hρ hbx hl
            have e8 : ρ (.tmp 8) = .int .i64 (j : Int) := hρ.tmp 8 (by decide +kernel)
            refine y_val (v := .int .i64 (j : Int)) ?_ rfl
            simp [execOp, go_sem, e8]
          · intro ρ wx hρ hbx hl
            have e59 : ρ (.tmp 59) = .slice (some ⟨rb2, roff2, none⟩) m rcap2 := hl 7 (by decide +kernel) 59 rfl
            have e60 : ρ (.tmp 60) = .int .i64 (j : Int) := hl 8 (by decide +kernel) 60 rfl
            refine y_val (v := .pointer (some ⟨rb2, roff2 + j * 5, none⟩)) ?_ rfl
            simp [execOp, go_sem, e59, e60, hltJ, h0J]
          · intro ρ wx hρ hbx hl
            have e61 : ρ (.tmp 61) = .pointer (some ⟨rb2, roff2 + j * 5, none⟩) := hl 9 (by decide +kernel) 61 rfl
            refine y_val (v := .pointer (some ⟨rb2, roff2 + j * 5, none⟩)) ?_ rfl
            simp [execOp, go_sem, e61]
          · intro ρ wx hρ hbx hl
            have e62 : ρ (.tmp 62) = .pointer (some ⟨rb2, roff2 + j * 5, none⟩) := hl 10 (by decide +kernel) 62 rfl
            have kk := (hbx.cell (hrl2)).trans q0
            refine y_val (v := .string nm) ?_ rfl
            simp [execOp, go_sem, e62, kk]
          · intro ρ wx hρ hbx hl
            have e57 : ρ (.tmp 57) = .string nm := hl 5 (by decide +kernel) 57 rfl
            have e63 : ρ (.tmp 63) = .string nm := hl 11 (by decide +kernel) 63 rfl
            refine y_val (v := .bool false) ?_ rfl
            simp [execOp, go_sem, e57, e63]
          · intro ρ wx hρ hbx hl
            have e64 : ρ (.tmp 64) = .bool false := hl 12 (by decide +kernel) 64 rfl
            refine y_val (v := .bool false) ?_ rfl
            simp [execOp, go_sem, e64]
          · intro ρ wx hρ hbx hl
            have e6 : ρ (.tmp 6) = .pointer (some ⟨g, 0, none⟩) := hρ.tmp 6 (by decide +kernel)
            refine y_val (v := .pointer (some ⟨g, 1, none⟩)) ?_ rfl
            simp [execOp, go_sem, e6]
          · intro ρ wx hρ hbx hl
            have e66 : ρ (.tmp 66) = .pointer (some ⟨g, 1, none⟩) := hl 14 (by decide +kernel) 66 rfl
            have kk := (hbx.cell (hgl)).trans c1
            refine y_val (v := .slice (some ⟨rb, roff, none⟩) m rcap) ?_ rfl
            simp [execOp, go_sem, e66, kk]
          · intro ρ wx hρ hbx hl
            have e8 : ρ (.tmp 8) = .int .i64 (j : Int) := hρ.tmp 8 (by decide +kernel)
            refine y_val (v := .int .i64 (j : Int)) ?_ rfl
            simp [execOp, go_sem, e8]
          · intro ρ wx hρ hbx hl
            have e67 : ρ (.tmp 67) = .slice (some ⟨rb, roff, none⟩) m rcap := hl 15 (by decide +kernel) 67 rfl
            have e68 : ρ (.tmp 68) = .int .i64 (j : Int) := hl 16 (by decide +kernel) 68 rfl
            refine y_val (v := .pointer (some ⟨rb, roff + j * 5, none⟩)) ?_ rfl
            simp [execOp, go_sem, e67, e68, hltJ, h0J]
          · intro ρ wx hρ hbx hl
            have e69 : ρ (.tmp 69) = .pointer (some ⟨rb, roff + j * 5, none⟩) := hl 17 (by decide +kernel) 69 rfl
            refine y_val (v := .pointer (some ⟨rb, roff + j * 5 + 1, none⟩)) ?_ rfl
            simp [execOp, go_sem, e69]
          · intro ρ wx hρ hbx hl
            have e70 : ρ (.tmp 70) = .pointer (some ⟨rb, roff + j * 5 + 1, none⟩) := hl 18 (by decide +kernel) 70 rfl
            have j1 := (hbx.cell (p := ⟨rb, roff + j * 5 + 1, none⟩) hrl).trans k1
            have j2 := (hbx.cell (p := ⟨rb, roff + j * 5 + 2, none⟩) hrl).trans k2
            have j3 := (hbx.cell (p := ⟨rb, roff + j * 5 + 3, none⟩) hrl).trans k3
            have j4 := (hbx.cell (p := ⟨rb, roff + j * 5 + 4, none⟩) hrl).trans k4
            refine y_val (v := .agg #[.int .i64 xh.kind, .string xh.a, .string xh.b, .slice xa xp.length xcap]) ?_ rfl
            simp [execOp, go_sem, e70, j1, j2, j3, j4]
          · intro ρ wx hρ hbx hl
            have e7 : ρ (.tmp 7) = .pointer (some ⟨h, 0, none⟩) := hρ.tmp 7 (by decide +kernel)
            refine y_val (v := .pointer (some ⟨h, 1, none⟩)) ?_ rfl
            simp [execOp, go_sem, e7]
          · intro ρ wx hρ hbx hl
            have e72 : ρ (.tmp 72) = .pointer (some ⟨h, 1, none⟩) := hl 20 (by decide +kernel) 72 rfl
            have kk := (hbx.cell (hhl)).trans d1
            refine y_val (v := .slice (some ⟨rb2, roff2, none⟩) m rcap2) ?_ rfl
            simp [execOp, go_sem, e72, kk]
          · intro ρ wx hρ hbx hl
            have e8 : ρ (.tmp 8) = .int .i64 (j : Int) := hρ.tmp 8 (by decide +kernel)
            refine y_val (v := .int .i64 (j : Int)) ?_ rfl
            simp [execOp, go_sem, e8]
          · intro ρ wx hρ hbx hl
            have e73 : ρ (.tmp 73) = .slice (some ⟨rb2, roff2, none⟩) m rcap2 := hl 21 (by decide +kernel) 73 rfl
            have e74 : ρ (.tmp 74) = .int .i64 (j : Int) := hl 22 (by decide +kernel) 74 rfl
            refine y_val (v := .pointer (some ⟨rb2, roff2 + j * 5, none⟩)) ?_ rfl
            simp [execOp, go_sem, e73, e74, hltJ, h0J]
          · intro ρ wx hρ hbx hl
            have e75 : ρ (.tmp 75) = .pointer (some ⟨rb2, roff2 + j * 5, none⟩) := hl 23 (by decide +kernel) 75 rfl
            refine y_val (v := .pointer (some ⟨rb2, roff2 + j * 5 + 1, none⟩)) ?_ rfl
            simp [execOp, go_sem, e75]
          · intro ρ wx hρ hbx hl
            have e76 : ρ (.tmp 76) = .pointer (some ⟨rb2, roff2 + j * 5 + 1, none⟩) := hl 24 (by decide +kernel) 76 rfl
            have j1 := (hbx.cell (p := ⟨rb2, roff2 + j * 5 + 1, none⟩) hrl2).trans q1
            have j2 := (hbx.cell (p := ⟨rb2, roff2 + j * 5 + 2, none⟩) hrl2).trans q2
            have j3 := (hbx.cell (p := ⟨rb2, roff2 + j * 5 + 3, none⟩) hrl2).trans q3
            have j4 := (hbx.cell (p := ⟨rb2, roff2 + j * 5 + 4, none⟩) hrl2).trans q4
            refine y_val (v := .agg #[.int .i64 xh.kind, .string xh.a, .string xh.b, .slice ya xp.length ycap]) ?_ rfl
            simp [execOp, go_sem, e76, j1, j2, j3, j4]
          · intro ρ wx hρ hbx hl
            have e71 : ρ (.tmp 71) = .agg #[.int .i64 xh.kind, .string xh.a, .string xh.b, .slice xa xp.length xcap] := hl 19 (by decide +kernel) 71 rfl
            have e77 : ρ (.tmp 77) = .agg #[.int .i64 xh.kind, .string xh.a, .string xh.b, .slice ya xp.length ycap] := hl 25 (by decide +kernel) 77 rfl
            refine y_call (f := 23) (args := #[.agg #[.int .i64 xh.kind, .string xh.a, .string xh.b, .slice xa xp.length xcap], .agg #[.int .i64 xh.kind, .string xh.a, .string xh.b, .slice ya xp.length ycap]]) (by simp [execOp, resolve, invoke, hρ.func, go_sem, e71, e77]) ?_
            refine (samerule_ok _ xh xp (Nat.le_refl _) wx xa xcap ya ycap x1 x2 (trs_later HXt.out hbx) y1 y2 (trs_later HYt.out hbx)).mono ?_
            rintro e w6 ⟨rfl, b6⟩
            exact ⟨_, rfl, rfl, b6⟩
          · intro ρ wx hρ hbx hl
            have e78 : ρ (.tmp 78) = .bool true := hl 26 (by decide +kernel) 78 rfl
            refine y_val (v := .bool false) ?_ rfl
            simp [execOp, go_sem, e78]
          · intro ρ wx hρ hbx hl
            have e65 : ρ (.tmp 65) = .bool false := hl 13 (by decide +kernel) 65 rfl
            have e79 : ρ (.tmp 79) = .bool false := hl 27 (by decide +kernel) 79 rfl
            refine y_val (v := .bool false) ?_ rfl
            simp [execOp, go_sem, e65, e79]
          intro aa wz hdef hsz hlk hbz hf
          have ha := act_of_like hdef hsz hlk [52, 53, 54, 55, 56, 57, 58, 59, 60, 61, 62, 63, 64, 65, 66, 67, 68, 69, 70, 71, 72, 73, 74, 75, 76, 77, 78, 79, 80] 83 rfl (by decide +kernel)
          have e52 : aa.tmps.getD 52 undef = .pointer (some ⟨g, 1, none⟩) := hf 0 _ 52 rfl rfl
          have e53 : aa.tmps.getD 53 undef = .slice (some ⟨rb, roff, none⟩) m rcap := hf 1 _ 53 rfl rfl
          have e54 : aa.tmps.getD 54 undef = .int .i64 (j : Int) := hf 2 _ 54 rfl rfl
          have e55 : aa.tmps.getD 55 undef = .pointer (some ⟨rb, roff + j * 5, none⟩) := hf 3 _ 55 rfl rfl
          have e56 : aa.tmps.getD 56 undef = .pointer (some ⟨rb, roff + j * 5, none⟩) := hf 4 _ 56 rfl rfl
          have e57 : aa.tmps.getD 57 undef = .string nm := hf 5 _ 57 rfl rfl
          have e58 : aa.tmps.getD 58 undef = .pointer (some ⟨h, 1, none⟩) := hf 6 _ 58 rfl rfl
          have e59 : aa.tmps.getD 59 undef = .slice (some ⟨rb2, roff2, none⟩) m rcap2 := hf 7 _ 59 rfl rfl
          have e60 : aa.tmps.getD 60 undef = .int .i64 (j : Int) := hf 8 _ 60 rfl rfl
          have e61 : aa.tmps.getD 61 undef = .pointer (some ⟨rb2, roff2 + j * 5, none⟩) := hf 9 _ 61 rfl rfl
          have e62 : aa.tmps.getD 62 undef = .pointer (some ⟨rb2, roff2 + j * 5, none⟩) := hf 10 _ 62 rfl rfl
          have e63 : aa.tmps.getD 63 undef = .string nm := hf 11 _ 63 rfl rfl
          have e64 : aa.tmps.getD 64 undef = .bool false := hf 12 _ 64 rfl rfl
          have e65 : aa.tmps.getD 65 undef = .bool false := hf 13 _ 65 rfl rfl
          have e66 : aa.tmps.getD 66 undef = .pointer (some ⟨g, 1, none⟩) := hf 14 _ 66 rfl rfl
          have e67 : aa.tmps.getD 67 undef = .slice (some ⟨rb, roff, none⟩) m rcap := hf 15 _ 67 rfl rfl
          have e68 : aa.tmps.getD 68 undef = .int .i64 (j : Int) := hf 16 _ 68 rfl rfl
          have e69 : aa.tmps.getD 69 undef = .pointer (some ⟨rb, roff + j * 5, none⟩) := hf 17 _ 69 rfl rfl
          have e70 : aa.tmps.getD 70 undef = .pointer (some ⟨rb, roff + j * 5 + 1, none⟩) := hf 18 _ 70 rfl rfl
          have e71 : aa.tmps.getD 71 undef = .agg #[.int .i64 xh.kind, .string xh.a, .string xh.b, .slice xa xp.length xcap] := hf 19 _ 71 rfl rfl
          have e72 : aa.tmps.getD 72 undef = .pointer (some ⟨h, 1, none⟩) := hf 20 _ 72 rfl rfl
          have e73 : aa.tmps.getD 73 undef = .slice (some ⟨rb2, roff2, none⟩) m rcap2 := hf 21 _ 73 rfl rfl
          have e74 : aa.tmps.getD 74 undef = .int .i64 (j : Int) := hf 22 _ 74 rfl rfl
          have e75 : aa.tmps.getD 75 undef = .pointer (some ⟨rb2, roff2 + j * 5, none⟩) := hf 23 _ 75 rfl rfl
          have e76 : aa.tmps.getD 76 undef = .pointer (some ⟨rb2, roff2 + j * 5 + 1, none⟩) := hf 24 _ 76 rfl rfl
          have e77 : aa.tmps.getD 77 undef = .agg #[.int .i64 xh.kind, .string xh.a, .string xh.b, .slice ya xp.length ycap] := hf 25 _ 77 rfl rfl
          have e78 : aa.tmps.getD 78 undef = .bool true := hf 26 _ 78 rfl rfl
          have e79 : aa.tmps.getD 79 undef = .bool false := hf 27 _ 79 rfl rfl
          have e80 : aa.tmps.getD 80 undef = .bool false := hf 28 _ 80 rfl rfl
          simp only [putAll, List.foldl_cons, List.foldl_nil, e52, e53, e54, e55, e56, e57, e58, e59, e60, e61, e62, e63, e64, e65, e66, e67, e68, e69, e70, e71, e72, e73, e74, e75, e76, e77, e78, e79, e80] at ha
          simp [Act.put] at ha
          subst ha
          clear hdef hsz hlk hf e52 e53 e54 e55 e56 e57 e58 e59 e60 e61 e62 e63 e64 e65 e66 e67 e68 e69 e70 e71 e72 e73 e74 e75 e76 e77 e78 e79 e80
          have HBy := Lib.hid (HBj.out.trans (hbz.mono hjs))
          clear hbz HXt HYt c1 d1 k0 k1 k2 k3 k4 q0 q1 q2 q3 q4
          have hmc := HMc.out
          unfold maxLen at hmc
          go_wp2
          have hju : j + 1 ≤ m := hltj
          clear htc1 htc2 htd1 htd2 hjs hsz hNw hzs hrs hin hjn
          refine ⟨⟨j + 1, by clear hju; go_num, hju, HBy.out⟩, ?_⟩
          exact meas_next hltj
        · obtain rfl : j = m := by omega
          have hltJ : ¬ (j : Int) < j := by omega
          have HBy := Lib.hid (HBr.out.trans ((HBz.out.trans (hbj.mono HBz.out.size)).mono hsz))
          clear hbj
          go_wp2
          exact ⟨⟨i + 1, by go_num, by omega, HBy.out⟩, by simp [intOf]; omega⟩
    · obtain rfl : i = n := by omega
      have hltI : ¬ (i : Int) < i := by omega
      have HBz := Lib.hid (HB.out.trans (hb.mono HB.out.size))
      clear hb
      go_wp2
      go_ret
      exact ⟨rfl, HBz.out⟩

end Go.Proofs.YtopnldebekhelaaDoor
