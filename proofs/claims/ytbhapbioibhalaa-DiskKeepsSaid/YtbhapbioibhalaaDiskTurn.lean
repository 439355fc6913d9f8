/- An act done to a disk's directory, and kept. -/
import Derived.Test.YtbhapbioibhalaaDiskDo
import Derived.StillTailTactics
namespace Go.Proofs.Ytbhapbioibhalaa
open Go Go.RowKit Go.Maps

theorem infoA : (Try.prog.info? 81).map (fun i => (i.zero, i.size, i.bytes)) = some (some (.agg #[.string ⟨#[]⟩, .string ⟨#[]⟩, .pointer none]), 3, 40) := by kernel_rfl

theorem DAct.cells_one (a : DAct) : ∀ u ∈ a.cells, u.oneCell' = true := by
  cases a <;> intro u hu <;> simp [DAct.cells] at hu <;> rcases hu with rfl | rfl | rfl <;> rfl
theorem DAct.cells3 (a : DAct) : ∃ x y z, a.cells = [x, y, z] := by cases a <;> exact ⟨_, _, _, rfl⟩

variable {W : World} {B d : Nat} {S : Dk}

theorem burn_same (S : Dk) : S.burn = { S with fuse := S.burn.fuse, down := S.burn.down } := by
  unfold Dk.burn
  split
  · rfl
  · split <;> rfl

theorem DAt.turned {W' : World} (h : DAt W B d S) (a : DAct) (v' : Value) (t : Touch W W' (d :: S.mf :: S.av.ownBlock.toList)) (hc : W'.heap[d]? = some (.cells { S with av := v' }.cells 56 (0, 0)))
    (hf : MapAt W' S.mf (stepA S.dir a)) (ha : OwnAt W' B 81 3 v' (S.acts.length + 1) (acells (S.acts ++ [a]))) (ok : okA S.dir a) (hm : ∀ t g, a = .add t g → g ∈ S.gs) :
    DAt W' B d { S with dir := stepA S.dir a, acts := S.acts ++ [a], av := v' } := by
  have hap := h.apt
  refine ⟨h.lo, hc, hf, h.sm.touch t ?_, h.ne, by simpa using ha, fun g hg => (h.fs g hg).touch t ?_ fun x hx => ?_, h.apart, h.lone, okAs_snoc h.oks (by rw [← h.now]; exact ok), by rw [runA_snoc, ← h.now], ⟨h.mem.1, fun s g hs => ?_⟩, h.room, h.fuse⟩
  · simp only [List.mem_cons, Option.mem_toList, not_or]
    exact ⟨hap.dm.2.symm, h.ne.symm, fun e => (hap.am _ e).2.2.1 rfl⟩
  · simp only [List.mem_cons, Option.mem_toList, not_or]
    exact ⟨(hap.gm g hg).1, (hap.gm g hg).2.1, fun e => (hap.am _ e).2.2.2 hg⟩
  · simp only [List.mem_cons, Option.mem_toList, not_or]
    have := hap.sm g hg x hx
    exact ⟨this.1, this.2.1, this.2.2.2.2⟩
  · rcases List.mem_append.1 hs with hs | hs
    · exact h.mem.2 s g hs
    · simp at hs
      exact hm s g hs.symm

def TurnPost (W : World) (B d : Nat) (S : Dk) (a : DAct) (e : Ending) (W' : World) : Prop :=
  e = .returned (.int .i64 S.burnE) ∧ Touch W W' (S.mine d) ∧ ((S.burnE ≠ 0 ∧ DAt W' B d S.burn) ∨ (S.burnE = 0 ∧ ∃ v', DAt W' B d { S.burn with dir := stepA S.dir a, acts := S.acts ++ [a], av := v' }))

theorem burnE_ways (S : Dk) : S.burnE = 0 ∨ S.burnE = 6 := by unfold Dk.burnE; split <;> simp

set_option maxRecDepth 100000 in
set_option maxHeartbeats 2000000 in
theorem turn_any (h : DAt W B d S) (a : DAct) (ok : okA S.dir a) (hm : ∀ t g, a = .add t g → g ∈ S.gs) (hl : S.dir.length ≤ 1000000) (hn : S.acts.length ≤ 1000000) :
    Calls Try.prog 43 #[.pointer (some ⟨d, 0, none⟩), .agg a.cells.toArray] W (TurnPost W B d S a) := by
  obtain ⟨i0, hi, hz0, hz1, hz2⟩ := info_parts infoA
  obtain ⟨x, y, z, hxyz⟩ := a.cells3
  have b0 : Below W.heap.size W (W.alloc (.cells a.cells.toArray 81)) := (Below.refl _ _).alloc (Nat.le_refl _) _
  have h0 := h.below b0
  have hd0 : d < W.heap.size := (h.lt d (Dk.mine_d d S)).1
  have hBW : B ≤ W.heap.size := Nat.le_trans (h.lt d (Dk.mine_d d S)).2 (Nat.le_of_lt hd0)
  have hbr := burn_any h0
  have hnew : (W.alloc (.cells a.cells.toArray 81)).heap[W.heap.size]? = some (.cells a.cells.toArray 81 (0, 0)) := heap_alloc_new W _
  have HBr := Lib.hid hbr
  have HNew := Lib.hid hnew
  have HX := Lib.hid hxyz
  have HDo := Lib.hid (fun w hm' => do_any w S.mf S.dir a hm' ok hl)
  have HOk := Lib.hid ok
  have HMm := Lib.hid hm
  have HH := Lib.hid h
  have HH0 := Lib.hid h0
  have HB0 := Lib.hid b0
  have h1 := a.cells_one
  have HOne := Lib.hid h1
  rw [hxyz] at HBr HB0 HNew HH0 ⊢
  have hdx : x.oneCell' = true ∧ y.oneCell' = true ∧ z.oneCell' = true := by rw [hxyz] at h1; exact ⟨h1 x (by simp), h1 y (by simp), h1 z (by simp)⟩
  clear hbr hnew hxyz ok hm h h0 b0 hl h1
  go_enter Try.func43, Try.ntmps43
  go_wp2_with (go_at_call 44; go_must (refine HBr.out.mono ?_))
  rintro e w1 ⟨rfl, hd1, t1⟩
  have tA : Touch W w1 [d] := (Touch.of_below HB0.out [d]).same t1
  have hnd : W.heap.size ∉ [d] := by simp; omega
  have hn1 := t1.keep HNew.out hnd
  rcases burnE_ways S with hbe | hbe
  · rw [hbe]
    have hsb := burn_same S
    have hmf : S.burn.mf = S.mf := by rw [hsb]
    have hav : S.burn.av = S.av := by rw [hsb]
    have hac : S.burn.acts = S.acts := by rw [hsb]
    have hdr : S.burn.dir = S.dir := by rw [hsb]
    have c0 := Lib.cell_of_heap hd1.cell 0
    simp [Dk.cells, hmf] at c0
    have x0 := Lib.cell_of_heap hn1 0
    have x1 := Lib.cell_of_heap hn1 1
    have x2 := Lib.cell_of_heap hn1 2
    simp at x0 x1 x2
    have hlt1 : d < w1.heap.size := (Array.getElem?_eq_some_iff.1 hd1.cell).1
    have hlt2 : W.heap.size < w1.heap.size := (Array.getElem?_eq_some_iff.1 hn1).1
    have hfm := hd1.fm
    rw [hmf, hdr] at hfm
    have HD := Lib.hid (HDo.out w1.drew (hfm.touch (Touch.refl w1 []).drew List.not_mem_nil))
    rw [HX.out] at HD
    have HD1 := Lib.hid hd1
    have HT1 := Lib.hid t1
    have HTA := Lib.hid tA
    have HN1 := Lib.hid hn1
    have HE := Lib.hid hbe
    have HSb := Lib.hid hsb
    have HE3 := Lib.hid (And.intro hmf (And.intro hav (And.intro hac hdr)))
    clear hd1 t1 tA hn1 hbe hsb hmf hav hac hdr hfm
    go_wp2_with fail
    go_still_tail 5, (by kernel_rfl)
    show wpList _ _ _ _ _ w1.drew
    go_wp2_with (go_at_call 56; go_must (refine HD.out.mono ?_))
    rintro e w2 ⟨rfl, hm2, t2⟩
    obtain ⟨hmf, hav, hac, hdr⟩ := HE3.out
    obtain ⟨hap1, hap2, hap3, hap4⟩ := HD1.out.apt
    rw [hmf] at hap1
    have hsmf : S.mf < W.heap.size := (HH.out.lt _ (Dk.mine_mf d S)).1
    have t2' : Touch w1 w2 [S.mf] := ⟨t2.os, t2.tape, t2.output, t2.size, t2.block⟩
    have hcd := t2'.keep HD1.out.cell (by simp; exact hap1.1)
    have hcx := t2'.keep HN1.out (by simp; omega)
    have hoa := ownAt_touch HD1.out.ac t2' (fun g hg => by simp; have := (hap3 g hg).2.1; rw [hmf] at this; exact this)
    rw [hav, hac] at hoa
    have c2 := Lib.cell_of_heap hcd 2
    simp [Dk.cells, hav] at c2
    have x0 := Lib.cell_of_heap hcx 0
    have x1 := Lib.cell_of_heap hcx 1
    have x2 := Lib.cell_of_heap hcx 2
    simp at x0 x1 x2
    have hd2 : d < w2.heap.size := (Array.getElem?_eq_some_iff.1 hcd).1
    have hx2 : W.heap.size < w2.heap.size := (Array.getElem?_eq_some_iff.1 hcx).1
    obtain ⟨aa, cc, hva, hl1, hl2⟩ := hoa.reads.le
    unfold maxLen at hl2
    have hn2 : S.av.ownBlock ≠ some d := fun e => (hap3 d (by rw [hav]; exact e)).1 rfl
    have hbd : Below w2.heap.size w2 (w2.alloc (.cells #[x, y, z] 81)).drew := ((Below.refl w2.heap.size w2).alloc (Nat.le_refl _) _).drew
    have hnew : (w2.alloc (.cells #[x, y, z] 81)).drew.heap[w2.heap.size]? = some (.cells [x, y, z].toArray 81 (0, 0)) := heap_alloc_new w2 _
    have hod := hoa.below hbd
    have hcb := (hbd.block d hd2).trans hcd
    have hone : ∀ u ∈ [x, y, z], u.oneCell' = true := by rw [← HX.out]; exact HOne.out
    rw [hva] at hod c2
    have hsz : B ≤ (w2.alloc (.cells #[x, y, z] 81)).drew.heap.size := Nat.le_trans hBW (Nat.le_trans (Nat.le_of_lt hx2) hbd.size)
    have HM2 := Lib.hid hm2
    have HT2 := Lib.hid t2'
    have HCb := Lib.hid hcb
    have HVa := Lib.hid hva
    have HBd := Lib.hid hbd
    have HN2 := Lib.hid hn2
    clear hm2 t2' hcd hcx hoa hap1 hap2 hap3 hap4 hcb hva t2 hbd hmf hav hac hdr hn2
    go_upto_region 5 with fail
    go_region_law (first
      | (refine step_append_at rfl _ _ 54 rfl i0 _ 40 Try.underlying54 hi hz0 hz1 hz2 rfl rfl hod _ 1 [x, y, z] rfl hnew rfl hone (by unfold maxLen; omega) (by omega) hsz ?_
         intro a9 cap9 w9 how9 hgr9 hbl9
         have hb9 := (hgr9.block d (Array.getElem?_eq_some_iff.1 HCb.out).1 (fun e => HN2.out (by rw [HVa.out]; exact e.symm))).trans HCb.out
         have z2 := Lib.cell_of_heap hb9 2
         have zf := Lib.frozen_of_heap hb9
         simp [Dk.cells] at z2
         have hlt9 : d < w9.heap.size := (Array.getElem?_eq_some_iff.1 hb9).1))
    all_goals
      have t3 : Touch w2 w9 S.av.ownBlock.toList := by
        refine ⟨hgr9.os.trans HBd.out.os, hgr9.tape.trans HBd.out.tape, hgr9.output.trans HBd.out.output, Nat.le_trans HBd.out.size hgr9.size, fun k hk hn => ?_⟩
        refine (hgr9.block k (Nat.lt_of_lt_of_le hk HBd.out.size) (fun e => hn ?_)).trans (HBd.out.block k hk)
        rw [HVa.out]
        exact Option.mem_toList.2 e.symm
      have t4 : Touch w2 (w9.setCell ⟨d, 2, none⟩ (.slice a9 (S.acts.length + 1) cap9)) (d :: S.av.ownBlock.toList) := (t3.mono (fun x hx => List.mem_cons_of_mem _ hx)).setCell (.inl List.mem_cons_self) _
      have t5 : Touch w1 (w9.setCell ⟨d, 2, none⟩ (.slice a9 (S.acts.length + 1) cap9)) (d :: S.mf :: S.av.ownBlock.toList) := HT2.out.trans t4 (fun x hx => by simp at hx; simp [hx]) (fun x hx => .inl (by simp at hx ⊢; rcases hx with e | e <;> simp [e]))
      have t6 : Touch W (w9.setCell ⟨d, 2, none⟩ (.slice a9 (S.acts.length + 1) cap9)) (S.mine d) := HTA.out.trans t5 (fun x hx => by simp at hx; rw [hx]; exact Dk.mine_d d S) (fun x hx => .inl (by
        simp only [List.mem_cons, Option.mem_toList] at hx
        rcases hx with e | e | e
        · rw [e]; exact Dk.mine_d d S
        · rw [e]; exact Dk.mine_mf d S
        · exact Dk.mine_av e))
      have hcf : (w9.setCell ⟨d, 2, none⟩ (.slice a9 (S.acts.length + 1) cap9)).heap[d]? = some (.cells { S.burn with av := .slice a9 (S.acts.length + 1) cap9 }.cells 56 (0, 0)) := by
        rw [heap_setCell_same _ d 2 _ _ _ hb9]
        rfl
      have hacf : OwnAt (w9.setCell ⟨d, 2, none⟩ (.slice a9 (S.acts.length + 1) cap9)) B 81 3 (.slice a9 (S.acts.length + 1) cap9) (S.acts.length + 1) (acells (S.acts ++ [a])) := by
        rw [acells_snoc, HX.out]
        refine how9.keep fun g cs hg => (Below.heap_setCell _ _ _ _ ?_).trans hg
        exact ne_cells_cells hg hb9 (by decide)
      have hmff : MapAt (w9.setCell ⟨d, 2, none⟩ (.slice a9 (S.acts.length + 1) cap9)) S.mf (stepA S.dir a) := by
        obtain ⟨es, clock, hmm⟩ := HM2.out.heap
        refine HM2.out.touch t4 ?_
        simp only [List.mem_cons, Option.mem_toList, not_or]
        exact ⟨ne_map_cells hmm ((HBd.out.block d hd2).symm.trans HCb.out), fun e => (HH.out.apt.am _ e).2.1 rfl⟩
      obtain ⟨hmf, hav, hac, hdr⟩ := HE3.out
      have hfin : DAt (w9.setCell ⟨d, 2, none⟩ (.slice a9 (S.acts.length + 1) cap9)) B d { S.burn with dir := stepA S.burn.dir a, acts := S.burn.acts ++ [a], av := .slice a9 (S.acts.length + 1) cap9 } :=
        HD1.out.turned a _ (by rw [hmf, hav]; exact t5) hcf (by rw [hmf, hdr]; exact hmff) (by rw [hac]; exact hacf) (by rw [hdr]; exact HOk.out) (fun t g e => by rw [HSb.out]; exact HMm.out t g e)
      rw [hdr, hac] at hfin
      have HFin := Lib.hid hfin
      have HT6 := Lib.hid t6
      clear hfin t6 t5 t4 t3 hcf hacf hmff hmf hav hac hdr how9 hgr9 hbl9 hb9 z2 zf
      go_wp2
      go_ret
      exact ⟨by rw [HE.out]; rfl, HT6.out, .inr ⟨HE.out, _, HFin.out⟩⟩
  · rw [hbe]
    have HD1 := Lib.hid hd1
    have HTA := Lib.hid tA
    have HE := Lib.hid hbe
    clear hd1 t1 tA hn1 hbe
    go_wp2
    go_ret
    exact ⟨by rw [HE.out]; rfl, HTA.out.mono (by simp [Dk.mine]), .inl ⟨by rw [HE.out]; decide, HD1.out⟩⟩
end Go.Proofs.Ytbhapbioibhalaa
