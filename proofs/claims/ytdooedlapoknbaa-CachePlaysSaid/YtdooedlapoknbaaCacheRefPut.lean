/- The reference puts. -/
import Derived.Test.YtdooedlapoknbaaCacheRefTake
namespace Go.Proofs.Ytdooedlapoknbaa
open Go Go.RowKit Go.Maps

def trimR (room : Nat) : List CAct → List CAct
  | [] => []
  | x :: t => if room < rsum (x :: t) then trimR room t else x :: t

theorem RKeys.below {w w' : World} {R : List CAct} (h : RKeys w R) (b : Below w.heap.size w w') : RKeys w' R := fun x hx => by
  obtain ⟨h1, h2, h3⟩ := h x hx
  exact ⟨h1.below' b, h2, h3⟩

theorem RKeys.mem {w : World} {R R' : List CAct} (h : RKeys w R) (hs : ∀ x ∈ R', x ∈ R) : RKeys w R' := fun x hx => h x (hs x hx)

theorem rsum_cons (x : CAct) (t : List CAct) : rsum (x :: t) = (1 + ksz x.ks) + rsum t := by
  unfold rsum
  simp

/-- Which item stands there, behind a take. -/
def Left (R : List CAct) (f b : Int) (R1 : List CAct) : Prop := (∃ A x Z, R = A ++ x :: Z ∧ (∀ y ∈ A, ¬ is f b y) ∧ is f b x ∧ R1 = A ++ Z) ∨ ((∀ y ∈ R, ¬ is f b y) ∧ R1 = R)

theorem Left.mem {R R1 : List CAct} {f b : Int} (h : Left R f b R1) : ∀ x ∈ R1, x ∈ R := by
  rcases h with ⟨A, x, Z, rfl, _, _, rfl⟩ | ⟨_, rfl⟩
  · intro y hy
    simp at hy ⊢
    rcases hy with e | e <;> simp [e]
  · exact fun x hx => hx

theorem rsum_app (a b : List CAct) : rsum (a ++ b) = rsum a + rsum b := by
  unfold rsum
  simp

theorem Left.sum {R R1 : List CAct} {f b : Int} (h : Left R f b R1) : rsum R1 ≤ rsum R ∧ R1.length ≤ R.length := by
  rcases h with ⟨A, x, Z, rfl, _, _, rfl⟩ | ⟨_, rfl⟩
  · rw [rsum_app, rsum_app, rsum_cons]
    simp
  · exact ⟨Nat.le_refl _, Nat.le_refl _⟩

def RPutPost (W : World) (B b room : Nat) (R : List CAct) (x : CAct) (e : Ending) (W' : World) : Prop :=
  e = .returned (.tuple #[]) ∧ ∃ R1, Left R x.f x.b R1 ∧ RCAt W' B b room (trimR room (R1 ++ [x])) ∧ RF B W W'

def RPutRel (W W0 : World) (B b room : Nat) (L R0 : List CAct) (wr : World) : Prop :=
  ∃ R2, RCAt wr B b room R2 ∧ trimR room R2 = L ∧ RF B W wr ∧ RKeys wr R2 ∧ rsum R2 ≤ rsum R0 ∧ R2.length ≤ R0.length ∧ RF B W0 wr ∧ ∀ z ∈ R2, z ∈ R0

def lenAt (b : Nat) (wr : World) : Nat := match wr.cell? ⟨b, 1, none⟩ with | some (.slice _ n _) => n | _ => 0

/-- Keys that stood below B can be read on. -/
def RLow (B : Nat) (w : World) (R : List CAct) : Prop := ∀ w', Below B w w' → RKeys w' R

set_option maxRecDepth 100000 in
set_option maxHeartbeats 8000000 in
theorem rput_any (W : World) (B b room : Nat) (R : List CAct) (x : CAct) (h : RCAt W B b room R) (hK : RLow B W (R ++ [x])) (hn : R.length ≤ 10000) (hs : rsum (R ++ [x]) ≤ 1000000000) :
    Calls Try.prog 16 #[.pointer (some ⟨b, 0, none⟩), .int .i64 x.f, .int .i64 x.b, .slice x.a x.ks.length x.cap] W (RPutPost W B b room R x) := by
  obtain ⟨i0, hi, hz0, hz1, hz2⟩ := info_parts infoItem
  have HT : Hid (Calls Try.prog 24 #[.pointer (some ⟨b, 0, none⟩), .int .i64 x.f, .int .i64 x.b] W fun e W' => (∃ v, e = .returned v) ∧ ∃ R1, Left R x.f x.b R1 ∧ RCAt W' B b room R1 ∧ RF B W W') := Lib.hid ((take_any W B b room R x.f x.b h (by omega)).mono fun e W' hp => by
    rcases hp with ⟨A, y, Z, h1, h2, h3, rfl, h5, h6⟩ | ⟨h1, rfl, h3, h4⟩
    · exact ⟨⟨_, rfl⟩, _, .inl ⟨A, y, Z, h1, h2, h3, rfl⟩, h5, h6⟩
    · exact ⟨⟨_, rfl⟩, _, .inr ⟨h1, rfl⟩, h3, h4⟩)
  have hBl := h.lo
  have HK := Lib.hid hK
  clear h hK
  unfold RPutPost
  go_enter Try.func16, Try.ntmps16
  go_wp2_with (go_at_call 24; go_must (refine HT.out.mono ?_))
  rintro e w1 ⟨⟨v0, rfl⟩, R1, hleft, hrc, hrf⟩
  have hlen1 := hleft.sum
  have hk1 : RKeys w1 (R1 ++ [x]) := (HK.out w1 hrf.below).mem fun y hy => by
    rcases List.mem_append.1 hy with e | e
    · exact List.mem_append.2 (.inl (hleft.mem y e))
    · exact List.mem_append.2 (.inr e)
  have hlo1 := hrc.lo
  obtain ⟨v, hb, hBb, hown⟩ := hrc
  obtain ⟨a, cap, rfl, hc1, hc2⟩ := hown.reads.le
  have HLeft := Lib.hid hleft
  have HKy1 := Lib.hid hk1
  have HRf1 := Lib.hid hrf
  have HOw := Lib.hid hown
  have HB := Lib.hid hb
  have hsm : rsum (R1 ++ [x]) ≤ 1000000000 := by
    rw [rsum_app] at hs ⊢
    omega
  have c1 := Lib.cell_of_heap hb 1
  have cf := Lib.frozen_of_heap hb
  simp at c1
  have hblt : b < w1.heap.size := (Array.getElem?_eq_some_iff.1 hb).1
  have ba := (Below.refl w1.heap.size w1).alloc (Nat.le_refl _) (.cells #[.int .i64 x.f, .int .i64 x.b, .slice x.a x.ks.length x.cap] 57)
  have hnew := heap_alloc_new w1 (.cells #[.int .i64 x.f, .int .i64 x.b, .slice x.a x.ks.length x.cap] 57)
  have how2 := hown.below ba
  have hb2 := (ba.block b hblt).trans hb
  have HBa := Lib.hid ba
  have HB2 := Lib.hid hb2
  have HO2 := Lib.hid how2
  have hl1 : R1.length ≤ 10000 := by omega
  clear hleft hk1 hrf hown hb HT hlen1 how2 hb2 ba
  go_wp2_with (at_builtin; go_must (refine wpList_append_at_own rfl _ _ 41 rfl i0 _ 40 Try.underlying41 hi hz0 hz1 hz2 rfl rfl HO2.out w1.heap.size 1 (ricell x) rfl hnew rfl (ricells_one [x]) ?_ ?_ ?_ ?_))
  · unfold maxLen; omega
  · omega
  · simp; omega
  intro a9 cap9 w9 how9 hgr9 hbl9
  have hb9 := (hgr9.block b (Array.getElem?_eq_some_iff.1 HB2.out).1 (fun e => HO2.out.other HB2.out (by decide) e.symm)).trans HB2.out
  have x1 := Lib.cell_of_heap hb9 1
  have xf := Lib.frozen_of_heap hb9
  simp at x1
  have hlt9 : b < w9.heap.size := (Array.getElem?_eq_some_iff.1 hb9).1
  have hrf9 : RF B W w9 := (HRf1.out.trans (RF.of_below HBa.out hlo1)).grown HO2.out hgr9 hbl9
  have hrf10 : RF B W (w9.setCell ⟨b, 1, none⟩ (.slice a9 (R1.length + 1) cap9)) := RF.set (p := ⟨b, 1, none⟩) hrf9 hBb ⟨_, _, _, hb9, .inl rfl⟩ _
  have hb10 : (w9.setCell ⟨b, 1, none⟩ (.slice a9 (R1.length + 1) cap9)).heap[b]? = some (.cells #[.int .i64 (room : Int), .slice a9 (R1.length + 1) cap9] 43 (0, 0)) := by
    rw [heap_setCell_same _ b 1 _ _ _ hb9]
    rfl
  have ho10 : OwnAt (w9.setCell ⟨b, 1, none⟩ (.slice a9 (R1.length + 1) cap9)) B 57 3 (.slice a9 (R1.length + 1) cap9) (R1 ++ [x]).length (ricells (R1 ++ [x])) := by
    rw [ricells_append, show (R1 ++ [x]).length = R1.length + 1 by simp]
    refine how9.keep fun g cs hg => (Below.heap_setCell _ _ _ _ ?_).trans hg
    exact cells_ne hg hb9 (by decide)
  have hrel : RPutRel W W B b room (trimR room (R1 ++ [x])) (R1 ++ [x]) (w9.setCell ⟨b, 1, none⟩ (.slice a9 (R1.length + 1) cap9)) :=
    ⟨R1 ++ [x], ⟨_, hb10, hBb, ho10⟩, rfl, hrf10, (HK.out _ hrf10.below).mem fun y hy => by
      rcases List.mem_append.1 hy with e | e
      · exact List.mem_append.2 (.inl (HLeft.out.mem y e))
      · exact List.mem_append.2 (.inr e), Nat.le_refl _, Nat.le_refl _, hrf10, fun _ hz => hz⟩
  have HRel := Lib.hid hrel
  clear hb9 hrf9 hrf10 hb10 ho10 hrel how9 hgr9 hbl9 HB HO2 HB2 HOw HKy1 HBa hnew c1 cf hc1 hc2
  go_wp2
  generalize w9.setCell ⟨b, 1, none⟩ (.slice a9 (R1.length + 1) cap9) = w10 at *
  clear x1 xf
  generalize hL : trimR room (R1 ++ [x]) = L at *
  have HLL := Lib.hid hL
  clear hL hlt9
  go_loopw [31] (fun _ wr => RPutRel W W B b room L (R1 ++ [x]) wr) (fun _ wr => lenAt b wr)
  case atStart => exact HRel.out
  case round =>
    obtain ⟨R2, hrc, htr, hrf2, hky, hsum0, hlen2, _, hsub⟩ := hrel
    have hsum2 : rsum R2 ≤ 1000000000 := Nat.le_trans hsum0 hsm
    have HSub : Hid (∀ z ∈ R2, z ∈ R ++ [x]) := Lib.hid fun z hz => by
      rcases List.mem_append.1 (hsub z hz) with e | e
      · exact List.mem_append.2 (.inl (HLeft.out.mem z e))
      · exact List.mem_append.2 (.inr e)
    have HSub0 := Lib.hid hsub
    clear hsub
    have HRC := Lib.hid hrc
    have HKy := Lib.hid hky
    have HTr := Lib.hid htr
    have HRf2 := Lib.hid hrf2
    obtain ⟨v, hb, hBb, hown⟩ := hrc
    obtain ⟨a, cap, rfl, hc1, hc2⟩ := hown.reads.le
    have HB := Lib.hid hb
    have HOw := Lib.hid hown
    have d0 := Lib.cell_of_heap hb 0
    have d1 := Lib.cell_of_heap hb 1
    simp at d0 d1
    have hblt : b < wr.heap.size := (Array.getElem?_eq_some_iff.1 hb).1
    have hla : lenAt b wr = R2.length := by
      unfold lenAt
      rw [d1]
    have HLa := Lib.hid hla
    obtain ⟨q, hq⟩ : ∃ q : Bool, decide ((room : Int) < (rsum R2 : Int)) = q := ⟨_, rfl⟩
    clear htr hrf2 hky hb hown hla HRel
    go_upto_region 2 with fail
    refine wp_region_all (by kernel_rfl) [eqF (.pointer (some ⟨b, 0, none⟩)), eqF (.int .i64 (rsum R2 : Int)), eqF (.pointer (some ⟨b, 0, none⟩)), eqF (.pointer (some ⟨b, 0, none⟩)), eqF (.pointer (some ⟨b, 0, none⟩)), eqF (.int .i64 (room : Int)), eqF (.bool q)] (by kernel_rfl) ⟨?_, ?_, ?_, ?_, ?_, ?_, ?_, trivial⟩ ⟨trivial, trivial, trivial, trivial, trivial, trivial, trivial, trivial⟩ ?_
    · intro ρ wx hρ hbx hl
      have e0 : ρ (.tmp 0) = .pointer (some ⟨b, 0, none⟩) := hρ.tmp 0 (by decide +kernel)
      refine y_val (v := .pointer (some ⟨b, 0, none⟩)) ?_ rfl
      simp [execOp, go_sem, e0]
    · intro ρ wx hρ hbx hl
      have e25 : ρ (.tmp 25) = .pointer (some ⟨b, 0, none⟩) := hl 0 (by decide +kernel) 25 rfl
      refine y_call (f := 19) (args := #[.pointer (some ⟨b, 0, none⟩)]) (by simp [execOp, resolve, invoke, hρ.func, go_sem, e25]) ?_
      refine (rused_any wx B b room R2 (HRC.out.below hbx) (HKy.out.below hbx) hsum2).mono ?_
      rintro e w6 ⟨rfl, b6⟩
      exact ⟨_, rfl, rfl, b6⟩
    · intro ρ wx hρ hbx hl
      have e0 : ρ (.tmp 0) = .pointer (some ⟨b, 0, none⟩) := hρ.tmp 0 (by decide +kernel)
      refine y_val (v := .pointer (some ⟨b, 0, none⟩)) ?_ rfl
      simp [execOp, go_sem, e0]
    · intro ρ wx hρ hbx hl
      have e27 : ρ (.tmp 27) = .pointer (some ⟨b, 0, none⟩) := hl 2 (by decide +kernel) 27 rfl
      refine y_val (v := .pointer (some ⟨b, 0, none⟩)) ?_ rfl
      simp [execOp, go_sem, e27]
    · intro ρ wx hρ hbx hl
      have e28 : ρ (.tmp 28) = .pointer (some ⟨b, 0, none⟩) := hl 3 (by decide +kernel) 28 rfl
      refine y_val (v := .pointer (some ⟨b, 0, none⟩)) ?_ rfl
      simp [execOp, go_sem, e28]
    · intro ρ wx hρ hbx hl
      have e29 : ρ (.tmp 29) = .pointer (some ⟨b, 0, none⟩) := hl 4 (by decide +kernel) 29 rfl
      have kk := (hbx.cell (hblt)).trans d0
      refine y_val (v := .int .i64 (room : Int)) ?_ rfl
      simp [execOp, go_sem, e29, kk]
    · intro ρ wx hρ hbx hl
      have e26 : ρ (.tmp 26) = .int .i64 (rsum R2 : Int) := hl 1 (by decide +kernel) 26 rfl
      have e30 : ρ (.tmp 30) = .int .i64 (room : Int) := hl 5 (by decide +kernel) 30 rfl
      refine y_val (v := .bool q) ?_ rfl
      simp [execOp, go_sem, e26, e30, ← hq]
    intro aa wz hdef hsz hlk hbz hf
    have ha := act_of_like hdef hsz hlk [25, 26, 27, 28, 29, 30, 31] 40 rfl (by decide +kernel)
    have e25 : aa.tmps.getD 25 undef = .pointer (some ⟨b, 0, none⟩) := hf 0 _ 25 rfl rfl
    have e26 : aa.tmps.getD 26 undef = .int .i64 (rsum R2 : Int) := hf 1 _ 26 rfl rfl
    have e27 : aa.tmps.getD 27 undef = .pointer (some ⟨b, 0, none⟩) := hf 2 _ 27 rfl rfl
    have e28 : aa.tmps.getD 28 undef = .pointer (some ⟨b, 0, none⟩) := hf 3 _ 28 rfl rfl
    have e29 : aa.tmps.getD 29 undef = .pointer (some ⟨b, 0, none⟩) := hf 4 _ 29 rfl rfl
    have e30 : aa.tmps.getD 30 undef = .int .i64 (room : Int) := hf 5 _ 30 rfl rfl
    have e31 : aa.tmps.getD 31 undef = .bool q := hf 6 _ 31 rfl rfl
    simp only [putAll, List.foldl_cons, List.foldl_nil, e25, e26, e27, e28, e29, e30, e31] at ha
    simp [Act.put] at ha
    subst ha
    clear hdef hsz hlk hf e25 e26 e27 e28 e29 e30 e31
    have hbw := (hbz.block b hblt).trans HB.out
    have x1 := Lib.cell_of_heap hbw 1
    have xf := Lib.frozen_of_heap hbw
    simp at x1
    have hzlt : b < wz.heap.size := (Array.getElem?_eq_some_iff.1 hbw).1
    have hrfz : RF B W wz := HRf2.out.trans (RF.of_below hbz HRC.out.lo)
    have HOz := Lib.hid (HOw.out.below hbz)
    have HRz := Lib.hid hrfz
    have HBz := Lib.hid hbw
    have HKz := Lib.hid (HKy.out.below hbz)
    have HRCz := Lib.hid (HRC.out.below hbz)
    clear hbz hbw hrfz d0 d1 hblt
    cases q with
    | true =>
      have hgt : room < rsum R2 := by
        have := of_decide_eq_true hq
        omega
      cases R2 with
      | nil => exact absurd hgt (by simp [rsum])
      | cons y rest =>
        have hrl : rsum rest ≤ rsum (R1 ++ [x]) ∧ rest.length ≤ (R1 ++ [x]).length := by
          rw [rsum_cons] at hsum0
          simp only [List.length_cons] at hlen2
          omega
        have htr2 : trimR room rest = L := by
          have := HTr.out
          unfold trimR at this
          rwa [if_pos hgt] at this
        have hcut : OwnAt wz B 57 3 (.slice (behindS a 1 cap 3) rest.length (cap - 1)) rest.length (ricells rest) := HOz.out.cut 1 (by simp)
        have hfin : RPutRel W W B b room L (R1 ++ [x]) (wz.setCell ⟨b, 1, none⟩ (.slice (behindS a 1 cap 3) rest.length (cap - 1))) ∧ lenAt b (wz.setCell ⟨b, 1, none⟩ (.slice (behindS a 1 cap 3) rest.length (cap - 1))) < lenAt b wr := by
          have hrf10 : RF B W (wz.setCell ⟨b, 1, none⟩ (.slice (behindS a 1 cap 3) rest.length (cap - 1))) := RF.set (p := ⟨b, 1, none⟩) HRz.out hBb ⟨_, _, _, HBz.out, .inl rfl⟩ _
          have hb10 : (wz.setCell ⟨b, 1, none⟩ (.slice (behindS a 1 cap 3) rest.length (cap - 1))).heap[b]? = some (.cells #[.int .i64 (room : Int), .slice (behindS a 1 cap 3) rest.length (cap - 1)] 43 (0, 0)) := by
            rw [heap_setCell_same _ b 1 _ _ _ HBz.out]
            rfl
          refine ⟨⟨rest, ⟨_, hb10, hBb, hcut.keep fun g cs hg => (Below.heap_setCell _ _ _ _ (cells_ne hg HBz.out (by decide))).trans hg⟩, htr2, hrf10, fun z hz => ?_, hrl.1, hrl.2, hrf10, fun z hz => ?_⟩, ?_⟩
          · exact (HK.out _ hrf10.below) z (by
              have := HSub.out z (List.mem_cons_of_mem _ hz)
              exact this)
          · exact HSub0.out z (List.mem_cons_of_mem _ hz)
          · rw [HLa.out]
            unfold lenAt
            rw [Lib.cell_of_heap hb10 1]
            simp
        have HFin := Lib.hid hfin
        have hone : (1 : Int) ≤ ((y :: rest).length : Int) := by simp; omega
        clear htr2 hrl hcut hfin
        by_cases hcp : cap = 1
        · subst hcp
          have hf := HFin.out
          simp only [behindS, if_true, Nat.sub_self] at hf
          have HFin := Lib.hid hf
          clear hf
          go_wp2
          exact HFin.out
        · have hf := HFin.out
          unfold behindS at hf
          rw [if_neg hcp] at hf
          have HFin := Lib.hid hf
          clear hf
          go_wp2
          exact HFin.out
    | false =>
      have hgt : ¬ room < rsum R2 := by
        have := of_decide_eq_false hq
        omega
      have hfin : R2 = L := by
        rw [← HTr.out]
        cases R2 with
        | nil => rfl
        | cons y t => unfold trimR; rw [if_neg hgt]
      have HFin := Lib.hid hfin
      clear hfin
      go_wp2
      refine bodyPost_end (by simp [results, Try.results16]) rfl ⟨rfl, R1, HLeft.out, ?_, HRz.out⟩
      rw [HLL.out, ← HFin.out]
      exact HRCz.out
end Go.Proofs.Ytdooedlapoknbaa
