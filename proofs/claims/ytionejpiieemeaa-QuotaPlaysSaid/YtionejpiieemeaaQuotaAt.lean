import Derived.Test.YtionejpiieemeaaQuotaMath
import Derived.Lib.MinMax
import Derived.BigQuiet
import Derived.Deep.QuietTactic
import Derived.StillTailTactics
import Derived.IntWalk
namespace Go.Proofs.Ytionejpiieemeaa
open Go Go.RowKit

theorem mapU : Try.prog.underlying 45 = some (.map 9 49) := by kernel_rfl
theorem zeroPurse (w : World) : (zeroValue 49).run Try.prog w = .ok (.agg #[.int .u64 0, .int .u64 0]) w := by kernel_rfl

/-- What the map tells of a client. -/
theorem look_run {w : World} {m n : Nat} {D : DataW Unit} {g : ByteArray → Option (Nat × Nat)} (h : w.ownsMap Try.prog 9 purseR m n D) (hl : Look D g) (c : ByteArray) (hc : c.size ≤ maxLen) :
    (Instr.lookup 45 (.map (some m)) (.string c) true).run Try.prog w =
      .ok (match g c with | none => .tuple #[.agg #[.int .u64 0, .int .u64 0], .bool false] | some p => .tuple #[.agg #[.int .u64 (p.1 : Int), .int .u64 (p.2 : Int)], .bool true]) w := by
  obtain ⟨v, ps, hrun, hv⟩ := h.look_ok (Maps.string_keyed Try.underlying9) mapU (zeroPurse w) (purseR_mk 0 0) (WideMaps.keyOf_string_mk Try.underlying9 hc)
  obtain ⟨h1, h2⟩ := hl c
  rw [hrun]
  cases hg : g c with
  | none =>
    rw [hg] at h1
    have h1' : Maps.has D (.string c.data.toList) = false := h1
    rw [Maps.atKey_of_not_has h1'] at hv
    rw [purseR_inv hv, h1']
  | some p =>
    rw [hg] at h1
    have h1' : Maps.has D (.string c.data.toList) = true := h1
    rw [h2 p hg] at hv
    rw [purseR_inv hv, h1']

/-- A value is told; the quota is S then, with at most n clients; nothing but the blocks l has turned. -/
def GivesQ (w : World) (b m : Nat) (S : QS) (n : Nat) (l : List Nat) (v : Value) (e : Ending) (w' : World) : Prop := e = .returned v ∧ QAt w' b m S n ∧ Touch w w' l

set_option maxRecDepth 100000 in
set_option maxHeartbeats 1000000 in
theorem at_walk (w : World) (b m n now : Nat) (S : QS) (c : ByteArray) (hq : QAt w b m S n) (hok : S.ok) (hc : c.size ≤ maxLen) (hn : now ≤ 18446744073709551615) :
    Calls Try.prog 16 #[.pointer (some ⟨b, 0, none⟩), .string c, .int .u64 (now : Int)] w fun e w' =>
      e = .returned (.agg #[.int .u64 ((S.tick now).has c : Int), .int .u64 ((S.tick now).last : Int)]) ∧ QAt w' b m (S.tick now) n ∧ Touch w w' [b] := by
  obtain ⟨hb, hne, D, hown, hl⟩ := hq
  have c0 := Lib.cell_of_heap hb 0
  have c1 := Lib.cell_of_heap hb 1
  have c2 := Lib.cell_of_heap hb 2
  have c3 := Lib.cell_of_heap hb 3
  have f2 := Lib.frozen_of_heap hb 2
  simp at c0 c1 c2 c3
  have hlt : b < w.heap.size := (Array.getElem?_eq_some_iff.1 hb).1
  have HB := Lib.hid hb
  have HL := Lib.hid hl
  clear hb hl
  go_enter Try.func16, Try.ntmps16
  go_wp2
  generalize hw1 : w.setCell ⟨b, 2, none⟩ (.int .u64 (max (S.last : Int) (now : Int))) = w1
  have hb1 : w1.heap[b]? = some (.cells #[.int .u64 (S.rate : Int), .int .u64 (S.most : Int), .int .u64 ((S.tick now).last : Int), .map (some m)] 47 (0, 0)) := by
    rw [← hw1, heap_setCell_same _ b 2 _ _ _ HB.out]
    have : (max (S.last : Int) (now : Int)) = ((S.tick now).last : Int) := by
      show _ = ((max S.last now : Nat) : Int)
      omega
    rw [this]
    rfl
  have hmax : max (S.last : Int) (now : Int) = ((S.tick now).last : Int) := by
    show _ = ((max S.last now : Nat) : Int)
    omega
  have hown1 : w1.ownsMap Try.prog 9 purseR m n D := by rw [← hw1]; exact hown.setCell hne _
  have ht1 : Touch w w1 [b] := by rw [← hw1]; exact (Touch.refl w [b]).setCell (.inl (by simp)) _
  have hok1 := S.tick_ok hok hn
  rw [hmax]
  obtain ⟨o1, o2, o3, o4⟩ := hok1
  have hhas : (S.tick now).has c = match S.g c with | none => S.most | some p => min S.most (p.1 + ((S.tick now).last - p.2) * S.rate) := rfl
  have hq1 : QAt w1 b m (S.tick now) n := ⟨hb1, hne, D, hown1, HL.out⟩
  have hmost : (S.tick now).most = S.most := rfl
  have hrate : (S.tick now).rate = S.rate := rfl
  have hg1 : ∀ h a, S.g c = some (h, a) → h ≤ S.most ∧ a ≤ (S.tick now).last := o4 c
  rw [hmost] at o2
  rw [hrate] at o1
  generalize hL : (S.tick now).last = L at *
  have HLa := Lib.hid hL
  clear hL
  have d0 := Lib.cell_of_heap hb1 0
  have d1 := Lib.cell_of_heap hb1 1
  have d2 := Lib.cell_of_heap hb1 2
  have d3 := Lib.cell_of_heap hb1 3
  simp at d0 d1 d2 d3
  have hlt1 : b < w1.heap.size := (Array.getElem?_eq_some_iff.1 hb1).1
  have hrun := fun o => look_run (hown1.alloc o) HL.out c hc
  have HQ := Lib.hid hq1
  have HT := Lib.hid ht1
  have HW := Lib.hid hw1
  clear hw1 hb1 hmax hown1 ht1 hq1 c0 c1 c2 c3 f2 HB HL hown o4 hmost hrate hlt hok
  have hN : w.heap.size = w1.heap.size := by rw [← HW.out]; simp [World.setCell]
  rw [hN]
  clear hN HW
  have hlt2 : b < w1.heap.size := hlt1
  cases hg : S.g c with
  | none =>
    rw [hg] at hrun hhas
    simp only at hrun hhas
    have HH := Lib.hid hhas
    clear hhas hg1 hg
    go_wp2
    rw [hrun]
    simp only [Result.andThen_ok]
    go_simp
    go_wp2
    have b2 : Below w1.heap.size w1 ((w1.alloc (.cells #[.int .u64 0, .int .u64 0] 49)).alloc (.cells #[.int .u64 0, .int .u64 0] 49)) := ((Below.refl _ w1).alloc (Nat.le_refl _) _).alloc (by simp) _
    have r2 : ((w1.alloc (.cells #[.int .u64 0, .int .u64 0] 49)).alloc (.cells #[.int .u64 0, .int .u64 0] 49)).heap[w1.heap.size]? = some (.cells #[.int .u64 0, .int .u64 0] 49 (0, 0)) := (Below.heap_alloc _ _ _ (by simp)).trans (heap_alloc_new w1 _)
    generalize (w1.alloc (.cells #[.int .u64 0, .int .u64 0] 49)).alloc (.cells #[.int .u64 0, .int .u64 0] 49) = w2 at *
    have d0 := (b2.cell (p := ⟨b, 0, none⟩) hlt2).trans d0
    have d1 := (b2.cell (p := ⟨b, 1, none⟩) hlt2).trans d1
    have d2 := (b2.cell (p := ⟨b, 2, none⟩) hlt2).trans d2
    have z0 := Lib.cell_of_heap r2 0
    have z1 := Lib.cell_of_heap r2 1
    have f0 := Lib.frozen_of_heap r2
    simp at z0 z1
    have T2 := Lib.hid (HT.out.same (Touch.of_below b2 _))
    have Q2 := Lib.hid (HQ.out.touch (Touch.of_below b2 []) (by simp) (by simp))
    have hlt3 : b < w2.heap.size := by have := b2.size; omega
    have hne2 : w1.heap.size ≠ b := by omega
    have hnem : m < w1.heap.size := HQ.out.lt.2
    clear hrun b2 r2
    go_still_tail 9, (by kernel_rfl)
    show wpList _ _ _ _ _ w2.drew
    go_wp2
    refine bodyPost_ret (v := .agg #[.int .u64 (S.most : Int), .int .u64 (L : Int)]) ?_ rfl ⟨by rw [HH.out, HLa.out], ?_, ?_⟩
    · simp [results, Try.results16, go_sem, z0, z1]
    · exact Q2.out.touch (l := [w1.heap.size]) (((Touch.refl w2 _).setCell (.inl (by simp)) _).setCell (.inl (by simp)) _).drew (by simp; omega) (by simp; omega)
    · exact ((T2.out.setCell (.inr HT.out.size) _).setCell (.inr HT.out.size) _).drew
  | some p =>
    obtain ⟨h, a⟩ := p
    rw [hg] at hrun hhas
    simp only at hrun hhas
    obtain ⟨hh, ha⟩ := hg1 h a hg
    have HH := Lib.hid hhas
    clear hhas hg1 hg
    go_wp2
    rw [hrun]
    simp only [Result.andThen_ok]
    go_simp
    go_wp2
    have b2 : Below w1.heap.size w1 ((w1.alloc (.cells #[.int .u64 0, .int .u64 0] 49)).alloc (.cells #[.int .u64 (h : Int), .int .u64 (a : Int)] 49)) := ((Below.refl _ w1).alloc (Nat.le_refl _) _).alloc (by simp) _
    have r2 : ((w1.alloc (.cells #[.int .u64 0, .int .u64 0] 49)).alloc (.cells #[.int .u64 (h : Int), .int .u64 (a : Int)] 49)).heap[w1.heap.size]? = some (.cells #[.int .u64 0, .int .u64 0] 49 (0, 0)) := (Below.heap_alloc _ _ _ (by simp)).trans (heap_alloc_new w1 _)
    have p2 : ((w1.alloc (.cells #[.int .u64 0, .int .u64 0] 49)).alloc (.cells #[.int .u64 (h : Int), .int .u64 (a : Int)] 49)).heap[w1.heap.size + 1]? = some (.cells #[.int .u64 (h : Int), .int .u64 (a : Int)] 49 (0, 0)) := by
      have := heap_alloc_new (w1.alloc (.cells #[.int .u64 0, .int .u64 0] 49)) (.cells #[.int .u64 (h : Int), .int .u64 (a : Int)] 49)
      simpa using this
    generalize (w1.alloc (.cells #[.int .u64 0, .int .u64 0] 49)).alloc (.cells #[.int .u64 (h : Int), .int .u64 (a : Int)] 49) = w2 at *
    have T2 := Lib.hid (HT.out.same (Touch.of_below b2 _))
    have Q2 := Lib.hid (HQ.out.touch (Touch.of_below b2 []) (by simp) (by simp))
    have hlt3 : b < w2.heap.size := by have := b2.size; omega
    have hne2 : w1.heap.size ≠ b := by omega
    have hnem : m < w1.heap.size := HQ.out.lt.2
    have hsz := HT.out.size
    clear hrun b2 hlt1 d0 d1 d2 d3 HT HQ
    generalize w1.heap.size = N at *
    have hb2 := Q2.out.1
    rw [HLa.out] at hb2
    have d0 := Lib.cell_of_heap hb2 0
    have d1 := Lib.cell_of_heap hb2 1
    have d2 := Lib.cell_of_heap hb2 2
    have z0 := Lib.cell_of_heap r2 0
    have z1 := Lib.cell_of_heap r2 1
    have f0 := Lib.frozen_of_heap r2
    have y0 := Lib.cell_of_heap p2 0
    have y1 := Lib.cell_of_heap p2 1
    have g0 := Lib.frozen_of_heap p2
    simp at z0 z1 y0 y1 d0 d1 d2
    have hrt : (S.tick now).rate = S.rate := rfl
    have hmt : (S.tick now).most = S.most := rfl
    rw [hrt] at d0
    rw [hmt] at d1
    have HP2 := Lib.hid p2
    have HR2 := Lib.hid r2
    have e1 : IntKind.u64.wrap ((L : Int) - (a : Int)) = ((L - a : Nat) : Int) := by
      rw [IntWalk.u64_in _ (by omega)]; omega
    have e2 : IntKind.u64.wrap ((S.most : Int) - (h : Int)) = ((S.most - h : Nat) : Int) := by
      rw [IntWalk.u64_in _ (by omega)]; omega
    clear hb2 p2 r2 hrt hmt
    generalize hR : S.rate = r at *
    generalize S.most = M at *
    have HRa := Lib.hid hR
    clear hR
    have hneb : N + 1 ≠ b := by omega
    have fin : ∀ (x : Nat) (wf : World), Touch w2 wf [N, N + 1] → x = min M (h + (L - a) * r) →
        Ending.returned (.agg #[.int .u64 (x : Int), .int .u64 (L : Int)]) = Ending.returned (.agg #[.int .u64 ((S.tick now).has c : Int), .int .u64 ((S.tick now).last : Int)]) ∧ QAt wf b m (S.tick now) n ∧ Touch w wf [b] := by
      intro x wf ht hx
      refine ⟨by rw [HH.out, HLa.out, ← hx], Q2.out.touch ht (by simp; omega) (by simp; omega), T2.out.trans ht (by simp) ?_⟩
      intro y hy
      have hy' : y = N ∨ y = N + 1 := by simpa using hy
      right
      omega
    have FI := Lib.hid fin
    clear fin
    have hfin : r = 0 ∨ (0 < r ∧ (M - h) / r < L - a) ∨ (0 < r ∧ L - a ≤ (M - h) / r) := by
      generalize (M - h) / r = q
      omega
    have tch : ∀ nq (u : Value), Touch w2 ((w2.drewN nq).setCell ⟨N + 1, 1, none⟩ u) [N, N + 1] := fun nq u => ((Touch.refl w2 _).drewN nq).setCell (.inl (by simp)) _
    have TC := Lib.hid tch
    clear tch
    rcases hfin with rfl | ⟨hr, hlt⟩ | ⟨hr, hle⟩
    · have hx : h = min M (h + (L - a) * 0) := by omega
      have HM := Lib.hid hx
      generalize L - a = t at *
      generalize M - h = y at *
      have e4 : IntKind.u64.wrap (h : Int) = (h : Int) := IntWalk.u64_in _ (by omega)
      clear hx
      go_quiet (fail)
      go_wp2
      have HTC := Lib.hid (TC.out nq (.int .u64 (L : Int)))
      have k3 : ((w2.drewN nq).setCell ⟨N + 1, 1, none⟩ (.int .u64 (L : Int))).heap[N + 1]? = some (.cells #[.int .u64 (h : Int), .int .u64 (L : Int)] 49 (0, 0)) := heap_setCell_same _ _ 1 _ _ _ HP2.out
      have n3 : ((w2.drewN nq).setCell ⟨N + 1, 1, none⟩ (.int .u64 (L : Int))).heap[N]? = some (.cells #[.int .u64 0, .int .u64 0] 49 (0, 0)) := (heap_setCell_other _ ⟨N + 1, 1, none⟩ _ _ (by simp)).trans HR2.out
      have b3 := HTC.out.keep Q2.out.1 (by simp; omega)
      generalize (w2.drewN nq).setCell ⟨N + 1, 1, none⟩ (.int .u64 (L : Int)) = w3 at *
      clear z0 z1 y0 y1 f0 g0 d0 d1 d2
      have z0 := Lib.cell_of_heap n3 0
      have z1 := Lib.cell_of_heap n3 1
      have f0 := Lib.frozen_of_heap n3
      have y0 := Lib.cell_of_heap k3 0
      have y1 := Lib.cell_of_heap k3 1
      have g0 := Lib.frozen_of_heap k3
      have d0 := Lib.cell_of_heap b3 0
      simp at z0 z1 y0 y1 d0
      have hrt3 : (S.tick now).rate = _ := HRa.out
      rw [hrt3] at d0
      have hlt3 : b < w3.heap.size := (Array.getElem?_eq_some_iff.1 b3).1
      clear n3 k3 b3
      go_still_tail 10, (by kernel_rfl)
      show wpList _ _ _ _ _ w3.drew
      go_wp2
      refine bodyPost_ret (v := .agg #[.int .u64 (h : Int), .int .u64 (L : Int)]) ?_ rfl (FI.out h _ ?_ HM.out)
      · simp [results, Try.results16, go_sem, z0, z1]
      · exact (((HTC.out.setCell (.inl (by simp)) _).setCell (.inl (by simp)) _).setCell (.inl (by simp)) _).drew
    · have hlt' := (much_iff (L - a) (M - h) r hr).1 hlt
      have hmin : M = min M (h + (L - a) * r) := by omega
      have HM := Lib.hid hmin
      have e3 : IntKind.u64.wrap (((M - h : Nat) : Int) / (r : Int)) = (((M - h) / r : Nat) : Int) := by
        have h1 : (0 : Int) ≤ ((M - h : Nat) : Int) / (r : Int) := Int.ediv_nonneg (by omega) (by omega)
        have h2 : ((M - h : Nat) : Int) / (r : Int) ≤ ((M - h : Nat) : Int) := Int.ediv_le_self _ (by omega)
        rw [IntWalk.u64_in _ (by omega)]; rfl
      generalize (M - h) / r = q at *
      generalize L - a = t at *
      generalize M - h = y at *
      clear hmin hlt'
      go_quiet (fail)
      go_wp2
      refine bodyPost_ret (v := .agg #[.int .u64 (M : Int), .int .u64 (L : Int)]) ?_ rfl (FI.out M _ ?_ HM.out)
      · simp [results, Try.results16, go_sem, z0, z1]
      · exact (((TC.out nq _).setCell (.inl (by simp)) _).setCell (.inl (by simp)) _).setCell (.inl (by simp)) _
    · have hle' : (L - a) * r ≤ M - h := Nat.le_trans (Nat.mul_le_mul_right r hle) (Nat.div_mul_le_self _ _)
      have hmin : h + (L - a) * r = min M (h + (L - a) * r) := by omega
      have HM := Lib.hid hmin
      have e3 : IntKind.u64.wrap (((M - h : Nat) : Int) / (r : Int)) = (((M - h) / r : Nat) : Int) := by
        have h1 : (0 : Int) ≤ ((M - h : Nat) : Int) / (r : Int) := Int.ediv_nonneg (by omega) (by omega)
        have h2 : ((M - h : Nat) : Int) / (r : Int) ≤ ((M - h : Nat) : Int) := Int.ediv_le_self _ (by omega)
        rw [IntWalk.u64_in _ (by omega)]; rfl
      have e5 : IntKind.u64.wrap ((((L - a) : Nat) : Int) * (r : Int)) = (((L - a) * r : Nat) : Int) := by
        rw [← Int.natCast_mul, IntWalk.u64_in _ (by omega)]
      have e4 : IntKind.u64.wrap ((h : Int) + (((L - a) * r : Nat) : Int)) = ((h + (L - a) * r : Nat) : Int) := by
        rw [← Int.natCast_add, IntWalk.u64_in _ (by omega)]
      have HZ4 := Lib.hid e4
      have HZ5 := Lib.hid e5
      clear hmin hle' e4 e5
      generalize (L - a) * r = tr at *
      generalize h + tr = z at *
      generalize (M - h) / r = q at *
      generalize L - a = t at *
      generalize M - h = y at *
      go_quiet (fail)
      go_wp2
      have HTC := Lib.hid (TC.out nq (.int .u64 (L : Int)))
      have k3 : ((w2.drewN nq).setCell ⟨N + 1, 1, none⟩ (.int .u64 (L : Int))).heap[N + 1]? = some (.cells #[.int .u64 (h : Int), .int .u64 (L : Int)] 49 (0, 0)) := heap_setCell_same _ _ 1 _ _ _ HP2.out
      have n3 : ((w2.drewN nq).setCell ⟨N + 1, 1, none⟩ (.int .u64 (L : Int))).heap[N]? = some (.cells #[.int .u64 0, .int .u64 0] 49 (0, 0)) := (heap_setCell_other _ ⟨N + 1, 1, none⟩ _ _ (by simp)).trans HR2.out
      have b3 := HTC.out.keep Q2.out.1 (by simp; omega)
      generalize (w2.drewN nq).setCell ⟨N + 1, 1, none⟩ (.int .u64 (L : Int)) = w3 at *
      clear z0 z1 y0 y1 f0 g0 d0 d1 d2
      have z0 := Lib.cell_of_heap n3 0
      have z1 := Lib.cell_of_heap n3 1
      have f0 := Lib.frozen_of_heap n3
      have y0 := Lib.cell_of_heap k3 0
      have y1 := Lib.cell_of_heap k3 1
      have g0 := Lib.frozen_of_heap k3
      have d0 := Lib.cell_of_heap b3 0
      simp at z0 z1 y0 y1 d0
      have hrt3 : (S.tick now).rate = _ := HRa.out
      rw [hrt3] at d0
      have hlt3 : b < w3.heap.size := (Array.getElem?_eq_some_iff.1 b3).1
      clear n3 k3 b3
      go_still_tail 10, (by kernel_rfl)
      show wpList _ _ _ _ _ w3.drew
      rw [HZ5.out, HZ4.out]
      go_wp2
      refine bodyPost_ret (v := .agg #[.int .u64 (z : Int), .int .u64 (L : Int)]) ?_ rfl (FI.out z _ ?_ HM.out)
      · simp [results, Try.results16, go_sem, z0, z1]
      · exact (((HTC.out.setCell (.inl (by simp)) _).setCell (.inl (by simp)) _).setCell (.inl (by simp)) _).drew

theorem at_any (w : World) (b m n now : Nat) (S : QS) (c : ByteArray) (hq : QAt w b m S n) (hok : S.ok) (hc : c.size ≤ maxLen) (hn : now ≤ 18446744073709551615) :
    Calls Try.prog 16 #[.pointer (some ⟨b, 0, none⟩), .string c, .int .u64 (now : Int)] w
      (GivesQ w b m (S.tick now) n [b] (.agg #[.int .u64 ((S.tick now).has c : Int), .int .u64 ((S.tick now).last : Int)])) := at_walk w b m n now S c hq hok hc hn

theorem field0 (w : World) (x y : Int) : (Instr.field 49 (.agg #[.int .u64 x, .int .u64 y]) 0).run Try.prog w = .ok (.int .u64 x) w := by kernel_rfl
end Go.Proofs.Ytionejpiieemeaa
