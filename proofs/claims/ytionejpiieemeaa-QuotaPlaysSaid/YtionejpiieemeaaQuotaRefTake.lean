/- The reference's Take and Left. -/
import Derived.Test.YtionejpiieemeaaQuotaRefTick
import Derived.Test.YtionejpiieemeaaQuotaRefAt
namespace Go.Proofs.Ytionejpiieemeaa
open Go Go.RowKit

/-- What Take leaves. -/
def RTakePost (w : World) (B b : Nat) (R : RQ) (c : ByteArray) (n now : Nat) (e : Ending) (w' : World) : Prop :=
  ∃ (k : Nat) (h : Nat) (R' : RQ), (R' = R.tick now ∨ (¬ Has (R.tick now).cs c ∧ ∃ j, Lands (R.tick now).cs c j ∧ k = j ∧ R' = { R.tick now with cs := (R.tick now).cs.take j ++ (c, R.most) :: (R.tick now).cs.drop j })) ∧
    R'.cs[k]? = some (c, h) ∧ e = .returned (.bool (decide (n ≤ h))) ∧ RF B b w w' ∧ RAt w' B b (if n ≤ h then { R' with cs := R'.cs.set k (c, h - n) } else R')

theorem RQ.tick_few (R : RQ) (now : Nat) : (R.tick now).cs.length = R.cs.length ∧ (R.tick now).most = R.most ∧ (R.tick now).rate = R.rate := by
  unfold RQ.tick
  split <;> simp

set_option maxRecDepth 100000 in
set_option maxHeartbeats 2000000 in
theorem rtake_walk (w0 : World) (B b n now : Nat) (R : RQ) (c : ByteArray) (hr : RAt w0 B b R) (hok : R.ok) (hfew : R.cs.length ≤ 100000) (hn : n ≤ 18446744073709551615) (ht : now ≤ 18446744073709551615) :
    Calls Try.prog 14 #[.pointer (some ⟨b, 0, none⟩), .string c, .int .u64 (n : Int), .int .u64 (now : Int)] w0 (RTakePost w0 B b R c n now) := by
  have HTick := Lib.hid (rtick_walk w0 B b now R hr hok ht)
  have HAtW := Lib.hid (fun w (h : RAt w B b (R.tick now)) => rat_walk w B b (R.tick now) c h (by rw [(R.tick_few now).1]; exact hfew))
  have hokT := R.tick_ok hok ht
  have hmost := (R.tick_few now).2.1
  have HMost := Lib.hid hmost
  have HokT := Lib.hid hokT
  clear hr hok hokT hmost
  go_enter Try.func14, Try.ntmps14
  go_wp2_with (go_at_call 17; go_must (refine HTick.out.mono ?_))
  rintro e w1 ⟨rfl, hr1, hf1⟩
  have HF1 := Lib.hid hf1
  have HR1 := Lib.hid hr1
  clear hf1 hr1
  go_wp2_with (go_at_call 18; go_must (refine (HAtW.out w1 HR1.out).mono ?_))
  rintro e w2 ⟨k, h, R', rfl, hk, hr2, hf2, hor⟩
  have HF2 := Lib.hid (HF1.out.trans hf2)
  have HOr := Lib.hid hor
  obtain ⟨v, hb, hBb, hown⟩ := hr2
  have hkl : k < R'.cs.length := (List.getElem?_eq_some_iff.1 hk).1
  obtain ⟨a, cap, hva, hcl, hcm⟩ := (ownsRow.reads hown).le
  subst hva
  have hb3 := Lib.cell_of_heap hb 3
  simp at hb3
  have hg : ∃ g, a = some ⟨g, 0, none⟩ ∧ B ≤ g ∧ ∃ cs, w2.heap[g]? = some (.cells cs 40 (0, 0)) := by
    rcases hown.2 with ⟨h0, h1⟩ | ⟨g, cap', cur, hv, hB, hg, _⟩
    · omega
    · cases hv
      exact ⟨g, rfl, hB, _, hg⟩
  obtain ⟨g, rfl, hBg, gcs, hgc⟩ := hg
  have hc1 : (ccells R'.cs)[k * 2 + 1]? = some (.int .u64 (h : Int)) := flat_cell ccell 2 ccell_len R'.cs k (c, h) hk 1 (by decide)
  obtain ⟨g', off', hgo, hgl, hcell⟩ := (ownsRow.reads hown).at hc1
  cases hgo
  rw [Nat.zero_add] at hcell
  have g1 := Lib.frozen_of_heap hgc
  have hkI : (k : Int) < R'.cs.length := by omega
  have hblt : b < w2.heap.size := (Array.getElem?_eq_some_iff.1 hb).1
  have hne : b ≠ g := fun e => by
    rw [e, hgc] at hb
    injection hb with hb
    injection hb with _ hb _
    exact absurd hb (by decide)
  have HOwn := Lib.hid hown
  have HB := Lib.hid hb
  have HK := Lib.hid hk
  have HGC := Lib.hid hgc
  clear hown hb hk hgc hor hf2 HR1 HTick HAtW HF1
  by_cases hnh : n ≤ h
  · have hnI : ¬ ((h : Int) < (n : Int)) := by omega
    have hset : RAt (w2.setCell ⟨g, k * 2 + 1, none⟩ (.int .u64 ((h - n : Nat) : Int))) B b { R' with cs := R'.cs.set k (c, h - n) } := by
      refine ⟨_, (Below.heap_setCell _ _ _ _ hne).trans HB.out, hBb, ?_⟩
      have := own_set2 HOwn.out (i := k * 2 + 1) (.int .u64 ((h - n : Nat) : Int))
      rw [← ccells_set R'.cs k c h _ HK.out] at this
      simpa using this
    have hfr : RF B b w0 (w2.setCell ⟨g, k * 2 + 1, none⟩ (.int .u64 ((h - n : Nat) : Int))) := RF.set (p := ⟨g, k * 2 + 1, none⟩) HF2.out hBg (.inr ⟨gcs, _, HGC.out⟩) _
    have HS := Lib.hid hset
    have HFR := Lib.hid hfr
    have hh : h ≤ 4294967296 := by
      obtain ⟨q1, q2, q3, q4⟩ := HokT.out
      have hm := List.mem_of_getElem? HK.out
      rcases HOr.out with rfl | ⟨_, j, _, _, rfl⟩
      · exact Nat.le_trans (q4 _ hm) q2
      · rcases List.mem_append.1 hm with hm | hm
        · exact Nat.le_trans (q4 _ (List.mem_of_mem_take hm)) q2
        · rcases List.mem_cons.1 hm with hm | hm
          · cases hm
            exact q2
          · exact Nat.le_trans (q4 _ (List.mem_of_mem_drop hm)) q2
    have e1 : IntKind.u64.wrap ((h : Int) - (n : Int)) = ((h - n : Nat) : Int) := by
      rw [IntWalk.u64_in _ (by omega)]; omega
    clear hset hfr
    go_wp2
    generalize w2.setCell ⟨g, k * 2 + 1, none⟩ (.int .u64 ((h - n : Nat) : Int)) = w3 at *
    go_ret
    exact ⟨k, h, R', by rw [← HMost.out]; exact HOr.out, HK.out, by rw [decide_eq_true hnh]; rfl, HFR.out, by rw [if_pos hnh]; exact HS.out⟩
  · have hnI : ((h : Int) < (n : Int)) := by omega
    go_wp2
    go_ret
    exact ⟨k, h, R', by rw [← HMost.out]; exact HOr.out, HK.out, by rw [decide_eq_false hnh]; rfl, HF2.out, by rw [if_neg hnh]; exact ⟨_, HB.out, hBb, HOwn.out⟩⟩

def LeftRel (w : World) (R : RQ) (c : ByteArray) (i : Value) (wr : World) : Prop :=
  ∃ k : Nat, i = .int .i64 (k : Int) ∧ k ≤ R.cs.length ∧ (∀ j p, j < k → R.cs[j]? = some p → p.1 ≠ c) ∧ Below w.heap.size w wr

/-- What Left leaves. -/
def RLeftPost (w : World) (B b : Nat) (R : RQ) (c : ByteArray) (now : Nat) (e : Ending) (w' : World) : Prop :=
  ∃ h : Nat, e = .returned (.int .u64 (h : Int)) ∧ ((∃ k : Nat, (R.tick now).cs[k]? = some (c, h)) ∨ (¬ Has (R.tick now).cs c ∧ h = R.most)) ∧ RF B b w w' ∧ RAt w' B b (R.tick now)

set_option maxRecDepth 100000 in
set_option maxHeartbeats 2000000 in
theorem rleft_walk (w0 : World) (B b now : Nat) (R : RQ) (c : ByteArray) (hr : RAt w0 B b R) (hok : R.ok) (hfew : R.cs.length ≤ 100000) (ht : now ≤ 18446744073709551615) :
    Calls Try.prog 12 #[.pointer (some ⟨b, 0, none⟩), .string c, .int .u64 (now : Int)] w0 (RLeftPost w0 B b R c now) := by
  have HTick := Lib.hid (rtick_walk w0 B b now R hr hok ht)
  have hmost := (R.tick_few now).2.1
  have HMost := Lib.hid hmost
  have hlen := (R.tick_few now).1
  clear hr hok hmost
  unfold RLeftPost
  generalize R.tick now = T at *
  go_enter Try.func12, Try.ntmps12
  go_wp2_with (go_at_call 17; go_must (refine HTick.out.mono ?_))
  rintro e w1 ⟨rfl, hr1, hf1⟩
  have HF1 := Lib.hid hf1
  obtain ⟨v, hb, hBb, hown⟩ := hr1
  have hB1 : B ≤ w1.heap.size := by have := (Array.getElem?_eq_some_iff.1 hb).1; omega
  obtain ⟨a, cap, hva, hcl, hcm⟩ := (ownsRow.reads hown).le
  subst hva
  have c3 := Lib.cell_of_heap hb 3
  simp at c3
  have hlt : b < w1.heap.size := (Array.getElem?_eq_some_iff.1 hb).1
  have HR0 := Lib.hid (ownsRow.reads hown)
  have HRA : Hid (RAt w1 B b T) := Lib.hid ⟨_, hb, hBb, hown⟩
  have HB := Lib.hid hb
  clear hown hb hf1 HTick
  generalize hn : T.cs.length = n at *
  have HN := Lib.hid hn
  clear hn
  go_wp2
  go_loopw [17] (fun i wr => LeftRel w1 T c i wr) (fun i _ => n - (intOf i).toNat)
  case atStart => exact ⟨0, rfl, Nat.zero_le _, fun j p hj => by omega, Below.refl _ _⟩
  case round =>
    obtain ⟨k, rfl, hk, hnot, hbl⟩ := hrel
    rw [HN.out] at hk
    have HBL := Lib.hid hbl
    have HNot := Lib.hid hnot
    clear hnot hbl
    by_cases hkn : k < n
    · obtain ⟨p, hp⟩ : ∃ p, T.cs[k]? = some p := ⟨_, List.getElem?_eq_getElem (by rw [HN.out]; exact hkn)⟩
      have hkI : (k : Int) < n := by omega
      have k0 := (HR0.out.below' HBL.out).at (flat_cell ccell 2 ccell_len T.cs k p hp 0 (by decide))
      have k1 := (HR0.out.below' HBL.out).at (flat_cell ccell 2 ccell_len T.cs k p hp 1 (by decide))
      obtain ⟨g, off, rfl, hg, k0⟩ := k0
      obtain ⟨g', off', hge, _, k1⟩ := k1
      cases hge
      obtain ⟨x, h⟩ := p
      simp [← Nat.add_assoc] at k0 k1
      have HP := Lib.hid hp
      clear hp
      by_cases hxc : x = c
      · subst hxc
        go_wp2
        go_ret
        exact ⟨h, rfl, .inl ⟨k, HP.out⟩, HF1.out.trans (RF.of_below (HBL.out.alloc HBL.out.size _) hB1), HRA.out.below (HBL.out.alloc HBL.out.size _)⟩
      · have hne : (x.toList == c.toList) = false := by
          rw [beq_eq_false_iff_ne, Go.ByteArray.toList_eq, Go.ByteArray.toList_eq]
          exact fun e => hxc (Go.WideShapes.bytes_inj e)
        go_wp2
        exact ⟨⟨k + 1, by go_num, by rw [HN.out]; omega, fun j p hj hp => by
          by_cases hjk : j < k
          · exact HNot.out j p hjk hp
          · obtain rfl : j = k := by omega
            rw [HP.out] at hp
            cases hp
            exact hxc, HBL.out.alloc HBL.out.size _⟩, by simp [intOf]; omega⟩
    · obtain rfl : k = n := by omega
      have hno : ¬ Has T.cs c := fun ⟨j, h, hj⟩ => HNot.out j _ (by rw [← HN.out]; exact (List.getElem?_eq_some_iff.1 hj).1) hj rfl
      have HNo := Lib.hid hno
      have d1 := Lib.cell_of_heap ((HBL.out.block b hlt).trans HB.out) 1
      simp at d1
      have hltr : b < wr.heap.size := Nat.lt_of_lt_of_le hlt HBL.out.size
      clear hno
      go_wp2
      go_ret
      exact ⟨T.most, rfl, .inr ⟨HNo.out, HMost.out⟩, HF1.out.trans (RF.of_below HBL.out hB1), HRA.out.below HBL.out⟩
end Go.Proofs.Ytionejpiieemeaa
