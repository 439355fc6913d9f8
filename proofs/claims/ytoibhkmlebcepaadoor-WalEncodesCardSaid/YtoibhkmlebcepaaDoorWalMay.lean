import Derived.Test.YtoibhkmlebcepaaDoorWalMath
namespace Go.Proofs.YtoibhkmlebcepaaDoor
open Go Go.RowKit

def MayRel (w : World) (rev : Nat) (sv : Value) (l : List Ent) (n : Nat) (i : Value) (wr : World) : Prop :=
  ∃ k : Nat, i = .int .i64 (k : Int) ∧ k ≤ n ∧ (l.take k).all (entOk rev) = true ∧ Below w.heap.size w wr ∧ wr.heap[w.heap.size]? = some (.cells #[.int .u64 (rev : Int), sv] 25 (0, 0))

theorem u64_ne (a b : Nat) : ((a : Int) != (b : Int)) = !decide (a = b) := by
  by_cases h : a = b
  · subst h; simp
  · rw [decide_eq_false h]
    simp
    omega

set_option maxRecDepth 100000 in
set_option maxHeartbeats 1000000 in
theorem maybe_any (w : World) (rev : Nat) (a : Option Addr) (n cap : Nat) (l : List Ent) (h : Reads w 3 (.slice a n cap) n (ecells l)) (hl : l.length = n) (hcap : n ≤ cap ∧ cap ≤ maxLen) (hks : ∀ x ∈ l, x.key.size ≤ maxLen) :
    Calls Tryd.prog 20 #[.agg #[.int .u64 (rev : Int), .slice a n cap]] w (GivesVal w (.bool (rightB rev l))) := by
  have HL := Lib.hid hl
  have HR := Lib.hid h
  have HK := Lib.hid hks
  unfold maxLen at hcap
  clear h hl hks
  have hg0 := heap_alloc_new w (.cells #[.int .u64 (rev : Int), .slice a n cap] 25)
  have hb0 : Below w.heap.size w (w.alloc (.cells #[.int .u64 (rev : Int), .slice a n cap] 25)) := (Below.refl _ w).alloc (Nat.le_refl _) _
  have HG0 := Lib.hid hg0
  have HB0 := Lib.hid hb0
  clear hg0 hb0
  go_enter Tryd.func20, Tryd.ntmps20
  go_wp2
  go_loopw [8] (fun i wr => MayRel w rev (.slice a n cap) l n i wr) (fun i _ => n - (intOf i).toNat)
  case atStart => exact ⟨0, rfl, Nat.zero_le _, rfl, HB0.out, HG0.out⟩
  case round =>
    obtain ⟨k, rfl, hk, hall, hb, hg⟩ := hrel
    have hbs := hb.size
    have q0 := Lib.cell_of_heap hg 0
    have q1 := Lib.cell_of_heap hg 1
    simp at q0 q1
    have hlt0 : w.heap.size < wr.heap.size := (Array.getElem?_eq_some_iff.1 hg).1
    have HB := Lib.hid hb
    have HG := Lib.hid hg
    have HA := Lib.hid hall
    clear hb hg hall HG0 HB0
    by_cases hlt : k < n
    · obtain ⟨x, hx⟩ : ∃ x, l[k]? = some x := ⟨l[k]'(by rw [HL.out]; exact hlt), List.getElem?_eq_getElem _⟩
      obtain ⟨g, off, rfl, hgl, c0, c1, c2⟩ := ent_cells (HR.out.below' HB.out) hx
      have hsz := HK.out x (List.mem_of_getElem? hx)
      unfold maxLen at hsz
      have hbad := fun h => all_bad (rev := rev) hx h
      have hgood := fun h => all_good hx h HA.out
      have hkI : (k : Int) < n := by omega
      have hne := u64_ne x.rev rev
      unfold entOk at hbad hgood
      obtain ⟨key, r, d⟩ := x
      dsimp only at c0 c1 c2 hsz hbad hgood hne
      have HBa := Lib.hid hbad
      have HGo := Lib.hid hgood
      clear hbad hgood hx
      by_cases hr : r = rev
      · rw [decide_eq_true hr] at hne
        by_cases hz : key.size ≤ 65536
        · have hzI : ¬ (65536 : Int) < key.size := by omega
          have HGG := Lib.hid (HGo.out (by rw [decide_eq_true hr, decide_eq_true hz]; rfl))
          subst hr
          clear hne
          go_wp2
          refine ⟨⟨k + 1, by go_num, by omega, HGG.out, HB.out.alloc hbs _, (heap_alloc_old _ _ hlt0).trans HG.out⟩, by simp [intOf]; omega⟩
        · have hzI : (65536 : Int) < key.size := by omega
          have HBB := Lib.hid (HBa.out (by rw [decide_eq_false hz]; simp))
          subst hr
          clear hne
          go_wp2
          go_ret
          rw [HBB.out]
          exact ⟨rfl, HB.out.alloc hbs _⟩
      · rw [decide_eq_false hr] at hne
        have HBB := Lib.hid (HBa.out (by rw [decide_eq_false hr]; simp))
        have hne2 : ((r : Int) != (rev : Int)) = true := by rw [hne]; rfl
        clear hne hr
        go_wp2
        go_ret
        rw [HBB.out]
        exact ⟨rfl, HB.out.alloc hbs _⟩
    · obtain rfl : k = n := by omega
      have hkI : ¬ ((k : Int) < k) := by omega
      have htk : l.take k = l := by rw [← HL.out]; exact List.take_length
      have hA := HA.out
      rw [htk] at hA
      have hrb : rightB rev l = sizeOk rev k := by unfold rightB; rw [hA, HL.out]; rfl
      have HRb := Lib.hid hrb
      clear htk hA hrb
      by_cases h1 : 1 ≤ rev
      · have h1I : (1 : Int) ≤ rev := by omega
        by_cases h2 : 1 ≤ k
        · have h2I : (1 : Int) ≤ k := by omega
          by_cases h3 : k ≤ 256
          · have h3I : (k : Int) ≤ 256 := by omega
            have hs : sizeOk rev k = true := by unfold sizeOk; rw [decide_eq_true h1, decide_eq_true h2, decide_eq_true h3]; rfl
            have HS := Lib.hid hs
            clear hs
            go_wp2
            go_ret
            rw [HRb.out, HS.out]
            exact ⟨rfl, HB.out⟩
          · have h3I : ¬ (k : Int) ≤ 256 := by omega
            have hs : sizeOk rev k = false := by unfold sizeOk; rw [decide_eq_false h3]; simp
            have HS := Lib.hid hs
            clear hs
            go_wp2
            go_ret
            rw [HRb.out, HS.out]
            exact ⟨rfl, HB.out⟩
        · have h2I : ¬ (1 : Int) ≤ k := by omega
          have hs : sizeOk rev k = false := by unfold sizeOk; rw [decide_eq_false h2]; simp
          have HS := Lib.hid hs
          clear hs
          go_wp2
          go_ret
          rw [HRb.out, HS.out]
          exact ⟨rfl, HB.out⟩
      · have h1I : ¬ (1 : Int) ≤ rev := by omega
        have hs : sizeOk rev k = false := by unfold sizeOk; rw [decide_eq_false h1]; simp
        have HS := Lib.hid hs
        clear hs
        go_wp2
        go_ret
        rw [HRb.out, HS.out]
        exact ⟨rfl, HB.out⟩
end Go.Proofs.YtoibhkmlebcepaaDoor
