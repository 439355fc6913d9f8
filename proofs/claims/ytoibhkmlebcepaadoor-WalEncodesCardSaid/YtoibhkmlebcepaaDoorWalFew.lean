import Derived.Test.YtoibhkmlebcepaaDoorWalRefMay
namespace Go.Proofs.YtoibhkmlebcepaaDoor
open Go Go.RowKit

def lowB (x : Ent) : Bool := decide (x.key.size ≤ 200)
def fewB (l : List Ent) : Bool := l.all lowB && decide (l.length ≤ 400)

def CFewRel (w : World) (rev : Nat) (sv : Value) (l : List Ent) (n : Nat) (i : Value) (wr : World) : Prop :=
  ∃ k : Nat, i = .int .i64 (k : Int) ∧ k ≤ n ∧ (l.take k).all lowB = true ∧ Below w.heap.size w wr ∧ wr.heap[w.heap.size]? = some (.cells #[.int .u64 (rev : Int), sv] 25 (0, 0))

theorem few_good {l : List Ent} {k : Nat} {x : Ent} (h : l[k]? = some x) (hx : lowB x = true) (ha : (l.take k).all lowB = true) : (l.take (k + 1)).all lowB = true := by
  rw [List.take_add_one, List.all_append, ha, h]
  simp [hx]

theorem few_bad {l : List Ent} {k : Nat} {x : Ent} (h : l[k]? = some x) (hx : lowB x = false) : fewB l = false := by
  unfold fewB
  have : l.all lowB = false := by
    rw [List.all_eq_false]
    exact ⟨x, List.mem_of_getElem? h, by rw [hx]; decide⟩
  rw [this]
  rfl

set_option maxRecDepth 100000 in
set_option maxHeartbeats 1000000 in
theorem cfew_any (w : World) (rev : Nat) (a : Option Addr) (n cap : Nat) (l : List Ent) (h : Reads w 3 (.slice a n cap) n (ecells l)) (hl : l.length = n) (hcap : n ≤ cap ∧ cap ≤ maxLen) (hks : ∀ x ∈ l, x.key.size ≤ maxLen) :
    Calls Tryd.prog 8 #[.agg #[.int .u64 (rev : Int), .slice a n cap]] w (GivesVal w (.bool (fewB l))) := by
  have HL := Lib.hid hl
  have HR := Lib.hid h
  have HK := Lib.hid hks
  unfold maxLen at hcap
  clear h hl hks
  have hg0 := heap_alloc_new w (.cells #[.int .u64 (rev : Int), .slice a n cap] 25)
  have hb0 : Below w.heap.size w (w.alloc (.cells #[.int .u64 (rev : Int), .slice a n cap] 25)) := (Below.refl _ w).alloc (Nat.le_refl _) _
  have HG0 := Lib.hid hg0
  have HB0 := Lib.hid hb0
  clear hg0 hb0
  go_enter Tryd.func8, Tryd.ntmps8
  go_wp2
  go_loopw [8] (fun i wr => CFewRel w rev (.slice a n cap) l n i wr) (fun i _ => n - (intOf i).toNat)
  case atStart => exact ⟨0, rfl, Nat.zero_le _, rfl, HB0.out, HG0.out⟩
  case round =>
    obtain ⟨k, rfl, hk, hall, hb, hg⟩ := hrel
    have hbs := hb.size
    have q0 := Lib.cell_of_heap hg 0
    have q1 := Lib.cell_of_heap hg 1
    simp at q0 q1
    have hlt0 : w.heap.size < wr.heap.size := (Array.getElem?_eq_some_iff.1 hg).1
    have HB := Lib.hid hb
    have HG := Lib.hid hg
    have HA := Lib.hid hall
    clear hb hg hall HG0 HB0
    by_cases hlt : k < n
    · obtain ⟨x, hx⟩ : ∃ x, l[k]? = some x := ⟨l[k]'(by rw [HL.out]; exact hlt), List.getElem?_eq_getElem _⟩
      obtain ⟨g, off, rfl, hgl, c0, c1, c2⟩ := ent_cells (HR.out.below' HB.out) hx
      have hsz := HK.out x (List.mem_of_getElem? hx)
      unfold maxLen at hsz
      have hbad := fun h => few_bad hx h
      have hgood := fun h => few_good hx h HA.out
      have hkI : (k : Int) < n := by omega
      unfold lowB at hbad hgood
      obtain ⟨key, r, d⟩ := x
      dsimp only at c0 c1 c2 hsz hbad hgood
      have HBa := Lib.hid hbad
      have HGo := Lib.hid hgood
      clear hbad hgood hx
      by_cases hz : key.size ≤ 200
      · have hzI : ¬ (200 : Int) < key.size := by omega
        have HGG := Lib.hid (HGo.out (by rw [decide_eq_true hz]))
        go_wp2
        exact ⟨⟨k + 1, by go_num, by omega, HGG.out, HB.out.alloc hbs _, (heap_alloc_old _ _ hlt0).trans HG.out⟩, by simp [intOf]; omega⟩
      · have hzI : (200 : Int) < key.size := by omega
        have HBB := Lib.hid (HBa.out (by rw [decide_eq_false hz]))
        go_wp2
        go_ret
        rw [HBB.out]
        exact ⟨rfl, HB.out.alloc hbs _⟩
    · obtain rfl : k = n := by omega
      have hkI : ¬ ((k : Int) < k) := by omega
      have htk : l.take k = l := by rw [← HL.out]; exact List.take_length
      have hA := HA.out
      rw [htk] at hA
      have hf : fewB l = decide (k ≤ 400) := by unfold fewB; rw [hA, HL.out]; rfl
      have HF := Lib.hid hf
      clear htk hA hf
      by_cases h4 : k ≤ 400
      · have h4I : (k : Int) ≤ 400 := by omega
        have HF4 := Lib.hid (HF.out.trans (decide_eq_true h4))
        go_wp2
        go_ret
        rw [HF4.out]
        exact ⟨rfl, HB.out⟩
      · have h4I : ¬ (k : Int) ≤ 400 := by omega
        have HF4 := Lib.hid (HF.out.trans (decide_eq_false h4))
        go_wp2
        go_ret
        rw [HF4.out]
        exact ⟨rfl, HB.out⟩
end Go.Proofs.YtoibhkmlebcepaaDoor
