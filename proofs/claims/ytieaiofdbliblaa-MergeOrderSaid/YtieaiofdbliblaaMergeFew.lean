/- sentrylaw17.few. -/
import Derived.Test.YtieaiofdbliblaaMergeRef
import Derived.Test.YtieaiofdbliblaaGives
namespace Go.Proofs.Ytieaiofdbliblaa
open Go Go.RowKit

def short17 (x : ByteArray) : Bool := decide (x.size ≤ 200)
def few17 (ls : List Row) : Bool := decide (ls.flatten.length ≤ 300) && ls.all (fun l => l.all short17) && decide (ls.length ≤ 30)

theorem flat17_snoc {ls : List Row} {k : Nat} {x : Row} (h : ls[k]? = some x) : (ls.take (k + 1)).flatten.length = (ls.take k).flatten.length + x.length := by
  rw [List.take_add_one, h]
  simp

theorem few17_sum {ls : List Row} {k : Nat} (h : ¬ (ls.take k).flatten.length ≤ 300) : few17 ls = false := by
  unfold few17
  have := flat17_take ls k
  rw [decide_eq_false (by omega)]
  rfl

theorem few17_bad {ls : List Row} {k j : Nat} {l : Row} {x : ByteArray} (h : ls[k]? = some l) (hj : l[j]? = some x) (hx : short17 x = false) : few17 ls = false := by
  unfold few17
  have : ls.all (fun l => l.all short17) = false := by
    rw [List.all_eq_false]
    refine ⟨l, List.mem_of_getElem? h, ?_⟩
    simp only [Bool.not_eq_true]
    rw [List.all_eq_false]
    exact ⟨x, List.mem_of_getElem? hj, by rw [hx]; decide⟩
  rw [this, Bool.and_false, Bool.false_and]

theorem all17_snoc {α : Type} {p : α → Bool} {l : List α} {k : Nat} {x : α} (h : l[k]? = some x) (hx : p x = true) (ha : (l.take k).all p = true) : (l.take (k + 1)).all p = true := by
  rw [List.take_add_one, List.all_append, ha, h]
  simp [hx]

theorem few17_low {ls : List Row} (h : few17 ls = true) : ls.length ≤ 30 ∧ ls.flatten.length ≤ 300 := by
  unfold few17 at h
  simp only [Bool.and_eq_true, decide_eq_true_eq, List.all_eq_true] at h
  exact ⟨h.2, h.1.1⟩

def Few17Rel (w : World) (ls : List Row) (n : Nat) (nv iv : Value) (wr : World) : Prop :=
  ∃ k : Nat, iv = .int .i64 (k : Int) ∧ k ≤ n ∧ nv = .int .i64 ((ls.take k).flatten.length : Int) ∧ (ls.take k).flatten.length ≤ 300 ∧ (ls.take k).all (fun l => l.all short17) = true ∧ Below w.heap.size w wr

def Few17In (wo : World) (x : Row) (jv : Value) (wi : World) : Prop :=
  ∃ j : Nat, jv = .int .i64 (j : Int) ∧ j ≤ x.length ∧ (x.take j).all short17 = true ∧ Below wo.heap.size wo wi

set_option maxRecDepth 100000 in
set_option maxHeartbeats 4000000 in
theorem few17_any (w : World) (v : Value) (n : Nat) (ls : List Row) (h : RRows w v n ls) (hsz : ∀ l ∈ ls, l.length ≤ 8796093021952) :
    Calls Try.prog 8 #[v] w (GivesVal w (.bool (few17 ls))) := by
  have HE := Lib.hid h
  have HS := Lib.hid hsz
  obtain ⟨a, cap, rfl, hc1, hc2, hll, hx0⟩ := h
  clear hx0 hsz
  unfold maxLen at hc2
  have HLL := Lib.hid hll
  clear hll
  go_enter Try.func8, Try.ntmps8
  go_wp2
  go_loopw [3, 10] (fun nv iv wr => Few17Rel w ls n nv iv wr) (fun _ iv _ => n - (intOf iv).toNat)
  case atStart => exact ⟨0, rfl, Nat.zero_le _, rfl, Nat.zero_le _, rfl, Below.refl _ _⟩
  case round =>
    obtain ⟨k, rfl, hk, rfl, hsm, hal, hb⟩ := hrel
    have hbs := hb.size
    by_cases hlt : k < n
    · have hkI : (k : Int) < n := by omega
      obtain ⟨x, hx⟩ : ∃ x, ls[k]? = some x := ⟨ls[k]'(by rw [HLL.out]; exact hlt), List.getElem?_eq_getElem _⟩
      obtain ⟨_, _, hv, _, _, _, hrow⟩ := HE.out.below hb
      cases hv
      obtain ⟨g, off, sa, scap, rfl, hg, hcell, hrd⟩ := hrow k x hx
      have hxl := HS.out x (List.mem_of_getElem? hx)
      have hsn := flat17_snoc hx
      have hs1 := fun h => few17_sum (ls := ls) (k := k + 1) h
      rw [hsn] at hs1
      have HSn := Lib.hid hsn
      have HS1 := Lib.hid hs1
      have HR := Lib.hid hrd
      have HB := Lib.hid hb
      have HX := Lib.hid hx
      have HAl := Lib.hid hal
      obtain ⟨_, _, hv2, hsc1, hsc2⟩ := hrd.le
      cases hv2
      unfold maxLen at hsc2
      clear hrow hx hsn hs1 hrd hb hal
      generalize (ls.take k).flatten.length = s at *
      obtain ⟨wo, rfl⟩ : ∃ wo : World, wo = wr := ⟨_, rfl⟩
      go_wp2
      go_loopw [20] (fun jv wi => Few17In wo x jv wi) (fun jv _ => x.length - (intOf jv).toNat)
      case atStart => exact ⟨0, rfl, Nat.zero_le _, rfl, Below.refl _ _⟩
      case round =>
        obtain ⟨j, rfl, hj, hall, hbi⟩ := hrel
        have hbis := hbi.size
        have HA := Lib.hid hall
        have HI := Lib.hid hbi
        clear hall hbi
        by_cases hjl : j < x.length
        · have hjI : (j : Int) < x.length := by omega
          obtain ⟨b, off2, y, rfl, hy, hbb, hcc⟩ := (HR.out.below' HI.out).scell j hjl
          have hbad := fun h => few17_bad HX.out hy h
          have hgood := fun h => all17_snoc (p := short17) hy h HA.out
          unfold short17 at hbad hgood
          have HBa := Lib.hid hbad
          have HGo := Lib.hid hgood
          clear hbad hgood hy
          by_cases hz : y.size ≤ 200
          · have hzI : ¬ (200 : Int) < y.size := by omega
            have HGG := Lib.hid (HGo.out (by rw [decide_eq_true hz]))
            go_wp2
            exact ⟨⟨j + 1, by go_num, by omega, HGG.out, HI.out⟩, by simp [intOf]; omega⟩
          · have hzI : (200 : Int) < y.size := by omega
            have HBB := Lib.hid (HBa.out (by rw [decide_eq_false hz]))
            have HBx := Lib.hid (HB.out.trans (HI.out.mono HB.out.size))
            go_wp2
            go_ret
            rw [HBB.out]
            exact ⟨rfl, HBx.out⟩
        · have hjI : ¬ (j : Int) < x.length := by omega
          have htk : x.take j = x := List.take_of_length_le (by omega)
          rw [htk] at HA
          have HAA := Lib.hid (all17_snoc (p := fun l : Row => l.all short17) HX.out HA.out HAl.out)
          have HBx := Lib.hid (HB.out.trans (HI.out.mono HB.out.size))
          by_cases hbig : s + x.length ≤ 300
          · have hbI : ¬ (300 : Int) < (s : Int) + x.length := by omega
            go_wp2
            exact ⟨⟨k + 1, by go_num, by omega, by rw [HSn.out]; go_num, by rw [HSn.out]; exact hbig, HAA.out, HBx.out⟩, by simp [intOf]; omega⟩
          · have hbI : (300 : Int) < (s : Int) + x.length := by omega
            have HF := Lib.hid (HS1.out hbig)
            go_wp2
            go_ret
            rw [HF.out]
            exact ⟨rfl, HBx.out⟩
    · obtain rfl : k = n := by omega
      have hkI : ¬ (k : Int) < k := by omega
      have htk : ls.take k = ls := by rw [← HLL.out]; exact List.take_length
      rw [htk] at hsm hal ⊢
      have hf : few17 ls = decide (k ≤ 30) := by unfold few17; rw [decide_eq_true hsm, hal, HLL.out]; rfl
      have HF := Lib.hid hf
      have HB := Lib.hid hb
      clear hf hb hal
      by_cases h4 : k ≤ 30
      · have h4I : (k : Int) ≤ 30 := by omega
        have HF4 := Lib.hid (HF.out.trans (decide_eq_true h4))
        go_wp2
        go_ret
        rw [HF4.out]
        exact ⟨rfl, HB.out⟩
      · have h4I : ¬ (k : Int) ≤ 30 := by omega
        have HF4 := Lib.hid (HF.out.trans (decide_eq_false h4))
        go_wp2
        go_ret
        rw [HF4.out]
        exact ⟨rfl, HB.out⟩
end Go.Proofs.Ytieaiofdbliblaa
