import Derived.Test.YtodjgdaaggajcaaDoorFrameAll
namespace Go.Proofs.YtodjgdaaggajcaaDoor
open Go Go.RowKit

def SameRel (w : World) (n : Nat) (c : Value) (wr : World) : Prop := ∃ i : Nat, c = .int .i64 (i : Int) ∧ i ≤ n ∧ Below w.heap.size w wr

set_option maxRecDepth 100000 in
set_option maxHeartbeats 2000000 in
theorem same_any (w : World) (u v : Value) (n : Nat) (ps : List (List UInt8)) (h1 : RowsOf w u n ps) (h2 : RowsOf w v n ps) :
    Calls Tryd.prog 16 #[u, v] w (GivesBool w true) := by
  obtain ⟨a1, c1, rfl, hc1, hc1'⟩ : ∃ a c, u = .slice a n c ∧ n ≤ c ∧ c ≤ maxLen := by
    obtain ⟨vs, h, _⟩ := h1
    exact h.le
  obtain ⟨a2, c2, rfl, hc2, hc2'⟩ : ∃ a c, v = .slice a n c ∧ n ≤ c ∧ c ≤ maxLen := by
    obtain ⟨vs, h, _⟩ := h2
    exact h.le
  unfold maxLen at hc1' hc2'
  have H1 := Lib.hid h1
  have H2 := Lib.hid h2
  have hne : ((n : Int) != n) = false := by simp
  clear h1 h2
  go_enter Tryd.func16, Tryd.ntmps16
  go_wp2
  go_loopw [13] (fun c wr => SameRel w n c wr) (fun c _ => n - (intOf c).toNat)
  case atStart => exact ⟨0, rfl, Nat.zero_le _, Below.refl _ _⟩
  case round =>
    obtain ⟨i, rfl, hi, hb⟩ := hrel
    by_cases hlt : i < n
    · have hlt' : (i : Int) < n := by omega
      have hi0 : (0 : Int) ≤ i := by omega
      obtain ⟨b1, o1, p1, u1, rfl, hp1, hbl1, hcell1, hr1⟩ := (H1.out.below' hb).row hlt
      obtain ⟨b2, o2, p2, u2, rfl, hp2, hbl2, hcell2, hr2⟩ := (H2.out.below' hb).row hlt
      obtain rfl : p1 = p2 := by rw [hp1] at hp2; exact Option.some.inj hp2
      obtain ⟨x1, y1, rfl, _, _⟩ := hr1.le
      obtain ⟨x2, y2, rfl, _, _⟩ := hr2.le
      have hv1 := fun k => Reads.conv (P := Tryd.prog) (w := wr.drewN k) (src := 22) (e := 5) (dst := 9) Tryd.underlying22 Tryd.underlying5 Tryd.underlying9 (hr1.drewN k)
      have hv2 := fun k => Reads.conv (P := Tryd.prog) (w := wr.drewN k) (src := 22) (e := 5) (dst := 9) Tryd.underlying22 Tryd.underlying5 Tryd.underlying9 (hr2.drewN k)
      have hbs := hb.size
      have Hb := Lib.hid hb
      clear hp1 hp2 hr1 hr2 hb
      go_wp2_with fail
      go_quiet (fail)
      go_wp2
      exact ⟨⟨i + 1, by go_num, by omega, below_drewN Hb.out nq⟩, by simp [intOf]; omega⟩
    · obtain rfl : n = i := by omega
      have hlt' : ¬ ((n : Int) < n) := by omega
      go_wp2
      go_ret
      exact ⟨rfl, hb⟩
end Go.Proofs.YtodjgdaaggajcaaDoor
