/- (*skip.List).height. -/
import Derived.Test.YthficboolhellaaSkipSeek
import Derived.Lib.MinMax
namespace Go.Proofs.Ythficboolhellaa
open Go Go.RowKit

def HeightPost (w : World) (L : Nat) (e : Ending) (w' : World) : Prop :=
  ∃ (h : Nat) (v : Value), e = .returned (.int .i64 (h : Int)) ∧ 1 ≤ h ∧ h ≤ 8 ∧ Draws w v ∧ ((w' = w ∧ w.cell? ⟨L, 9, none⟩ = some v) ∨ w' = w.setCell ⟨L, 9, none⟩ v)

theorem bits_one : ∀ d : Nat, d < 256 → bits BinOp.and IntKind.u8 (d : Int) 1 = ((d % 2 : Nat) : Int) := by decide +kernel

theorem min_spell (k : Nat) : (Ending.returned (.int .i64 (min ((k : Int) + 1) 8))) = .returned (.int .i64 ((min (k + 1) 8 : Nat) : Int)) := by
  congr 2
  omega

theorem draws_cut1 {w : World} {b off n : Nat} {l : List UInt8} {cap : Nat} (hr : Reads w 1 (.slice (some ⟨b, off, none⟩) n cap) n (bcells l)) (ho : ∀ g, (Value.slice (some ⟨b, off, none⟩) n cap).ownBlock = some g → ∃ cs fz, w.heap[g]? = some (Obj.cells cs 5 fz)) (hn : n = 1) : Draws w (.slice (some ⟨b, off, none⟩) (n - 1) 0) := by
  subst hn
  exact ⟨_, 0, 0, [], rfl, ⟨rfl, _, _, rfl, Nat.le_refl _, Nat.zero_le _, fun j u h => by simp [bcells] at h⟩, fun g hg => ho g hg⟩

theorem draws_cut2 {w : World} {b off n : Nat} {l : List UInt8} {cap : Nat} (hr : Reads w 1 (.slice (some ⟨b, off, none⟩) n cap) n (bcells l)) (ho : ∀ g, (Value.slice (some ⟨b, off, none⟩) n cap).ownBlock = some g → ∃ cs fz, w.heap[g]? = some (Obj.cells cs 5 fz)) (hn : 0 < n) : Draws w (.slice (some ⟨b, off + 1, none⟩) (n - 1) (cap - 1)) := by
  obtain ⟨hl, a', cap', hv, h1, h2, h3⟩ := hr
  cases hv
  refine ⟨_, n - 1, cap - 1, l.drop 1, rfl, ⟨?_, _, _, rfl, by omega, by omega, fun j u hj => ?_⟩, fun g hg => ho g hg⟩
  · simp [bcells] at hl ⊢
    omega
  · have e : bcells (l.drop 1) = (bcells l).drop 1 := by simp [bcells]
    rw [e, List.getElem?_drop] at hj
    obtain ⟨b', off', ha, hb, hc⟩ := h3 (1 + j) u hj
    cases ha
    exact ⟨b, off + 1, rfl, hb, by rw [Nat.add_assoc]; exact hc⟩

def HgtRel (hv dv : Value) : Prop := ∃ (d k : Nat), dv = .int .u8 (d : Int) ∧ hv = .int .i64 ((k + 1 : Nat) : Int) ∧ d + k ≤ 255

set_option maxRecDepth 100000 in
set_option maxHeartbeats 2000000 in
theorem height_any (w : World) (L : Nat) (v : Value) (hc : w.cell? ⟨L, 9, none⟩ = some v) (hf : w.frozen? ⟨L, 9, none⟩ = false) (hd : Draws w v) :
    Calls Try.prog 24 #[.pointer (some ⟨L, 0, none⟩)] w (HeightPost w L) := by
  have HD := Lib.hid hd
  obtain ⟨a, n, cap, l, rfl, hr, ho⟩ := hd
  obtain ⟨_, _, hv, hc1, hc2⟩ := hr.le
  cases hv
  unfold maxLen at hc2
  have hll : l.length = n := by have := hr.1; simp [bcells] at this; omega
  have HR := Lib.hid hr
  have HO := Lib.hid ho
  have HC := Lib.hid hc
  clear hr ho
  go_enter Try.func24, Try.ntmps24
  by_cases h0 : n = 0
  · subst h0
    go_wp2
    go_ret
    exact ⟨1, _, rfl, by omega, by omega, HD.out, .inl ⟨rfl, HC.out⟩⟩
  · have h0I : ¬ (n : Int) = 0 := by omega
    have h0J : (0 : Int) < n := by omega
    obtain ⟨b, off, _, hv, hbl, _, _, hcell⟩ := HR.out.head (by omega)
    cases hv
    have hc0 := hcell 0 (by omega)
    rw [Nat.add_zero] at hc0
    have hd8 := (l.getD 0 0).toNat_lt
    generalize (l.getD 0 0).toNat = d at *
    clear hcell
    go_wp2
    go_loop [3, 4] (fun hv dv => HgtRel hv dv) (fun _ dv => (intOf dv).toNat)
    case atStart => exact ⟨d, 0, rfl, rfl, by omega⟩
    case round =>
      obtain ⟨d', k, rfl, rfl, hdk⟩ := hrel
      have hbit := bits_one d' (by omega)
      have HHf := Lib.hid hf
      rcases Nat.mod_two_eq_zero_or_one d' with ho | ho
      · rw [ho] at hbit
        have hb0 : bits BinOp.and IntKind.u8 (d' : Int) 1 = 0 := hbit
        clear hbit ho
        go_wp2
        · go_ret
          exact ⟨min (k + 1) 8, _, min_spell k, by omega, by omega, draws_cut1 HR.out HO.out (by omega), .inr rfl⟩
        · go_ret
          exact ⟨min (k + 1) 8, _, min_spell k, by omega, by omega, draws_cut2 HR.out HO.out (by omega), .inr rfl⟩
      · rw [ho] at hbit
        have hb0 : bits BinOp.and IntKind.u8 (d' : Int) 1 = 1 := hbit
        have hdp : 1 ≤ d' := by omega
        clear hbit ho
        go_wp2
        exact ⟨⟨d' / 2, k + 1, by go_num, by go_num, by omega⟩, by simp [intOf]; omega⟩
end Go.Proofs.Ythficboolhellaa
