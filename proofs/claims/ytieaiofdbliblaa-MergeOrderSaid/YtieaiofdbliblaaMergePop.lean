/- heap.Pop, heap.Push. -/
import Derived.Test.YtieaiofdbliblaaMergeUp
namespace Go.Proofs.Ytieaiofdbliblaa
open Go Go.RowKit

variable {G : Nat → Prop}

def rowI (v : Value) : Value := .iface 46 v

theorem RowsAt.take {w : World} {svs : List Value} {rs : List Row} (h : RowsAt G w svs rs) (k : Nat) : RowsAt G w (svs.take k) (rs.take k) := by
  refine ⟨by rw [List.length_take, List.length_take, h.1], fun i v l hv hl => ?_⟩
  have h1 := (List.getElem?_eq_some_iff.1 hv).1
  have h2 := (List.getElem?_eq_some_iff.1 hl).1
  rw [List.length_take] at h1 h2
  rw [List.getElem?_take_of_lt (by omega)] at hv hl
  exact h.2 i v l hv hl

theorem own_take {w : World} {B n g cap : Nat} {e : TypeId} {xs : List Value} (h : w.ownsRow B e 1 (.slice (some ⟨g, 0, none⟩) n cap) n xs) {k : Nat} (hk : k ≤ n) : w.ownsRow B e 1 (.slice (some ⟨g, 0, none⟩) k cap) k (xs.take k) := by
  have hl := h.1
  refine ⟨by rw [List.length_take]; omega, ?_⟩
  rcases h.2 with ⟨h0, _⟩ | ⟨g', cap', cur, hv, hB, hg, h1, h2, h3, h4⟩
  · cases h0
  · cases hv
    refine .inr ⟨g, cap, cur, rfl, hB, hg, by omega, h2, h3, ?_⟩
    rw [← h4, List.take_take]
    congr 1
    omega

/-- The last row is let out. -/
def RPopPost (G : Nat → Prop) (w : World) (B m : Nat) (rs : List Row) (e : Ending) (w' : World) : Prop :=
  ∃ v l, e = .returned (.iface 46 v) ∧ rs[rs.length - 1]? = some l ∧ StrAt G w' v l ∧ StatePost G w B m (rs.take (rs.length - 1)) w'

set_option maxRecDepth 100000 in
set_option maxHeartbeats 2000000 in
theorem rpop_any (w : World) (B m : Nat) (hv : Value) (svs : List Value) (rs : List Row) (h : MS G w B m hv svs rs) (hn : 0 < rs.length) :
    Calls Try.prog 42 #[.pointer (some ⟨m, 0, none⟩)] w (RPopPost G w B m rs) := by
  obtain ⟨g, cap, ⟨ab, ao⟩, len, scap, rfl, hgl, s1, c1, l1, l1', bl1, d1, fz⟩ := h.get (show rs.length - 1 < rs.length by omega)
  obtain ⟨l, hl⟩ : ∃ l, rs[rs.length - 1]? = some l := ⟨_, List.getElem?_eq_getElem (show rs.length - 1 < rs.length by omega)⟩
  have hst := h.rows.2 _ _ _ s1 hl
  have hm0 := h.mcell
  have hmf := Lib.frozen_of_heap h.cell 0
  have hml := (Array.getElem?_eq_some_iff.1 h.cell).1
  have hfew := h.few
  have hcap : rs.length ≤ cap ∧ cap ≤ maxLen := by
    obtain ⟨_, _, hv, h1, h2⟩ := (ownsRow.reads h.own).le
    cases hv
    exact ⟨h1, h2⟩
  have hgm : g ≠ m := fun e => by
    rcases h.own.2 with ⟨h0, _⟩ | ⟨g', cap', cur, hv, hB, hg, _⟩
    · cases h0
    · cases hv
      rw [e, h.cell] at hg
      injection hg with hg
      injection hg with _ hg _
      exact absurd hg (by decide)
  have ht : Touch w (w.setCell ⟨m, 0, none⟩ (.slice (some ⟨g, 0, none⟩) (rs.length - 1) cap)) [m] := (Touch.refl _ _).setCell (.inl (by simp)) _
  have hmfr : MF B w (w.setCell ⟨m, 0, none⟩ (.slice (some ⟨g, 0, none⟩) (rs.length - 1) cap)) := MF.of_touch ht h.bsize (fun x hx => by
    simp at hx
    subst hx
    exact ⟨h.base, _, _, _, .inl rfl, h.cell⟩)
  have hms : MS G (w.setCell ⟨m, 0, none⟩ (.slice (some ⟨g, 0, none⟩) (rs.length - 1) cap)) B m (.slice (some ⟨g, 0, none⟩) (rs.length - 1) cap) (svs.take (rs.length - 1)) (rs.take (rs.length - 1)) := by
    have hln : (rs.take (rs.length - 1)).length = rs.length - 1 := by rw [List.length_take]; omega
    refine ⟨?_, h.base, ?_, (h.rows.take _).mf hmfr, fun l hl => h.full l (List.mem_of_mem_take hl), by omega⟩
    · rw [heap_setCell_same _ _ 0 _ _ _ h.cell]
      rfl
    · rw [hln]
      refine ownsRow_setCell_other (a := ⟨m, 0, none⟩) (own_take h.own (by omega)) ?_ _
      simp [Value.ownBlock]
      exact hgm
  have hst2 := hst.mf hmfr
  have hsub : (rs.length : Int) - 1 = ((rs.length - 1 : Nat) : Int) := by omega
  have hlt : ((rs.length - 1 : Nat) : Int) < rs.length := by omega
  have hle : ((rs.length - 1 : Nat) : Int) ≤ cap := by omega
  have h0 : (0 : Int) ≤ ((rs.length - 1 : Nat) : Int) := by omega
  have HMs := Lib.hid hms
  have HMf := Lib.hid hmfr
  have HSt := Lib.hid hst2
  have HL := Lib.hid hl
  clear h hms hmfr hst hst2 hl ht s1 d1 l1 bl1 fz
  unfold maxLen at hcap
  go_enter Try.func42, Try.ntmps42
  go_wp2
  go_ret
  exact ⟨_, _, rfl, HL.out, HSt.out, ⟨_, _, HMs.out⟩, HMf.out⟩
end Go.Proofs.Ytieaiofdbliblaa
