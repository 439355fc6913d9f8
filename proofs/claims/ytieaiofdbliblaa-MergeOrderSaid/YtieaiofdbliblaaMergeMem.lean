/- A merger's rows in memory; what its heap asks of them: Len, Less, Swap. -/
import Derived.Test.YtieaiofdbliblaaMergeHeap
import Derived.Test.YtieaiofdbliblaaStrWalks
import Derived.Test.YtieaiofdbliblaaTouch
import Derived.Test.YtieaiofdbliblaaAppendRows
import Derived.BigRegion
namespace Go.Proofs.Ytieaiofdbliblaa
open Go Go.RowKit

variable {G : Nat → Prop}

/-- A slice of texts in a block of texts. -/
def StrAt (G : Nat → Prop) (w : World) (v : Value) (l : Row) : Prop := ∃ (a : Option Addr) (cap : Nat), v = .slice a l.length cap ∧ Reads w 1 (.slice a l.length cap) l.length (scells l) ∧ ∀ g, v.ownBlock = some g → G g ∧ ∃ cs fz, w.heap[g]? = some (Obj.cells cs 9 fz)

/-- What a merger's calls leave: older blocks, and all that is no merger and no row of rows. -/
structure MF (B : Nat) (w w' : World) : Prop where
  below : Below B w w'
  other : ∀ (g : Nat) (cs : Array Value) (t : TypeId) (fz : Nat × Nat), w.heap[g]? = some (Obj.cells cs t fz) → t ≠ 45 → t ≠ 46 → w'.heap[g]? = some (Obj.cells cs t fz)

theorem MF.refl (B : Nat) (w : World) : MF B w w := ⟨Below.refl _ _, fun _ _ _ _ h _ _ => h⟩
theorem MF.trans {B : Nat} {a b c : World} (h : MF B a b) (k : MF B b c) : MF B a c := ⟨h.below.trans k.below, fun g cs t fz hg h1 h2 => k.other g cs t fz (h.other g cs t fz hg h1 h2) h1 h2⟩
theorem MF.of_below {B : Nat} {w w' : World} (h : Below w.heap.size w w') (hB : B ≤ w.heap.size) : MF B w w' := ⟨h.mono hB, fun g _ _ _ hg _ _ => (h.block g (Array.getElem?_eq_some_iff.1 hg).1).trans hg⟩
theorem MF.of_touch {B : Nat} {w w' : World} {l : List Nat} (h : Touch w w' l) (hB : B ≤ w.heap.size) (hl : ∀ x ∈ l, B ≤ x ∧ ∃ cs t fz, (t = 45 ∨ t = 46) ∧ w.heap[x]? = some (Obj.cells cs t fz)) : MF B w w' :=
  ⟨h.below hB (fun x hx => (hl x hx).1), fun g cs t fz hg h1 h2 => h.keep hg (fun hm => by
    obtain ⟨_, cs', t', fz', ht, hx⟩ := hl g hm
    rw [hg] at hx
    injection hx with hx
    injection hx with _ hx _
    rcases ht with ht | ht
    · exact h1 (hx.trans ht)
    · exact h2 (hx.trans ht))⟩

theorem StrAt.kept {w w' : World} {v : Value} {l : Row} (h : StrAt G w v l) (hk : ∀ (g : Nat) (cs : Array Value) (fz : Nat × Nat), w.heap[g]? = some (Obj.cells cs 9 fz) → w'.heap[g]? = some (Obj.cells cs 9 fz)) (hsz : w.heap.size ≤ w'.heap.size) : StrAt G w' v l := by
  obtain ⟨a, cap, rfl, hr, ho⟩ := h
  refine ⟨a, cap, rfl, ?_, fun g hg => ?_⟩
  · obtain ⟨hl, a', cap', hv, h1, h2, h3⟩ := hr
    cases hv
    refine ⟨hl, a, cap, rfl, h1, h2, fun j u hj => ?_⟩
    obtain ⟨b, off, rfl, hlt, hc⟩ := h3 j u hj
    obtain ⟨_, cs, fz, hh⟩ := ho b rfl
    refine ⟨b, off, rfl, Nat.lt_of_lt_of_le hlt hsz, ?_⟩
    have : w'.heap[b]? = w.heap[b]? := (hk _ _ _ hh).trans hh.symm
    exact (World.cell?_of_block (a := ⟨b, off + j, none⟩) this).trans hc
  · obtain ⟨hG, cs, fz, hh⟩ := ho g hg
    exact ⟨hG, cs, fz, hk _ _ _ hh⟩

theorem StrAt.mf {B : Nat} {w w' : World} {v : Value} {l : Row} (h : StrAt G w v l) (m : MF B w w') : StrAt G w' v l := h.kept (fun g cs fz hg => m.other g cs _ fz hg (by decide) (by decide)) m.below.size

/-- Rows at hand. -/
def RowsAt (G : Nat → Prop) (w : World) (svs : List Value) (rs : List Row) : Prop := svs.length = rs.length ∧ ∀ (i : Nat) (v : Value) (l : Row), svs[i]? = some v → rs[i]? = some l → StrAt G w v l

structure MS (G : Nat → Prop) (w : World) (B m : Nat) (hv : Value) (svs : List Value) (rs : List Row) : Prop where
  cell : w.heap[m]? = some (Obj.cells #[hv] 45 (0, 0))
  base : B ≤ m
  own : w.ownsRow B 46 1 hv rs.length svs
  rows : RowsAt G w svs rs
  full : ∀ l ∈ rs, l ≠ []
  few : rs.length ≤ 100000

theorem RowsAt.mf {B : Nat} {w w' : World} {svs : List Value} {rs : List Row} (h : RowsAt G w svs rs) (m : MF B w w') : RowsAt G w' svs rs := ⟨h.1, fun i v l hv hl => (h.2 i v l hv hl).mf m⟩

theorem MS.below {w w' : World} {B m : Nat} {hv : Value} {svs : List Value} {rs : List Row} (h : MS G w B m hv svs rs) (hb : Below w.heap.size w w') : MS G w' B m hv svs rs :=
  ⟨(hb.block m (Array.getElem?_eq_some_iff.1 h.cell).1).trans h.cell, h.base, owns_below h.own hb, h.rows.mf (MF.of_below (B := 0) hb (Nat.zero_le _)), h.full, h.few⟩

theorem MS.get {w : World} {B m : Nat} {hv : Value} {svs : List Value} {rs : List Row} (h : MS G w B m hv svs rs) {i : Nat} (hi : i < rs.length) :
    ∃ (g cap : Nat) (a : Nat × Nat) (len scap : Nat), hv = .slice (some ⟨g, 0, none⟩) rs.length cap ∧ g < w.heap.size ∧ svs[i]? = some (.slice (some ⟨a.1, a.2, none⟩) len scap) ∧ w.cell? ⟨g, i, none⟩ = some (.slice (some ⟨a.1, a.2, none⟩) len scap) ∧ 0 < len ∧ len ≤ scap ∧ a.1 < w.heap.size ∧
      w.cell? ⟨a.1, a.2, none⟩ = some (.string (hd rs i)) ∧ (∀ j, w.frozen? ⟨g, j, none⟩ = false) := by
  obtain ⟨l, hl⟩ : ∃ l, rs[i]? = some l := ⟨rs[i], List.getElem?_eq_getElem hi⟩
  obtain ⟨v, hv'⟩ : ∃ v, svs[i]? = some v := ⟨svs[i]'(by rw [h.rows.1]; exact hi), List.getElem?_eq_getElem _⟩
  obtain ⟨a, scap, rfl, hr, ho⟩ := h.rows.2 i v l hv' hl
  have hne := h.full l (List.mem_of_getElem? hl)
  have hpos : 0 < l.length := List.length_pos_iff.2 hne
  obtain ⟨b, off, x, rfl, hx, hb, hc⟩ := hr.scell 0 hpos
  obtain ⟨_, _, hvv, hk1, _⟩ := hr.le
  cases hvv
  rcases h.own.2 with ⟨_, h0⟩ | ⟨g, cap, cur, rfl, _, hg, hn, _, hcs, htk⟩
  · omega
  · have hcell : w.cell? ⟨g, i, none⟩ = some (.slice (some ⟨b, off, none⟩) l.length scap) := by
      obtain ⟨g', off', ha, hg', hc'⟩ := (ownsRow.reads h.own).at hv'
      cases ha
      rw [Nat.zero_add] at hc'
      exact hc'
    refine ⟨g, cap, (b, off), l.length, scap, rfl, (Array.getElem?_eq_some_iff.1 hg).1, hv', hcell, hpos, hk1, hb, ?_, fun j => Lib.frozen_of_heap hg j⟩
    rw [Nat.add_zero] at hc
    have : hd rs i = x := by
      unfold hd
      rw [hl]
      cases l with
      | nil => cases hne rfl
      | cons y t =>
        simp at hx
        subst hx
        rfl
    rw [this]
    exact hc

theorem load_rows (w : World) (m : Nat) (v : Value) (h : w.cell? ⟨m, 0, none⟩ = some v) : (loadVar 43 ⟨m, 0, none⟩).run Try.prog w = .ok v w := by
  have hagg : (isAgg 43).run Try.prog w = .ok false w := by kernel_rfl
  unfold loadVar
  rw [Sem.run_bind, hagg, Result.andThen_ok]
  simp [run_load, h]

theorem m_len0 (w : World) (m : Nat) : (method 177 49 (.pointer (some ⟨m, 0, none⟩)) "Len").run Try.prog w = (loadVar 43 ⟨m, 0, none⟩ >>= fun r => pure (39, r)).run Try.prog w := by kernel_rfl
theorem m_less0 (w : World) (m : Nat) : (method 177 49 (.pointer (some ⟨m, 0, none⟩)) "Less").run Try.prog w = (loadVar 43 ⟨m, 0, none⟩ >>= fun r => pure (40, r)).run Try.prog w := by kernel_rfl
theorem m_swap0 (w : World) (m : Nat) : (method 177 49 (.pointer (some ⟨m, 0, none⟩)) "Swap").run Try.prog w = (loadVar 43 ⟨m, 0, none⟩ >>= fun r => pure (41, r)).run Try.prog w := by kernel_rfl
theorem m_push (w : World) (m : Nat) : (method 177 49 (.pointer (some ⟨m, 0, none⟩)) "Push").run Try.prog w = .ok (43, .pointer (some ⟨m, 0, none⟩)) w := by kernel_rfl
theorem m_pop (w : World) (m : Nat) : (method 177 49 (.pointer (some ⟨m, 0, none⟩)) "Pop").run Try.prog w = .ok (42, .pointer (some ⟨m, 0, none⟩)) w := by kernel_rfl

theorem m_len {w : World} {m : Nat} {v : Value} (h : w.cell? ⟨m, 0, none⟩ = some v) : (method 177 49 (.pointer (some ⟨m, 0, none⟩)) "Len").run Try.prog w = .ok (39, v) w := by
  rw [m_len0, Sem.run_bind, load_rows w m v h]
  rfl
theorem m_less {w : World} {m : Nat} {v : Value} (h : w.cell? ⟨m, 0, none⟩ = some v) : (method 177 49 (.pointer (some ⟨m, 0, none⟩)) "Less").run Try.prog w = .ok (40, v) w := by
  rw [m_less0, Sem.run_bind, load_rows w m v h]
  rfl
theorem m_swap {w : World} {m : Nat} {v : Value} (h : w.cell? ⟨m, 0, none⟩ = some v) : (method 177 49 (.pointer (some ⟨m, 0, none⟩)) "Swap").run Try.prog w = .ok (41, v) w := by
  rw [m_swap0, Sem.run_bind, load_rows w m v h]
  rfl

theorem MS.mcell {w : World} {B m : Nat} {hv : Value} {svs : List Value} {rs : List Row} (h : MS G w B m hv svs rs) : w.cell? ⟨m, 0, none⟩ = some hv := by
  rw [Lib.cell_of_heap h.cell 0]
  rfl

theorem rlen_any (w : World) (a : Option Addr) (n cap : Nat) : Calls Try.prog 39 #[.slice a n cap] w fun e w' => e = .returned (.int .i64 (n : Int)) ∧ w = w' := by
  go_enter Try.func39, Try.ntmps39
  go_wp2
  go_ret
  exact ⟨rfl, rfl⟩

def LessPost (w : World) (b : Bool) (e : Ending) (w' : World) : Prop := e = .returned (.bool b) ∧ Below w.heap.size w w'

set_option maxRecDepth 100000 in
set_option maxHeartbeats 2000000 in
theorem rless_any (w : World) (B m : Nat) (hv : Value) (svs : List Value) (rs : List Row) (i j : Nat) (h : MS G w B m hv svs rs) (hi : i < rs.length) (hj : j < rs.length) :
    Calls Try.prog 40 #[hv, .int .i64 (i : Int), .int .i64 (j : Int)] w (LessPost w (lessR rs i j)) := by
  obtain ⟨g, cap, ⟨ab, ao⟩, len, scap, rfl, hgl, _, c1, l1, l1', bl1, d1, _⟩ := h.get hi
  obtain ⟨g', cap', ⟨bb, bo⟩, len', scap', hge, _, _, c2, l2, l2', bl2, d2, _⟩ := h.get hj
  cases hge
  have hiI : (i : Int) < rs.length := by omega
  have hjI : (j : Int) < rs.length := by omega
  have p1 : (0 : Int) < len := by omega
  have p2 : (0 : Int) < len' := by omega
  have hls : lessR rs i j = bl (hd rs i) (hd rs j) := rfl
  have e1 := bl_spell (hd rs i) (hd rs j)
  rw [hls]
  clear h hls
  generalize hd rs i = x at *
  generalize hd rs j = y at *
  go_enter Try.func40, Try.ntmps40
  go_wp2
  go_quiet (fail)
  go_wp2
  go_ret
  exact ⟨rfl, below_quiet (Below.refl _ _) _⟩
end Go.Proofs.Ytieaiofdbliblaa
