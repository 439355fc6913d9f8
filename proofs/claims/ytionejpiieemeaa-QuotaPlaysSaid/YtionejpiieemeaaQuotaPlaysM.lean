/- Towards the law QuotaPlays: the two quotas in memory, and their names. -/
import Derived.Test.YtionejpiieemeaaQuotaRel
import Derived.Test.YtionejpiieemeaaQuotaActs
import Derived.Test.YtionejpiieemeaaDrawnState
import Derived.Test.YtionejpiieemeaaDrawnAct
namespace Go.Proofs.Ytionejpiieemeaa
open Go Go.RowKit Go.Sort

theorem sorted_names {S : QS} {R : RQ} (h : Rel S R) {ss : List (List UInt8)} (hnd : ss.Nodup) (hm : ∀ c : ByteArray, c.data.toList ∈ ss ↔ (S.g c).isSome = true) :
    (ss.mergeSort (fun x y => decide (x ≤ y))).map encStr = scells (R.cs.map (·.1)) := by
  have tr : ∀ a b c : List UInt8, decide (a ≤ b) = true → decide (b ≤ c) = true → decide (a ≤ c) = true := fun a b c h1 h2 => by simp only [decide_eq_true_eq] at *; exact List.le_trans h1 h2
  have tot : ∀ a b : List UInt8, (decide (a ≤ b) || decide (b ≤ a)) = true := fun a b => by simp only [Bool.or_eq_true, decide_eq_true_eq]; exact List.le_total a b
  have hp := List.pairwise_mergeSort (le := fun x y : List UInt8 => decide (x ≤ y)) tr tot ss
  have hperm := List.mergeSort_perm ss (fun x y => decide (x ≤ y))
  have hnd2 : (ss.mergeSort (fun x y => decide (x ≤ y))).Nodup := hperm.nodup_iff.2 hnd
  have hm2 : ∀ c : ByteArray, c.data.toList ∈ ss.mergeSort (fun x y => decide (x ≤ y)) ↔ (S.g c).isSome = true := fun c => by rw [hperm.mem_iff, hm c]
  generalize ss.mergeSort (fun x y => decide (x ≤ y)) = L at *
  have hr : rises (L.map fun x => (⟨x.toArray⟩ : ByteArray)) := by
    unfold rises
    rw [List.pairwise_map]
    refine (hp.and hnd2).imp fun {a b} hab => ?_
    obtain ⟨h1, h2⟩ := hab
    show Op.bytesLess a b = true
    rw [bytesLess_eq, decide_eq_true_eq]
    simp only [decide_eq_true_eq] at h1
    exact Classical.byContradiction fun hn => h2 (List.le_antisymm h1 (List.not_lt.1 hn))
  have he : (L.map fun x => (⟨x.toArray⟩ : ByteArray)) = R.cs.map (·.1) := by
    refine rises_uniq hr h.rise fun c => ?_
    rw [← has_names, ← h.mem c, ← hm2 c, List.mem_map]
    constructor
    · rintro ⟨x, hx, rfl⟩
      simpa using hx
    · intro hx
      exact ⟨_, hx, by simp⟩
  rw [← he]
  unfold scells
  rw [List.map_map]
  rfl

theorem RAt.touch {w w' : World} {B b : Nat} {R : RQ} {l : List Nat} (h : RAt w B b R) (t : Touch w w' l) (hl : ∀ x ∈ l, ∃ o, w.heap[x]? = some o ∧ (∀ cs fz, o ≠ .cells cs 38 fz) ∧ (∀ cs fz, o ≠ .cells cs 40 fz)) : RAt w' B b R := by
  obtain ⟨v, h1, h2, h3, h4⟩ := h
  refine ⟨v, t.keep h1 (fun hm => ?_), h2, h3, ?_⟩
  · obtain ⟨o, ho, hn, _⟩ := hl b hm
    rw [h1] at ho
    exact hn _ _ (Option.some.inj ho).symm
  · rcases h4 with h0 | ⟨g, cap, cur, hv, hB, hg, h5⟩
    · exact .inl h0
    · refine .inr ⟨g, cap, cur, hv, hB, t.keep hg (fun hm => ?_), h5⟩
      obtain ⟨o, ho, _, hn⟩ := hl g hm
      rw [hg] at ho
      exact hn _ _ (Option.some.inj ho).symm

theorem QAt.objs {w : World} {b m n : Nat} {S : QS} (h : QAt w b m S n) : ∀ x ∈ [b, m], ∃ o, w.heap[x]? = some o ∧ (∀ cs fz, o ≠ .cells cs 38 fz) ∧ (∀ cs fz, o ≠ .cells cs 40 fz) ∧ (∀ cs fz, o ≠ .cells cs 31 fz) := by
  obtain ⟨h1, _, D, ⟨es, clock, hb, _⟩, _⟩ := h
  intro x hx
  simp at hx
  rcases hx with rfl | rfl
  · refine ⟨_, h1, ?_, ?_, ?_⟩ <;> (intro cs fz e; injection e with _ e _; exact absurd e (by decide))
  · refine ⟨_, hb, ?_, ?_, ?_⟩ <;> (intro cs fz e; cases e)

theorem QAt.rf {w w' : World} {B b m n b2 : Nat} {S : QS} {cs : Array Value} {fz : Nat × Nat} (h : QAt w b m S n) (hb2 : w.heap[b2]? = some (.cells cs 38 fz)) (r : RF B b2 w w') : QAt w' b m S n := by
  have ho := h.objs
  obtain ⟨h1, h2, D, ⟨es, clock, hb, F, hs, hD⟩, hl⟩ := h
  have hne : ∀ x ∈ [b, m], x ≠ b2 := by
    intro x hx e
    obtain ⟨o, ho, hn, _⟩ := ho x hx
    subst e
    rw [hb2] at ho
    exact hn _ _ (Option.some.inj ho).symm
  refine ⟨r.keep _ _ h1 (hne b (by simp)) (fun cs fz e => by injection e with _ e _; exact absurd e (by decide)), h2, D, ⟨es, clock, r.keep _ _ hb (hne m (by simp)) (fun cs fz e => by cases e), F, hs, hD⟩, hl⟩

/-- The reference's New. -/
def RNewPost (w : World) (R : RQ) (e : Ending) (w' : World) : Prop := ∃ b, e = .returned (.pointer (some ⟨b, 0, none⟩)) ∧ RAt w' w.heap.size b R ∧ Below w.heap.size w w'

def RQ.new (rate most : Nat) : RQ := ⟨min rate 4294967296, min most 4294967296, 0, []⟩

theorem new_rel (rate most : Nat) : Rel (QS.new rate most) (RQ.new rate most) :=
  ⟨rfl, rfl, rfl, List.Pairwise.nil, fun _ => ⟨fun h => (by cases h), fun h => (by obtain ⟨_, _, h⟩ := h; simp [RQ.new] at h)⟩, fun _ _ hm => (by cases hm)⟩

set_option maxRecDepth 100000 in
theorem rnew_any (w : World) (rate most : Nat) : Calls Try.prog 10 #[.int .u64 (rate : Int), .int .u64 (most : Int)] w (RNewPost w (RQ.new rate most)) := by
  have h1 : (min (rate : Int) 4294967296) = ((min rate 4294967296 : Nat) : Int) := by omega
  have h2 : (min (most : Int) 4294967296) = ((min most 4294967296 : Nat) : Int) := by omega
  have hr : (RQ.new rate most).rate = min rate 4294967296 := rfl
  have hm : (RQ.new rate most).most = min most 4294967296 := rfl
  have HR := Lib.hid hr
  have HM := Lib.hid hm
  clear hr hm
  generalize min rate 4294967296 = r at *
  generalize min most 4294967296 = t at *
  go_enter Try.func10, Try.ntmps10
  go_wp2
  go_ret
  refine ⟨w.heap.size, rfl, ⟨.slice none 0 0, ?_, Nat.le_refl _, owns_nil _ _ _ _⟩, (Below.refl _ _).alloc (Nat.le_refl _) _⟩
  rw [HR.out, HM.out, show (RQ.new rate most).now = 0 from rfl]
  exact heap_alloc_new w _

theorem qat_more {w : World} {b m : Nat} {S : QS} {n n' : Nat} (h : QAt w b m S n) (hn : n ≤ n') : QAt w b m S n' := by
  obtain ⟨h1, h2, D, h3, h4⟩ := h
  exact ⟨h1, h2, D, h3.mono hn, h4⟩

/-- Between the calls of one act. -/
structure PJ (B : Nat) (w : World) (g1 b1 m1 b2 k : Nat) (q : Bool) (c : ByteArray) (n0 t0 : Nat) (S S' : QS) (x y : Bool) (W : World) : Prop where
  q1 : QAt W b1 m1 (if x = true then S' else S) (if x = true then k + 1 else k)
  r : ∃ R1, Rel (if y = true then S' else S) R1 ∧ R1.cs.length ≤ (if y = true then k + 1 else k) ∧ RAt W B b2 R1
  act : W.heap[g1]? = some (.cells #[.bool q, .string c, .int .u64 (n0 : Int), .int .u64 (t0 : Int)] 31 (0, 0))
  bel : Below B w W

section
variable {B : Nat} {w : World} {g1 b1 m1 b2 k : Nat} {q : Bool} {c : ByteArray} {n0 t0 : Nat} {S S' : QS} {x y : Bool} {W : World}

theorem PJ.cells (h : PJ B w g1 b1 m1 b2 k q c n0 t0 S S' x y W) :
    W.cell? ⟨g1, 1, none⟩ = some (.string c) ∧ W.cell? ⟨g1, 2, none⟩ = some (.int .u64 (n0 : Int)) ∧ W.cell? ⟨g1, 3, none⟩ = some (.int .u64 (t0 : Int)) := ⟨Lib.cell_of_heap h.act 1, Lib.cell_of_heap h.act 2, Lib.cell_of_heap h.act 3⟩

/-- The quota's own call. -/
theorem PJ.own (h : PJ B w g1 b1 m1 b2 k q c n0 t0 S S' false y W) (hB : B ≤ w.heap.size) (h1 : B ≤ b1) (h2 : B ≤ m1) {w' : World} {n : Nat} (hn : n ≤ k + 1) (hq : QAt w' b1 m1 S' n) (t : Touch W w' [b1, m1]) : PJ B w g1 b1 m1 b2 k q c n0 t0 S S' true y w' := by
  obtain ⟨R1, hr1, hr2, hr3⟩ := h.r
  refine ⟨qat_more hq hn, ⟨R1, hr1, hr2, hr3.touch t fun x hx => ?_⟩, t.keep h.act (fun hm => ?_), h.bel.trans (t.below (Nat.le_trans hB h.bel.size) (by simp [h1, h2]))⟩
  · obtain ⟨o, e1, e2, e3, _⟩ := h.q1.objs x hx
    exact ⟨o, e1, e2, e3⟩
  · obtain ⟨o, e1, _, _, e4⟩ := h.q1.objs g1 hm
    rw [h.act] at e1
    exact e4 _ _ (Option.some.inj e1).symm

/-- The reference's call. -/
theorem PJ.other (h : PJ B w g1 b1 m1 b2 k q c n0 t0 S S' x false W) {w' : World} {R1 R2 : RQ} (h0 : RAt W B b2 R1) (hr : Rel S' R2) (hl : R2.cs.length ≤ k + 1) (ha : RAt w' B b2 R2) (t : RF B b2 W w') : PJ B w g1 b1 m1 b2 k q c n0 t0 S S' x true w' := by
  obtain ⟨v, hb, _⟩ := h0
  refine ⟨h.q1.rf hb t, ⟨R2, hr, hl, ha⟩, t.keep _ _ h.act (fun e => ?_) (fun cs fz e => ?_), h.bel.trans t.below⟩
  · subst e
    have := h.act
    rw [hb] at this
    injection this with this
    injection this with _ this _
    exact absurd this (by decide)
  · injection e with _ e _
    exact absurd e (by decide)
end
end Go.Proofs.Ytionejpiieemeaa
