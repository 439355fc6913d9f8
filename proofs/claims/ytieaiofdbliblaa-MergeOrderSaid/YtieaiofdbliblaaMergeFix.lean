/- The law's fixed; a nil merger; the law MergeNil. -/
import Derived.Test.YtieaiofdbliblaaMergeAll
import Derived.Test.YtieaiofdbliblaaStrWalks
namespace Go.Proofs.Ytieaiofdbliblaa
open Go Go.RowKit

theorem left_nil (w : World) : Calls Try.prog 14 #[.pointer none] w fun e w' => e = .returned (.int .i64 0) ∧ w = w' := by
  go_enter Try.func14, Try.ntmps14
  go_wp2
  go_ret
  exact ⟨rfl, rfl⟩

def NextNil (w : World) (e : Ending) (w' : World) : Prop := e = .returned (.tuple #[.string ⟨#[]⟩, .bool false]) ∧ w = w'

theorem next_nil (w : World) : Calls Try.prog 15 #[.pointer none] w (NextNil w) := by
  have HL := Lib.hid (left_nil w)
  go_enter Try.func15, Try.ntmps15
  go_wp2_with (go_at_call 14; go_must (refine HL.out.mono ?_))
  rintro e w1 ⟨rfl, rfl⟩
  go_wp2
  refine bodyPost_ret (v := .tuple #[.string ⟨#[]⟩, .bool false]) (by simp [results, Try.results15, go_sem]) rfl ?_
  exact ⟨rfl, rfl⟩

def fxA : Row := [⟨#[97]⟩, ⟨#[99]⟩]
def fxB : Row := [⟨#[98]⟩, ⟨#[99]⟩]
def fxC : Row := [⟨#[98]⟩, ⟨#[97]⟩]
def fxK : Row := [⟨#[97]⟩, ⟨#[98]⟩, ⟨#[99]⟩]

theorem fx_keys : keys17 [fxA, fxB] = fxK := by decide
theorem fx_up : ∀ l ∈ [fxA, fxB], rises l := by
  intro l hl
  simp at hl
  rcases hl with rfl | rfl
  · show List.Pairwise _ _; decide
  · show List.Pairwise _ _; decide
theorem fx_no : ¬ ∀ l ∈ [fxC], rises l := fun h => by
  have := h fxC (by simp)
  have h2 : ¬ List.Pairwise (fun a b => bl a b = true) fxC := by decide
  exact h2 this

theorem litS_reads {w : World} {b : Nat} {l : Row} {t : TypeId} (h : w.heap[b]? = some (Obj.cells (scells l).toArray t (0, 0))) (hl : l.length ≤ 1000) : Reads w 1 (.slice (some ⟨b, 0, none⟩) l.length l.length) l.length (scells l) := by
  refine ⟨by rw [scells_length]; omega, _, _, rfl, Nat.le_refl _, by unfold maxLen; omega, fun j u hj => ⟨b, 0, rfl, (Array.getElem?_eq_some_iff.1 h).1, ?_⟩⟩
  rw [Nat.zero_add, Lib.cell_of_heap h j]
  simpa using hj

def fixW1 (w : World) : World := ((w.alloc (.cells #[.string ⟨#[97]⟩, .string ⟨#[99]⟩] 9)).alloc (.cells #[.string ⟨#[98]⟩, .string ⟨#[99]⟩] 9)).alloc (.cells #[.slice (some ⟨w.heap.size, 0, none⟩) 2 2, .slice (some ⟨w.heap.size + 1, 0, none⟩) 2 2] 26)

theorem fix1_see (w : World) : RRows (fixW1 w) (.slice (some ⟨w.heap.size + 1 + 1, 0, none⟩) 2 2) 2 [fxA, fxB] := by
  have h0 : (fixW1 w).heap[w.heap.size]? = some (Obj.cells (scells fxA).toArray 9 (0, 0)) := by
    unfold fixW1
    rw [heap_alloc_old _ _ (by simp; omega)]
    exact heap_alloc2_old w _ _
  have h1 : (fixW1 w).heap[w.heap.size + 1]? = some (Obj.cells (scells fxB).toArray 9 (0, 0)) := by
    unfold fixW1
    rw [heap_alloc_old _ _ (by simp)]
    exact heap_alloc2_new w _ _
  have h2 : (fixW1 w).heap[w.heap.size + 1 + 1]? = some (Obj.cells #[.slice (some ⟨w.heap.size, 0, none⟩) 2 2, .slice (some ⟨w.heap.size + 1, 0, none⟩) 2 2] 26 (0, 0)) := by
    unfold fixW1
    have := heap_alloc_new ((w.alloc (.cells #[.string ⟨#[97]⟩, .string ⟨#[99]⟩] 9)).alloc (.cells #[.string ⟨#[98]⟩, .string ⟨#[99]⟩] 9)) (.cells #[.slice (some ⟨w.heap.size, 0, none⟩) 2 2, .slice (some ⟨w.heap.size + 1, 0, none⟩) 2 2] 26)
    rw [show ((w.alloc (.cells #[.string ⟨#[97]⟩, .string ⟨#[99]⟩] 9)).alloc (.cells #[.string ⟨#[98]⟩, .string ⟨#[99]⟩] 9)).heap.size = w.heap.size + 1 + 1 by simp] at this
    exact this
  refine ⟨_, _, rfl, by decide, by unfold maxLen; decide, rfl, fun i l hi => ?_⟩
  match i, hi with
  | 0, hi =>
    simp at hi
    subst hi
    exact ⟨w.heap.size + 1 + 1, 0, some ⟨w.heap.size, 0, none⟩, 2, rfl, (Array.getElem?_eq_some_iff.1 h2).1, by rw [Lib.cell_of_heap h2 (0 + 0)]; rfl, litS_reads h0 (by decide)⟩
  | 1, hi =>
    simp at hi
    subst hi
    exact ⟨w.heap.size + 1 + 1, 0, some ⟨w.heap.size + 1, 0, none⟩, 2, rfl, (Array.getElem?_eq_some_iff.1 h2).1, by rw [Lib.cell_of_heap h2 (0 + 1)]; rfl, litS_reads h1 (by decide)⟩

theorem fix1_below (w : World) : Below w.heap.size w (fixW1 w) := (((Below.refl _ _).alloc (Nat.le_refl _) _).alloc (by simp) _).alloc (by simp; omega) _

def fixW2 (w : World) : World := (w.alloc (.cells #[.string ⟨#[98]⟩, .string ⟨#[97]⟩] 9)).alloc (.cells #[.slice (some ⟨w.heap.size, 0, none⟩) 2 2] 26)

theorem fix2_see (w : World) : RRows (fixW2 w) (.slice (some ⟨w.heap.size + 1, 0, none⟩) 1 1) 1 [fxC] := by
  have h0 : (fixW2 w).heap[w.heap.size]? = some (Obj.cells (scells fxC).toArray 9 (0, 0)) := heap_alloc2_old w _ _
  refine ⟨_, _, rfl, by decide, by unfold maxLen; decide, rfl, fun i l hi => ?_⟩
  match i, hi with
  | 0, hi =>
    simp at hi
    subst hi
    exact ⟨w.heap.size + 1, 0, some ⟨w.heap.size, 0, none⟩, 2, rfl, by simp [fixW2], by simp [fixW2, fxC], litS_reads h0 (by decide)⟩

theorem fix2_below (w : World) : Below w.heap.size w (fixW2 w) := ((Below.refl _ _).alloc (Nat.le_refl _) _).alloc (by simp) _

set_option maxRecDepth 100000 in
set_option maxHeartbeats 4000000 in
theorem fixed17_any (w : World) : Calls Try.prog 7 #[] w (GivesBool w true) := by
  have HA := Lib.hid (all17_any (fixW1 w) _ 2 [fxA, fxB] (fix1_see w) (by decide) (by decide) (by decide))
  have HB0 := Lib.hid (fix1_below w)
  go_enter Try.func7, Try.ntmps7
  go_wp2_with (go_at_call 10; go_must (refine HA.out.mono ?_))
  rintro e w1 hp
  rcases hp with ⟨_, v1, rfl, o1, b1⟩ | ⟨hno, _⟩
  case inr => exact absurd fx_up hno
  rw [fx_keys] at o1
  have hr1 := ownsRow.reads o1
  obtain ⟨a1, cap1, rfl, _, _⟩ := hr1.le
  have HR1 := Lib.hid hr1
  have HB1 := Lib.hid (HB0.out.trans (b1.mono HB0.out.size))
  have HA2 := Lib.hid (all17_any (fixW2 w1) _ 1 [fxC] (fix2_see w1) (by decide) (by decide) (by decide))
  have HB2 := Lib.hid (fix2_below w1)
  clear o1 b1 hr1 HA HB0
  go_wp2_with (go_at_call 10; go_must (refine HA2.out.mono ?_))
  rintro e w2 hp
  rcases hp with ⟨hup, _⟩ | ⟨_, rfl, b2⟩
  case inl => exact absurd hup fx_no
  have hb2 := HB2.out.trans (b2.mono HB2.out.size)
  have HB3 := Lib.hid (HB1.out.trans (hb2.mono HB1.out.size))
  have hr2 := HR1.out.below' hb2
  have ba := (Below.refl w2.heap.size w2).alloc (Nat.le_refl _) (.cells #[.string ⟨#[97]⟩, .string ⟨#[98]⟩, .string ⟨#[99]⟩] 9)
  have hl3 : Reads (w2.alloc (.cells #[.string ⟨#[97]⟩, .string ⟨#[98]⟩, .string ⟨#[99]⟩] 9)) 1 (.slice (some ⟨w2.heap.size, 0, none⟩) 3 3) 3 (scells fxK) := litS_reads (l := fxK) (heap_alloc_new w2 _) (by decide)
  have hsm := sames_any _ a1 _ 3 3 cap1 3 fxK fxK (hr2.below' ba) hl3
  rw [decide_eq_true (rfl : fxK = fxK)] at hsm
  have HSm := Lib.hid hsm
  have HB4 := Lib.hid (HB3.out.trans (ba.mono HB3.out.size))
  clear hb2 b2 hr2 ba hl3 hsm HA2 HB2 HR1 HB1
  go_wp2_with (go_at_call 11; go_must (refine HSm.out.mono ?_))
  rintro e w3 ⟨rfl, b3⟩
  go_wp2
  go_ret
  exact ⟨rfl, HB4.out.trans (b3.mono HB4.out.size)⟩

def NilRel (w : World) (N : Nat) (iv : Value) (wr : World) : Prop := ∃ k : Nat, iv = .int .u8 (k : Int) ∧ k ≤ N ∧ w = wr

set_option maxRecDepth 100000 in
set_option maxHeartbeats 4000000 in
theorem mergeNil_walk (w : World) (m : Nat) (hm : m < 256) : Calls Try.prog 6 #[.int .u8 (m : Int)] w (SaysTrue w) := by
  obtain ⟨r, hr⟩ : ∃ r, m % 3 = r := ⟨_, rfl⟩
  have hr3 : r < 3 := by omega
  have hrem : ((m : Int).tmod 3) = (r : Int) := by
    rw [Int.tmod_eq_emod_of_nonneg (by omega)]
    omega
  have HF := Lib.hid (fixed17_any w)
  clear hr
  go_enter Try.func6, Try.ntmps6
  go_wp2_with (go_at_call 7; go_must (refine HF.out.mono ?_))
  rintro e w1 ⟨rfl, b1⟩
  have HB := Lib.hid b1
  clear b1 HF
  go_wp2
  go_loopw [11] (fun iv wr => NilRel w1 (1 + r) iv wr) (fun iv _ => 1 + r - (intOf iv).toNat)
  case atStart => exact ⟨0, rfl, Nat.zero_le _, rfl⟩
  case round =>
    obtain ⟨k, rfl, hk, rfl⟩ := hrel
    by_cases hlt : k < 1 + r
    · have hkI : (k : Int) < 1 + (r : Int) := by omega
      have HNx := Lib.hid (next_nil w1)
      have HLf := Lib.hid (left_nil w1)
      go_wp2_with (go_at_call 15; go_must (refine HNx.out.mono ?_))
      rintro e w2 ⟨rfl, rfl⟩
      go_wp2_with (go_at_call 14; go_must (refine HLf.out.mono ?_))
      rintro e w2 ⟨rfl, rfl⟩
      go_wp2
      exact ⟨⟨k + 1, by go_num, by omega, rfl⟩, by simp [intOf]; omega⟩
    · have hkI : ¬ (k : Int) < 1 + (r : Int) := by omega
      go_wp2
      go_ret
      exact ⟨rfl, HB.out⟩
end Go.Proofs.Ytieaiofdbliblaa
