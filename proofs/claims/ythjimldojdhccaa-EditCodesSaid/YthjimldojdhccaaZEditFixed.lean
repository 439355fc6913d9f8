/- sentrylaw16.fixed. -/
import Derived.Test.YthjimldojdhccaaZEditFew
import Derived.Test.YthjimldojdhccaaZEditEnc
namespace Go.Proofs.Ythjimldojdhccaa
open Go Go.RowKit Go.Lib

def T1 : Tb := ⟨1, 1, 5, ⟨#[97]⟩, ⟨#[98]⟩⟩
def V0 : Ver := ⟨[], 0, 0, 0, 1⟩
def V1 : Ver := ⟨[T1], 0, 0, 0, 2⟩
def E1 : Ed := ⟨[T1], [], 0, 0, 0, 2⟩
def E2 : Ed := ⟨[], [2], 0, 0, 0, 0⟩
def E0 : Ed := ⟨[], [], 0, 0, 0, 0⟩

theorem chk_V0 : chk V0 = 0 := by decide +kernel
theorem chk_V1 : chk V1 = 0 := by decide +kernel
theorem srt_T1 : srt [T1] = [T1] := List.mergeSort_singleton _
theorem appl_E1 : appl V0 E1 = (V1, 0) := by
  have hn : newV V0 E1 [T1] = V1 := by
    unfold newV
    rw [srt_T1]
    rfl
  have := appl_good (v := V0) (e := E1) (l := []) (m := [T1]) chk_V0 (by decide +kernel) rfl rfl (by rw [hn]; exact chk_V1)
  rw [this, hn]
theorem appl_E2 : appl V1 E2 = (ver0, 4) := appl_missing chk_V1 (by decide +kernel) rfl
theorem erE_E0 : erE E0 = 0 := by decide +kernel
theorem right_E0 : right E0 = true := by decide +kernel
theorem encB_E0 : encB E0 = [0, 0, 0, 0, 0, 0] := by decide +kernel

def Fix1Post (w : World) (e : Ending) (w' : World) : Prop := ∃ a c, e = .returned (.tuple #[.agg #[.slice a 1 c, .int .u64 0, .int .u64 0, .int .i64 0, .int .i64 2], .int .i64 0]) ∧ TRows w' (.slice a 1 c) [T1] ∧ Below w.heap.size w w'
def Fix2Post (w : World) (e : Ending) (w' : World) : Prop := ∃ a n c, e = .returned (.tuple #[.agg #[.slice a n c, .int .u64 0, .int .u64 0, .int .i64 0, .int .i64 0], .int .i64 4]) ∧ Below w.heap.size w w'

theorem fix_one (W : World) {N : Nat} (hN : W.heap.size = N) : Calls Try.prog 15 #[.agg #[.slice none 0 0, .int .u64 0, .int .u64 0, .int .i64 0, .int .i64 1], .agg #[.slice (some ⟨N, 0, none⟩) 1 1, .slice none 0 0, .int .u64 0, .int .u64 0, .int .i64 0, .int .i64 2]] (W.alloc (.cells #[.int .i64 1, .int .i64 1, .int .i64 5, .string ⟨#[97]⟩, .string ⟨#[98]⟩] 45))
    (Fix1Post (W.alloc (.cells #[.int .i64 1, .int .i64 1, .int .i64 5, .string ⟨#[97]⟩, .string ⟨#[98]⟩] 45))) := by
  subst hN
  refine (apply_any _ V0 E1 none (some ⟨W.heap.size, 0, none⟩) none 0 0 1 1 0 0 ?_ ?_ ?_ (by decide) (by decide) (by decide) (by decide)).mono fun e w' ⟨a, n, c, he, ho, hb⟩ => ?_
  · exact ⟨rfl, none, 0, rfl, Nat.le_refl _, Nat.zero_le _, fun j u hj => by simp [V0] at hj⟩
  · refine ⟨rfl, _, 1, rfl, Nat.le_refl _, by decide, fun j u hj => ⟨W.heap.size, 0, rfl, by simp, ?_⟩⟩
    rw [Nat.zero_add]
    refine new_cell _ _ _ rfl ?_
    simpa [E1, T1, Tb.cells] using hj
  · exact ⟨rfl, none, 0, rfl, Nat.le_refl _, Nat.zero_le _, fun j u hj => by simp [E1, ncells] at hj⟩
  · rw [appl_E1] at he ho
    have hr := ownsRow.reads ho
    obtain ⟨rfl, _⟩ : n = 1 ∧ True := by
      obtain ⟨_, _, _, e, _⟩ := hr
      cases e
      exact ⟨rfl, trivial⟩
    exact ⟨a, c, he, hr, hb⟩

theorem fix_two (W : World) (a : Option Addr) (n c : Nat) (hv : TRows (W.alloc (.cells #[.int .i64 2] 3)) (.slice a n c) [T1]) {N : Nat} (hN : W.heap.size = N) : Calls Try.prog 15 #[.agg #[.slice a n c, .int .u64 0, .int .u64 0, .int .i64 0, .int .i64 2], .agg #[.slice none 0 0, .slice (some ⟨N, 0, none⟩) 1 1, .int .u64 0, .int .u64 0, .int .i64 0, .int .i64 0]] (W.alloc (.cells #[.int .i64 2] 3))
    (Fix2Post (W.alloc (.cells #[.int .i64 2] 3))) := by
  subst hN
  refine (apply_any _ V1 E2 a none (some ⟨W.heap.size, 0, none⟩) n c 0 0 1 1 hv ?_ ?_ (by decide) (by decide) (by decide) (by decide)).mono fun e w' ⟨a, n, c, he, ho, hb⟩ => ?_
  · exact ⟨rfl, none, 0, rfl, Nat.le_refl _, Nat.zero_le _, fun j u hj => by simp [E2] at hj⟩
  · refine ⟨rfl, _, 1, rfl, Nat.le_refl _, by decide, fun j u hj => ⟨W.heap.size, 0, rfl, by simp, ?_⟩⟩
    rw [Nat.zero_add]
    refine new_cell _ _ _ rfl ?_
    simpa [E2, ncells] using hj
  · rw [appl_E2] at he
    exact ⟨a, n, c, he, hb⟩

def Enc0Post (w : World) (e : Ending) (w' : World) : Prop := ∃ v, e = .returned (.tuple #[v, .int .i64 0]) ∧ Reads w' 1 v 6 (bcells [0, 0, 0, 0, 0, 0]) ∧ Below w.heap.size w w'

theorem fix_enc (W : World) : Calls Try.prog 8 #[.agg #[.slice none 0 0, .slice none 0 0, .int .u64 0, .int .u64 0, .int .i64 0, .int .i64 0]] W (Enc0Post W) := by
  refine (encode_any W E0 none none 0 0 0 0 ⟨rfl, none, 0, rfl, Nat.le_refl _, Nat.zero_le _, fun j u hj => by simp [E0] at hj⟩ ⟨rfl, none, 0, rfl, Nat.le_refl _, Nat.zero_le _, fun j u hj => by simp [E0, ncells] at hj⟩ ⟨by decide, by decide, by decide, by decide, by decide⟩).mono ?_
  rintro e w' ⟨a, n, c, rfl, hr, hb⟩
  rw [right_E0, if_pos rfl, encB_E0] at hr
  have hn : n = 6 := by have := hr.1; simp [bcells] at this; omega
  subst hn
  exact ⟨_, by rw [erE_E0], hr, hb⟩

theorem fix_chk (W : World) : Calls Try.prog 18 #[.agg #[.slice none 0 0, .int .u64 0, .int .u64 0, .int .i64 0, .int .i64 1]] W (GivesInt W 0) := by
  have := chk_any W V0 none 0 0 ⟨rfl, none, 0, rfl, Nat.le_refl _, Nat.zero_le _, fun j u hj => by simp [V0] at hj⟩ (by decide) (by decide)
  rw [chk_V0] at this
  exact this

set_option maxRecDepth 100000 in
set_option maxHeartbeats 4000000 in
theorem fixed_any (w : World) : Calls Try.prog 6 #[] w (SaysTrue w) := by
  go_enter Try.func6, Try.ntmps6
  go_wp2_with (go_at_call 15; go_must (refine (fix_one _ (by simp)).mono ?_))
  rintro e w1 ⟨a, c, rfl, hr, hb⟩
  have hv := (hb.block w.heap.size (by simp; omega)).trans ((Below.heap_alloc _ (.cells #[.int .i64 1, .int .i64 1, .int .i64 5, .string ⟨#[97]⟩, .string ⟨#[98]⟩] 45) _ (by simp)).trans (heap_alloc_new w (.cells #[.slice none 0 0, .int .u64 0, .int .u64 0, .int .i64 0, .int .i64 1] 38)))
  have hs := hb.size
  simp at hs
  have HW := Lib.hid (show Below w.heap.size w w1 from (((Below.refl _ w).alloc (Nat.le_refl _) (.cells #[.slice none 0 0, .int .u64 0, .int .u64 0, .int .i64 0, .int .i64 1] 38)).alloc (by simp) (.cells #[.int .i64 1, .int .i64 1, .int .i64 5, .string ⟨#[97]⟩, .string ⟨#[98]⟩] 45)).trans (hb.mono (by simp; omega)))
  have lt0 : w.heap.size < w1.heap.size := by omega
  have x0 := Lib.cell_of_heap hv 0
  have x1 := Lib.cell_of_heap hv 1
  have x2 := Lib.cell_of_heap hv 2
  have x3 := Lib.cell_of_heap hv 3
  have x4 := Lib.cell_of_heap hv 4
  simp at x0 x1 x2 x3 x4
  have HR := Lib.hid hr
  have HV := Lib.hid hv
  clear hr hv hb hs
  generalize hN : w.heap.size = N at *
  have HN := Lib.hid hN
  clear hN
  go_wp2_with (go_at_call 15; go_must (refine (fix_two _ _ _ _ ?_ (by simp)).mono ?_))
  · exact (HR.out.below ((Below.refl _ w1).alloc (Nat.le_refl _) _)).below ((Below.refl _ _).alloc (Nat.le_refl _) _)
  rintro e w2 ⟨a4, n4, c4, rfl, hb⟩
  have hs := hb.size
  simp at hs
  have hv2 := (hb.block N (by simp; omega)).trans ((Below.heap_alloc _ (.cells #[.int .i64 2] 3) _ (by simp; omega)).trans ((Below.heap_alloc w1 (.cells #[.slice a 1 c, .int .u64 0, .int .u64 0, .int .i64 0, .int .i64 2] 38) _ lt0).trans HV.out))
  have ht2 := (hb.block w1.heap.size (by simp; omega)).trans ((Below.heap_alloc _ (.cells #[.int .i64 2] 3) _ (by simp)).trans (heap_alloc_new w1 (.cells #[.slice a 1 c, .int .u64 0, .int .u64 0, .int .i64 0, .int .i64 2] 38)))
  have lt2 : w1.heap.size < w2.heap.size := by omega
  have HW2 := Lib.hid (show Below N w w2 from HW.out.trans ((((Below.refl _ w1).alloc (Nat.le_refl _) (.cells #[.slice a 1 c, .int .u64 0, .int .u64 0, .int .i64 0, .int .i64 2] 38)).alloc (by simp) (.cells #[.int .i64 2] 3)).mono (by omega) |>.trans (hb.mono (by simp; omega))))
  have HV2 := Lib.hid hv2
  have HT2 := Lib.hid ht2
  have HW2' := HW2
  clear hb hv2 ht2 hs HW HV x0 x1 x2 x3 x4 HR
  generalize w1.heap.size = M at *
  go_wp2_with (go_at_call 8; go_must (refine (fix_enc _).mono ?_))
  rintro e w3 ⟨v3, rfl, hr3, hb3⟩
  have hs3 := hb3.size
  simp at hs3
  have hv3 := (hb3.block N (by simp; omega)).trans ((Below.heap_alloc w2 (.cells #[.slice a4 n4 c4, .int .u64 0, .int .u64 0, .int .i64 0, .int .i64 0] 38) _ (by have := HW2'.out.size; omega)).trans HV2.out)
  have ht3 := (hb3.block M (by simp; omega)).trans ((Below.heap_alloc w2 (.cells #[.slice a4 n4 c4, .int .u64 0, .int .u64 0, .int .i64 0, .int .i64 0] 38) _ lt2).trans HT2.out)
  have HW3 := Lib.hid (show Below N w w3 from HW2.out.trans (((Below.refl _ w2).alloc (Nat.le_refl _) (.cells #[.slice a4 n4 c4, .int .u64 0, .int .u64 0, .int .i64 0, .int .i64 0] 38)).mono (by omega) |>.trans (hb3.mono (by simp; omega))))
  have lt3 : N < w3.heap.size := by omega
  have x0 := Lib.cell_of_heap hv3 0
  have x1 := Lib.cell_of_heap hv3 1
  have x2 := Lib.cell_of_heap hv3 2
  have x3 := Lib.cell_of_heap hv3 3
  have x4 := Lib.cell_of_heap hv3 4
  simp at x0 x1 x2 x3 x4
  have HR3 := Lib.hid hr3
  have HT3 := Lib.hid ht3
  have hM3 : M < w3.heap.size := by omega
  clear hv3 ht3 hr3 hb3 HW2 HW2' HV2 HT2 hs3
  go_wp2_with (go_at_call 18; go_must (refine (fix_chk _).mono ?_))
  rintro e w4 ⟨rfl, hb4⟩
  have ht4 := (hb4.block M hM3).trans HT3.out
  have y0 := Lib.cell_of_heap ht4 0
  simp at y0
  have HW4 := Lib.hid (HW3.out.trans (hb4.mono (by omega)))
  have hcv := Reads.conv (P := Try.prog) (src := 29) (e := 5) (dst := 9) Try.underlying29 Try.underlying5 Try.underlying9 (HR3.out.below' hb4)
  clear ht4 hb4 x0 x1 x2 x3 x4 HT3 HR3 HW3
  go_wp2
  go_ret
  exact ⟨rfl, by rw [HN.out]; exact HW4.out⟩
end Go.Proofs.Ythjimldojdhccaa
