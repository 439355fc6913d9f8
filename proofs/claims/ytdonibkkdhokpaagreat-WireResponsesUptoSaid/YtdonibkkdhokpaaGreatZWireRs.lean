/- The reader: whole numbers, truths, structs (written by gen_wirers.py). -/
import Derived.Test.YtdonibkkdhokpaaGreatZWireRd
import Derived.Test.YtdonibkkdhokpaaGreatMga
import Derived.Lib.Zigzag
namespace Go.Proofs.YtdonibkkdhokpaaGreat
open Go Go.RowKit

def rlong (l : List UInt8) (b : Bool) : Int × List UInt8 × Bool := (unzig (rnum l b).1, (rnum l b).2)
def rtru (l : List UInt8) (b : Bool) : Bool × List UInt8 × Bool := (decide ((rnum l b).1 = 1), (rnum l b).2.1, decide (1 < (rnum l b).1) || (rnum l b).2.2)

theorem getGo_err0 : ∀ (l : List UInt8) (i V : Nat), ¬ (getGo i V l).2.2 = 0 → (getGo i V l).1 = 0
  | [], i, V, h => by
    unfold getGo
    split <;> simp
  | c :: l, i, V, h => by
    unfold getGo at h ⊢
    split
    · simp
    · rename_i h1
      rw [if_neg h1] at h
      split
      · rename_i h2
        rw [if_pos h2] at h
        exact getGo_err0 l (i + 1) (V + c.toNat % 128 * 128 ^ i % 18446744073709551616) h
      · rename_i h2
        rw [if_neg h2] at h
        split
        · simp
        · rename_i h3
          rw [if_neg h3] at h
          exact absurd rfl h

theorem rnum_lt (l : List UInt8) (b : Bool) : (rnum l b).1 < 18446744073709551616 := by
  unfold rnum
  split
  · exact (by decide : (0:Nat) < 18446744073709551616)
  · show (getGo 0 0 l).1 < 18446744073709551616
    by_cases h : (getGo 0 0 l).2.2 = 0
    · exact (getGo_ok l 0 0 (getGo 0 0 l).1 (getGo 0 0 l).2.1 (by decide) (Prod.ext rfl (Prod.ext rfl h))).2.2.2
    · rw [getGo_err0 l 0 0 h]
      exact (by decide : (0:Nat) < 18446744073709551616)

theorem i64_xor_comm (a b : Int) : bits .xor .i64 a b = bits .xor .i64 b a := by
  show IntKind.i64.wrap ((BitVec.ofInt 64 a ^^^ BitVec.ofInt 64 b).toNat : Int) = IntKind.i64.wrap ((BitVec.ofInt 64 b ^^^ BitVec.ofInt 64 a).toNat : Int)
  rw [BitVec.xor_comm]

theorem i64_xor_zero (x : Nat) (hx : x < 9223372036854775808) : bits .xor .i64 (x : Int) 0 = x := by
  show IntKind.i64.wrap ((BitVec.ofInt 64 (x : Int) ^^^ BitVec.ofInt 64 0).toNat : Int) = _
  have h2 : (BitVec.ofInt 64 (x : Int)).toNat = x := by
    rw [BitVec.ofInt_natCast, BitVec.toNat_ofNat]; exact Nat.mod_eq_of_lt (by omega)
  have h3 : (BitVec.ofInt 64 (0 : Int)).toNat = 0 := by decide
  rw [BitVec.toNat_xor, h2, h3, Nat.xor_zero, IntKind.wrap_i64]
  omega

theorem unzig_bits (v : Nat) (h : v < 18446744073709551616) : bits .xor .i64 ((v : Int) / 2) (wrap64 (-wrap64 (bits .and .u64 (v : Int) 1))) = unzig v := by
  rw [Lib.u64_and1 (v : Int) (by omega) (by omega)]
  have e1 : (v : Int) / 2 = ((v / 2 : Nat) : Int) := by omega
  unfold unzig
  by_cases h2 : v % 2 = 0
  · have e2 : (v : Int) % 2 = 0 := by omega
    rw [if_pos h2, e2, e1, show wrap64 (-wrap64 0) = 0 from by unfold wrap64; omega, i64_xor_zero _ (by omega)]
  · have e2 : (v : Int) % 2 = 1 := by omega
    rw [if_neg h2, e2, e1, show wrap64 (-wrap64 1) = -1 from by unfold wrap64; omega, i64_xor_comm, Lib.i64_not _ (by omega)]

set_option maxRecDepth 100000 in
theorem rlong_any (B : Nat) (w : World) (g : Nat) (l : List UInt8) (d : Int) (b : Bool) (h : RAt B w g l d b) :
    Calls Tryz.prog 97 #[.pointer (some ⟨g, 0, none⟩)] w (RPost B w g (rlong l b).2.1 d (rlong l b).2.2 (.int .i64 (rlong l b).1)) := by
  have HN := Lib.hid (rnumber_any B w g l d b h)
  have hlt := rnum_lt l b
  clear h
  unfold rlong
  generalize rnum l b = r at *
  obtain ⟨v, l2, b2⟩ := r
  dsimp only at *
  have hx := unzig_bits v hlt
  go_enter Tryz.func97, Tryz.ntmps97
  go_wp2_with (go_at_call 35; go_must (refine HN.out.mono ?_))
  rintro e w1 ⟨rfl, h1, h2⟩
  go_wp2
  go_ret
  exact ⟨rfl, h1, h2⟩

set_option maxRecDepth 100000 in
theorem rwhole_any2 (B : Nat) (w : World) (g : Nat) (l : List UInt8) (d : Int) (b : Bool) (h : RAt B w g l d b) :
    Calls Tryz.prog 36 #[.pointer (some ⟨g, 0, none⟩)] w (RPost B w g (rlong l b).2.1 d (rlong l b).2.2 (.int .i64 (rlong l b).1)) := by
  have HN := Lib.hid (rlong_any B w g l d b h)
  have hin : in64 (rlong l b).1 := unzig_in _ (rnum_lt l b)
  clear h
  generalize rlong l b = r at *
  obtain ⟨v, l2, b2⟩ := r
  dsimp only at *
  unfold in64 at hin
  go_enter Tryz.func36, Tryz.ntmps36
  go_wp2_with (go_at_call 97; go_must (refine HN.out.mono ?_))
  rintro e w1 ⟨rfl, h1, h2⟩
  go_wp2
  go_ret
  exact ⟨rfl, h1, h2⟩

theorem RAt.below {B : Nat} {w w' : World} {g : Nat} {l : List UInt8} {d : Int} {b : Bool} (h : RAt B w g l d b) (hb : Below w.heap.size w w') (hB : B ≤ w.heap.size) : RAt B w' g l d b := by
  obtain ⟨v, h1, h2, h3⟩ := h
  exact ⟨v, (hb.block g (Array.getElem?_eq_some_iff.1 h1).1).trans h1, h2.below (hb.mono hB), h3⟩

theorem RAt.lt {B : Nat} {w : World} {g : Nat} {l : List UInt8} {d : Int} {b : Bool} (h : RAt B w g l d b) : g < w.heap.size := by
  obtain ⟨v, h1, _, _⟩ := h
  exact (Array.getElem?_eq_some_iff.1 h1).1

theorem RAt.set {B : Nat} {w : World} {g c : Nat} {l : List UInt8} {d : Int} {b : Bool} (h : RAt B w g l d b) (hne : c ≠ g) (hB : B ≤ c) (i : Nat) (v : Value) : RAt B (w.setCell ⟨c, i, none⟩ v) g l d b := by
  obtain ⟨u, h1, h2, h3⟩ := h
  exact ⟨u, (heap_setCell_other _ _ g _ (fun e => hne e.symm)).trans h1, h2.below ((Below.refl B w).setCell (p := ⟨c, i, none⟩) hB v), h3⟩

set_option maxRecDepth 100000 in
theorem rtruth_any2 (B : Nat) (w : World) (g : Nat) (l : List UInt8) (d : Int) (b : Bool) (h : RAt B w g l d b) :
    Calls Tryz.prog 39 #[.pointer (some ⟨g, 0, none⟩)] w (RPost B w g (rtru l b).2.1 d (rtru l b).2.2 (.bool (rtru l b).1)) := by
  have HN := Lib.hid (rnumber_any B w g l d b h)
  have hlt := rnum_lt l b
  clear h
  unfold rtru
  generalize rnum l b = r at *
  obtain ⟨v, l2, b2⟩ := r
  dsimp only at *
  have he : ((v : Int) == 1) = decide (v = 1) := by
    by_cases h : v = 1
    · subst h; rfl
    · have h1 : ¬ (v : Int) = 1 := by omega
      simp [h, h1]
  by_cases h1 : 1 < v
  · have h1I : (1 : Int) < (v : Int) := by omega
    have hdt : decide (1 < v) = true := decide_eq_true h1
    rw [hdt, Bool.true_or]
    generalize decide (v = 1) = dv at *
    go_enter Tryz.func39, Tryz.ntmps39
    go_wp2_with (go_at_call 35; go_must (refine HN.out.mono ?_))
    rintro e w1 ⟨rfl, h1, h2⟩
    have hg1 := h1.lt
    obtain ⟨u, q1, q2, q3⟩ := h1
    have c2 := Lib.cell_of_heap q1 2
    have f2 := Lib.frozen_of_heap q1 2
    simp at c2
    have hfin : RAt B (w1.setCell ⟨g, 2, none⟩ (.bool true)) g l2 d true := by
      refine ⟨u, ?_, ?_, q3⟩
      · rw [heap_setCell_same _ _ 2 _ _ _ q1]
        rfl
      · exact q2.below ((Below.refl B w1).setCell (p := ⟨g, 2, none⟩) q3 _)
    have HF := Lib.hid hfin
    have HT := Lib.hid (h2.setCell (p := ⟨g, 2, none⟩) (.inl (by simp)) (.bool true))
    clear hfin q1 q2
    go_wp2
    go_ret
    exact ⟨rfl, HF.out, HT.out⟩
  · have h1I : ¬ (1 : Int) < (v : Int) := by omega
    have hdf : decide (1 < v) = false := decide_eq_false h1
    rw [hdf, Bool.false_or]
    generalize decide (v = 1) = dv at *
    go_enter Tryz.func39, Tryz.ntmps39
    go_wp2_with (go_at_call 35; go_must (refine HN.out.mono ?_))
    rintro e w1 ⟨rfl, h1, h2⟩
    go_wp2
    go_ret
    exact ⟨rfl, h1, h2⟩

def robj (l0 : List UInt8) (b0 : Bool) : (ByteArray × ByteArray) × List UInt8 × Bool :=
  let r1 := rtxt l0 b0
  let r2 := rtxt r1.2.1 r1.2.2
  ((r1.1, r2.1), r2.2)

set_option maxRecDepth 100000 in
set_option maxHeartbeats 1000000 in
theorem robj_any (B : Nat) (w : World) (g : Nat) (l0 : List UInt8) (d : Int) (b0 : Bool) (h : RAt B w g l0 d b0) (hB : B ≤ w.heap.size) :
    Calls Tryz.prog 43 #[.pointer (some ⟨g, 0, none⟩)] w (RPost B w g (robj l0 b0).2.1 d (robj l0 b0).2.2 (.agg #[.string (robj l0 b0).1.1, .string (robj l0 b0).1.2])) := by
  have hg := h.lt
  have hba : Below w.heap.size w (w.alloc (.cells #[.string ⟨#[]⟩, .string ⟨#[]⟩] 30)) := (Below.refl _ _).alloc (Nat.le_refl _) _
  have HR := Lib.hid (h.below hba hB)
  have HT := Lib.hid ((Touch.refl w [g]).alloc (.cells #[.string ⟨#[]⟩, .string ⟨#[]⟩] 30))
  have HX := Lib.hid (show (w.alloc (.cells #[.string ⟨#[]⟩, .string ⟨#[]⟩] 30)).heap[w.heap.size]? = some (.cells #[.string ⟨#[]⟩, .string ⟨#[]⟩] 30 (0, 0)) from heap_alloc_new _ _)
  have hne : w.heap.size ≠ g := by omega
  have hnm : w.heap.size ∉ [g] := by simp; omega
  unfold robj
  have C1 := fun W (h : RAt B W g l0 d b0) => rtext_any B W g l0 d b0 h
  generalize rtxt l0 b0 = r1 at *
  obtain ⟨x, l1, b1⟩ := r1
  dsimp only at *
  have C2 := fun W (h : RAt B W g l1 d b1) => rtext_any B W g l1 d b1 h
  generalize rtxt l1 b1 = r2 at *
  obtain ⟨y, l2, b2⟩ := r2
  dsimp only at *
  have HC1 := Lib.hid C1
  have HC2 := Lib.hid C2
  clear h hba C1 C2
  go_enter Tryz.func43, Tryz.ntmps43
  go_upto_region 1 with fail
  generalize w.alloc (.cells #[.string ⟨#[]⟩, .string ⟨#[]⟩] 30) = w0 at *
  go_wp2_with (go_at_call 37; go_must (refine (HC1.out _ HR.out).mono ?_))
  rintro e w1 ⟨rfl, hr, ht⟩
  have HR := Lib.hid hr
  have HX := Lib.hid (ht.keep HX.out hnm)
  have HT := Lib.hid (HT.out.same ht)
  clear hr ht
  go_wp2_with (go_at_call 37; go_must (refine (HC2.out _ HR.out).mono ?_))
  rintro e w2 ⟨rfl, hr, ht⟩
  have HR := Lib.hid hr
  have HX := Lib.hid (ht.keep HX.out hnm)
  have HT := Lib.hid (HT.out.same ht)
  clear hr ht
  have c0 := Lib.cell_of_heap HX.out 0
  have c1 := Lib.cell_of_heap HX.out 1
  have f0 := Lib.frozen_of_heap HX.out
  simp at c0 c1
  have hlt : w.heap.size < w2.heap.size := (Array.getElem?_eq_some_iff.1 HX.out).1
  have s0 := HX.out
  have s1 := heap_setCell_same _ _ 0 _ _ (.string x) s0
  have s2 := heap_setCell_same _ _ 1 _ _ (.string y) s1
  simp at s2
  have HS := Lib.hid s2
  have HRz := Lib.hid (RAt.set (RAt.set HR.out hne hB 0 (.string x)) hne hB 1 (.string y))
  have HTz := Lib.hid (Touch.setCell (Touch.setCell HT.out (p := ⟨w.heap.size, 0, none⟩) (.inr (Nat.le_refl _)) (.string x)) (p := ⟨w.heap.size, 1, none⟩) (.inr (Nat.le_refl _)) (.string y))
  clear s0 s1 s2
  go_wp2
  have hl := run_loadVar_row (P := Tryz.prog) _ w.heap.size _ 30 _ _ _ HS.out Tryz.underlying30 rfl (by kernel_rfl)
  refine bodyPost_ret (v := .agg #[.string x, .string y]) ?_ rfl ⟨rfl, HRz.out, HTz.out⟩
  simp [results, Tryz.results43, asAddr, hl]

def rsub (l0 : List UInt8) (b0 : Bool) : ((ByteArray × ByteArray) × ByteArray) × List UInt8 × Bool :=
  let r1 := robj l0 b0
  let r2 := rtxt r1.2.1 r1.2.2
  ((r1.1, r2.1), r2.2)

set_option maxRecDepth 100000 in
set_option maxHeartbeats 1000000 in
theorem rsub_any2 (B : Nat) (w : World) (g : Nat) (l0 : List UInt8) (d : Int) (b0 : Bool) (h : RAt B w g l0 d b0) (hB : B ≤ w.heap.size) :
    Calls Tryz.prog 99 #[.pointer (some ⟨g, 0, none⟩)] w (RPost B w g (rsub l0 b0).2.1 d (rsub l0 b0).2.2 (.agg #[.string (rsub l0 b0).1.1.1, .string (rsub l0 b0).1.1.2, .string (rsub l0 b0).1.2])) := by
  have hg := h.lt
  have hba : Below w.heap.size w (w.alloc (.cells #[.string ⟨#[]⟩, .string ⟨#[]⟩, .string ⟨#[]⟩] 60)) := (Below.refl _ _).alloc (Nat.le_refl _) _
  have HR := Lib.hid (h.below hba hB)
  have HT := Lib.hid ((Touch.refl w [g]).alloc (.cells #[.string ⟨#[]⟩, .string ⟨#[]⟩, .string ⟨#[]⟩] 60))
  have HX := Lib.hid (show (w.alloc (.cells #[.string ⟨#[]⟩, .string ⟨#[]⟩, .string ⟨#[]⟩] 60)).heap[w.heap.size]? = some (.cells #[.string ⟨#[]⟩, .string ⟨#[]⟩, .string ⟨#[]⟩] 60 (0, 0)) from heap_alloc_new _ _)
  have hne : w.heap.size ≠ g := by omega
  have hnm : w.heap.size ∉ [g] := by simp; omega
  unfold rsub
  have C1 := fun W (h : RAt B W g l0 d b0) (hW : B ≤ W.heap.size) => robj_any B W g l0 d b0 h hW
  generalize robj l0 b0 = r1 at *
  obtain ⟨⟨x, y⟩, l1, b1⟩ := r1
  dsimp only at *
  have C2 := fun W (h : RAt B W g l1 d b1) => rtext_any B W g l1 d b1 h
  generalize rtxt l1 b1 = r2 at *
  obtain ⟨z, l2, b2⟩ := r2
  dsimp only at *
  have HC1 := Lib.hid C1
  have HC2 := Lib.hid C2
  clear h hba C1 C2
  go_enter Tryz.func99, Tryz.ntmps99
  go_upto_region 1 with fail
  generalize w.alloc (.cells #[.string ⟨#[]⟩, .string ⟨#[]⟩, .string ⟨#[]⟩] 60) = w0 at *
  go_wp2_with (go_at_call 43; go_must (refine (HC1.out _ HR.out (Nat.le_trans hB HT.out.size)).mono ?_))
  rintro e w1 ⟨rfl, hr, ht⟩
  have HR := Lib.hid hr
  have HX := Lib.hid (ht.keep HX.out hnm)
  have HT := Lib.hid (HT.out.same ht)
  clear hr ht
  go_wp2_with (go_at_call 37; go_must (refine (HC2.out _ HR.out).mono ?_))
  rintro e w2 ⟨rfl, hr, ht⟩
  have HR := Lib.hid hr
  have HX := Lib.hid (ht.keep HX.out hnm)
  have HT := Lib.hid (HT.out.same ht)
  clear hr ht
  have c0 := Lib.cell_of_heap HX.out 0
  have c1 := Lib.cell_of_heap HX.out 1
  have c2 := Lib.cell_of_heap HX.out 2
  have f0 := Lib.frozen_of_heap HX.out
  simp at c0 c1 c2
  have hlt : w.heap.size < w2.heap.size := (Array.getElem?_eq_some_iff.1 HX.out).1
  have s0 := HX.out
  have s1 := heap_setCell_same _ _ 0 _ _ (.string x) s0
  have s2 := heap_setCell_same _ _ 1 _ _ (.string y) s1
  have s3 := heap_setCell_same _ _ 2 _ _ (.string z) s2
  simp at s3
  have HS := Lib.hid s3
  have HRz := Lib.hid (RAt.set (RAt.set (RAt.set HR.out hne hB 0 (.string x)) hne hB 1 (.string y)) hne hB 2 (.string z))
  have HTz := Lib.hid (Touch.setCell (Touch.setCell (Touch.setCell HT.out (p := ⟨w.heap.size, 0, none⟩) (.inr (Nat.le_refl _)) (.string x)) (p := ⟨w.heap.size, 1, none⟩) (.inr (Nat.le_refl _)) (.string y)) (p := ⟨w.heap.size, 2, none⟩) (.inr (Nat.le_refl _)) (.string z))
  clear s0 s1 s2 s3
  go_wp2
  have hl := run_loadVar_row (P := Tryz.prog) _ w.heap.size _ 60 _ _ _ HS.out Tryz.underlying60 rfl (by kernel_rfl)
  refine bodyPost_ret (v := .agg #[.string x, .string y, .string z]) ?_ rfl ⟨rfl, HRz.out, HTz.out⟩
  simp [results, Tryz.results99, asAddr, hl]

def rpnt (l0 : List UInt8) (b0 : Bool) : ((ByteArray × ByteArray) × ByteArray) × List UInt8 × Bool :=
  let r1 := robj l0 b0
  let r2 := rtxt r1.2.1 r1.2.2
  ((r1.1, r2.1), r2.2)

set_option maxRecDepth 100000 in
set_option maxHeartbeats 1000000 in
theorem rpoint_any2 (B : Nat) (w : World) (g : Nat) (l0 : List UInt8) (d : Int) (b0 : Bool) (h : RAt B w g l0 d b0) (hB : B ≤ w.heap.size) :
    Calls Tryz.prog 100 #[.pointer (some ⟨g, 0, none⟩)] w (RPost B w g (rpnt l0 b0).2.1 d (rpnt l0 b0).2.2 (.agg #[.string (rpnt l0 b0).1.1.1, .string (rpnt l0 b0).1.1.2, .string (rpnt l0 b0).1.2])) := by
  have hg := h.lt
  have hba : Below w.heap.size w (w.alloc (.cells #[.string ⟨#[]⟩, .string ⟨#[]⟩, .string ⟨#[]⟩] 68)) := (Below.refl _ _).alloc (Nat.le_refl _) _
  have HR := Lib.hid (h.below hba hB)
  have HT := Lib.hid ((Touch.refl w [g]).alloc (.cells #[.string ⟨#[]⟩, .string ⟨#[]⟩, .string ⟨#[]⟩] 68))
  have HX := Lib.hid (show (w.alloc (.cells #[.string ⟨#[]⟩, .string ⟨#[]⟩, .string ⟨#[]⟩] 68)).heap[w.heap.size]? = some (.cells #[.string ⟨#[]⟩, .string ⟨#[]⟩, .string ⟨#[]⟩] 68 (0, 0)) from heap_alloc_new _ _)
  have hne : w.heap.size ≠ g := by omega
  have hnm : w.heap.size ∉ [g] := by simp; omega
  unfold rpnt
  have C1 := fun W (h : RAt B W g l0 d b0) (hW : B ≤ W.heap.size) => robj_any B W g l0 d b0 h hW
  generalize robj l0 b0 = r1 at *
  obtain ⟨⟨x, y⟩, l1, b1⟩ := r1
  dsimp only at *
  have C2 := fun W (h : RAt B W g l1 d b1) => rtext_any B W g l1 d b1 h
  generalize rtxt l1 b1 = r2 at *
  obtain ⟨z, l2, b2⟩ := r2
  dsimp only at *
  have HC1 := Lib.hid C1
  have HC2 := Lib.hid C2
  clear h hba C1 C2
  go_enter Tryz.func100, Tryz.ntmps100
  go_upto_region 1 with fail
  generalize w.alloc (.cells #[.string ⟨#[]⟩, .string ⟨#[]⟩, .string ⟨#[]⟩] 68) = w0 at *
  go_wp2_with (go_at_call 43; go_must (refine (HC1.out _ HR.out (Nat.le_trans hB HT.out.size)).mono ?_))
  rintro e w1 ⟨rfl, hr, ht⟩
  have HR := Lib.hid hr
  have HX := Lib.hid (ht.keep HX.out hnm)
  have HT := Lib.hid (HT.out.same ht)
  clear hr ht
  go_wp2_with (go_at_call 37; go_must (refine (HC2.out _ HR.out).mono ?_))
  rintro e w2 ⟨rfl, hr, ht⟩
  have HR := Lib.hid hr
  have HX := Lib.hid (ht.keep HX.out hnm)
  have HT := Lib.hid (HT.out.same ht)
  clear hr ht
  have c0 := Lib.cell_of_heap HX.out 0
  have c1 := Lib.cell_of_heap HX.out 1
  have c2 := Lib.cell_of_heap HX.out 2
  have f0 := Lib.frozen_of_heap HX.out
  simp at c0 c1 c2
  have hlt : w.heap.size < w2.heap.size := (Array.getElem?_eq_some_iff.1 HX.out).1
  have s0 := HX.out
  have s1 := heap_setCell_same _ _ 0 _ _ (.string x) s0
  have s2 := heap_setCell_same _ _ 1 _ _ (.string y) s1
  have s3 := heap_setCell_same _ _ 2 _ _ (.string z) s2
  simp at s3
  have HS := Lib.hid s3
  have HRz := Lib.hid (RAt.set (RAt.set (RAt.set HR.out hne hB 0 (.string x)) hne hB 1 (.string y)) hne hB 2 (.string z))
  have HTz := Lib.hid (Touch.setCell (Touch.setCell (Touch.setCell HT.out (p := ⟨w.heap.size, 0, none⟩) (.inr (Nat.le_refl _)) (.string x)) (p := ⟨w.heap.size, 1, none⟩) (.inr (Nat.le_refl _)) (.string y)) (p := ⟨w.heap.size, 2, none⟩) (.inr (Nat.le_refl _)) (.string z))
  clear s0 s1 s2 s3
  go_wp2
  have hl := run_loadVar_row (P := Tryz.prog) _ w.heap.size _ 68 _ _ _ HS.out Tryz.underlying68 rfl (by kernel_rfl)
  refine bodyPost_ret (v := .agg #[.string x, .string y, .string z]) ?_ rfl ⟨rfl, HRz.out, HTz.out⟩
  simp [results, Tryz.results100, asAddr, hl]

def rtup (l0 : List UInt8) (b0 : Bool) : T6 × List UInt8 × Bool :=
  let r1 := robj l0 b0
  let r2 := rtxt r1.2.1 r1.2.2
  let r3 := rsub r2.2.1 r2.2.2
  (⟨r1.1.1, r1.1.2, r2.1, r3.1.1.1, r3.1.1.2, r3.1.2⟩, r3.2)

set_option maxRecDepth 100000 in
set_option maxHeartbeats 1000000 in
theorem rtuple_any2 (B : Nat) (w : World) (g : Nat) (l0 : List UInt8) (d : Int) (b0 : Bool) (h : RAt B w g l0 d b0) (hB : B ≤ w.heap.size) :
    Calls Tryz.prog 41 #[.pointer (some ⟨g, 0, none⟩)] w (RPost B w g (rtup l0 b0).2.1 d (rtup l0 b0).2.2 (.agg #[.string (rtup l0 b0).1.a, .string (rtup l0 b0).1.b, .string (rtup l0 b0).1.c, .string (rtup l0 b0).1.d, .string (rtup l0 b0).1.e, .string (rtup l0 b0).1.f])) := by
  have hg := h.lt
  have hba : Below w.heap.size w (w.alloc (.cells #[.string ⟨#[]⟩, .string ⟨#[]⟩, .string ⟨#[]⟩, .string ⟨#[]⟩, .string ⟨#[]⟩, .string ⟨#[]⟩] 62)) := (Below.refl _ _).alloc (Nat.le_refl _) _
  have HR := Lib.hid (h.below hba hB)
  have HT := Lib.hid ((Touch.refl w [g]).alloc (.cells #[.string ⟨#[]⟩, .string ⟨#[]⟩, .string ⟨#[]⟩, .string ⟨#[]⟩, .string ⟨#[]⟩, .string ⟨#[]⟩] 62))
  have HX := Lib.hid (show (w.alloc (.cells #[.string ⟨#[]⟩, .string ⟨#[]⟩, .string ⟨#[]⟩, .string ⟨#[]⟩, .string ⟨#[]⟩, .string ⟨#[]⟩] 62)).heap[w.heap.size]? = some (.cells #[.string ⟨#[]⟩, .string ⟨#[]⟩, .string ⟨#[]⟩, .string ⟨#[]⟩, .string ⟨#[]⟩, .string ⟨#[]⟩] 62 (0, 0)) from heap_alloc_new _ _)
  have hne : w.heap.size ≠ g := by omega
  have hnm : w.heap.size ∉ [g] := by simp; omega
  unfold rtup
  have C1 := fun W (h : RAt B W g l0 d b0) (hW : B ≤ W.heap.size) => robj_any B W g l0 d b0 h hW
  generalize robj l0 b0 = r1 at *
  obtain ⟨⟨x1, x2⟩, l1, b1⟩ := r1
  dsimp only at *
  have C2 := fun W (h : RAt B W g l1 d b1) => rtext_any B W g l1 d b1 h
  generalize rtxt l1 b1 = r2 at *
  obtain ⟨x3, l2, b2⟩ := r2
  dsimp only at *
  have C3 := fun W (h : RAt B W g l2 d b2) (hW : B ≤ W.heap.size) => rsub_any2 B W g l2 d b2 h hW
  generalize rsub l2 b2 = r3 at *
  obtain ⟨⟨⟨x4, x5⟩, x6⟩, l3, b3⟩ := r3
  dsimp only at *
  have HC1 := Lib.hid C1
  have HC2 := Lib.hid C2
  have HC3 := Lib.hid C3
  clear h hba C1 C2 C3
  go_enter Tryz.func41, Tryz.ntmps41
  go_upto_region 1 with fail
  generalize w.alloc (.cells #[.string ⟨#[]⟩, .string ⟨#[]⟩, .string ⟨#[]⟩, .string ⟨#[]⟩, .string ⟨#[]⟩, .string ⟨#[]⟩] 62) = w0 at *
  go_wp2_with (go_at_call 43; go_must (refine (HC1.out _ HR.out (Nat.le_trans hB HT.out.size)).mono ?_))
  rintro e w1 ⟨rfl, hr, ht⟩
  have HR := Lib.hid hr
  have HX := Lib.hid (ht.keep HX.out hnm)
  have HT := Lib.hid (HT.out.same ht)
  clear hr ht
  go_wp2_with (go_at_call 37; go_must (refine (HC2.out _ HR.out).mono ?_))
  rintro e w2 ⟨rfl, hr, ht⟩
  have HR := Lib.hid hr
  have HX := Lib.hid (ht.keep HX.out hnm)
  have HT := Lib.hid (HT.out.same ht)
  clear hr ht
  go_wp2_with (go_at_call 99; go_must (refine (HC3.out _ HR.out (Nat.le_trans hB HT.out.size)).mono ?_))
  rintro e w3 ⟨rfl, hr, ht⟩
  have HR := Lib.hid hr
  have HX := Lib.hid (ht.keep HX.out hnm)
  have HT := Lib.hid (HT.out.same ht)
  clear hr ht
  have c0 := Lib.cell_of_heap HX.out 0
  have c1 := Lib.cell_of_heap HX.out 1
  have c2 := Lib.cell_of_heap HX.out 2
  have c3 := Lib.cell_of_heap HX.out 3
  have c4 := Lib.cell_of_heap HX.out 4
  have c5 := Lib.cell_of_heap HX.out 5
  have f0 := Lib.frozen_of_heap HX.out
  simp at c0 c1 c2 c3 c4 c5
  have hlt : w.heap.size < w3.heap.size := (Array.getElem?_eq_some_iff.1 HX.out).1
  have s0 := HX.out
  have s1 := heap_setCell_same _ _ 0 _ _ (.string x1) s0
  have s2 := heap_setCell_same _ _ 1 _ _ (.string x2) s1
  have s3 := heap_setCell_same _ _ 2 _ _ (.string x3) s2
  have s4 := heap_setCell_same _ _ 3 _ _ (.string x4) s3
  have s5 := heap_setCell_same _ _ 4 _ _ (.string x5) s4
  have s6 := heap_setCell_same _ _ 5 _ _ (.string x6) s5
  simp at s6
  have HS := Lib.hid s6
  have HRz := Lib.hid (RAt.set (RAt.set (RAt.set (RAt.set (RAt.set (RAt.set HR.out hne hB 0 (.string x1)) hne hB 1 (.string x2)) hne hB 2 (.string x3)) hne hB 3 (.string x4)) hne hB 4 (.string x5)) hne hB 5 (.string x6))
  have HTz := Lib.hid (Touch.setCell (Touch.setCell (Touch.setCell (Touch.setCell (Touch.setCell (Touch.setCell HT.out (p := ⟨w.heap.size, 0, none⟩) (.inr (Nat.le_refl _)) (.string x1)) (p := ⟨w.heap.size, 1, none⟩) (.inr (Nat.le_refl _)) (.string x2)) (p := ⟨w.heap.size, 2, none⟩) (.inr (Nat.le_refl _)) (.string x3)) (p := ⟨w.heap.size, 3, none⟩) (.inr (Nat.le_refl _)) (.string x4)) (p := ⟨w.heap.size, 4, none⟩) (.inr (Nat.le_refl _)) (.string x5)) (p := ⟨w.heap.size, 5, none⟩) (.inr (Nat.le_refl _)) (.string x6))
  clear s0 s1 s2 s3 s4 s5 s6
  go_wp2
  have hl := run_loadVar_row (P := Tryz.prog) _ w.heap.size _ 62 _ _ _ HS.out Tryz.underlying62 rfl (by kernel_rfl)
  refine bodyPost_ret (v := .agg #[.string x1, .string x2, .string x3, .string x4, .string x5, .string x6]) ?_ rfl ⟨rfl, HRz.out, HTz.out⟩
  simp [results, Tryz.results41, asAddr, hl]

def rask (l0 : List UInt8) (b0 : Bool) : T6 × List UInt8 × Bool :=
  let r1 := rpnt l0 b0
  let r2 := rsub r1.2.1 r1.2.2
  (⟨r1.1.1.1, r1.1.1.2, r1.1.2, r2.1.1.1, r2.1.1.2, r2.1.2⟩, r2.2)

set_option maxRecDepth 100000 in
set_option maxHeartbeats 1000000 in
theorem rask_any2 (B : Nat) (w : World) (g : Nat) (l0 : List UInt8) (d : Int) (b0 : Bool) (h : RAt B w g l0 d b0) (hB : B ≤ w.heap.size) :
    Calls Tryz.prog 79 #[.pointer (some ⟨g, 0, none⟩)] w (RPost B w g (rask l0 b0).2.1 d (rask l0 b0).2.2 (.agg #[.string (rask l0 b0).1.a, .string (rask l0 b0).1.b, .string (rask l0 b0).1.c, .string (rask l0 b0).1.d, .string (rask l0 b0).1.e, .string (rask l0 b0).1.f])) := by
  have hg := h.lt
  have hba : Below w.heap.size w (w.alloc (.cells #[.string ⟨#[]⟩, .string ⟨#[]⟩, .string ⟨#[]⟩, .string ⟨#[]⟩, .string ⟨#[]⟩, .string ⟨#[]⟩] 135)) := (Below.refl _ _).alloc (Nat.le_refl _) _
  have HR := Lib.hid (h.below hba hB)
  have HT := Lib.hid ((Touch.refl w [g]).alloc (.cells #[.string ⟨#[]⟩, .string ⟨#[]⟩, .string ⟨#[]⟩, .string ⟨#[]⟩, .string ⟨#[]⟩, .string ⟨#[]⟩] 135))
  have HX := Lib.hid (show (w.alloc (.cells #[.string ⟨#[]⟩, .string ⟨#[]⟩, .string ⟨#[]⟩, .string ⟨#[]⟩, .string ⟨#[]⟩, .string ⟨#[]⟩] 135)).heap[w.heap.size]? = some (.cells #[.string ⟨#[]⟩, .string ⟨#[]⟩, .string ⟨#[]⟩, .string ⟨#[]⟩, .string ⟨#[]⟩, .string ⟨#[]⟩] 135 (0, 0)) from heap_alloc_new _ _)
  have hne : w.heap.size ≠ g := by omega
  have hnm : w.heap.size ∉ [g] := by simp; omega
  unfold rask
  have C1 := fun W (h : RAt B W g l0 d b0) (hW : B ≤ W.heap.size) => rpoint_any2 B W g l0 d b0 h hW
  generalize rpnt l0 b0 = r1 at *
  obtain ⟨⟨⟨x1, x2⟩, x3⟩, l1, b1⟩ := r1
  dsimp only at *
  have C2 := fun W (h : RAt B W g l1 d b1) (hW : B ≤ W.heap.size) => rsub_any2 B W g l1 d b1 h hW
  generalize rsub l1 b1 = r2 at *
  obtain ⟨⟨⟨x4, x5⟩, x6⟩, l2, b2⟩ := r2
  dsimp only at *
  have HC1 := Lib.hid C1
  have HC2 := Lib.hid C2
  clear h hba C1 C2
  go_enter Tryz.func79, Tryz.ntmps79
  go_upto_region 1 with fail
  generalize w.alloc (.cells #[.string ⟨#[]⟩, .string ⟨#[]⟩, .string ⟨#[]⟩, .string ⟨#[]⟩, .string ⟨#[]⟩, .string ⟨#[]⟩] 135) = w0 at *
  go_wp2_with (go_at_call 100; go_must (refine (HC1.out _ HR.out (Nat.le_trans hB HT.out.size)).mono ?_))
  rintro e w1 ⟨rfl, hr, ht⟩
  have HR := Lib.hid hr
  have HX := Lib.hid (ht.keep HX.out hnm)
  have HT := Lib.hid (HT.out.same ht)
  clear hr ht
  go_wp2_with (go_at_call 99; go_must (refine (HC2.out _ HR.out (Nat.le_trans hB HT.out.size)).mono ?_))
  rintro e w2 ⟨rfl, hr, ht⟩
  have HR := Lib.hid hr
  have HX := Lib.hid (ht.keep HX.out hnm)
  have HT := Lib.hid (HT.out.same ht)
  clear hr ht
  have c0 := Lib.cell_of_heap HX.out 0
  have c1 := Lib.cell_of_heap HX.out 1
  have c2 := Lib.cell_of_heap HX.out 2
  have c3 := Lib.cell_of_heap HX.out 3
  have c4 := Lib.cell_of_heap HX.out 4
  have c5 := Lib.cell_of_heap HX.out 5
  have f0 := Lib.frozen_of_heap HX.out
  simp at c0 c1 c2 c3 c4 c5
  have hlt : w.heap.size < w2.heap.size := (Array.getElem?_eq_some_iff.1 HX.out).1
  have s0 := HX.out
  have s1 := heap_setCell_same _ _ 0 _ _ (.string x1) s0
  have s2 := heap_setCell_same _ _ 1 _ _ (.string x2) s1
  have s3 := heap_setCell_same _ _ 2 _ _ (.string x3) s2
  have s4 := heap_setCell_same _ _ 3 _ _ (.string x4) s3
  have s5 := heap_setCell_same _ _ 4 _ _ (.string x5) s4
  have s6 := heap_setCell_same _ _ 5 _ _ (.string x6) s5
  simp at s6
  have HS := Lib.hid s6
  have HRz := Lib.hid (RAt.set (RAt.set (RAt.set (RAt.set (RAt.set (RAt.set HR.out hne hB 0 (.string x1)) hne hB 1 (.string x2)) hne hB 2 (.string x3)) hne hB 3 (.string x4)) hne hB 4 (.string x5)) hne hB 5 (.string x6))
  have HTz := Lib.hid (Touch.setCell (Touch.setCell (Touch.setCell (Touch.setCell (Touch.setCell (Touch.setCell HT.out (p := ⟨w.heap.size, 0, none⟩) (.inr (Nat.le_refl _)) (.string x1)) (p := ⟨w.heap.size, 1, none⟩) (.inr (Nat.le_refl _)) (.string x2)) (p := ⟨w.heap.size, 2, none⟩) (.inr (Nat.le_refl _)) (.string x3)) (p := ⟨w.heap.size, 3, none⟩) (.inr (Nat.le_refl _)) (.string x4)) (p := ⟨w.heap.size, 4, none⟩) (.inr (Nat.le_refl _)) (.string x5)) (p := ⟨w.heap.size, 5, none⟩) (.inr (Nat.le_refl _)) (.string x6))
  clear s0 s1 s2 s3 s4 s5 s6
  go_wp2
  have hl := run_loadVar_row (P := Tryz.prog) _ w.heap.size _ 135 _ _ _ HS.out Tryz.underlying135 rfl (by kernel_rfl)
  refine bodyPost_ret (v := .agg #[.string x1, .string x2, .string x3, .string x4, .string x5, .string x6]) ?_ rfl ⟨rfl, HRz.out, HTz.out⟩
  simp [results, Tryz.results79, asAddr, hl]

def rwri (l0 : List UInt8) (b0 : Bool) : Wri × List UInt8 × Bool :=
  let r1 := rtru l0 b0
  let r2 := rtup r1.2.1 r1.2.2
  (⟨r1.1, r2.1⟩, r2.2)

set_option maxRecDepth 100000 in
set_option maxHeartbeats 1000000 in
theorem rwrite_any2 (B : Nat) (w : World) (g : Nat) (l0 : List UInt8) (d : Int) (b0 : Bool) (h : RAt B w g l0 d b0) (hB : B ≤ w.heap.size) :
    Calls Tryz.prog 75 #[.pointer (some ⟨g, 0, none⟩)] w (RPost B w g (rwri l0 b0).2.1 d (rwri l0 b0).2.2 (.agg #[.bool (rwri l0 b0).1.is, .string (rwri l0 b0).1.t.a, .string (rwri l0 b0).1.t.b, .string (rwri l0 b0).1.t.c, .string (rwri l0 b0).1.t.d, .string (rwri l0 b0).1.t.e, .string (rwri l0 b0).1.t.f])) := by
  have hg := h.lt
  have hba : Below w.heap.size w (w.alloc (.cells #[.bool false, .string ⟨#[]⟩, .string ⟨#[]⟩, .string ⟨#[]⟩, .string ⟨#[]⟩, .string ⟨#[]⟩, .string ⟨#[]⟩] 65)) := (Below.refl _ _).alloc (Nat.le_refl _) _
  have HR := Lib.hid (h.below hba hB)
  have HT := Lib.hid ((Touch.refl w [g]).alloc (.cells #[.bool false, .string ⟨#[]⟩, .string ⟨#[]⟩, .string ⟨#[]⟩, .string ⟨#[]⟩, .string ⟨#[]⟩, .string ⟨#[]⟩] 65))
  have HX := Lib.hid (show (w.alloc (.cells #[.bool false, .string ⟨#[]⟩, .string ⟨#[]⟩, .string ⟨#[]⟩, .string ⟨#[]⟩, .string ⟨#[]⟩, .string ⟨#[]⟩] 65)).heap[w.heap.size]? = some (.cells #[.bool false, .string ⟨#[]⟩, .string ⟨#[]⟩, .string ⟨#[]⟩, .string ⟨#[]⟩, .string ⟨#[]⟩, .string ⟨#[]⟩] 65 (0, 0)) from heap_alloc_new _ _)
  have hne : w.heap.size ≠ g := by omega
  have hnm : w.heap.size ∉ [g] := by simp; omega
  unfold rwri
  have C1 := fun W (h : RAt B W g l0 d b0) => rtruth_any2 B W g l0 d b0 h
  generalize rtru l0 b0 = r1 at *
  obtain ⟨x0, l1, b1⟩ := r1
  dsimp only at *
  have C2 := fun W (h : RAt B W g l1 d b1) (hW : B ≤ W.heap.size) => rtuple_any2 B W g l1 d b1 h hW
  generalize rtup l1 b1 = r2 at *
  obtain ⟨⟨x1, x2, x3, x4, x5, x6⟩, l2, b2⟩ := r2
  dsimp only at *
  have HC1 := Lib.hid C1
  have HC2 := Lib.hid C2
  clear h hba C1 C2
  go_enter Tryz.func75, Tryz.ntmps75
  go_upto_region 1 with fail
  generalize w.alloc (.cells #[.bool false, .string ⟨#[]⟩, .string ⟨#[]⟩, .string ⟨#[]⟩, .string ⟨#[]⟩, .string ⟨#[]⟩, .string ⟨#[]⟩] 65) = w0 at *
  go_wp2_with (go_at_call 39; go_must (refine (HC1.out _ HR.out).mono ?_))
  rintro e w1 ⟨rfl, hr, ht⟩
  have HR := Lib.hid hr
  have HX := Lib.hid (ht.keep HX.out hnm)
  have HT := Lib.hid (HT.out.same ht)
  clear hr ht
  go_wp2_with (go_at_call 41; go_must (refine (HC2.out _ HR.out (Nat.le_trans hB HT.out.size)).mono ?_))
  rintro e w2 ⟨rfl, hr, ht⟩
  have HR := Lib.hid hr
  have HX := Lib.hid (ht.keep HX.out hnm)
  have HT := Lib.hid (HT.out.same ht)
  clear hr ht
  have c0 := Lib.cell_of_heap HX.out 0
  have c1 := Lib.cell_of_heap HX.out 1
  have c2 := Lib.cell_of_heap HX.out 2
  have c3 := Lib.cell_of_heap HX.out 3
  have c4 := Lib.cell_of_heap HX.out 4
  have c5 := Lib.cell_of_heap HX.out 5
  have c6 := Lib.cell_of_heap HX.out 6
  have f0 := Lib.frozen_of_heap HX.out
  simp at c0 c1 c2 c3 c4 c5 c6
  have hlt : w.heap.size < w2.heap.size := (Array.getElem?_eq_some_iff.1 HX.out).1
  have s0 := HX.out
  have s1 := heap_setCell_same _ _ 0 _ _ (.bool x0) s0
  have s2 := heap_setCell_same _ _ 1 _ _ (.string x1) s1
  have s3 := heap_setCell_same _ _ 2 _ _ (.string x2) s2
  have s4 := heap_setCell_same _ _ 3 _ _ (.string x3) s3
  have s5 := heap_setCell_same _ _ 4 _ _ (.string x4) s4
  have s6 := heap_setCell_same _ _ 5 _ _ (.string x5) s5
  have s7 := heap_setCell_same _ _ 6 _ _ (.string x6) s6
  simp at s7
  have HS := Lib.hid s7
  have HRz := Lib.hid (RAt.set (RAt.set (RAt.set (RAt.set (RAt.set (RAt.set (RAt.set HR.out hne hB 0 (.bool x0)) hne hB 1 (.string x1)) hne hB 2 (.string x2)) hne hB 3 (.string x3)) hne hB 4 (.string x4)) hne hB 5 (.string x5)) hne hB 6 (.string x6))
  have HTz := Lib.hid (Touch.setCell (Touch.setCell (Touch.setCell (Touch.setCell (Touch.setCell (Touch.setCell (Touch.setCell HT.out (p := ⟨w.heap.size, 0, none⟩) (.inr (Nat.le_refl _)) (.bool x0)) (p := ⟨w.heap.size, 1, none⟩) (.inr (Nat.le_refl _)) (.string x1)) (p := ⟨w.heap.size, 2, none⟩) (.inr (Nat.le_refl _)) (.string x2)) (p := ⟨w.heap.size, 3, none⟩) (.inr (Nat.le_refl _)) (.string x3)) (p := ⟨w.heap.size, 4, none⟩) (.inr (Nat.le_refl _)) (.string x4)) (p := ⟨w.heap.size, 5, none⟩) (.inr (Nat.le_refl _)) (.string x5)) (p := ⟨w.heap.size, 6, none⟩) (.inr (Nat.le_refl _)) (.string x6))
  clear s0 s1 s2 s3 s4 s5 s6 s7
  go_wp2
  have hl := run_loadVar_row (P := Tryz.prog) _ w.heap.size _ 65 _ _ _ HS.out Tryz.underlying65 rfl (by kernel_rfl)
  refine bodyPost_ret (v := .agg #[.bool x0, .string x1, .string x2, .string x3, .string x4, .string x5, .string x6]) ?_ rfl ⟨rfl, HRz.out, HTz.out⟩
  simp [results, Tryz.results75, asAddr, hl]

def rpre (l0 : List UInt8) (b0 : Bool) : Wri × List UInt8 × Bool :=
  let r1 := rtru l0 b0
  let r2 := rtup r1.2.1 r1.2.2
  (⟨r1.1, r2.1⟩, r2.2)

set_option maxRecDepth 100000 in
set_option maxHeartbeats 1000000 in
theorem rpre_any2 (B : Nat) (w : World) (g : Nat) (l0 : List UInt8) (d : Int) (b0 : Bool) (h : RAt B w g l0 d b0) (hB : B ≤ w.heap.size) :
    Calls Tryz.prog 77 #[.pointer (some ⟨g, 0, none⟩)] w (RPost B w g (rpre l0 b0).2.1 d (rpre l0 b0).2.2 (.agg #[.bool (rpre l0 b0).1.is, .string (rpre l0 b0).1.t.a, .string (rpre l0 b0).1.t.b, .string (rpre l0 b0).1.t.c, .string (rpre l0 b0).1.t.d, .string (rpre l0 b0).1.t.e, .string (rpre l0 b0).1.t.f])) := by
  have hg := h.lt
  have hba : Below w.heap.size w (w.alloc (.cells #[.bool false, .string ⟨#[]⟩, .string ⟨#[]⟩, .string ⟨#[]⟩, .string ⟨#[]⟩, .string ⟨#[]⟩, .string ⟨#[]⟩] 131)) := (Below.refl _ _).alloc (Nat.le_refl _) _
  have HR := Lib.hid (h.below hba hB)
  have HT := Lib.hid ((Touch.refl w [g]).alloc (.cells #[.bool false, .string ⟨#[]⟩, .string ⟨#[]⟩, .string ⟨#[]⟩, .string ⟨#[]⟩, .string ⟨#[]⟩, .string ⟨#[]⟩] 131))
  have HX := Lib.hid (show (w.alloc (.cells #[.bool false, .string ⟨#[]⟩, .string ⟨#[]⟩, .string ⟨#[]⟩, .string ⟨#[]⟩, .string ⟨#[]⟩, .string ⟨#[]⟩] 131)).heap[w.heap.size]? = some (.cells #[.bool false, .string ⟨#[]⟩, .string ⟨#[]⟩, .string ⟨#[]⟩, .string ⟨#[]⟩, .string ⟨#[]⟩, .string ⟨#[]⟩] 131 (0, 0)) from heap_alloc_new _ _)
  have hne : w.heap.size ≠ g := by omega
  have hnm : w.heap.size ∉ [g] := by simp; omega
  unfold rpre
  have C1 := fun W (h : RAt B W g l0 d b0) => rtruth_any2 B W g l0 d b0 h
  generalize rtru l0 b0 = r1 at *
  obtain ⟨x0, l1, b1⟩ := r1
  dsimp only at *
  have C2 := fun W (h : RAt B W g l1 d b1) (hW : B ≤ W.heap.size) => rtuple_any2 B W g l1 d b1 h hW
  generalize rtup l1 b1 = r2 at *
  obtain ⟨⟨x1, x2, x3, x4, x5, x6⟩, l2, b2⟩ := r2
  dsimp only at *
  have HC1 := Lib.hid C1
  have HC2 := Lib.hid C2
  clear h hba C1 C2
  go_enter Tryz.func77, Tryz.ntmps77
  go_upto_region 1 with fail
  generalize w.alloc (.cells #[.bool false, .string ⟨#[]⟩, .string ⟨#[]⟩, .string ⟨#[]⟩, .string ⟨#[]⟩, .string ⟨#[]⟩, .string ⟨#[]⟩] 131) = w0 at *
  go_wp2_with (go_at_call 39; go_must (refine (HC1.out _ HR.out).mono ?_))
  rintro e w1 ⟨rfl, hr, ht⟩
  have HR := Lib.hid hr
  have HX := Lib.hid (ht.keep HX.out hnm)
  have HT := Lib.hid (HT.out.same ht)
  clear hr ht
  go_wp2_with (go_at_call 41; go_must (refine (HC2.out _ HR.out (Nat.le_trans hB HT.out.size)).mono ?_))
  rintro e w2 ⟨rfl, hr, ht⟩
  have HR := Lib.hid hr
  have HX := Lib.hid (ht.keep HX.out hnm)
  have HT := Lib.hid (HT.out.same ht)
  clear hr ht
  have c0 := Lib.cell_of_heap HX.out 0
  have c1 := Lib.cell_of_heap HX.out 1
  have c2 := Lib.cell_of_heap HX.out 2
  have c3 := Lib.cell_of_heap HX.out 3
  have c4 := Lib.cell_of_heap HX.out 4
  have c5 := Lib.cell_of_heap HX.out 5
  have c6 := Lib.cell_of_heap HX.out 6
  have f0 := Lib.frozen_of_heap HX.out
  simp at c0 c1 c2 c3 c4 c5 c6
  have hlt : w.heap.size < w2.heap.size := (Array.getElem?_eq_some_iff.1 HX.out).1
  have s0 := HX.out
  have s1 := heap_setCell_same _ _ 0 _ _ (.bool x0) s0
  have s2 := heap_setCell_same _ _ 1 _ _ (.string x1) s1
  have s3 := heap_setCell_same _ _ 2 _ _ (.string x2) s2
  have s4 := heap_setCell_same _ _ 3 _ _ (.string x3) s3
  have s5 := heap_setCell_same _ _ 4 _ _ (.string x4) s4
  have s6 := heap_setCell_same _ _ 5 _ _ (.string x5) s5
  have s7 := heap_setCell_same _ _ 6 _ _ (.string x6) s6
  simp at s7
  have HS := Lib.hid s7
  have HRz := Lib.hid (RAt.set (RAt.set (RAt.set (RAt.set (RAt.set (RAt.set (RAt.set HR.out hne hB 0 (.bool x0)) hne hB 1 (.string x1)) hne hB 2 (.string x2)) hne hB 3 (.string x3)) hne hB 4 (.string x4)) hne hB 5 (.string x5)) hne hB 6 (.string x6))
  have HTz := Lib.hid (Touch.setCell (Touch.setCell (Touch.setCell (Touch.setCell (Touch.setCell (Touch.setCell (Touch.setCell HT.out (p := ⟨w.heap.size, 0, none⟩) (.inr (Nat.le_refl _)) (.bool x0)) (p := ⟨w.heap.size, 1, none⟩) (.inr (Nat.le_refl _)) (.string x1)) (p := ⟨w.heap.size, 2, none⟩) (.inr (Nat.le_refl _)) (.string x2)) (p := ⟨w.heap.size, 3, none⟩) (.inr (Nat.le_refl _)) (.string x3)) (p := ⟨w.heap.size, 4, none⟩) (.inr (Nat.le_refl _)) (.string x4)) (p := ⟨w.heap.size, 5, none⟩) (.inr (Nat.le_refl _)) (.string x5)) (p := ⟨w.heap.size, 6, none⟩) (.inr (Nat.le_refl _)) (.string x6))
  clear s0 s1 s2 s3 s4 s5 s6 s7
  go_wp2
  have hl := run_loadVar_row (P := Tryz.prog) _ w.heap.size _ 131 _ _ _ HS.out Tryz.underlying131 rfl (by kernel_rfl)
  refine bodyPost_ret (v := .agg #[.bool x0, .string x1, .string x2, .string x3, .string x4, .string x5, .string x6]) ?_ rfl ⟨rfl, HRz.out, HTz.out⟩
  simp [results, Tryz.results77, asAddr, hl]

def rarg (l0 : List UInt8) (b0 : Bool) : Arg4 × List UInt8 × Bool :=
  let r1 := rtxt l0 b0
  let r2 := rlong r1.2.1 r1.2.2
  let r3 := rlong r2.2.1 r2.2.2
  let r4 := rtxt r3.2.1 r3.2.2
  (⟨r1.1, r2.1, r3.1, r4.1⟩, r4.2)

set_option maxRecDepth 100000 in
set_option maxHeartbeats 1000000 in
theorem rarg_any2 (B : Nat) (w : World) (g : Nat) (l0 : List UInt8) (d : Int) (b0 : Bool) (h : RAt B w g l0 d b0) (hB : B ≤ w.heap.size) :
    Calls Tryz.prog 81 #[.pointer (some ⟨g, 0, none⟩)] w (RPost B w g (rarg l0 b0).2.1 d (rarg l0 b0).2.2 (.agg #[.string (rarg l0 b0).1.name, .int .i64 (rarg l0 b0).1.kind, .int .i64 (rarg l0 b0).1.n, .string (rarg l0 b0).1.s])) := by
  have hg := h.lt
  have hba : Below w.heap.size w (w.alloc (.cells #[.string ⟨#[]⟩, .int .i64 0, .int .i64 0, .string ⟨#[]⟩] 141)) := (Below.refl _ _).alloc (Nat.le_refl _) _
  have HR := Lib.hid (h.below hba hB)
  have HT := Lib.hid ((Touch.refl w [g]).alloc (.cells #[.string ⟨#[]⟩, .int .i64 0, .int .i64 0, .string ⟨#[]⟩] 141))
  have HX := Lib.hid (show (w.alloc (.cells #[.string ⟨#[]⟩, .int .i64 0, .int .i64 0, .string ⟨#[]⟩] 141)).heap[w.heap.size]? = some (.cells #[.string ⟨#[]⟩, .int .i64 0, .int .i64 0, .string ⟨#[]⟩] 141 (0, 0)) from heap_alloc_new _ _)
  have hne : w.heap.size ≠ g := by omega
  have hnm : w.heap.size ∉ [g] := by simp; omega
  unfold rarg
  have C1 := fun W (h : RAt B W g l0 d b0) => rtext_any B W g l0 d b0 h
  generalize rtxt l0 b0 = r1 at *
  obtain ⟨x1, l1, b1⟩ := r1
  dsimp only at *
  have C2 := fun W (h : RAt B W g l1 d b1) => rwhole_any2 B W g l1 d b1 h
  generalize rlong l1 b1 = r2 at *
  obtain ⟨x2, l2, b2⟩ := r2
  dsimp only at *
  have C3 := fun W (h : RAt B W g l2 d b2) => rlong_any B W g l2 d b2 h
  generalize rlong l2 b2 = r3 at *
  obtain ⟨x3, l3, b3⟩ := r3
  dsimp only at *
  have C4 := fun W (h : RAt B W g l3 d b3) => rtext_any B W g l3 d b3 h
  generalize rtxt l3 b3 = r4 at *
  obtain ⟨x4, l4, b4⟩ := r4
  dsimp only at *
  have HC1 := Lib.hid C1
  have HC2 := Lib.hid C2
  have HC3 := Lib.hid C3
  have HC4 := Lib.hid C4
  clear h hba C1 C2 C3 C4
  go_enter Tryz.func81, Tryz.ntmps81
  go_upto_region 1 with fail
  generalize w.alloc (.cells #[.string ⟨#[]⟩, .int .i64 0, .int .i64 0, .string ⟨#[]⟩] 141) = w0 at *
  go_wp2_with (go_at_call 37; go_must (refine (HC1.out _ HR.out).mono ?_))
  rintro e w1 ⟨rfl, hr, ht⟩
  have HR := Lib.hid hr
  have HX := Lib.hid (ht.keep HX.out hnm)
  have HT := Lib.hid (HT.out.same ht)
  clear hr ht
  go_wp2_with (go_at_call 36; go_must (refine (HC2.out _ HR.out).mono ?_))
  rintro e w2 ⟨rfl, hr, ht⟩
  have HR := Lib.hid hr
  have HX := Lib.hid (ht.keep HX.out hnm)
  have HT := Lib.hid (HT.out.same ht)
  clear hr ht
  go_wp2_with (go_at_call 97; go_must (refine (HC3.out _ HR.out).mono ?_))
  rintro e w3 ⟨rfl, hr, ht⟩
  have HR := Lib.hid hr
  have HX := Lib.hid (ht.keep HX.out hnm)
  have HT := Lib.hid (HT.out.same ht)
  clear hr ht
  go_wp2_with (go_at_call 37; go_must (refine (HC4.out _ HR.out).mono ?_))
  rintro e w4 ⟨rfl, hr, ht⟩
  have HR := Lib.hid hr
  have HX := Lib.hid (ht.keep HX.out hnm)
  have HT := Lib.hid (HT.out.same ht)
  clear hr ht
  have c0 := Lib.cell_of_heap HX.out 0
  have c1 := Lib.cell_of_heap HX.out 1
  have c2 := Lib.cell_of_heap HX.out 2
  have c3 := Lib.cell_of_heap HX.out 3
  have f0 := Lib.frozen_of_heap HX.out
  simp at c0 c1 c2 c3
  have hlt : w.heap.size < w4.heap.size := (Array.getElem?_eq_some_iff.1 HX.out).1
  have s0 := HX.out
  have s1 := heap_setCell_same _ _ 0 _ _ (.string x1) s0
  have s2 := heap_setCell_same _ _ 1 _ _ (.int .i64 x2) s1
  have s3 := heap_setCell_same _ _ 2 _ _ (.int .i64 x3) s2
  have s4 := heap_setCell_same _ _ 3 _ _ (.string x4) s3
  simp at s4
  have HS := Lib.hid s4
  have HRz := Lib.hid (RAt.set (RAt.set (RAt.set (RAt.set HR.out hne hB 0 (.string x1)) hne hB 1 (.int .i64 x2)) hne hB 2 (.int .i64 x3)) hne hB 3 (.string x4))
  have HTz := Lib.hid (Touch.setCell (Touch.setCell (Touch.setCell (Touch.setCell HT.out (p := ⟨w.heap.size, 0, none⟩) (.inr (Nat.le_refl _)) (.string x1)) (p := ⟨w.heap.size, 1, none⟩) (.inr (Nat.le_refl _)) (.int .i64 x2)) (p := ⟨w.heap.size, 2, none⟩) (.inr (Nat.le_refl _)) (.int .i64 x3)) (p := ⟨w.heap.size, 3, none⟩) (.inr (Nat.le_refl _)) (.string x4))
  clear s0 s1 s2 s3 s4
  go_wp2
  have hl := run_loadVar_row (P := Tryz.prog) _ w.heap.size _ 141 _ _ _ HS.out Tryz.underlying141 rfl (by kernel_rfl)
  refine bodyPost_ret (v := .agg #[.string x1, .int .i64 x2, .int .i64 x3, .string x4]) ?_ rfl ⟨rfl, HRz.out, HTz.out⟩
  simp [results, Tryz.results81, asAddr, hl]

end Go.Proofs.YtdonibkkdhokpaaGreat
