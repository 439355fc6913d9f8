/- The reference's SameEdit of an edit and itself. -/
import Derived.Test.YthjimldojdhccaaZEditFew
namespace Go.Proofs.Ythjimldojdhccaa
open Go Go.RowKit Go.Lib

def SeRel (W0 : World) (n : Nat) (iv : Value) (wr : World) : Prop := ∃ k : Nat, iv = .int .i64 (k : Int) ∧ k ≤ n ∧ Below W0.heap.size W0 wr

set_option maxRecDepth 100000 in
set_option maxHeartbeats 2000000 in
theorem sameE_self (w : World) (e : Ed) (a1 a2 b1 b2 : Option Addr) (n1 c1 n2 c2 d1 d2 : Nat) (h1 : TRows w (.slice a1 n1 c1) e.add) (h2 : Reads w 1 (.slice a2 n2 c2) n2 (ncells e.drop)) (h3 : TRows w (.slice b1 n1 d1) e.add) (h4 : Reads w 1 (.slice b2 n2 d2) n2 (ncells e.drop)) :
    Calls Try.prog 13 #[ev e a1 a2 n1 c1 n2 c2, ev e b1 b2 n1 d1 n2 d2] w (GivesBool w true) := by
  have hS := fun W (hb : Below w.heap.size w W) => sameT_any W a1 b1 n1 c1 n1 d1 e.add e.add (h1.below hb) (h3.below hb)
  simp only [decide_true] at hS
  obtain ⟨ld1, ld2, ld3⟩ := num_len h2
  obtain ⟨_, le2, le3⟩ := num_len h4
  obtain ⟨add, drop, ef, eh, el, en⟩ := e
  simp only [ev] at *
  have HS := Lib.hid hS
  have H2 := Lib.hid h2
  have H4 := Lib.hid h4
  have LD := Lib.hid ld1
  clear hS h1 h2 h3 h4 ld1
  obtain ⟨x1, x2, x3, x4⟩ := two_boxes w #[.slice a1 n1 c1, .slice a2 n2 c2, .int .u64 (ef : Int), .int .u64 (eh : Int), .int .i64 el, .int .i64 en] #[.slice b1 n1 d1, .slice b2 n2 d2, .int .u64 (ef : Int), .int .u64 (eh : Int), .int .i64 el, .int .i64 en] 26 26
  have X1 := Lib.hid x1
  have X2 := Lib.hid x2
  have X3 := Lib.hid x3
  have X4 := Lib.hid x4
  clear x1 x2 x3 x4
  go_enter Try.func13, Try.ntmps13
  go_wp2_with (go_at_call 33; go_must (refine (HS.out _ X3.out).mono ?_))
  rintro e w1 ⟨rfl, bw1⟩
  generalize (w.alloc (.cells #[.slice a1 n1 c1, .slice a2 n2 c2, .int .u64 (ef : Int), .int .u64 (eh : Int), .int .i64 el, .int .i64 en] 26)).alloc (.cells #[.slice b1 n1 d1, .slice b2 n2 d2, .int .u64 (ef : Int), .int .u64 (eh : Int), .int .i64 el, .int .i64 en] 26) = W2 at *
  have HB := Lib.hid bw1
  have hx1 := (bw1.block _ (by rw [X4.out]; omega)).trans X1.out
  have hx2 := (bw1.block _ (by rw [X4.out]; omega)).trans X2.out
  have p0 := Lib.cell_of_heap hx1 0
  have p1 := Lib.cell_of_heap hx1 1
  have p2 := Lib.cell_of_heap hx1 2
  have p3 := Lib.cell_of_heap hx1 3
  have p4 := Lib.cell_of_heap hx1 4
  have p5 := Lib.cell_of_heap hx1 5
  have q0 := Lib.cell_of_heap hx2 0
  have q1 := Lib.cell_of_heap hx2 1
  have q2 := Lib.cell_of_heap hx2 2
  have q3 := Lib.cell_of_heap hx2 3
  have q4 := Lib.cell_of_heap hx2 4
  have q5 := Lib.cell_of_heap hx2 5
  simp at p0 p1 p2 p3 p4 p5 q0 q1 q2 q3 q4 q5
  have hz := bw1.size
  rw [X4.out] at hz
  have lt0 : w.heap.size < w1.heap.size := by omega
  have lt1 : w.heap.size + 1 < w1.heap.size := by omega
  clear bw1
  have HX1 := Lib.hid hx1
  have HX2 := Lib.hid hx2
  clear hx1 hx2
  go_wp2
  clear p0 p1 p2 p3 p4 p5 q0 q1 q2 q3 q4 q5 lt0 lt1 hz
  obtain ⟨wo, hwo⟩ : ∃ wo, w1 = wo := ⟨_, rfl⟩
  subst hwo
  go_loopw [52] (fun iv wr => SeRel w1 n2 iv wr) (fun iv _ => n2 - (intOf iv).toNat)
  case atStart => exact ⟨0, rfl, Nat.zero_le _, Below.refl _ _⟩
  case round =>
    obtain ⟨k, rfl, hk, hb⟩ := hrel
    have hx1 := (hb.block _ (Array.getElem?_eq_some_iff.1 HX1.out).1).trans HX1.out
    have hx2 := (hb.block _ (Array.getElem?_eq_some_iff.1 HX2.out).1).trans HX2.out
    have p1 := Lib.cell_of_heap hx1 1
    have q1 := Lib.cell_of_heap hx2 1
    simp at p1 q1
    have lt0 : w.heap.size < wr.heap.size := (Array.getElem?_eq_some_iff.1 hx1).1
    have lt1 : w.heap.size + 1 < wr.heap.size := (Array.getElem?_eq_some_iff.1 hx2).1
    have HBr := Lib.hid hb
    have hbw : Below w.heap.size w wr := X3.out.trans ((HB.out.mono (by rw [X4.out]; omega)).trans (hb.mono (by have := HB.out.size; rw [X4.out] at this; omega)))
    have HBw := Lib.hid hbw
    by_cases hlt : k < n2
    · have hkI : (k : Int) < n2 := by omega
      obtain ⟨x, hx⟩ : ∃ x, drop[k]? = some x := ⟨drop[k]'(by rw [LD.out]; exact hlt), List.getElem?_eq_getElem _⟩
      obtain ⟨g, off, rfl, hg, r0⟩ := num_cell (H2.out.below' hbw) hx
      obtain ⟨g', off', rfl, hg', s0⟩ := num_cell (H4.out.below' hbw) hx
      clear hx hb hbw hx1 hx2
      go_wp2
      go_quiet (fail)
      go_wp2
      exact ⟨⟨k + 1, by go_num, by omega, by first | exact HBr.out | exact HBr.out.trans (below_drewN (Below.refl _ _) _)⟩, by simp [intOf]; omega⟩
    · obtain rfl : k = n2 := by omega
      clear hb hbw hx1 hx2
      go_wp2
      go_ret
      exact ⟨rfl, HBw.out⟩
end Go.Proofs.Ythjimldojdhccaa
