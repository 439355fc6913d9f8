/- do, of kind 3. -/
import Derived.Test.YtbhapbioibhalaaDiskDoM
namespace Go.Proofs.Ytbhapbioibhalaa
open Go Go.RowKit Go.Maps

set_option maxRecDepth 100000 in
set_option maxHeartbeats 8000000 in
theorem do3_any (W : World) (B d r : Nat) (S : Dk) (κ : Int) (A C : ByteArray) (ba : Option Addr) (m bc : Nat) (l : List UInt8) (N : Int) (hx : DoArgs W B d r S A C ba m bc l) (hκ : 0 ≤ κ ∧ κ ≤ 255) (hk : κ % 9 = 3) :
    Calls Try.prog 12 #[.pointer (some ⟨d, 0, none⟩), .pointer (some ⟨r, 0, none⟩), .agg #[.int .u8 κ, .string A, .string C, .slice ba m bc, .int .i64 N]] W (DoEnd W B d r S (FileS S A (syncE S A) fun f => ⟨f.data, f.data.length⟩)) := by
  have bX := (Below.refl W.heap.size W).alloc (Nat.le_refl _) (.cells #[.int .u8 κ, .string A, .string C, .slice ba m bc, .int .i64 N] 31)
  have hbx : (W.alloc (.cells #[.int .u8 κ, .string A, .string C, .slice ba m bc, .int .i64 N] 31)).heap[W.heap.size]? = some (.cells #[.int .u8 κ, .string A, .string C, .slice ba m bc, .int .i64 N] 31 (0, 0)) := heap_alloc_new W _
  have HBX := Lib.hid bX
  have HXX := Lib.hid hbx
  have HX := Lib.hid hx
  have HP := Lib.hid (fun (w : World) (t : Touch (W.alloc (.cells #[.int .u8 κ, .string A, .string C, .slice ba m bc, .int .i64 N] 31)) w [r]) => (hx.prog bX t).sync)
  have HQ := Lib.hid (fun (w : World) (t : Touch (W.alloc (.cells #[.int .u8 κ, .string A, .string C, .slice ba m bc, .int .i64 N] 31)) w (S.mine d)) => (hx.ref bX t).sync)
  have hxs := hx.fresh
  clear bX hbx hx
  go_enter Try.func12, Try.ntmps12
  go_upto_region 17 with fail
  generalize W.alloc (.cells #[.int .u8 κ, .string A, .string C, .slice ba m bc, .int .i64 N] 31) = w1 at *
  have x1 := Lib.cell_of_heap HXX.out 1
  have x2 := Lib.cell_of_heap HXX.out 2
  have x3 := Lib.cell_of_heap HXX.out 3
  simp at x1 x2 x3
  have hxl : W.heap.size < w1.heap.size := (Array.getElem?_eq_some_iff.1 HXX.out).1
  go_region_law (first
    | (go_simp; go_at_call 22; refine (HP.out _ (by first | exact ⟨t8.os, t8.tape, t8.output, t8.size, t8.block⟩ | exact (Touch.refl _ _).drew | exact Touch.refl _ _)).mono ?_; rintro e w7 ⟨rfl, t7, T, hT, hd7⟩
       have q7 := t7.keep (by first | exact q8 | exact HXX.out) hxs.1
       have u71 := Lib.cell_of_heap q7 1
       have u72 := Lib.cell_of_heap q7 2
       have u73 := Lib.cell_of_heap q7 3
       simp at u71 u72 u73
       have l7 : W.heap.size < w7.heap.size := (Array.getElem?_eq_some_iff.1 q7).1)
    | (go_simp; go_at_call 30; refine (HQ.out _ (by first | exact ⟨t7.os, t7.tape, t7.output, t7.size, t7.block⟩ | exact (Touch.refl _ _).drew | exact Touch.refl _ _)).mono ?_; rintro e w8 ⟨⟨z8, rfl⟩, t8⟩
       have q8 := t8.keep (by first | exact q7 | exact HXX.out) hxs.2
       have u81 := Lib.cell_of_heap q8 1
       have u82 := Lib.cell_of_heap q8 2
       have u83 := Lib.cell_of_heap q8 3
       simp at u81 u82 u83
       have l8 : W.heap.size < w8.heap.size := (Array.getElem?_eq_some_iff.1 q8).1))
  all_goals
    have HE := Lib.hid (HX.out.ends HBX.out (by first | exact .inl ⟨⟨t7.os, t7.tape, t7.output, t7.size, t7.block⟩, t8, rfl⟩ | exact .inr ⟨⟨t8.os, t8.tape, t8.output, t8.size, t8.block⟩, t7, rfl⟩) hd7)
    have HT := Lib.hid hT
    clear hT hd7 t7 t8 q7 q8 x1 x2 x3
    go_wp2
    go_ret
    exact ⟨⟨_, rfl⟩, T, HT.out, HE.out.1, HE.out.2⟩
end Go.Proofs.Ytbhapbioibhalaa
