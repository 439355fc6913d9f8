/- wire.GetResponse of a response that has an ID alone (written by gen_wireget0.py). -/
import Derived.Test.YtdonibkkdhokpaaGreatZWireGet0
namespace Go.Proofs.YtdonibkkdhokpaaGreat
open Go Go.RowKit

def GotR (w : World) (i : Nat) (e : Ending) (w' : World) : Prop := e = .returned (.tuple #[.agg #[.int .u64 (i : Int), .int .i64 0, .int .u64 0, .string ⟨#[]⟩, .slice none 0 0, .slice none 0 0, .slice none 0 0, .slice none 0 0, .slice none 0 0, .int .i64 0, .string ⟨#[]⟩, .string ⟨#[]⟩, .string ⟨#[]⟩, .slice none 0 0, .slice none 0 0], .int .i64 0]) ∧ Below w.heap.size w w'

set_option maxRecDepth 100000 in
set_option maxHeartbeats 8000000 in
theorem getresponse0 (w : World) (B : Nat) (u : Value) (i : Nat) (hi : i < 18446744073709551616) (hx : Sl B w u ([112, 49] ++ enc i ++ [0, 0, 0, 0, 0, 0, 0, 0, 0, 0, 0, 0, 0, 0])) (hB : B ≤ w.heap.size) :
    Calls Tryz.prog 8 #[u] w (GotR w i) := by
  have hmf : ∀ (fn : Fn) (first cap : Array Value) (w : World), (Instr.makeFunc fn first cap).run Tryz.prog w = .ok (.func fn first cap) w := fun _ _ _ _ => rfl
  have hba : Below w.heap.size w (w.alloc (.cells #[.int .u64 0, .int .i64 0, .int .u64 0, .string ⟨#[]⟩, .slice none 0 0, .slice none 0 0, .slice none 0 0, .slice none 0 0, .slice none 0 0, .int .i64 0, .string ⟨#[]⟩, .string ⟨#[]⟩, .string ⟨#[]⟩, .slice none 0 0, .slice none 0 0] 36)) := (Below.refl _ _).alloc (Nat.le_refl _) _
  have HX := Lib.hid (show (w.alloc (.cells #[.int .u64 0, .int .i64 0, .int .u64 0, .string ⟨#[]⟩, .slice none 0 0, .slice none 0 0, .slice none 0 0, .slice none 0 0, .slice none 0 0, .int .i64 0, .string ⟨#[]⟩, .string ⟨#[]⟩, .string ⟨#[]⟩, .slice none 0 0, .slice none 0 0] 36)).heap[w.heap.size]? = some (.cells #[.int .u64 0, .int .i64 0, .int .u64 0, .string ⟨#[]⟩, .slice none 0 0, .slice none 0 0, .slice none 0 0, .slice none 0 0, .slice none 0 0, .int .i64 0, .string ⟨#[]⟩, .string ⟨#[]⟩, .string ⟨#[]⟩, .slice none 0 0, .slice none 0 0] 36 (0, 0)) from heap_alloc_new _ _)
  have hBg := begin_any (w.alloc (.cells #[.int .u64 0, .int .i64 0, .int .u64 0, .string ⟨#[]⟩, .slice none 0 0, .slice none 0 0, .slice none 0 0, .slice none 0 0, .slice none 0 0, .int .i64 0, .string ⟨#[]⟩, .string ⟨#[]⟩, .string ⟨#[]⟩, .slice none 0 0, .slice none 0 0] 36)) B u ([112, 49] ++ enc i ++ [0, 0, 0, 0, 0, 0, 0, 0, 0, 0, 0, 0, 0, 0]) ⟨#[112, 49]⟩ rfl (hx.below (hba.mono hB)) (Nat.le_trans hB hba.size)
  have hst : starts2 (⟨#[112, 49]⟩ : ByteArray).data.toList ([112, 49] ++ enc i ++ [0, 0, 0, 0, 0, 0, 0, 0, 0, 0, 0, 0, 0, 0]) = true := by
    unfold starts2
    simp
  rw [hst, if_pos rfl, show (!true) = false from rfl, show ([112, 49] ++ enc i ++ [0, 0, 0, 0, 0, 0, 0, 0, 0, 0, 0, 0, 0, 0] : List UInt8).drop 2 = enc i ++ [0, 0, 0, 0, 0, 0, 0, 0, 0, 0, 0, 0, 0, 0] by simp] at hBg
  have HBg := Lib.hid hBg
  have HB0 := Lib.hid hba
  have hs0 : (w.alloc (.cells #[.int .u64 0, .int .i64 0, .int .u64 0, .string ⟨#[]⟩, .slice none 0 0, .slice none 0 0, .slice none 0 0, .slice none 0 0, .slice none 0 0, .int .i64 0, .string ⟨#[]⟩, .string ⟨#[]⟩, .string ⟨#[]⟩, .slice none 0 0, .slice none 0 0] 36)).heap.size = w.heap.size + 1 := by simp
  clear hba hBg hx hst
  go_enter Tryz.func8, Tryz.ntmps8
  go_upto_region 1 with fail
  generalize (w.alloc (.cells #[.int .u64 0, .int .i64 0, .int .u64 0, .string ⟨#[]⟩, .slice none 0 0, .slice none 0 0, .slice none 0 0, .slice none 0 0, .slice none 0 0, .int .i64 0, .string ⟨#[]⟩, .string ⟨#[]⟩, .string ⟨#[]⟩, .slice none 0 0, .slice none 0 0] 36)) = w0 at *
  go_wp2_with (go_at_call 34; go_must (refine HBg.out.mono ?_))
  rintro e wb ⟨g, rfl, hr, hb, hgs⟩
  have hne : w.heap.size ≠ g := by omega
  have hnm : w.heap.size ∉ [g] := by simp; omega
  have HR := Lib.hid hr
  have HX := Lib.hid ((hb.block w.heap.size (by omega)).trans HX.out)
  have HT := Lib.hid (Touch.refl wb [g])
  have hbw : Below w.heap.size w wb := HB0.out.trans (hb.mono (by omega))
  have hBw : B ≤ wb.heap.size := Nat.le_trans hB hbw.size
  have hgw : g < wb.heap.size := hr.lt
  have HBw := Lib.hid hbw
  clear hr hb HB0 HBg
  have HC := Lib.hid (show Calls _ _ _ _ (RPost B wb g [0, 0, 0, 0, 0, 0, 0, 0, 0, 0, 0, 0, 0, 0] 0 false (.int .u64 (i : Int))) from (by have := rnumber_any B wb g (enc i ++ [0, 0, 0, 0, 0, 0, 0, 0, 0, 0, 0, 0, 0, 0]) 0 false HR.out; rwa [rnum_enc hi] at this))
  go_wp2_with (go_at_call 35; go_must (refine HC.out.mono ?_))
  rintro e w1 ⟨rfl, hr, ht⟩
  have HR := Lib.hid hr
  have HX := Lib.hid (ht.keep HX.out hnm)
  have HT := Lib.hid (HT.out.same ht)
  clear hr ht HC
  have HC := Lib.hid (rwhole0 B w1 g [0, 0, 0, 0, 0, 0, 0, 0, 0, 0, 0, 0, 0] 0 HR.out)
  go_wp2_with (go_at_call 36; go_must (refine HC.out.mono ?_))
  rintro e w2 ⟨rfl, hr, ht⟩
  have HR := Lib.hid hr
  have HX := Lib.hid (ht.keep HX.out hnm)
  have HT := Lib.hid (HT.out.same ht)
  clear hr ht HC
  have HC := Lib.hid (show Calls _ _ _ _ (RPost B w2 g [0, 0, 0, 0, 0, 0, 0, 0, 0, 0, 0, 0] 0 false (.int .u64 0)) from (by have := rnumber_any B w2 g (0 :: [0, 0, 0, 0, 0, 0, 0, 0, 0, 0, 0, 0]) 0 false HR.out; rwa [rnum_zero] at this))
  go_wp2_with (go_at_call 35; go_must (refine HC.out.mono ?_))
  rintro e w3 ⟨rfl, hr, ht⟩
  have HR := Lib.hid hr
  have HX := Lib.hid (ht.keep HX.out hnm)
  have HT := Lib.hid (HT.out.same ht)
  clear hr ht HC
  have HC := Lib.hid (rtext0 B w3 g [0, 0, 0, 0, 0, 0, 0, 0, 0, 0, 0] 0 HR.out)
  go_wp2_with (go_at_call 37; go_must (refine HC.out.mono ?_))
  rintro e w4 ⟨rfl, hr, ht⟩
  have HR := Lib.hid hr
  have HX := Lib.hid (ht.keep HX.out hnm)
  have HT := Lib.hid (HT.out.same ht)
  clear hr ht HC
  have HC := Lib.hid (getFlags_nil B w4 g [0, 0, 0, 0, 0, 0, 0, 0, 0, 0] 0 (.func (.func 39) #[.pointer (some ⟨g, 0, none⟩)] #[]) HR.out)
  go_wp2_with (go_at_call 38; go_must (refine HC.out.mono ?_))
  rintro e w5 ⟨rfl, hr, ht⟩
  have HR := Lib.hid hr
  have HX := Lib.hid (ht.keep HX.out hnm)
  have HT := Lib.hid (HT.out.same ht)
  clear hr ht HC
  have HC := Lib.hid (getTuples_nil B w5 g [0, 0, 0, 0, 0, 0, 0, 0, 0] 0 (.func (.func 41) #[.pointer (some ⟨g, 0, none⟩)] #[]) HR.out)
  go_wp2_with (go_at_call 40; go_must (refine HC.out.mono ?_))
  rintro e w6 ⟨rfl, hr, ht⟩
  have HR := Lib.hid hr
  have HX := Lib.hid (ht.keep HX.out hnm)
  have HT := Lib.hid (HT.out.same ht)
  clear hr ht HC
  have HC := Lib.hid (getObjs_nil B w6 g [0, 0, 0, 0, 0, 0, 0, 0] 0 (.func (.func 43) #[.pointer (some ⟨g, 0, none⟩)] #[]) HR.out)
  go_wp2_with (go_at_call 42; go_must (refine HC.out.mono ?_))
  rintro e w7 ⟨rfl, hr, ht⟩
  have HR := Lib.hid hr
  have HX := Lib.hid (ht.keep HX.out hnm)
  have HT := Lib.hid (HT.out.same ht)
  clear hr ht HC
  have HC := Lib.hid (getEvents_nil B w7 g [0, 0, 0, 0, 0, 0, 0] 0 (.func (.func 45) #[.pointer (some ⟨g, 0, none⟩)] #[]) HR.out)
  go_wp2_with (go_at_call 44; go_must (refine HC.out.mono ?_))
  rintro e w8 ⟨rfl, hr, ht⟩
  have HR := Lib.hid hr
  have HX := Lib.hid (ht.keep HX.out hnm)
  have HT := Lib.hid (HT.out.same ht)
  clear hr ht HC
  have HC := Lib.hid (getSteps_nil B w8 g [0, 0, 0, 0, 0, 0] 0 (.func (.func 47) #[.pointer (some ⟨g, 0, none⟩)] #[]) HR.out)
  go_wp2_with (go_at_call 46; go_must (refine HC.out.mono ?_))
  rintro e w9 ⟨rfl, hr, ht⟩
  have HR := Lib.hid hr
  have HX := Lib.hid (ht.keep HX.out hnm)
  have HT := Lib.hid (HT.out.same ht)
  clear hr ht HC
  have HC := Lib.hid (rnode0 w9 B g [] 0 HR.out (Nat.le_trans hBw HT.out.size) (by omega))
  go_wp2_with (go_at_call 48; go_must (refine HC.out.mono ?_))
  rintro e w10 ⟨rfl, hr, ht⟩
  have HR := Lib.hid hr
  have HX := Lib.hid (ht.keep HX.out hnm)
  have HT := Lib.hid (HT.out.same ht)
  clear hr ht HC
  have HN := Lib.hid (heap_alloc_new w10 (.cells #[.int .u64 (i : Int), .int .i64 0, .int .u64 0, .string ⟨#[]⟩, .slice none 0 0, .slice none 0 0, .slice none 0 0, .slice none 0 0, .slice none 0 0, .int .i64 0, .string ⟨#[]⟩, .string ⟨#[]⟩, .string ⟨#[]⟩, .slice none 0 0, .slice none 0 0] 36))
  have HBs := Lib.hid (show Below w10.heap.size w10 (w10.alloc (.cells #[.int .u64 (i : Int), .int .i64 0, .int .u64 0, .string ⟨#[]⟩, .slice none 0 0, .slice none 0 0, .slice none 0 0, .slice none 0 0, .slice none 0 0, .int .i64 0, .string ⟨#[]⟩, .string ⟨#[]⟩, .string ⟨#[]⟩, .slice none 0 0, .slice none 0 0] 36)) from (Below.refl _ _).alloc (Nat.le_refl _) _)
  obtain ⟨N, hNe⟩ : ∃ N, w10.heap.size = N := ⟨_, rfl⟩
  have hRw : w.heap.size < w10.heap.size := (Array.getElem?_eq_some_iff.1 HX.out).1
  have hgW : g < w10.heap.size := HR.out.lt
  have hNw := Lib.hid hNe
  clear hNe
  go_upto_region 3 with fail
  rw [hNw.out] at hRw hgW HN
  rw [hNw.out]
  have HB14 := Lib.hid HBs.out
  generalize (w10.alloc (.cells #[.int .u64 (i : Int), .int .i64 0, .int .u64 0, .string ⟨#[]⟩, .slice none 0 0, .slice none 0 0, .slice none 0 0, .slice none 0 0, .slice none 0 0, .int .i64 0, .string ⟨#[]⟩, .string ⟨#[]⟩, .string ⟨#[]⟩, .slice none 0 0, .slice none 0 0] 36)) = ws at *
  have HBs := Lib.hid (show Below N w10 ws by rw [← hNw.out]; exact HB14.out)
  clear HB14
  have HR := Lib.hid (HR.out.below (by rw [hNw.out]; exact HBs.out) (Nat.le_trans hBw HT.out.size))
  have HX := Lib.hid ((HBs.out.block w.heap.size hRw).trans HX.out)
  have hRb : w.heap.size < wb.heap.size := by omega
  have HBf := Lib.hid ((HBw.out.trans ((HT.out.below (B := w.heap.size) (Nat.le_of_lt hRb) (fun x hx => by simp at hx; omega)))).trans (HBs.out.mono (Nat.le_of_lt hRw)))
  clear HT HBs HBw
  have HE := Lib.hid (show Calls _ _ _ _ (EndedPost ws true) from ended_any B ws g [] 0 false HR.out)
  clear HR
  have HS := Lib.hid (setRow_heap ws w.heap.size #[.int .u64 0, .int .i64 0, .int .u64 0, .string ⟨#[]⟩, .slice none 0 0, .slice none 0 0, .slice none 0 0, .slice none 0 0, .slice none 0 0, .int .i64 0, .string ⟨#[]⟩, .string ⟨#[]⟩, .string ⟨#[]⟩, .slice none 0 0, .slice none 0 0] #[.int .u64 (i : Int), .int .i64 0, .int .u64 0, .string ⟨#[]⟩, .slice none 0 0, .slice none 0 0, .slice none 0 0, .slice none 0 0, .slice none 0 0, .int .i64 0, .string ⟨#[]⟩, .string ⟨#[]⟩, .string ⟨#[]⟩, .slice none 0 0, .slice none 0 0] 36 (0, 0) HX.out)
  have HBz := Lib.hid (below_setRow HBf.out (Nat.le_refl _) #[.int .u64 (i : Int), .int .i64 0, .int .u64 0, .string ⟨#[]⟩, .slice none 0 0, .slice none 0 0, .slice none 0 0, .slice none 0 0, .slice none 0 0, .int .i64 0, .string ⟨#[]⟩, .string ⟨#[]⟩, .string ⟨#[]⟩, .slice none 0 0, .slice none 0 0])
  go_wp2_with (go_at_call 49; go_must (refine HE.out.mono ?_))
  rintro e wx ⟨rfl, rfl⟩
  go_upto_region 5 with fail
  go_step
  go_step
  refine wp_load_row 36 _ rfl N rfl 36 #[.int .u64 (i : Int), .int .i64 0, .int .u64 0, .string ⟨#[]⟩, .slice none 0 0, .slice none 0 0, .slice none 0 0, .slice none 0 0, .slice none 0 0, .int .i64 0, .string ⟨#[]⟩, .string ⟨#[]⟩, .string ⟨#[]⟩, .slice none 0 0, .slice none 0 0] (0, 0) _ HN.out Tryz.underlying36 rfl (by kernel_rfl) ?_
  go_step
  go_step
  refine wp_store_row 36 _ _ rfl w.heap.size #[.int .u64 (i : Int), .int .i64 0, .int .u64 0, .string ⟨#[]⟩, .slice none 0 0, .slice none 0 0, .slice none 0 0, .slice none 0 0, .slice none 0 0, .int .i64 0, .string ⟨#[]⟩, .string ⟨#[]⟩, .string ⟨#[]⟩, .slice none 0 0, .slice none 0 0] rfl rfl 36 #[.int .u64 0, .int .i64 0, .int .u64 0, .string ⟨#[]⟩, .slice none 0 0, .slice none 0 0, .slice none 0 0, .slice none 0 0, .slice none 0 0, .int .i64 0, .string ⟨#[]⟩, .string ⟨#[]⟩, .string ⟨#[]⟩, .slice none 0 0, .slice none 0 0] HX.out (by kernel_rfl) rfl (by kernel_rfl) ?_
  go_wp2
  have hl := run_loadVar_row (P := Tryz.prog) _ w.heap.size _ 36 _ _ _ HS.out Tryz.underlying36 rfl (by kernel_rfl)
  refine bodyPost_ret (v := .tuple #[.agg #[.int .u64 (i : Int), .int .i64 0, .int .u64 0, .string ⟨#[]⟩, .slice none 0 0, .slice none 0 0, .slice none 0 0, .slice none 0 0, .slice none 0 0, .int .i64 0, .string ⟨#[]⟩, .string ⟨#[]⟩, .string ⟨#[]⟩, .slice none 0 0, .slice none 0 0], .int .i64 0]) ?_ rfl ⟨rfl, HBz.out⟩
  simp [results, Tryz.results8, asAddr, hl]
end Go.Proofs.YtdonibkkdhokpaaGreat
