/- The reference's calls on a fresh disk: they end, and touch it alone. -/
import Derived.Test.YtbhapbioibhalaaDiskRefE
import Derived.Test.YtbhapbioibhalaaDrawnLast
namespace Go.Proofs.Ytbhapbioibhalaa
open Go Go.RowKit Go.Maps

theorem infoRA : (Try.prog.info? 86).map (fun i => (i.zero, i.size, i.bytes)) = some (some (.agg #[.string ⟨#[]⟩, .string ⟨#[]⟩, .int .i64 0]), 3, 40) := by kernel_rfl
theorem infoRF : (Try.prog.info? 69).map (fun i => (i.zero, i.size, i.bytes)) = some (some (.agg #[.slice none 0 0, .int .i64 0]), 2, 32) := by kernel_rfl

/-- A fresh disk. -/
def R0 (W : World) (r : Nat) : Prop := W.heap[r]? = some (.cells #[.int .i64 0, .bool false, .int .i64 (-1), .slice none 0 0, .slice none 0 0, .slice none 0 0, .slice none 0 0] 61 (0, 0))
theorem R0.below {W W' : World} {r : Nat} (h : R0 W r) (b : Below W.heap.size W W') : R0 W' r := (b.block r (Array.getElem?_eq_some_iff.1 h).1).trans h
theorem R0.lt {W : World} {r : Nat} (h : R0 W r) : r < W.heap.size := (Array.getElem?_eq_some_iff.1 h).1

def REnd (W : World) (r : Nat) (e : Ending) (W' : World) : Prop := (∃ z, e = .returned (.int .i64 z)) ∧ Touch W W' [r]
def RTrue (W : World) (e : Ending) (W' : World) : Prop := e = .returned (.bool true) ∧ W' = W

set_option maxRecDepth 100000 in
theorem rburn0 {W : World} {r : Nat} (h : R0 W r) : Calls Try.prog 49 #[.pointer (some ⟨r, 0, none⟩)] W (RTrue W) := by
  have c2 := Lib.cell_of_heap h 2
  have hlt := h.lt
  simp at c2
  clear h
  go_enter Try.func49, Try.ntmps49
  go_wp2
  go_ret
  exact ⟨rfl, rfl⟩

def ActP (W : World) (r : Nat) (e : Ending) (W' : World) : Prop :=
  e = .returned (.int .i64 0) ∧ Touch W W' [r] ∧ ∃ a1 n1 c1 a2 n2 c2, W'.heap[r]? = some (.cells #[.int .i64 0, .bool false, .int .i64 (-1), .slice none 0 0, .slice a1 n1 c1, .slice none 0 0, .slice a2 n2 c2] 61 (0, 0))

set_option maxRecDepth 100000 in
set_option maxHeartbeats 2000000 in
theorem ract0 {W : World} {r : Nat} (h : R0 W r) (f t : ByteArray) (g : Nat) : Calls Try.prog 48 #[.pointer (some ⟨r, 0, none⟩), .agg #[.string f, .string t, .int .i64 (g : Int)]] W (ActP W r) := by
  obtain ⟨i0, hi, hz0, hz1, hz2⟩ := info_parts infoRA
  have bX := (Below.refl W.heap.size W).alloc (Nat.le_refl _) (.cells #[.string f, .string t, .int .i64 (g : Int)] 86)
  have hX := h.below bX
  have HBu := Lib.hid (rburn0 hX)
  have hxx : (W.alloc (.cells #[.string f, .string t, .int .i64 (g : Int)] 86)).heap[W.heap.size]? = some (.cells #[.string f, .string t, .int .i64 (g : Int)] 86 (0, 0)) := heap_alloc_new W _
  have HXX := Lib.hid hxx
  have HX := Lib.hid hX
  have HBX := Lib.hid bX
  have hrl := h.lt
  clear h bX hX hxx
  go_enter Try.func48, Try.ntmps48
  go_wp2_with (go_at_call 49; go_must (refine HBu.out.mono ?_))
  rintro e w1 ⟨rfl, rfl⟩
  go_upto_region 3 with fail
  generalize W.alloc (.cells #[.string f, .string t, .int .i64 (g : Int)] 86) = w2 at *
  have c6 := Lib.cell_of_heap HX.out 6
  have x0 := Lib.cell_of_heap HXX.out 0
  have x1 := Lib.cell_of_heap HXX.out 1
  have x2 := Lib.cell_of_heap HXX.out 2
  simp at c6 x0 x1 x2
  have hr2 : r < w2.heap.size := HX.out.lt
  have hx2 : W.heap.size < w2.heap.size := (Array.getElem?_eq_some_iff.1 HXX.out).1
  have hbd : Below w2.heap.size w2 (w2.alloc (.cells #[.string f, .string t, .int .i64 (g : Int)] 86)).drew := ((Below.refl w2.heap.size w2).alloc (Nat.le_refl _) _).drew
  have hnew : (w2.alloc (.cells #[.string f, .string t, .int .i64 (g : Int)] 86)).drew.heap[w2.heap.size]? = some (.cells [Value.string f, .string t, .int .i64 (g : Int)].toArray 86 (0, 0)) := heap_alloc_new w2 _
  have hod : OwnAt (w2.alloc (.cells #[.string f, .string t, .int .i64 (g : Int)] 86)).drew W.heap.size 86 3 (.slice none 0 0) 0 [] := ⟨rfl, .inl ⟨rfl, rfl⟩⟩
  have hcr := (hbd.block r hr2).trans HX.out
  have hcx := (hbd.block _ hx2).trans HXX.out
  have hsz : W.heap.size ≤ (w2.alloc (.cells #[.string f, .string t, .int .i64 (g : Int)] 86)).drew.heap.size := Nat.le_trans HBX.out.size hbd.size
  have HBd := Lib.hid hbd
  have HCr := Lib.hid hcr
  have HCx := Lib.hid hcx
  clear hbd hcr hcx
  go_region_law (first
    | (refine step_append_at rfl _ _ 59 rfl i0 _ 40 Try.underlying59 hi hz0 hz1 hz2 rfl rfl hod _ 1 [.string f, .string t, .int .i64 (g : Int)] rfl hnew rfl (fun u hu => by simp at hu; rcases hu with rfl | rfl | rfl <;> rfl) (by unfold maxLen; omega) (by omega) hsz ?_
       intro a9 cap9 w9 how9 hgr9 hbl9
       have hb9 := (hgr9.block r (Array.getElem?_eq_some_iff.1 HCr.out).1 (fun e => by cases e)).trans HCr.out
       have hy9 := (hgr9.block W.heap.size (Array.getElem?_eq_some_iff.1 HCx.out).1 (fun e => by cases e)).trans HCx.out
       have z6 := Lib.cell_of_heap hb9 6
       have zf := Lib.frozen_of_heap hb9
       simp at z6
       have hlt9 : r < w9.heap.size := (Array.getElem?_eq_some_iff.1 hb9).1))
  all_goals
    have t9 : Touch W w9 [r] := (Touch.of_below HBX.out [r]).same ⟨hgr9.os.trans HBd.out.os, hgr9.tape.trans HBd.out.tape, hgr9.output.trans HBd.out.output, Nat.le_trans HBd.out.size hgr9.size, fun k hk _ => (hgr9.block k (Nat.lt_of_lt_of_le hk HBd.out.size) (fun e => by cases e)).trans (HBd.out.block k hk)⟩
    have hc3 : (w9.setCell ⟨r, 6, none⟩ (.slice a9 (0 + 1) cap9)).heap[r]? = some (.cells #[.int .i64 0, .bool false, .int .i64 (-1), .slice none 0 0, .slice none 0 0, .slice none 0 0, .slice a9 1 cap9] 61 (0, 0)) := by
      rw [heap_setCell_same _ r 6 _ _ _ hb9]
      rfl
    have hx3' : (w9.setCell ⟨r, 6, none⟩ (.slice a9 (0 + 1) cap9)).heap[W.heap.size]? = some (.cells #[.string f, .string t, .int .i64 (g : Int)] 86 (0, 0)) := (Below.heap_setCell _ _ _ _ (fun e => by have e : W.heap.size = r := e; omega)).trans hy9
    have t3 : Touch W (w9.setCell ⟨r, 6, none⟩ (.slice a9 (0 + 1) cap9)) [r] := t9.setCell (.inl List.mem_cons_self) _
    have HC3 := Lib.hid hc3
    have HX3 := Lib.hid hx3'
    have HT3 := Lib.hid t3
    clear t9 hc3 hx3' t3 how9 hgr9 hbl9 hb9 hy9 z6 zf hod
    go_upto_region 4 with fail
    generalize w9.setCell ⟨r, 6, none⟩ (.slice a9 (0 + 1) cap9) = w3 at *
    have y4 := Lib.cell_of_heap HC3.out 4
    have x0 := Lib.cell_of_heap HX3.out 0
    have x1 := Lib.cell_of_heap HX3.out 1
    have x2 := Lib.cell_of_heap HX3.out 2
    simp at y4 x0 x1 x2
    have hr3 : r < w3.heap.size := (Array.getElem?_eq_some_iff.1 HC3.out).1
    have hx3 : W.heap.size < w3.heap.size := (Array.getElem?_eq_some_iff.1 HX3.out).1
    have HDn := Lib.hid (fun w => rdone_any w (.slice none 0 0) [] (f, t, g) ⟨rfl, none, 0, rfl, Nat.le_refl _, Nat.zero_le _, fun j u hj => by simp [ncells] at hj⟩ List.Pairwise.nil (by simp))
    go_region_law (first
      | (go_simp; go_at_call 50; refine (HDn.out _).mono ?_; rintro e w6 ⟨v6, rfl, o6, b6⟩
         obtain ⟨a6, c6, hv6, _, _⟩ := o6.le
         subst hv6
         have b6' : Below w3.heap.size w3 w6 := ⟨b6.os, b6.tape, b6.output, b6.size, b6.block⟩
         have q6 := (b6'.block r hr3).trans HC3.out
         have u4 := Lib.cell_of_heap q6 4
         have uf := Lib.frozen_of_heap q6
         simp at u4
         have hr6 : r < w6.heap.size := (Array.getElem?_eq_some_iff.1 q6).1))
    all_goals
      have HC4 := Lib.hid q6
      have HT4 := Lib.hid (HT3.out.same (Touch.of_below b6' [r]))
      clear b6 b6' q6 u4 uf y4 x0 x1 x2 o6
      go_wp2
      go_ret
      exact ⟨rfl, HT4.out.setCell (.inl List.mem_cons_self) _, a6, _, c6, a9, 1, cap9, by rw [heap_setCell_same _ r 4 _ _ _ HC4.out]; rfl⟩
end Go.Proofs.Ytbhapbioibhalaa
