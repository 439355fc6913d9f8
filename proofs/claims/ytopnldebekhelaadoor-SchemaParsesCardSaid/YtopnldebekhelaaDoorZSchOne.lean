/- The parser: brackets, and what stands in a place of its own. -/
import Derived.Test.YtopnldebekhelaaDoorZSchName
namespace Go.Proofs.YtopnldebekhelaaDoor
open Go Go.RowKit

/-- A rule that stands already where a call's result is. -/
theorem row_here {w wr : World} {g : Nat} {T : List ByteArray} {d : Int} {R : Pr} (hT : Touch w wr [g]) {x : RuE} (hat : ruEAt (fun b => w.heap.size + 1 ≤ b) wr x) (hP : PrRes wr g T d x.tree R) :
    RuPost w g T d R (.returned (.agg #[.int .i64 x.h.kind, .string x.h.a, .string x.h.b, .slice x.a x.ps.length x.cap])) wr :=
  ⟨x, rfl, ruE_keep.mono _ _ _ _ (fun b _ hb => by omega) hat, hT, hP⟩

def ruNil : RuE := ⟨⟨0, cNone, cNone⟩, [], none, 0⟩
def ruLeaf (k : Int) (a b : ByteArray) : RuE := ⟨⟨k, a, b⟩, [], none, 0⟩
theorem ruLeaf_at (k : Int) (a b : ByteArray) (ok : Nat → Prop) (w : World) : ruEAt ok w (ruLeaf k a b) := ⟨Nat.le_refl _, Nat.zero_le _, by show TrsAt ruHd ok 4 w none 0 []; rw [TrsAt]; trivial⟩
theorem ruLeaf_tree (k : Int) (a b : ByteArray) : (ruLeaf k a b).tree = leafR k a b := rfl
theorem ruLeaf_wt (k : Int) (a b : ByteArray) : (ruLeaf k a b).tree.wt = a.size + b.size + 8 := by rw [ruLeaf_tree]; unfold leafR; rw [wt_mk, wtL_nil]

/-- What brackets answer. -/
def brF (n : Nat) (T : List ByteArray) : Pr := match inF n T with
  | none => none
  | some (t, U) => if U.headD cNone = cShut then some (t, U.tail) else none

theorem brEnd {n : Nat} (hok : StepOk (inF n)) {w3 : World} {g : Nat} {T : List ByteArray} {D : Int} (hD : 0 ≤ D ∧ D ≤ 8) {t : Tr RuH} (hp : PrRes w3 g T (D + 1) t (inF n T)) :
    ∃ T' d' bad, PAt w3 g T' d' bad ∧ (T'.headD cNone = cShut → ∀ W, PAt W g T'.tail (wrap64 (d' - 1)) bad → PrRes W g T D t (brF n T)) ∧ (T'.headD cNone ≠ cShut → ∀ W, PAt W g T' (wrap64 (d' - 1)) true → PrRes W g T D t (brF n T)) := by
  unfold brF
  cases hi : inF n T with
  | none =>
    rw [hi] at hp
    obtain ⟨h1, T', d', h2⟩ := hp
    exact ⟨T', d', true, h2, fun _ W hW => ⟨h1, _, _, hW⟩, fun _ W hW => ⟨h1, _, _, hW⟩⟩
  | some x =>
    obtain ⟨u, U⟩ := x
    rw [hi] at hp
    have h0 := hok _ _ _ hi
    have hwr : wrap64 (D + 1 - 1) = D := by unfold wrap64; omega
    refine ⟨U, D + 1, false, hp.2, fun he W hW => ?_, fun he W hW => ?_⟩
    · dsimp only
      rw [if_pos he]
      rw [hwr] at hW
      exact ⟨hp.1, hW⟩
    · dsimp only
      rw [if_neg he]
      refine ⟨by rw [hp.1]; omega, _, _, hW⟩

set_option maxRecDepth 100000 in
set_option maxHeartbeats 4000000 in
theorem pbrackets_any (n : Nat) (hn : n ≤ 8) (hok : StepOk (inF n)) 
    (hit : 0 < n → ∀ (W : World) (g : Nat) (T : List ByteArray), PAt W g T (8 - n + 1) false → wtT T ≤ 600000 → Calls Tryd.prog 44 #[.pointer (some ⟨g, 0, none⟩)] W (RuPost W g T (8 - n + 1) (inF n T)))
    (w : World) (g : Nat) (T : List ByteArray) (h : PAt w g T (8 - n) false) (hT : wtT T ≤ 600000) :
    Calls Tryd.prog 78 #[.pointer (some ⟨g, 0, none⟩)] w (RuPost w g T (8 - n) (brF n T)) := by
  obtain ⟨R, hR⟩ : ∃ R, brF n T = R := ⟨_, rfl⟩
  rw [hR]
  have hg := h.lt
  obtain ⟨D, hD⟩ : ∃ D : Int, (8 : Int) - n = D := ⟨_, rfl⟩
  rw [hD] at h hit ⊢
  have hD8 : 0 ≤ D ∧ D ≤ 8 := by omega
  obtain ⟨w1, hw1⟩ : ∃ W, W = w.alloc (.cells #[.int .i64 0, .string ⟨#[]⟩, .string ⟨#[]⟩, .slice none 0 0] 42) := ⟨_, rfl⟩
  have s1 : w1.heap.size = w.heap.size + 1 := by rw [hw1]; simp
  have t1 : Touch w w1 [g] := by rw [hw1]; exact (Touch.refl w [g]).alloc _
  have n1 : w1.heap[w.heap.size]? = some (.cells #[.int .i64 0, .string ⟨#[]⟩, .string ⟨#[]⟩, .slice none 0 0] 42 (0, 0)) := by rw [hw1]; exact heap_alloc_new w _
  have p1 : PAt w1 g T D false := by rw [hw1]; exact h.below ((Below.refl _ _).alloc (Nat.le_refl _) _)
  have d1 := depthB p1
  have f1 := p1.frozen
  have hwr : IntKind.i64.wrap (D + 1) = D + 1 := by rw [IntKind.wrap_i64]; omega
  have p2 := p1.setDepth (D + 1)
  have t2 := t1.setCell (p := ⟨g, 2, none⟩) (.inl (by simp)) (.int .i64 (D + 1))
  have n2 : (w1.setCell ⟨g, 2, none⟩ (.int .i64 (D + 1))).heap[w.heap.size]? = _ := (heap_setCell_other w1 ⟨g, 2, none⟩ w.heap.size (.int .i64 (D + 1)) (by show w.heap.size ≠ g; omega)).trans n1
  have s2 : (w1.setCell ⟨g, 2, none⟩ (.int .i64 (D + 1))).heap.size = w.heap.size + 1 := by simp [World.setCell, s1]
  have HW1 := Lib.hid hw1
  clear hw1 h t1 n1
  go_enter Tryd.func78, Tryd.ntmps78
  go_upto_region 1 with fail
  rw [← HW1.out]
  clear HW1
  go_upto_region 2 with fail
  generalize w1.setCell ⟨g, 2, none⟩ (.int .i64 (D + 1)) = w2 at *
  have d2 := depthB p2
  have b3 := badB p2
  have f2 := p2.frozen
  clear d1 f1 p1 s1
  by_cases h0 : n = 0
  · have hgt : (8 : Int) < D + 1 := by omega
    have HP := Lib.hid (p2.setBad)
    have HT := Lib.hid (t2.setCell (p := ⟨g, 3, none⟩) (.inl (by simp)) (.bool true))
    have hn3 := (heap_setCell_other w2 ⟨g, 3, none⟩ w.heap.size (.bool true) (by show w.heap.size ≠ g; omega)).trans n2
    have hR0 : R = none := by rw [← hR]; subst h0; rfl
    subst hR0
    obtain ⟨hf1, hf2⟩ := row_ret (cs := _) rfl hn3 HT.out hg (x := ruNil) (ruLeaf_at 0 cNone cNone _ _) (T := T) (d := D) (R := none) ⟨by rw [show ruNil.tree.wt = 8 from ruLeaf_wt 0 cNone cNone]; omega, _, _, HP.out⟩ _ rfl
    have HF1 := Lib.hid hf1
    have HF2 := Lib.hid hf2
    have e0 := Lib.cell_of_heap hn3 0; have e1 := Lib.cell_of_heap hn3 1; have e2 := Lib.cell_of_heap hn3 2; have e3 := Lib.cell_of_heap hn3 3
    have fz := Lib.frozen_of_heap hn3
    simp at e0 e1 e2 e3
    clear hf1 hf2 hn3 n2 t2 p2 hit hR HT HP
    go_wp2
    exact bodyPost_ret (ret_rule Tryd.results78 rfl HF1.out) rfl HF2.out
  · have hgt : ¬ (8 : Int) < D + 1 := by omega
    have HC := Lib.hid (hit (by omega) w2 g T p2 hT)
    have HT := Lib.hid t2
    have HN := Lib.hid n2
    have HOk := Lib.hid hok
    have HRR := Lib.hid hR
    clear hit p2 t2 n2 hok hR b3 f2
    go_wp2_with (go_at_call 44; go_must (refine HC.out.mono ?_))
    rintro e w3 ⟨x, rfl, hat, ht3, hp3⟩
    have hs3 := ht3.size
    have HAt := Lib.hid hat
    have HT3 := Lib.hid (HT.out.same ht3)
    have HN3 := Lib.hid (ht3.keep HN.out (by simp; omega))
    obtain ⟨T', d', bad, hpa, hyes, hno⟩ := brEnd HOk.out hD8 hp3
    have HPa := Lib.hid hpa
    have HYes := Lib.hid hyes
    have HNo := Lib.hid hno
    clear hat ht3 hp3 hpa hyes hno HC HT HN HOk
    go_upto_region 6 with fail
    obtain ⟨w4, hw4⟩ : ∃ W, W = w3.alloc (.cells #[.int .i64 x.h.kind, .string x.h.a, .string x.h.b, .slice x.a x.ps.length x.cap] 42) := ⟨_, rfl⟩
    rw [← hw4]
    have hb4 : Below w3.heap.size w3 w4 := by rw [hw4]; exact (Below.refl _ _).alloc (Nat.le_refl _) _
    have HX4 := Lib.hid (show w4.heap[w3.heap.size]? = some (.cells #[.int .i64 x.h.kind, .string x.h.a, .string x.h.b, .slice x.a x.ps.length x.cap] 42 (0, 0)) by rw [hw4]; exact heap_alloc_new w3 _)
    have hs4 : w4.heap.size = w3.heap.size + 1 := by rw [hw4]; simp
    have HP4 := Lib.hid (HPa.out.below hb4)
    have HT4 := Lib.hid (HT3.out.same (Touch.of_below hb4 [g]))
    have HN4 := Lib.hid ((hb4.block _ (by omega)).trans HN3.out)
    have HAt4 := Lib.hid (ruE_keep.keep _ _ _ _ (Keeps.of_below_size hb4) HAt.out)
    have HK := Lib.hid (take_any w4 g T' d' bad ⟨#[41]⟩ HP4.out)
    have hxN : w.heap.size < w3.heap.size := by omega
    clear hw4 hb4 HPa HT3 HN3 HAt
    by_cases hc : T'.headD cNone = cShut
    · rw [if_pos (show T'.headD cNone = ⟨#[41]⟩ from hc), decide_eq_true (show T'.headD cNone = ⟨#[41]⟩ from hc)] at HK
      have HY := Lib.hid (HYes.out hc)
      clear HYes HNo hc
      go_wp2_with (go_at_call 43; go_must (refine HK.out.mono ?_))
      rintro e w5 ⟨rfl, p5, t5⟩
      have d5 := depthB p5
      have f5 := p5.frozen
      have hP6 := p5.setDepth (wrap64 (d' - 1))
      have hk6 : Touch w4 (w5.setCell ⟨g, 2, none⟩ (.int .i64 (wrap64 (d' - 1)))) [g] := t5.setCell (.inl (by simp)) _
      have HPR := Lib.hid (HY.out _ hP6)
      have HAt6 := Lib.hid (ruE_keep.keep _ _ (w5.setCell ⟨g, 2, none⟩ (.int .i64 (wrap64 (d' - 1)))) _ ⟨hk6.size, fun b hb hl => hk6.block b hl (by simp; omega)⟩ (ruE_keep.mono _ (fun b => w.heap.size + 1 ≤ b) _ _ (fun b _ hb => by omega) HAt4.out))
      have hn6 := hk6.keep HN4.out (by simp; omega)
      have hx6 := hk6.keep HX4.out (by simp; omega)
      obtain ⟨hf1, hf2⟩ := row_ret (cs := _) rfl hn6 (HT4.out.same hk6) hg HAt6.out HPR.out _ rfl
      rw [HRR.out] at hf2
      have HF1 := Lib.hid hf1
      have HF2 := Lib.hid hf2
      have HHN := Lib.hid hn6
      have HHX := Lib.hid hx6
      clear hf1 hf2 HPR HAt6 HAt4 HN4 HX4 HT4 HY HK p5 t5 hP6 hk6 hn6 hx6 HP4
      go_upto_region 9 with fail
      generalize w5.setCell ⟨g, 2, none⟩ (.int .i64 (wrap64 (d' - 1))) = w6 at *
      have e0 := Lib.cell_of_heap HHN.out 0; have e1 := Lib.cell_of_heap HHN.out 1; have e2 := Lib.cell_of_heap HHN.out 2; have e3 := Lib.cell_of_heap HHN.out 3
      have fz := Lib.frozen_of_heap HHN.out
      have x0 := Lib.cell_of_heap HHX.out 0; have x1 := Lib.cell_of_heap HHX.out 1; have x2 := Lib.cell_of_heap HHX.out 2; have x3 := Lib.cell_of_heap HHX.out 3
      simp at e0 e1 e2 e3 x0 x1 x2 x3
      clear HHN HHX d5 f5
      go_wp2
      exact bodyPost_ret (ret_rule Tryd.results78 rfl HF1.out) rfl HF2.out
    · rw [if_neg (show ¬ T'.headD cNone = ⟨#[41]⟩ from hc), decide_eq_false (show ¬ T'.headD cNone = ⟨#[41]⟩ from hc)] at HK
      have HY := Lib.hid (HNo.out hc)
      clear HYes HNo hc
      go_wp2_with (go_at_call 43; go_must (refine HK.out.mono ?_))
      rintro e w5a ⟨rfl, p5a, t5a⟩
      have b5 := badB p5a
      have f5a := p5a.frozen
      have p5 := p5a.setBad
      have t5 := t5a.setCell (p := ⟨g, 3, none⟩) (.inl (by simp)) (.bool true)
      clear p5a t5a
      go_upto_region 8 with fail
      generalize w5a.setCell ⟨g, 3, none⟩ (.bool true) = w5 at *
      clear b5 f5a
      have d5 := depthB p5
      have f5 := p5.frozen
      have hP6 := p5.setDepth (wrap64 (d' - 1))
      have hk6 : Touch w4 (w5.setCell ⟨g, 2, none⟩ (.int .i64 (wrap64 (d' - 1)))) [g] := t5.setCell (.inl (by simp)) _
      have HPR := Lib.hid (HY.out _ hP6)
      have HAt6 := Lib.hid (ruE_keep.keep _ _ (w5.setCell ⟨g, 2, none⟩ (.int .i64 (wrap64 (d' - 1)))) _ ⟨hk6.size, fun b hb hl => hk6.block b hl (by simp; omega)⟩ (ruE_keep.mono _ (fun b => w.heap.size + 1 ≤ b) _ _ (fun b _ hb => by omega) HAt4.out))
      have hn6 := hk6.keep HN4.out (by simp; omega)
      have hx6 := hk6.keep HX4.out (by simp; omega)
      obtain ⟨hf1, hf2⟩ := row_ret (cs := _) rfl hn6 (HT4.out.same hk6) hg HAt6.out HPR.out _ rfl
      rw [HRR.out] at hf2
      have HF1 := Lib.hid hf1
      have HF2 := Lib.hid hf2
      have HHN := Lib.hid hn6
      have HHX := Lib.hid hx6
      clear hf1 hf2 HPR HAt6 HAt4 HN4 HX4 HT4 HY HK p5 t5 hP6 hk6 hn6 hx6 HP4
      go_upto_region 9 with fail
      generalize w5.setCell ⟨g, 2, none⟩ (.int .i64 (wrap64 (d' - 1))) = w6 at *
      have e0 := Lib.cell_of_heap HHN.out 0; have e1 := Lib.cell_of_heap HHN.out 1; have e2 := Lib.cell_of_heap HHN.out 2; have e3 := Lib.cell_of_heap HHN.out 3
      have fz := Lib.frozen_of_heap HHN.out
      have x0 := Lib.cell_of_heap HHX.out 0; have x1 := Lib.cell_of_heap HHX.out 1; have x2 := Lib.cell_of_heap HHX.out 2; have x3 := Lib.cell_of_heap HHX.out 3
      simp at e0 e1 e2 e3 x0 x1 x2 x3
      clear HHN HHX d5 f5
      go_wp2
      exact bodyPost_ret (ret_rule Tryd.results78 rfl HF1.out) rfl HF2.out
end Go.Proofs.YtopnldebekhelaaDoor
