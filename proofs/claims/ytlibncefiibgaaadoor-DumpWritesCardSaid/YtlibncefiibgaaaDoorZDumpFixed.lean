/- dump.Write of nothing; the law's fixed calls. -/
import Derived.Test.YtlibncefiibgaaaDoorZDumpNil
namespace Go.Proofs.YtlibncefiibgaaaDoor
open Go Go.RowKit

def zeroB : ByteArray := ⟨#[100, 117, 109, 112, 32, 49, 10, 101, 110, 100, 32, 48, 10]⟩

theorem builder_below {T e : TypeId} {B b : Nat} {bs : List Value} {w w' : World} (h : Lib.IsBuilder T e B b bs w) (hb : Below w.heap.size w w') : Lib.IsBuilder T e B b bs w' := by
  rcases h with ⟨h1, v, h2, h3, h4⟩ | ⟨h1, v, h2, h3, h4⟩
  · exact .inl ⟨h1, v, (hb.block b (Array.getElem?_eq_some_iff.1 h2).1).trans h2, owns_below h3 hb, h4⟩
  · exact .inr ⟨h1, v, (hb.block b (Array.getElem?_eq_some_iff.1 h2).1).trans h2, owns_below h3 hb, h4⟩

theorem endB0 : endB 0 = ⟨#[101, 110, 100, 32, 48]⟩ := by
  unfold endB
  rw [dec_small (by decide)]
  rfl

theorem zero_list : zeroB.data.toList = (([] ++ headB.data.toList ++ [10]) ++ (endB 0).data.toList ++ [10]) := by
  rw [endB0]
  rfl

theorem read_zero : readD 1 [] zeroB.data.toList = .ok [] := by
  rw [readD_more (ts' := []) (by decide) (by unfold takeD; rw [if_pos rfl, if_pos (by decide +kernel)])]
  rw [readD_done (by decide) (by unfold takeD; rw [if_neg (by decide), if_pos (by rw [show ([] : List Six).length = 0 from rfl, endB0]; decide +kernel)])]
  rw [if_pos (by decide)]

theorem read_none0 : readD 1 [] [] = .error (1, 7) := readD_none (by decide)

set_option maxRecDepth 100000 in
set_option maxHeartbeats 2000000 in
theorem write_nil (w : World) (hp : Pow10 w) : Calls Tryd.prog 7 #[.slice none 0 0] w (GivesVal w (.string zeroB)) := by
  have hmf : ∀ (fn : Fn) (first cap : Array Value) (w : World), (Instr.makeFunc fn first cap).run Tryd.prog w = .ok (.func fn first cap) w := fun _ _ _ _ => rfl
  have hen : ∀ (args : Array Value) (w : World), (callFunc 14 args).run Tryd.prog w = .ok (.enter 14 args) w := fun _ _ => by kernel_rfl
  have HC := Lib.hid clone_nil
  have HD := Lib.hid delete_nil
  have HO := Lib.hid once_nil
  have HP := Lib.hid hp
  have hb0 : Below w.heap.size w (w.alloc (.cells #[.pointer none, .slice none 0 0] 43)) := (Below.refl _ _).alloc (Nat.le_refl _) _
  have hbl : Lib.IsBuilder 43 5 w.heap.size w.heap.size (bcells []) (w.alloc (.cells #[.pointer none, .slice none 0 0] 43)) :=
    Or.inl ⟨Nat.le_refl _, .slice none 0 0, heap_alloc_new w _, World.ownsRow_nil _ _ _ _, by simp [Value.ownBlock]⟩
  have HB0 := Lib.hid hb0
  have HBl := Lib.hid hbl
  have hz := zero_list
  have HZ := Lib.hid hz
  clear hz
  clear hp hb0 hbl
  go_enter Tryd.func7, Tryd.ntmps7
  go_wp2_with (go_at_call 17; go_must (refine (HC.out _).mono ?_))
  rintro e w1 ⟨rfl, rfl⟩
  go_wp2_with (go_at_call 16; go_must (refine (HD.out _ _).mono ?_))
  rintro e w1 ⟨rfl, rfl⟩
  go_wp2_with (go_at_call 20; go_must (refine (HO.out _ _).mono ?_))
  rintro e w1 ⟨rfl, rfl⟩
  generalize w.alloc (.cells #[.pointer none, .slice none 0 0] 43) = w1 at *
  go_wp2_with (go_at_call 14; go_must (refine (line_any w.heap.size w.heap.size [] ⟨#[100, 117, 109, 112, 32, 49]⟩ w1 HBl.out (by decide) (by decide) HB0.out.size).mono ?_))
  rintro e w2 ⟨rfl, h2, b2⟩
  have HBl2 := Lib.hid h2
  have HB2 := Lib.hid (HB0.out.trans b2)
  have HE := Lib.hid (end_any w2 0 (by decide) (HP.out.below HB2.out))
  have hez : (endB 0).size ≤ 1000000000 := by rw [endB0]; decide
  obtain ⟨eb, heb⟩ : ∃ eb, endB 0 = eb := ⟨_, rfl⟩
  rw [heb] at HZ HE hez
  clear h2 b2 HBl HB0 HC HD HO heb
  go_wp2
  go_loop [20] (fun v => v = .int .i64 0) (fun _ => 0)
  case atStart => rfl
  case round =>
    subst hrel
    go_wp2_with (go_at_call 23; go_must (refine HE.out.mono ?_))
    rintro e w3 ⟨rfl, b3⟩
    have hb3 : Lib.IsBuilder 43 5 w.heap.size w.heap.size (bcells [100, 117, 109, 112, 32, 49, 10]) w3 := builder_below HBl2.out b3
    have HBl3 := Lib.hid hb3
    have HB3 := Lib.hid (HB2.out.trans (b3.mono HB2.out.size))
    clear b3 hb3
    go_wp2_with (go_at_call 14; go_must (refine (line_any w.heap.size w.heap.size _ eb w3 HBl3.out (by decide) hez HB3.out.size).mono ?_))
    rintro e w4 ⟨rfl, h4, b4⟩
    have HBl4 := Lib.hid h4
    have HB4 := Lib.hid (HB3.out.trans b4)
    clear h4 b4
    go_wp2_with (go_at_call 24; go_must (refine (Tryd.Builder_String_any _ _ _ _ HBl4.out HB4.out.size).mono ?_))
    rintro e w5 ⟨rfl, b5⟩
    have HB5 := Lib.hid (HB4.out.trans b5)
    clear b5
    go_wp2
    go_ret
    refine ⟨?_, HB5.out⟩
    have hf : (ByteArray.mk ([100, 117, 109, 112, 32, 49, 10] ++ eb.data.toList ++ [10]).toArray) = zeroB := by
      have h := HZ.out
      apply ByteArray.ext
      apply Array.ext'
      exact h.symm
    rw [← hf]
    rfl
end Go.Proofs.YtlibncefiibgaaaDoor
