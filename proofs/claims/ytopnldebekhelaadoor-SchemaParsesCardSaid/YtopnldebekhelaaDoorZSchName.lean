/- The parser: names. -/
import Derived.Test.YtopnldebekhelaaDoorZSchRowN
namespace Go.Proofs.YtopnldebekhelaaDoor
open Go Go.RowKit

theorem PAt.setBad {w : World} {g : Nat} {T : List ByteArray} {d : Int} {bad : Bool} (h : PAt w g T d bad) : PAt (w.setCell ⟨g, 3, none⟩ (.bool true)) g T d true := by
  obtain ⟨R, h1, h2⟩ := h
  refine ⟨R, ?_, h2⟩
  rw [heap_setCell_same _ g 3 _ _ _ h1]
  rfl
theorem PAt.setDepth {w : World} {g : Nat} {T : List ByteArray} {d : Int} {bad : Bool} (h : PAt w g T d bad) (d' : Int) : PAt (w.setCell ⟨g, 2, none⟩ (.int .i64 d')) g T d' bad := by
  obtain ⟨R, h1, h2⟩ := h
  refine ⟨R, ?_, h2⟩
  rw [heap_setCell_same _ g 2 _ _ _ h1]
  rfl
theorem PAt.frozen {w : World} {g : Nat} {T : List ByteArray} {d : Int} {bad : Bool} (h : PAt w g T d bad) : ∀ j, w.frozen? ⟨g, j, none⟩ = false := by
  obtain ⟨R, h1, _⟩ := h
  exact fun j => Lib.frozen_of_heap h1 j

set_option maxRecDepth 100000 in
set_option maxHeartbeats 2000000 in
theorem pname_any (w : World) (g : Nat) (T : List ByteArray) (d : Int) (bad : Bool) (h : PAt w g T d bad) :
    Calls Tryd.prog 79 #[.pointer (some ⟨g, 0, none⟩)] w (PPost w g T.tail d (bad || !isRefB (T.headD cNone)) (.string (T.headD cNone))) := by
  have b1 := signB h
  have hs : (T.headD cNone).size ≤ 65536 := h.endB.choose_spec.2
  obtain ⟨U, hU⟩ : ∃ U, T.tail = U := ⟨_, rfl⟩
  have hN := fun (W : World) (bd : Bool) (hW : PAt W g T d bd) => next_any W g T d bd hW
  rw [hU] at hN ⊢
  have HH := Lib.hid h
  obtain ⟨sg, hsg⟩ : ∃ sg, T.headD cNone = sg := ⟨_, rfl⟩
  rw [hsg] at b1 hs ⊢
  have HN := Lib.hid hN
  have HI := Lib.hid (isref_any w sg (by omega))
  clear hsg hU hN h
  go_enter Tryd.func79, Tryd.ntmps79
  go_wp2_with (go_at_call 25; go_must (refine HI.out.mono ?_))
  rintro e w1 ⟨rfl, hb1⟩
  have hp1 := HH.out.below hb1
  have ht1 := Touch.of_below hb1 [g]
  cases hr : isRefB sg with
  | true =>
    have HP := Lib.hid (HN.out w1 bad hp1)
    have HT := Lib.hid ht1
    clear hp1 ht1 hb1 HN HI HH
    go_wp2_with (go_at_call 41; go_must (refine HP.out.mono ?_))
    rintro e w2 ⟨rfl, p2, t2⟩
    have HT2 := Lib.hid (HT.out.same t2)
    go_wp2
    go_ret
    exact ⟨rfl, by simpa [hr] using p2, HT2.out⟩
  | false =>
    have c3 := badB hp1
    have fz := hp1.frozen
    have HP := Lib.hid (HN.out (w1.setCell ⟨g, 3, none⟩ (.bool true)) true hp1.setBad)
    have HT := Lib.hid (ht1.setCell (p := ⟨g, 3, none⟩) (.inl (by simp)) (.bool true))
    clear hp1 ht1 hb1 HN HI HH
    go_wp2_with (go_at_call 41; go_must (refine HP.out.mono ?_))
    rintro e w2 ⟨rfl, p2, t2⟩
    have HT2 := Lib.hid (HT.out.same t2)
    go_wp2
    go_ret
    exact ⟨rfl, by simpa [hr] using p2, HT2.out⟩
end Go.Proofs.YtopnldebekhelaaDoor
