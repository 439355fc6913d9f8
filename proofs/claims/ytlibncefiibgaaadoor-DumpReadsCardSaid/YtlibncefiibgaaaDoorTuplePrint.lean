import Derived.Test.YtlibncefiibgaaaDoorTupleCheck
namespace Go.Proofs.YtlibncefiibgaaaDoor
open Go Go.RowKit

def Six.base (t : Six) : ByteArray := t.a ++ ⟨#[58]⟩ ++ t.b ++ ⟨#[35]⟩ ++ t.c ++ ⟨#[64]⟩ ++ t.d ++ ⟨#[58]⟩ ++ t.e
def Six.text (t : Six) : ByteArray := if t.f.size = 0 then t.base else t.base ++ (⟨#[35]⟩ ++ t.f)
def Six.printed (t : Six) : ByteArray := if t.ok then t.text else ⟨#[]⟩

set_option maxRecDepth 100000 in
set_option maxHeartbeats 1000000 in
theorem print_any (w : World) (t : Six) (hs : t.short 1000000) : Calls Tryd.prog 22 #[t.val] w (GivesVal w (.tuple #[.string t.printed, checkV t.ok])) := by
  have hcheck := fun w => check_any w t ⟨by have := hs.1; omega, by have := hs.2.1; omega, by have := hs.2.2.1; omega, by have := hs.2.2.2.1; omega, by have := hs.2.2.2.2.1; omega, by have := hs.2.2.2.2.2; omega⟩
  have HC := Lib.hid hcheck
  clear hcheck
  have HS := Lib.hid hs
  clear hs
  have hp : t.printed = if t.ok then (if t.f.size = 0 then t.base else t.base ++ (⟨#[35]⟩ ++ t.f)) else ⟨#[]⟩ := rfl
  have hb : t.base = t.a ++ ⟨#[58]⟩ ++ t.b ++ ⟨#[35]⟩ ++ t.c ++ ⟨#[64]⟩ ++ t.d ++ ⟨#[58]⟩ ++ t.e := rfl
  generalize t.printed = pr at *
  generalize t.base = ba at *
  generalize t.ok = ok at *
  obtain ⟨a, b, c, d, e, f⟩ := t
  unfold Six.val at *
  simp only at hp hb
  have HP := Lib.hid hp
  have HB := Lib.hid hb
  clear hp hb
  go_enter Tryd.func22, Tryd.ntmps22
  go_wp2_with (go_at_call 19; go_must (refine (HC.out _).mono ?_))
  rintro e1 w1 ⟨rfl, b1⟩
  have b0 : Below w.heap.size w w1 := ((Below.refl _ w).alloc (Nat.le_refl _) _).trans (b1.mono (by simp))
  have hbox := (entryBox (w := w) (w1 := w1) (b1.mono (by simp))).1
  have c0 := hbox 0
  have c1 := hbox 1
  have c2 := hbox 2
  have c3 := hbox 3
  have c4 := hbox 4
  have c5 := hbox 5
  simp at c0 c1 c2 c3 c4 c5
  clear hbox b1
  unfold checkV
  cases ok with
  | false =>
    go_wp2
    go_ret2
    rw [HP.out]
    exact ⟨rfl, b0⟩
  | true =>
    obtain ⟨s1, s2, s3, s4, s5, s6⟩ := HS.out
    simp only at s1 s2 s3 s4 s5 s6
    by_cases h0 : f = ⟨#[]⟩
    · subst h0
      go_wp2
      go_ret2
      rw [HP.out, HB.out]
      exact ⟨rfl, b0⟩
    · have h00 := not_empty h0
      have hf0 : ¬ f.size = 0 := fun h => h0 (size_empty.1 h)
      have HP' := Lib.hid (HP.out.trans (by rw [if_pos rfl, if_neg hf0]))
      clear hf0 h0
      go_wp2
      go_ret2
      rw [HP'.out, HB.out]
      exact ⟨rfl, b0⟩
end Go.Proofs.YtlibncefiibgaaaDoor
