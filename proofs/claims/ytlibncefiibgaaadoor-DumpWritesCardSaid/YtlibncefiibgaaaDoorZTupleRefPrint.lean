import Derived.Test.YtlibncefiibgaaaDoorZTupleRefCheck
import Derived.Test.YtlibncefiibgaaaDoorMga
namespace Go.Proofs.YtlibncefiibgaaaDoor
open Go Go.RowKit

theorem append_bytes (a b c : ByteArray) : a ++ b ++ c = a ++ (b ++ c) := ByteArray.append_assoc

set_option maxRecDepth 100000 in
set_option maxHeartbeats 1000000 in
theorem refprint_any (w : World) (t : Six) (hs : t.short 1000000) : Calls Tryd.prog 27 #[t.val] w (GivesVal w (.string t.text)) := by
  have hp : t.text = if t.f.size = 0 then t.base else t.base ++ (⟨#[35]⟩ ++ t.f) := rfl
  have hb : t.base = t.a ++ ⟨#[58]⟩ ++ t.b ++ ⟨#[35]⟩ ++ t.c ++ ⟨#[64]⟩ ++ t.d ++ ⟨#[58]⟩ ++ t.e := rfl
  generalize t.text = pr at *
  generalize t.base = ba at *
  obtain ⟨a, b, c, d, e, f⟩ := t
  unfold Six.val at *
  obtain ⟨s1, s2, s3, s4, s5, s6⟩ := hs
  simp only at hp hb s1 s2 s3 s4 s5 s6
  have HP := Lib.hid hp
  have HB := Lib.hid hb
  clear hp hb
  go_enter Tryd.func27, Tryd.ntmps27
  by_cases h0 : f = ⟨#[]⟩
  · subst h0
    go_wp2
    go_ret
    rw [HP.out, HB.out]
    exact ⟨rfl, (Below.refl _ _).alloc (Nat.le_refl _) _⟩
  · have h00 := not_empty h0
    have hf0 : ¬ f.size = 0 := fun h => h0 (size_empty.1 h)
    have HP' := Lib.hid (HP.out.trans (by rw [if_neg hf0]))
    clear hf0 h0
    go_wp2
    go_ret
    rw [HP'.out, HB.out, ← append_bytes]
    exact ⟨rfl, (Below.refl _ _).alloc (Nat.le_refl _) _⟩

end Go.Proofs.YtlibncefiibgaaaDoor
