/- What the library's functions on texts answer. -/
import Derived.Test.YtopnldebekhelaaDoorZSchM
import Derived.Test.YtopnldebekhelaaDoorZShelf
import Derived.Shelf.Strings.SlTrimAscii
namespace Go.Proofs.YtopnldebekhelaaDoor
open Go Go.RowKit

def SameB (w : World) (b : Bool) (e : Ending) (w' : World) : Prop := e = .returned (.bool b) ∧ w = w'
def GivesS (w : World) (s : ByteArray) (e : Ending) (w' : World) : Prop := e = .returned (.string s) ∧ Below w.heap.size w w'

theorem prefix_any (w : World) (s p : ByteArray) : Calls Tryd.prog 16 #[.string s, .string p] w (SameB w (Lib.hasPrefix s.data.toList p.data.toList)) :=
  (Tryd.strings_HasPrefix s p w).mono fun _ _ h => ⟨h.1, h.2.symm⟩

theorem triml_any (w : World) (s : ByteArray) : Calls Tryd.prog 59 #[.string s, .string ⟨#[32, 9]⟩] w (GivesS w (tk (trimL s.data.toList))) :=
  (Any.strings_TrimLeft_laid Tryd.lays161 (by kernel_rfl) s ⟨#[32, 9]⟩ w (by decide) (ascii_of_all (by decide))).mono fun _ _ h => ⟨h.1, h.2⟩

theorem trim_any (w : World) (s : ByteArray) (hs : s.size ≤ 1000000000) : Calls Tryd.prog 15 #[.string s, .string ⟨#[32, 9]⟩] w (GivesS w (tk (trimB s.data.toList))) :=
  (Any.strings_Trim_laid Tryd.lays160 (by kernel_rfl) s ⟨#[32, 9]⟩ w (by omega) (by decide) (ascii_of_all (by decide))).mono fun _ _ h => ⟨h.1, h.2⟩
end Go.Proofs.YtopnldebekhelaaDoor
