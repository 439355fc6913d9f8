/- A text that came in: its size is within the reach. -/
import Derived.Test.YthjimldojdhccaaZSizedOpen
namespace Go.Proofs.Ythjimldojdhccaa
open Go Go.RowKit Go.ChangeShapes Go.WideShapes Go.Deep

theorem wok_text {H : Type} {t : TypeId} {s : ByteArray} (h : WOk t (DataW.lit (H := H) (.string s.data.toList))) : s.size ≤ 140737488351232 := by
  unfold WOk at h
  rw [DataW.weights] at h
  simp only [List.all_cons, List.all_nil, Bool.and_true, decide_eq_true_eq] at h
  have : s.data.toList.length = s.size := Array.length_toList
  unfold reachBytes at h
  omega
end Go.Proofs.Ythjimldojdhccaa
