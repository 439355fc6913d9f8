/- Keys put one after the other. -/
import Derived.Test.YtcglkdmfbnpniaaStrOrd
namespace Go.Proofs.Ytcglkdmfbnpniaa
open Go Go.RowKit

theorem putsAll_ok (l : List ByteArray) : ∀ out, rises out → rises (l.foldl putK out) ∧ (∀ x, x ∈ l.foldl putK out ↔ x ∈ out ∨ x ∈ l) ∧ (l.foldl putK out).length ≤ out.length + l.length := by
  induction l with
  | nil => intro out h; simpa using h
  | cons k t ih =>
    intro out h
    obtain ⟨h1, h2, h3⟩ := ih (putK out k) (putK_rises h)
    refine ⟨h1, fun x => ?_, ?_⟩
    · rw [List.foldl_cons, h2, List.mem_cons]
      constructor
      · rintro (h | h)
        · rcases putK_mem h with h | h
          · exact .inr (.inl h)
          · exact .inl h
        · exact .inr (.inr h)
      · rintro (h | h | h)
        · exact .inl (mem_putK (.inr h))
        · exact .inl (mem_putK (.inl h))
        · exact .inr h
    · have := putK_length out k
      rw [List.foldl_cons, List.length_cons]
      omega

theorem rises_uniq : ∀ {a b : List ByteArray}, rises a → rises b → (∀ x, x ∈ a ↔ x ∈ b) → a = b
  | [], [], _, _, _ => rfl
  | [], y :: t, _, _, h => by have := (h y).2 (by simp); cases this
  | x :: s, [], _, _, h => by have := (h x).1 (by simp); cases this
  | x :: s, y :: t, ha, hb, h => by
    have pa := List.pairwise_cons.1 ha
    have pb := List.pairwise_cons.1 hb
    have he : x = y := by
      by_cases he : x = y
      · exact he
      · have h1 := (h x).1 (by simp)
        have h2 := (h y).2 (by simp)
        rcases List.mem_cons.1 h1 with h1 | h1
        · exact h1
        · rcases List.mem_cons.1 h2 with h2 | h2
          · exact h2.symm
          · have := bl_asymm (pb.1 x h1)
            rw [pa.1 y h2] at this
            cases this
    subst he
    congr 1
    refine rises_uniq pa.2 pb.2 fun z => ⟨fun hz => ?_, fun hz => ?_⟩
    · rcases List.mem_cons.1 ((h z).1 (by simp [hz])) with rfl | hz'
      · have := pa.1 z hz
        rw [bl_irrefl] at this
        cases this
      · exact hz'
    · rcases List.mem_cons.1 ((h z).2 (by simp [hz])) with rfl | hz'
      · have := pb.1 z hz
        rw [bl_irrefl] at this
        cases this
      · exact hz'
end Go.Proofs.Ytcglkdmfbnpniaa
