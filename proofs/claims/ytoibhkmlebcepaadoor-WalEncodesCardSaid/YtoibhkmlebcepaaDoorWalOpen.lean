/- A commit that came in. -/
import Derived.Test.YtoibhkmlebcepaaDoorSliceOpen
import Derived.Test.YtoibhkmlebcepaaDoorWalMath
import Derived.ProofKit
import Derived.ShutString
import Derived.ChangeOld
import Derived.Lib.SmallJoins
import Derived.Deep.Strs
namespace Go.Proofs.YtoibhkmlebcepaaDoor
open Go Go.RowKit Go.Joins Go.WideShapes Go.ChangeShapes Go.ChangeAt Go.Deep

section
variable {H : Type} {enc : TypeId × Value → H} {w : World} {base : Nat} {spare : Nat → Bool} {held : Bool}

theorem one_string {n : Nat} {c : Value} {y : DataW H × List MemPlace} (h : DataW.trod enc Tryd.prog w base spare held n 9 [c] = some y) : ∃ s : ByteArray, c = .string s ∧ s.size ≤ maxLen := by
  obtain ⟨s, e, _, hs⟩ := DataW.trod_string Tryd.underlying9 h
  simp only [List.cons.injEq, and_true] at e
  exact ⟨s, e, hs⟩

theorem one_bool {n : Nat} {c : Value} {y : DataW H × List MemPlace} (h : DataW.trod enc Tryd.prog w base spare held n 4 [c] = some y) : ∃ b : Bool, c = .bool b := by
  obtain ⟨b, e, _⟩ := DataW.trod_bool Tryd.underlying4 h
  simp only [List.cons.injEq, and_true] at e
  exact ⟨b, e⟩

theorem one_u64 {n : Nat} {c : Value} {y : DataW H × List MemPlace} (h : DataW.trod enc Tryd.prog w base spare held n 22 [c] = some y) : ∃ m : Nat, c = .int .u64 (m : Int) ∧ m < 18446744073709551616 := by
  obtain ⟨k, e, _, hw⟩ := DataW.trod_int Tryd.underlying22 h
  simp only [List.cons.injEq, and_true] at e
  have bd : 0 ≤ k ∧ k ≤ 18446744073709551615 := by simpa [Lit.wf, IntKind.min, IntKind.max, IntKind.signed, IntKind.bits] using hw
  obtain ⟨m, rfl⟩ := Int.eq_ofNat_of_zero_le bd.1
  exact ⟨m, e, by omega⟩

theorem commit_open {r : Reach} {b0 : Nat} {v : Value} {d : DataW H} {p : List MemPlace} (hv : Value.okWide Tryd.prog w r b0 25 v) (h : DataW.Trod enc Tryd.prog w base spare held 25 v d p) :
    ∃ (rev : Nat) (a : Option Addr) (len cap : Nat) (l : List Ent), v = .agg #[.int .u64 (rev : Int), .slice a len cap] ∧ rev < 18446744073709551616 ∧ len ≤ cap ∧ cap ≤ maxLen ∧ l.length = len ∧ (∀ x ∈ l, x.key.size ≤ maxLen) ∧ Reads w 3 (.slice a len cap) len (ecells l) := by
  have : Inhabited Ent := ⟨⟨⟨#[]⟩, 0, false⟩⟩
  obtain ⟨cs, rfl, hsz⟩ := okWide_struct Tryd.underlying25 hv
  have k2 : Tryd.prog.cellsOf 25 = 2 := by kernel_rfl
  have k1 : Tryd.prog.cellsOf 22 = 1 := by kernel_rfl
  have ks : Tryd.prog.cellsOf 23 = 1 := by kernel_rfl
  have kt : Tryd.prog.cellsOf 9 = 1 := by kernel_rfl
  have kb : Tryd.prog.cellsOf 4 = 1 := by kernel_rfl
  obtain ⟨c0, c1, rfl⟩ : ∃ c0 c1, cs = #[c0, c1] := by
    have h2 := hsz.trans k2
    obtain ⟨l⟩ := cs
    match l, h2 with
    | [c0, c1], _ => exact ⟨c0, c1, rfl⟩
  obtain ⟨fuel, hf⟩ := h
  obtain ⟨y0, y1, n, _, _, h0, h1⟩ := trod_struct2 Tryd.underlying25 hf
  rw [k1] at h0
  rw [ks] at h1
  simp [Value.cells] at h0 h1
  obtain ⟨rev, rfl, hrev⟩ := one_u64 h0
  obtain ⟨a, len, cap, l, rfl, hl, hm, hn, hq, hr⟩ := slice_rows_of ecell (fun x => x.key.size ≤ maxLen) Tryd.underlying23 (by kernel_rfl) (by decide) ecell_length (fun n cs y hl ht => by
    obtain ⟨y0, y1, y2, m, _, _, h0, h1, h2⟩ := trod_struct3 Tryd.underlying48 ht
    match cs, hl with
    | [d0, d1, d2], _ =>
      rw [kt] at h0
      rw [k1] at h1
      rw [kb] at h2
      simp at h0 h1 h2
      obtain ⟨s, rfl, hs⟩ := one_string h0
      obtain ⟨m, rfl, _⟩ := one_u64 h1
      obtain ⟨b, rfl⟩ := one_bool h2
      exact ⟨⟨s, m, b⟩, rfl, hs⟩) h1
  exact ⟨rev, a, len, cap, l, rfl, hrev, hl, hm, hn, hq, hr⟩
end
end Go.Proofs.YtoibhkmlebcepaaDoor
