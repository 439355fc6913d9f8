import Derived.Test.YtodjgdaaggajcaaBloomMakeWalk
namespace Go.Proofs.Ytodjgdaaggajcaa
open Go Go.RowKit

theorem Reads.none (w : World) (size : Nat) : Reads w size (.slice none 0 0) 0 [] := ⟨by simp, Option.none, 0, rfl, Nat.le_refl _, Nat.zero_le _, fun j u h => by simp at h⟩

theorem make_nil : makeL [] 10 = [0, 0, 0, 0, 0, 0, 0, 0, 6] := by decide +kernel
theorem may_nil : mayL [0, 0, 0, 0, 0, 0, 0, 0, 6] [97] = false := by decide +kernel

set_option maxRecDepth 100000 in
set_option maxHeartbeats 1000000 in
theorem bloom_fixed (w : World) : Calls Try.prog 7 #[] w (SaysTrue w) := by
  have hmake := make_any w (.slice none 0 0) 0 [] 10 (Reads.none w 1) (by decide) (by simp) (by decide)
  rw [show ([] : List ByteArray).map (fun k => k.data.toList) = [] from rfl, make_nil] at hmake
  have Hmake := Lib.hid hmake
  clear hmake
  go_enter Try.func7, Try.ntmps7
  go_wp2_with (go_at_call 9; go_must (refine Hmake.out.mono ?_))
  rintro e w1 ⟨g, rfl, own1, b1⟩
  have r1 := ownsRow.reads own1
  have c8 := r1.bcell 8 (by decide)
  simp at c8
  have R1 := Lib.hid r1
  have hg := (own1.lt g rfl).2
  clear r1 own1
  go_wp2_with (go_at_call 12; go_must (refine (hash_any _ ⟨#[]⟩ (by decide)).mono ?_))
  rintro e w2 ⟨rfl, b2⟩
  have c82 := (b2.cell (p := ⟨g, 8, none⟩) hg).trans c8
  have R2 := Lib.hid (R1.out.below' b2)
  rw [show hashL ((⟨#[]⟩ : ByteArray).data.toList) = 14695981039346656037 from rfl]
  have B2 := Lib.hid b2
  clear c8 b2
  go_wp2_with (go_at_call 10; go_must (refine (may_any _ _ _ _ ⟨#[97]⟩ R2.out (by decide) (by decide)).mono ?_))
  rintro e w3 ⟨rfl, b3⟩
  rw [may_nil]
  go_wp2_with (go_at_call 10; go_must (refine (may_any _ _ 0 [] ⟨#[97]⟩ (Reads.none w3 1) (by decide) (by decide)).mono ?_))
  rintro e w4 ⟨rfl, b4⟩
  rw [show mayL [] [97] = true from rfl]
  have hb : Below w.heap.size w w4 := by
    have h1 := b1.size
    have h2 := B2.out.size
    have h3 := b3.size
    exact ((b1.trans (B2.out.mono h1)).trans (b3.mono (by omega))).trans (b4.mono (by omega))
  go_wp2
  go_ret
  exact ⟨rfl, hb⟩

def fewL (ks : List ByteArray) : Bool := ks.all (fun k => decide (k.size ≤ 300)) && decide (ks.length ≤ 200)

def FewRel (ks : List ByteArray) (c : Value) : Prop := ∃ j : Nat, c = .int .i64 (j : Int) ∧ j ≤ ks.length ∧ (ks.take j).all (fun k => decide (k.size ≤ 300)) = true

def FewPost (w : World) (b : Bool) (e : Ending) (w' : World) : Prop := e = .returned (.bool b) ∧ w = w'

set_option maxRecDepth 100000 in
set_option maxHeartbeats 1000000 in
theorem few_any (w : World) (v : Value) (n : Nat) (ks : List ByteArray) (h : Reads w 1 v n (scells ks)) :
    Calls Try.prog 8 #[v] w (FewPost w (fewL ks)) := by
  obtain ⟨a, cap, rfl, h1, h2⟩ := h.le
  unfold maxLen at h2
  have hl : ks.length = n := by have := h.1; simpa [scells] using this
  have Hl := Lib.hid hl
  have HR := Lib.hid h
  clear h hl
  go_enter Try.func8, Try.ntmps8
  go_wp2
  go_loop [7] (fun c => FewRel ks c) (fun c => n - (intOf c).toNat)
  case atStart => exact ⟨0, rfl, Nat.zero_le _, rfl⟩
  case round =>
    obtain ⟨j, rfl, hj, hall⟩ := hrel
    rw [Hl.out] at hj
    have Hall := Lib.hid hall
    clear hall
    by_cases hlt : j < n
    · obtain ⟨b, off, s, rfl, hs, hbs, hcs⟩ := HR.out.scell j hlt
      have hsucc : (ks.take (j + 1)).all (fun k => decide (k.size ≤ 300)) = ((ks.take j).all (fun k => decide (k.size ≤ 300)) && decide (s.size ≤ 300)) := by
        rw [List.take_add_one, List.all_append]
        simp [hs]
      have Hsucc := Lib.hid hsucc
      have Hs := Lib.hid hs
      clear hsucc hs
      by_cases hs3 : s.size ≤ 300
      · have e3 : ¬ (300 : Int) < s.size := by omega
        go_wp2
        refine ⟨⟨j + 1, by go_num, by rw [Hl.out]; omega, ?_⟩, by simp [intOf]; omega⟩
        rw [Hsucc.out, Hall.out]
        simp [hs3]
      · have e3 : (300 : Int) < s.size := by omega
        have hf : fewL ks = false := by
          unfold fewL
          have : ks.all (fun k => decide (k.size ≤ 300)) = false := by
            rw [List.all_eq_false]
            exact ⟨s, List.mem_of_getElem? Hs.out, by simpa using hs3⟩
          rw [this]; rfl
        have Hf := Lib.hid hf
        clear hf
        go_wp2
        go_ret
        rw [Hf.out]
        exact ⟨rfl, rfl⟩
    · obtain rfl : j = n := by omega
      have hlt' : ¬ ((j : Int) < j) := by omega
      have hall : ks.all (fun k => decide (k.size ≤ 300)) = true := by
        have := Hall.out
        rwa [List.take_of_length_le (by rw [Hl.out]; exact Nat.le_refl _)] at this
      have hf : fewL ks = decide ((j : Int) ≤ 200) := by
        unfold fewL
        rw [hall, Hl.out]
        simp
        omega
      have Hf := Lib.hid hf
      clear hf hall
      go_wp2
      go_ret
      rw [Hf.out]
      exact ⟨rfl, rfl⟩
end Go.Proofs.Ytodjgdaaggajcaa
