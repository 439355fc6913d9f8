import Derived.Test.YtkcaadkamaogbaaDoorTupleListM
namespace Go.Proofs.YtkcaadkamaogbaaDoor
open Go Go.RowKit

def FewRel (w : World) (ts : List Six) (i : Value) (wr : World) : Prop :=
  ∃ k : Nat, i = .int .i64 (k : Int) ∧ k ≤ ts.length ∧ (ts.take k).all Six.tight = true ∧ Below w.heap.size w wr

def FewIn (t : Six) (i : Value) : Prop := ∃ k : Nat, i = .int .i64 (k : Int) ∧ k ≤ 6 ∧ tightL (t.list.take k) = true

set_option maxRecDepth 100000 in
set_option maxHeartbeats 1000000 in
theorem few_any (w : World) (g n cap : Nat) (ts : List Six) (hl : ts.length = n) (hcap : n ≤ cap) (hc : cap ≤ 1000) (hg : g < w.heap.size) (h : TupsAt w g ts) :
    Calls Tryd.prog 8 #[.slice (some ⟨g, 0, none⟩) n cap] w (GivesBool w (ts.all Six.tight)) := by
  have HL := Lib.hid hl
  have HT := Lib.hid h
  clear h hl
  go_enter Tryd.func8, Tryd.ntmps8
  go_wp2
  go_loopw [9] (fun i wr => FewRel w ts i wr) (fun i _ => n - (intOf i).toNat)
  case atStart => exact ⟨0, rfl, Nat.zero_le _, rfl, Below.refl _ _⟩
  case round =>
    obtain ⟨k, rfl, hk, hall, hb⟩ := hrel
    rw [HL.out] at hk
    by_cases hlt : k < n
    · obtain ⟨t, ht⟩ : ∃ t, ts[k]? = some t := ⟨ts[k]'(by rw [HL.out]; exact hlt), List.getElem?_eq_getElem _⟩
      have hcell : ∀ i s, t.list[i]? = some s → wr.cell? ⟨g, k * 6 + i, none⟩ = some (.string s) := fun i s hi => (hb.cell (p := ⟨g, k * 6 + i, none⟩) hg).trans (HT.out k t ht i s hi)
      have c0 := hcell 0 t.a rfl
      have c1 := hcell 1 t.b rfl
      have c2 := hcell 2 t.c rfl
      have c3 := hcell 3 t.d rfl
      have c4 := hcell 4 t.e rfl
      have c5 := hcell 5 t.f rfl
      rw [Nat.add_zero] at c0
      have hparts := fun w => refparts_any w t
      have HP := Lib.hid hparts
      have hsucc : (ts.take (k + 1)).all Six.tight = ((ts.take k).all Six.tight && t.tight) := by
        rw [List.take_add_one, List.all_append, ht]; simp
      rw [hall] at hsucc
      have hfalse : t.tight = false → ts.all Six.tight = false := by
        intro h
        rw [List.all_eq_false]
        exact ⟨t, List.mem_of_getElem? ht, by rw [h]; decide⟩
      have HSu := Lib.hid hsucc
      have HFa := Lib.hid hfalse
      have HB := Lib.hid hb
      clear hcell hparts hb hsucc hfalse hall ht
      go_wp2_with (go_at_call 19; go_must (refine (HP.out _).mono ?_))
      rintro e w2 ⟨b, rfl, r2, b2⟩
      have hb2 : Below w.heap.size w w2 := (HB.out.alloc HB.out.size _).trans (b2.mono (by have := HB.out.size; simp; omega))
      have HB2 := Lib.hid hb2
      have HR := Lib.hid r2
      clear b2 hb2 r2 c0 c1 c2 c3 c4 c5
      go_wp2
      go_loop [16] (fun i => FewIn t i) (fun i => 6 - (intOf i).toNat)
      case atStart => exact ⟨0, rfl, Nat.zero_le _, rfl⟩
      case round =>
        obtain ⟨m, rfl, hm, hin⟩ := hrel
        have Hin := Lib.hid hin
        clear hin
        by_cases hml : m < 6
        · obtain ⟨b', off, s, hbe, hs, hbs, hcs⟩ := HR.out.scell m hml
          cases hbe
          rw [Nat.zero_add] at hcs
          have hsu : tightL (t.list.take (m + 1)) = (tightL (t.list.take m) && decide (s.size ≤ 200)) := by
            unfold tightL
            rw [List.take_add_one, List.all_append, hs]; simp
          rw [Hin.out] at hsu
          by_cases h200 : s.size ≤ 200
          · have HSs := Lib.hid hsu
            have h2 : ¬ (200 : Int) < s.size := by omega
            clear hsu hs
            go_wp2
            refine ⟨⟨m + 1, by go_num, by omega, ?_⟩, by simp [intOf]; omega⟩
            rw [HSs.out]
            simpa using h200
          · have hft : t.tight = false := by
              unfold Six.tight tightL
              rw [List.all_eq_false]
              exact ⟨s, List.mem_of_getElem? hs, by simpa using h200⟩
            have HFf := Lib.hid (HFa.out hft)
            have h2 : (200 : Int) < s.size := by omega
            clear hsu hs hft
            go_wp2
            go_ret
            rw [HFf.out]
            exact ⟨rfl, HB2.out⟩
        · obtain rfl : m = 6 := by omega
          have hti : t.tight = true := Hin.out
          have HTi := Lib.hid hti
          clear hti
          go_wp2
          refine ⟨⟨k + 1, by go_num, by rw [HL.out]; omega, ?_, HB2.out⟩, by simp [intOf]; omega⟩
          rw [HSu.out, HTi.out]; rfl
    · obtain rfl : k = n := by omega
      have hlt' : ¬ ((k : Int) < k) := by omega
      have hfin : ts.all Six.tight = true := by rw [← HL.out, List.take_length] at hall; exact hall
      have HFi := Lib.hid hfin
      have HB := Lib.hid hb
      clear hfin hall hb
      go_wp2
      go_ret
      rw [HFi.out]
      exact ⟨rfl, HB.out⟩
end Go.Proofs.YtkcaadkamaogbaaDoor
