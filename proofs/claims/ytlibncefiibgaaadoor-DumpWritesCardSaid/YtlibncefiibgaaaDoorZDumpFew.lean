/- few: are they few and short? -/
import Derived.Test.YtlibncefiibgaaaDoorZDumpLines
import Derived.Test.YtlibncefiibgaaaDoorMga
namespace Go.Proofs.YtlibncefiibgaaaDoor
open Go Go.RowKit

def tight36L (l : List ByteArray) : Bool := l.all fun s => decide (s.size ≤ 100)
def Six.tight36 (t : Six) : Bool := tight36L t.list
theorem tight36_short {t : Six} (h : t.tight36 = true) : t.short 100 := by
  simp only [Six.tight36, tight36L, Six.list, List.all_cons, List.all_nil, Bool.and_true, Bool.and_eq_true, decide_eq_true_eq] at h
  exact ⟨h.1, h.2.1, h.2.2.1, h.2.2.2.1, h.2.2.2.2.1, h.2.2.2.2.2⟩

def FewRel36 (w : World) (ts : List Six) (i : Value) (wr : World) : Prop :=
  ∃ k : Nat, i = .int .i64 (k : Int) ∧ k ≤ ts.length ∧ (ts.take k).all Six.tight36 = true ∧ Below w.heap.size w wr

def FewIn36 (t : Six) (i : Value) : Prop := ∃ k : Nat, i = .int .i64 (k : Int) ∧ k ≤ 6 ∧ tight36L (t.list.take k) = true

set_option maxRecDepth 100000 in
set_option maxHeartbeats 1000000 in
theorem few36_any (w : World) (a : Option Addr) (n cap : Nat) (ts : List Six) (hl : ts.length = n) (h : Reads w 6 (.slice a n cap) n (tcells ts)) :
    Calls Tryd.prog 6 #[.slice a n cap] w (GivesBool w (ts.all Six.tight36 && decide (n ≤ 60))) := by
  have HL := Lib.hid hl
  have HT := Lib.hid h
  obtain ⟨_, _, hv, hcap, hc⟩ := h.le
  cases hv
  unfold maxLen at hc
  clear h hl
  go_enter Tryd.func6, Tryd.ntmps6
  go_wp2
  go_loopw [9] (fun i wr => FewRel36 w ts i wr) (fun i _ => n - (intOf i).toNat)
  case atStart => exact ⟨0, rfl, Nat.zero_le _, rfl, Below.refl _ _⟩
  case round =>
    obtain ⟨k, rfl, hk, hall, hb⟩ := hrel
    rw [HL.out] at hk
    by_cases hlt : k < n
    · obtain ⟨t, ht⟩ : ∃ t, ts[k]? = some t := ⟨ts[k]'(by rw [HL.out]; exact hlt), List.getElem?_eq_getElem _⟩
      obtain ⟨g, off, hv, hgl, c0, c1, c2, c3, c4, c5⟩ := (HT.out.below' hb).six ht
      cases hv
      have hparts := fun w => refparts_any w t
      have HP := Lib.hid hparts
      have hsucc : (ts.take (k + 1)).all Six.tight36 = ((ts.take k).all Six.tight36 && t.tight36) := by
        rw [List.take_add_one, List.all_append, ht]; simp
      rw [hall] at hsucc
      have hfalse : t.tight36 = false → ts.all Six.tight36 = false := by
        intro h
        rw [List.all_eq_false]
        exact ⟨t, List.mem_of_getElem? ht, by rw [h]; decide⟩
      have HSu := Lib.hid hsucc
      have HFa := Lib.hid hfalse
      have HB := Lib.hid hb
      clear hparts hb hsucc hfalse hall ht
      go_wp2_with (go_at_call 13; go_must (refine (HP.out _).mono ?_))
      rintro e w2 ⟨b, rfl, r2, b2⟩
      have hb2 : Below w.heap.size w w2 := (HB.out.alloc HB.out.size _).trans (b2.mono (by have := HB.out.size; simp; omega))
      have HB2 := Lib.hid hb2
      have HR := Lib.hid r2
      clear b2 hb2 r2 c0 c1 c2 c3 c4 c5
      go_wp2
      go_loop [16] (fun i => FewIn36 t i) (fun i => 6 - (intOf i).toNat)
      case atStart => exact ⟨0, rfl, Nat.zero_le _, rfl⟩
      case round =>
        obtain ⟨m, rfl, hm, hin⟩ := hrel
        have Hin := Lib.hid hin
        clear hin
        by_cases hml : m < 6
        · obtain ⟨b', off, s, hbe, hs, hbs, hcs⟩ := HR.out.scell m hml
          cases hbe
          rw [Nat.zero_add] at hcs
          have hsu : tight36L (t.list.take (m + 1)) = (tight36L (t.list.take m) && decide (s.size ≤ 100)) := by
            unfold tight36L
            rw [List.take_add_one, List.all_append, hs]; simp
          rw [Hin.out] at hsu
          by_cases h100 : s.size ≤ 100
          · have HSs := Lib.hid hsu
            have h2 : ¬ (100 : Int) < s.size := by omega
            clear hsu hs
            go_wp2
            refine ⟨⟨m + 1, by go_num, by omega, ?_⟩, by simp [intOf]; omega⟩
            rw [HSs.out]
            simpa using h100
          · have hft : t.tight36 = false := by
              unfold Six.tight36 tight36L
              rw [List.all_eq_false]
              exact ⟨s, List.mem_of_getElem? hs, by simpa using h100⟩
            have HFf := Lib.hid (HFa.out hft)
            have h2 : (100 : Int) < s.size := by omega
            clear hsu hs hft
            go_wp2
            go_ret
            rw [HFf.out]
            exact ⟨rfl, HB2.out⟩
        · obtain rfl : m = 6 := by omega
          have hti : t.tight36 = true := Hin.out
          have HTi := Lib.hid hti
          clear hti
          go_wp2
          refine ⟨⟨k + 1, by go_num, by rw [HL.out]; omega, ?_, HB2.out⟩, by simp [intOf]; omega⟩
          rw [HSu.out, HTi.out]; rfl
    · obtain rfl : k = n := by omega
      have hlt' : ¬ ((k : Int) < k) := by omega
      have hfin : ts.all Six.tight36 = true := by rw [← HL.out, List.take_length] at hall; exact hall
      have HFi := Lib.hid hfin
      have h60 : decide ((k : Int) ≤ 60) = decide (k ≤ 60) := by simp; omega
      have HB := Lib.hid hb
      clear hfin hall hb
      go_wp2
      go_ret
      rw [HFi.out]
      exact ⟨rfl, HB.out⟩
end Go.Proofs.YtlibncefiibgaaaDoor
