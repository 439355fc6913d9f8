/- The law's fixed; the law BlockCommon. -/
import Derived.Test.YtcglkdmfbnpniaaBlockSeek
namespace Go.Proofs.Ytcglkdmfbnpniaa
open Go Go.RowKit

def fxK1 : List ByteArray := [⟨#[97, 98]⟩, ⟨#[97, 98, 99]⟩]
def fxK2 : List ByteArray := [⟨#[98]⟩, ⟨#[97]⟩]
def fxB : List UInt8 := [0, 2, 97, 98, 2, 1, 99, 0, 0, 0, 0, 0, 0, 0, 1]

theorem fx_build : buildL fxK1 = fxB := by
  have e0 : enc 0 = [0] := by rw [enc_lt (by decide)]; rfl
  have e1 : enc 1 = [1] := by rw [enc_lt (by decide)]; rfl
  have e2 : enc 2 = [2] := by rw [enc_lt (by decide)]; rfl
  have h1 : bodyTo fxK1 1 = [0, 2, 97, 98] := by
    show [] ++ entL (shareL fxK1 0) (kb fxK1 0) = _
    rw [show shareL fxK1 0 = 0 by decide, show kb fxK1 0 = [97, 98] by decide]
    unfold entL
    rw [e0, show ([97, 98] : List UInt8).length - 0 = 2 by decide, e2]
    rfl
  have h2 : bodyTo fxK1 2 = [0, 2, 97, 98, 2, 1, 99] := by
    show bodyTo fxK1 1 ++ entL (shareL fxK1 1) (kb fxK1 1) = _
    rw [h1, show shareL fxK1 1 = 2 by decide, show kb fxK1 1 = [97, 98, 99] by decide]
    unfold entL
    rw [e2, show ([97, 98, 99] : List UInt8).length - 2 = 1 by decide, e1]
    rfl
  have h3 : placesTo fxK1 2 = [0, 0, 0, 0] := by
    show ([] ++ (if 0 % 16 = 0 then be4 (bodyTo fxK1 0).length else [])) ++ (if 1 % 16 = 0 then be4 (bodyTo fxK1 1).length else []) = _
    decide
  unfold buildL
  rw [show fxK1.length = 2 by decide, h2, h3]
  decide

theorem fx_parts : partsL fxB = some ([0, 2, 97, 98, 2, 1, 99], [0, 0, 0, 0]) := by decide
theorem fx_seek (i : Nat) (h : Found [0, 2, 97, 98, 2, 1, 99] [0, 0, 0, 0] [97, 98, 97] i) : seekR [0, 2, 97, 98, 2, 1, 99] [0, 0, 0, 0] [97, 98, 97] i = ([97, 98, 99], true, 0) := by
  have hi : i ≤ 1 := h.1
  unfold seekR
  rw [show i - 1 = 0 by omega]
  decide

theorem fx_up : rises fxK1 := by show List.Pairwise _ _; decide
theorem fx_no : ¬ rises fxK2 := fun h => by
  have h2 : ¬ List.Pairwise (fun a b => bl a b = true) fxK2 := by decide
  exact h2 h

theorem litK_reads {w : World} {b : Nat} {l : List ByteArray} {t : TypeId} (h : w.heap[b]? = some (Obj.cells (scells l).toArray t (0, 0))) (hl : l.length ≤ 1000) : Reads w 1 (.slice (some ⟨b, 0, none⟩) l.length l.length) l.length (scells l) := by
  refine ⟨by rw [scells_length]; omega, _, _, rfl, Nat.le_refl _, by unfold maxLen; omega, fun j u hj => ⟨b, 0, rfl, (Array.getElem?_eq_some_iff.1 h).1, ?_⟩⟩
  rw [Nat.zero_add, Lib.cell_of_heap h j]
  simpa using hj

theorem own_sl {w : World} {B : Nat} {v : Value} {l : List UInt8} (h : w.ownsRow B 5 1 v l.length (bcells l)) : Sl w.heap.size w v l := by
  have hr := ownsRow.reads h
  rcases h.2 with ⟨rfl, h0⟩ | ⟨g, cap, cur, rfl, _, hh, _⟩
  · exact .inl ⟨⟨none, rfl⟩, List.eq_nil_of_length_eq_zero h0⟩
  · exact .inr ⟨g, 0, cap, rfl, fun _ => (Array.getElem?_eq_some_iff.1 hh).1, fun _ => (Array.getElem?_eq_some_iff.1 hh).1, hr⟩

set_option maxRecDepth 100000 in
set_option maxHeartbeats 2000000 in
theorem fixed_any (w : World) : Calls Try.prog 7 #[] w (SaysTrue w) := by
  have ba1 := (Below.refl w.heap.size w).alloc (Nat.le_refl _) (.cells #[.string ⟨#[97, 98]⟩, .string ⟨#[97, 98, 99]⟩] 9)
  have hr1 : Reads (w.alloc (.cells #[.string ⟨#[97, 98]⟩, .string ⟨#[97, 98, 99]⟩] 9)) 1 (.slice (some ⟨w.heap.size, 0, none⟩) 2 2) 2 (scells fxK1) := litK_reads (l := fxK1) (heap_alloc_new w _) (by decide)
  have HBu := Lib.hid (build_any _ _ 2 2 fxK1 hr1 (by decide) (by decide))
  have HB0 := Lib.hid ba1
  clear ba1 hr1
  go_enter Try.func7, Try.ntmps7
  go_wp2_with (go_at_call 10; go_must (refine HBu.out.mono ?_))
  rintro e w1 hp
  rcases hp with ⟨_, v, rfl, ho, b1⟩ | ⟨hno, _⟩
  case inr => exact absurd fx_up hno
  rw [fx_build] at ho
  have hb1 := HB0.out.trans (b1.mono HB0.out.size)
  have ba2 := (Below.refl w1.heap.size w1).alloc (Nat.le_refl _) (.cells #[.string ⟨#[98]⟩, .string ⟨#[97]⟩] 9)
  have hr2 : Reads (w1.alloc (.cells #[.string ⟨#[98]⟩, .string ⟨#[97]⟩] 9)) 1 (.slice (some ⟨w1.heap.size, 0, none⟩) 2 2) 2 (scells fxK2) := litK_reads (l := fxK2) (heap_alloc_new w1 _) (by decide)
  have HBu2 := Lib.hid (build_any _ _ 2 2 fxK2 hr2 (by decide) (by decide))
  have HO := Lib.hid (owns_below ho ba2)
  have HB1 := Lib.hid (hb1.trans (ba2.mono hb1.size))
  obtain ⟨va, vcap, rfl, _, _⟩ := (ownsRow.reads ho).le
  clear hb1 ba2 hr2 ho b1 HBu HB0
  go_wp2_with (go_at_call 10; go_must (refine HBu2.out.mono ?_))
  rintro e w2 hp
  rcases hp with ⟨hup, _⟩ | ⟨_, rfl, b2⟩
  case inl => exact absurd hup fx_no
  have ho2 := owns_below HO.out b2
  have HSe := Lib.hid (seek_any w2 _ fxB ⟨#[97, 98, 97]⟩ (own_sl ho2) (by decide) (by decide))
  have HO2 := Lib.hid (ownsRow.reads ho2)
  have HB2 := Lib.hid (HB1.out.trans (b2.mono HB1.out.size))
  clear b2 ho2 HO HB1 HBu2
  go_wp2_with (go_at_call 15; go_must (refine HSe.out.mono ?_))
  rintro e w3 hp
  obtain ⟨b3, hm⟩ := hp
  rw [fx_parts] at hm
  simp only [List.length_cons, List.length_nil, Nat.reduceAdd, Nat.reduceEqDiff, if_false] at hm
  obtain ⟨i, hfd, rfl⟩ := hm
  rw [fx_seek i hfd]
  have hcv : (convert 26 9 (.slice va 15 vcap)).run Try.prog w3 = .ok (.string ⟨#[0, 2, 97, 98, 2, 1, 99, 0, 0, 0, 0, 0, 0, 0, 1]⟩) w3 := Reads.conv (P := Try.prog) (src := 26) (e := 5) (dst := 9) Try.underlying26 Try.underlying5 Try.underlying9 (HO2.out.below' b3)
  have HB3 := Lib.hid (HB2.out.trans (b3.mono HB2.out.size))
  clear b3 hfd HSe HO2
  unfold tellV
  rw [show fxB.length = 15 by decide]
  go_wp2
  go_ret
  exact ⟨rfl, HB3.out⟩

set_option maxRecDepth 100000 in
set_option maxHeartbeats 2000000 in
theorem blockCommon_walk (w : World) (a b : ByteArray) : Calls Try.prog 6 #[.string a, .string b] w (SaysTrue w) := by
  go_enter Try.func6, Try.ntmps6
  go_wp2_with (go_at_call 7; go_must (refine (fixed_any _).mono ?_))
  rintro e w1 ⟨rfl, b1⟩
  have B1 := Lib.hid b1
  clear b1
  by_cases ha : a.size ≤ 3000
  · have haI : ¬ (3000 : Int) < a.size := by omega
    by_cases hb : b.size ≤ 3000
    · have hbI : ¬ (3000 : Int) < b.size := by omega
      obtain ⟨z, hz⟩ : ∃ z, comL a.data.toList b.data.toList = z := ⟨_, rfl⟩
      have h1 := fun W => common_any W a b (by omega)
      have h2 := fun W => rcommon_any W a b (by omega)
      have h3 := fun W => common_any W b a (by omega)
      rw [comL_comm b.data.toList a.data.toList] at h3
      rw [hz] at h1 h2 h3
      have HC1 := Lib.hid h1
      have HC2 := Lib.hid h2
      have HC3 := Lib.hid h3
      clear h1 h2 h3 hz
      go_wp2_with (go_at_call 18; go_must (refine (HC1.out _).mono ?_))
      rintro e w2 ⟨rfl, b2⟩
      have B2 := Lib.hid (B1.out.trans (b2.mono B1.out.size))
      clear b2
      go_wp2_with (go_at_call 19; go_must (refine (HC2.out _).mono ?_))
      rintro e w3 ⟨rfl, b3⟩
      have B3 := Lib.hid (B2.out.trans (b3.mono B2.out.size))
      clear b3
      go_wp2_with (go_at_call 18; go_must (refine (HC3.out _).mono ?_))
      rintro e w4 ⟨rfl, b4⟩
      have B4 := Lib.hid (B3.out.trans (b4.mono B3.out.size))
      clear b4
      go_wp2_with (go_at_call 19; go_must (refine (HC2.out _).mono ?_))
      rintro e w5 ⟨rfl, b5⟩
      have B5 := Lib.hid (B4.out.trans (b5.mono B4.out.size))
      clear b5
      go_wp2
      go_ret
      exact ⟨rfl, B5.out⟩
    · have hbI : (3000 : Int) < b.size := by omega
      go_wp2
      go_ret
      exact ⟨rfl, B1.out⟩
  · have haI : (3000 : Int) < a.size := by omega
    go_wp2
    go_ret
    exact ⟨rfl, B1.out⟩
end Go.Proofs.Ytcglkdmfbnpniaa
