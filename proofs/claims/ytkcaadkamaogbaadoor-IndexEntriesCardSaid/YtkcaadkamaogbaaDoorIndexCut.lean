import Derived.Test.YtkcaadkamaogbaaDoorTupleCheck
namespace Go.Proofs.YtkcaadkamaogbaaDoor
open Go Go.RowKit

/-- Does it begin so? -/
def startsB (s : ByteArray) (c : UInt8) : Bool := s.data.toList.head? == some c

def restB (s : ByteArray) : ByteArray := s.extract 1 s.size

theorem extract_one {s : ByteArray} {x : UInt8} (h : s.data.toList[0]? = some x) : s.extract 0 1 = ⟨#[x]⟩ := by
  apply ByteArray.ext
  rw [ByteArray.data_extract]
  apply Array.ext'
  rw [Array.toList_extract]
  cases hl : s.data.toList with
  | nil => rw [hl] at h; simp at h
  | cons y r => rw [hl] at h; simp at h; subst h; simp [List.extract]

set_option maxRecDepth 100000 in
set_option maxHeartbeats 1000000 in
theorem hasprefix_any (w : World) (s : ByteArray) (c : UInt8) : Calls Tryd.prog 43 #[.string s, .string ⟨#[c]⟩] w (GivesVal w (.bool (startsB s c))) := by
  have hsl : s.data.toList.length = s.size := Array.length_toList
  cases hl : s.data.toList with
  | nil =>
    have h0 : s.size = 0 := by rw [← hsl, hl]; rfl
    have h0i : (s.size : Int) = 0 := by omega
    have hv : startsB s c = false := by unfold startsB; rw [hl]; rfl
    rw [hv]
    clear hl hsl h0 hv
    go_enter Tryd.func43, Tryd.ntmps43
    go_wp2
    go_ret
    exact ⟨rfl, Below.refl _ _⟩
  | cons x r =>
    have h0 : 1 ≤ s.size := by rw [← hsl, hl]; simp
    have h0i : (1 : Int) ≤ (s.size : Int) := by omega
    have hx := extract_one (s := s) (x := x) (by rw [hl]; rfl)
    have hv : startsB s c = (x == c) := by unfold startsB; rw [hl]; rfl
    rw [hv]
    clear hl hsl hv
    go_enter Tryd.func43, Tryd.ntmps43
    go_wp2
    go_ret
    exact ⟨rfl, Below.refl _ _⟩

set_option maxRecDepth 100000 in
set_option maxHeartbeats 1000000 in
theorem litecutp_any (w : World) (s : ByteArray) (c : UInt8) : Calls Tryd.prog 36 #[.string s, .string ⟨#[c]⟩] w (GivesVal w (.tuple #[.string (if startsB s c then restB s else s), .bool (startsB s c)])) := by
  have hp := hasprefix_any w s c
  have hr : restB s = s.extract 1 s.size := rfl
  cases hb : startsB s c with
  | true =>
    have h1 : 1 ≤ s.size := by
      have hsl : s.data.toList.length = s.size := Array.length_toList
      unfold startsB at hb
      cases hl : s.data.toList with
      | nil => rw [hl] at hb; simp at hb
      | cons x r => rw [← hsl, hl]; simp
    have h1i : (1 : Int) ≤ (s.size : Int) := by omega
    rw [hb] at hp
    have HP := Lib.hid hp
    have HR := Lib.hid hr
    clear hp hr hb
    go_enter Tryd.func36, Tryd.ntmps36
    go_wp2_with (go_at_call 43; go_must (refine HP.out.mono ?_))
    rintro e w1 ⟨rfl, b1⟩
    have HB := Lib.hid b1
    clear b1
    go_wp2
    go_ret2
    rw [HR.out]
    exact ⟨rfl, HB.out⟩
  | false =>
    rw [hb] at hp
    have HP := Lib.hid hp
    clear hp hr hb
    go_enter Tryd.func36, Tryd.ntmps36
    go_wp2_with (go_at_call 43; go_must (refine HP.out.mono ?_))
    rintro e w1 ⟨rfl, b1⟩
    have HB := Lib.hid b1
    clear b1
    go_wp2
    go_ret2
    exact ⟨rfl, HB.out⟩

set_option maxRecDepth 100000 in
set_option maxHeartbeats 1000000 in
theorem cutp_any (w : World) (s : ByteArray) (c : UInt8) : Calls Tryd.prog 26 #[.string s, .string ⟨#[c]⟩] w (GivesVal w (.tuple #[.string (if startsB s c then restB s else s), .bool (startsB s c)])) := by
  have hp := litecutp_any w s c
  generalize (if startsB s c then restB s else s) = r at *
  generalize startsB s c = b at *
  have HP := Lib.hid hp
  clear hp
  go_enter Tryd.func26, Tryd.ntmps26
  go_wp2_with (go_at_call 36; go_must (refine HP.out.mono ?_))
  rintro e w1 ⟨rfl, b1⟩
  have HB := Lib.hid b1
  clear b1
  go_wp2
  go_ret2
  exact ⟨rfl, HB.out⟩
end Go.Proofs.YtkcaadkamaogbaaDoor
