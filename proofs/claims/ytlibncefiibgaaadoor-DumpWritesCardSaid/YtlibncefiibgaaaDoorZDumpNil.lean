/- dump.Write of nothing. -/
import Derived.Test.YtlibncefiibgaaaDoorZDumpRead
import Derived.Test.YtlibncefiibgaaaDoorZBuilderW
namespace Go.Proofs.YtlibncefiibgaaaDoor
open Go Go.RowKit

def KV (w : World) (v : Value) (e : Ending) (w' : World) : Prop := e = .returned v ∧ w = w'

set_option maxRecDepth 100000 in
theorem clone_nil (w : World) : Calls Tryd.prog 17 #[.slice none 0 0] w (KV w (.slice none 0 0)) := by
  have hq : ∀ w : World, (binOp .eql 22 (.slice none 0 0) (.slice none 0 0)).run Tryd.prog w = .ok (.bool true) w := fun w => by kernel_rfl
  go_enter Tryd.func17, Tryd.ntmps17
  go_wp2
  go_ret
  exact ⟨rfl, rfl⟩

set_option maxRecDepth 100000 in
theorem index_nil (w : World) (f : Value) : Calls Tryd.prog 33 #[.slice none 0 0, f] w (KV w (.int .i64 (-1))) := by
  go_enter Tryd.func33, Tryd.ntmps33
  go_wp2
  go_loop [8] (fun v => v = .int .i64 0) (fun _ => 0)
  case atStart => rfl
  case round =>
    subst hrel
    go_wp2
    go_ret
    exact ⟨rfl, rfl⟩

set_option maxRecDepth 100000 in
theorem delete_nil (w : World) (f : Value) : Calls Tryd.prog 16 #[.slice none 0 0, f] w (KV w (.slice none 0 0)) := by
  have HI := Lib.hid (index_nil w f)
  go_enter Tryd.func16, Tryd.ntmps16
  go_wp2_with (go_at_call 33; go_must (refine HI.out.mono ?_))
  rintro e w1 ⟨rfl, rfl⟩
  go_wp2
  go_ret
  exact ⟨rfl, rfl⟩

set_option maxRecDepth 100000 in
theorem insert_nil (w : World) (f : Value) : Calls Tryd.prog 52 #[.slice none 0 0, .int .i64 0, .int .i64 0, f] w (KV w (.tuple #[])) := by
  go_enter Tryd.func52, Tryd.ntmps52
  go_wp2
  go_loop [8] (fun v => v = .int .i64 1) (fun _ => 0)
  case atStart => rfl
  case round =>
    subst hrel
    go_wp2
    go_end0
    exact ⟨rfl, rfl⟩

set_option maxRecDepth 100000 in
theorem pdq_nil (w : World) (l f : Value) : Calls Tryd.prog 46 #[.slice none 0 0, .int .i64 0, .int .i64 0, l, f] w (KV w (.tuple #[])) := by
  have HI := Lib.hid (fun w => insert_nil w f)
  go_enter Tryd.func46, Tryd.ntmps46
  go_wp2
  go_loop [1, 2] (fun a b => a = .int .i64 0 ∧ b = .int .i64 0) (fun _ _ => 0)
  case atStart => exact ⟨rfl, rfl⟩
  case round =>
    obtain ⟨rfl, rfl⟩ := hrel
    go_wp2_with (go_at_call 52; go_must (refine (HI.out _).mono ?_))
    rintro e w1 ⟨rfl, rfl⟩
    go_wp2
    go_end0
    exact ⟨rfl, rfl⟩

theorem len_zero (w : World) : Calls Tryd.prog 47 #[.int .u64 0] w (KV w (.int .i64 0)) :=
  (Tryd.bits_Len 0 w (by decide) (by decide)).mono fun e w' h => by
    obtain ⟨h1, h2⟩ := h
    exact ⟨by rw [h1]; rfl, h2.symm⟩

set_option maxRecDepth 100000 in
theorem sort_nil (w : World) (f : Value) : Calls Tryd.prog 36 #[.slice none 0 0, f] w (KV w (.tuple #[])) := by
  have HL := Lib.hid (len_zero w)
  have HI := Lib.hid (fun l => pdq_nil w l f)
  go_enter Tryd.func36, Tryd.ntmps36
  go_wp2_with (go_at_call 47; go_must (refine HL.out.mono ?_))
  rintro e w1 ⟨rfl, rfl⟩
  go_wp2_with (go_at_call 46; go_must (refine (HI.out _).mono ?_))
  rintro e w1 ⟨rfl, rfl⟩
  go_wp2
  go_end0
  exact ⟨rfl, rfl⟩

set_option maxRecDepth 100000 in
theorem compact_nil (w : World) : Calls Tryd.prog 37 #[.slice none 0 0] w (KV w (.slice none 0 0)) := by
  go_enter Tryd.func37, Tryd.ntmps37
  go_wp2
  go_ret
  exact ⟨rfl, rfl⟩

set_option maxRecDepth 100000 in
theorem once_nil (w : World) (f : Value) : Calls Tryd.prog 20 #[.slice none 0 0, f] w (KV w (.slice none 0 0)) := by
  have HS := Lib.hid (sort_nil w f)
  have HC := Lib.hid (compact_nil w)
  go_enter Tryd.func20, Tryd.ntmps20
  go_wp2_with (go_at_call 36; go_must (refine HS.out.mono ?_))
  rintro e w1 ⟨rfl, rfl⟩
  go_wp2_with (go_at_call 37; go_must (refine HC.out.mono ?_))
  rintro e w1 ⟨rfl, rfl⟩
  go_wp2
  go_ret
  exact ⟨rfl, rfl⟩

def LinePost (B b : Nat) (l : List UInt8) (w : World) (e : Ending) (w' : World) : Prop :=
  e = .returned (.tuple #[]) ∧ Lib.IsBuilder 43 5 B b (bcells l) w' ∧ Below B w w'

set_option maxRecDepth 100000 in
theorem line_any (B b : Nat) (l : List UInt8) (s : ByteArray) (w : World) (h : Lib.IsBuilder 43 5 B b (bcells l) w) (hl : l.length ≤ 1000000000) (hs : s.size ≤ 1000000000) (hB : B ≤ w.heap.size) :
    Calls Tryd.prog 14 #[.string s, .pointer (some ⟨b, 0, none⟩)] w (LinePost B b (l ++ s.data.toList ++ [10]) w) := by
  have hlen : (bcells l).length + (s ++ (⟨#[10]⟩ : ByteArray)).size ≤ 100000000000 := by
    rw [bcells_length, ByteArray.size_append]
    have : (⟨#[10]⟩ : ByteArray).size = 1 := rfl
    omega
  have hw := writeString_any B b (bcells l) (s ++ ⟨#[10]⟩) w h hlen hB
  have he : bcells l ++ bcells (s ++ (⟨#[10]⟩ : ByteArray)).data.toList = bcells (l ++ s.data.toList ++ [10]) := by
    rw [← bcells_append]
    simp
  rw [he] at hw
  have hsum : s.size + (⟨#[10]⟩ : ByteArray).size ≤ 9223372036854775807 := by
    have : (⟨#[10]⟩ : ByteArray).size = 1 := rfl
    omega
  have HW := Lib.hid hw
  clear hw he hlen h
  go_enter Tryd.func14, Tryd.ntmps14
  go_wp2_with (go_at_call 15; go_must (refine HW.out.mono ?_))
  rintro e w1 ⟨rfl, h1, b1⟩
  go_wp2
  go_end0
  exact ⟨rfl, h1, b1⟩
end Go.Proofs.YtlibncefiibgaaaDoor
