/- A disk that is nil: it is down. -/
import Derived.Test.YtbhapbioibhalaaDiskFixed
namespace Go.Proofs.Ytbhapbioibhalaa
open Go Go.RowKit Go.Maps

set_option maxRecDepth 100000 in
theorem find_nil (W : World) (s : ByteArray) : Calls Try.prog 39 #[.pointer none, .string s] W (FindPost W (none, 6)) := by
  have HR := Lib.hid (fun w v => ready_nil w v)
  go_enter Try.func39, Try.ntmps39
  go_wp2_with (go_at_call 36; go_must (refine (HR.out _ _).mono ?_))
  rintro e w1 ⟨rfl, b1⟩
  go_wp2
  go_ret2
  exact ⟨rfl, ((Below.refl _ _).alloc (Nat.le_refl _) _).trans (b1.mono (by simp))⟩

def ReadNil (W : World) (e : Ending) (W' : World) : Prop := e = .returned (.tuple #[.slice none 0 0, .int .i64 6]) ∧ Below W.heap.size W W'
set_option maxRecDepth 100000 in
theorem read_nil (W : World) (s : ByteArray) : Calls Try.prog 18 #[.pointer none, .string s] W (ReadNil W) := by
  have HR := Lib.hid (find_nil W s)
  go_enter Try.func18, Try.ntmps18
  go_wp2_with (go_at_call 39; go_must (refine HR.out.mono ?_))
  rintro e w1 ⟨rfl, b1⟩
  simp only [fileV]
  go_wp2
  go_ret2
  exact ⟨rfl, b1⟩

set_option maxRecDepth 100000 in
theorem append_nil (W : World) (s : ByteArray) (a : Option Addr) (n c : Nat) : Calls Try.prog 21 #[.pointer none, .string s, .slice a n c] W (GivesI W 6) := by
  have HR := Lib.hid (find_nil W s)
  go_enter Try.func21, Try.ntmps21
  go_wp2_with (go_at_call 39; go_must (refine HR.out.mono ?_))
  rintro e w1 ⟨rfl, b1⟩
  simp only [fileV]
  go_wp2
  go_ret
  exact ⟨rfl, b1⟩

set_option maxRecDepth 100000 in
theorem sync_nil (W : World) (s : ByteArray) : Calls Try.prog 22 #[.pointer none, .string s] W (GivesI W 6) := by
  have HR := Lib.hid (find_nil W s)
  go_enter Try.func22, Try.ntmps22
  go_wp2_with (go_at_call 39; go_must (refine HR.out.mono ?_))
  rintro e w1 ⟨rfl, b1⟩
  simp only [fileV]
  go_wp2
  go_ret
  exact ⟨rfl, b1⟩

set_option maxRecDepth 100000 in
theorem remove_nil (W : World) (s : ByteArray) : Calls Try.prog 26 #[.pointer none, .string s] W (GivesI W 6) := by
  have HR := Lib.hid (find_nil W s)
  go_enter Try.func26, Try.ntmps26
  go_wp2_with (go_at_call 39; go_must (refine HR.out.mono ?_))
  rintro e w1 ⟨rfl, b1⟩
  simp only [fileV]
  go_wp2
  go_ret
  exact ⟨rfl, b1⟩

set_option maxRecDepth 100000 in
theorem create_nil (W : World) (s : ByteArray) : Calls Try.prog 20 #[.pointer none, .string s] W (GivesI W 6) := by
  have HR := Lib.hid (fun w v => ready_nil w v)
  go_enter Try.func20, Try.ntmps20
  go_wp2_with (go_at_call 36; go_must (refine (HR.out _ _).mono ?_))
  rintro e w1 ⟨rfl, b1⟩
  go_wp2
  go_ret
  exact ⟨rfl, ((Below.refl _ _).alloc (Nat.le_refl _) _).trans (b1.mono (by simp))⟩

set_option maxRecDepth 100000 in
theorem rename_nil (W : World) (s t : ByteArray) : Calls Try.prog 27 #[.pointer none, .string s, .string t] W (GivesI W 6) := by
  have HR := Lib.hid (fun w v => ready_nil w v)
  go_enter Try.func27, Try.ntmps27
  go_wp2_with (go_at_call 36; go_must (refine (HR.out _ _).mono ?_))
  rintro e w1 ⟨rfl, b1⟩
  go_wp2
  go_ret
  exact ⟨rfl, ((Below.refl _ _).alloc (Nat.le_refl _) _).trans (b1.mono (by simp))⟩

set_option maxRecDepth 100000 in
theorem syncdir_nil (W : World) : Calls Try.prog 23 #[.pointer none] W (GivesI W 6) := by
  have HR := Lib.hid (fun w v => ready_nil w v)
  go_enter Try.func23, Try.ntmps23
  go_wp2_with (go_at_call 36; go_must (refine (HR.out _ _).mono ?_))
  rintro e w1 ⟨rfl, b1⟩
  go_wp2
  go_ret
  exact ⟨rfl, b1⟩

def CrashNil (W : World) (e : Ending) (W' : World) : Prop := e = .returned (.tuple #[]) ∧ Below W.heap.size W W'
theorem crash_nil' (W : World) (a : Option Addr) (n c : Nat) : Calls Try.prog 24 #[.pointer none, .slice a n c] W (CrashNil W) := (crash_nil W a n c).mono fun _ _ h => h
def FuseNil (W : World) (e : Ending) (W' : World) : Prop := e = .returned (.tuple #[]) ∧ W' = W
theorem fuse_nil' (W : World) (n : Int) : Calls Try.prog 25 #[.pointer none, .int .i64 n] W (FuseNil W) := (fuse_nil W n).mono fun _ _ h => h

set_option maxRecDepth 100000 in
set_option maxHeartbeats 4000000 in
theorem diskNil_walk (W : World) (s : ByteArray) (a : Option Addr) (n c : Nat) : Calls Try.prog 7 #[.string s, .slice a n c] W (SaysTrue W) := by
  have H0 := Lib.hid (fixed_any W)
  have H1 := Lib.hid (fun w => fuse_nil' w n)
  have H2 := Lib.hid (fun w => crash_nil' w a n c)
  have H3 := Lib.hid (fun w => read_nil w s)
  have H4 := Lib.hid (fun w => create_nil w s)
  have H5 := Lib.hid (fun w => append_nil w s a n c)
  have H6 := Lib.hid (fun w => sync_nil w s)
  have H7 := Lib.hid (fun w => syncdir_nil w)
  have H8 := Lib.hid (fun w => rename_nil w s s)
  have H9 := Lib.hid (fun w => remove_nil w s)
  have HA := Lib.hid (fun w => list_nil w)
  have HB := Lib.hid (fun w => used_nil w)
  go_enter Try.func7, Try.ntmps7
  go_wp2_with (go_at_call 8; go_must (refine H0.out.mono ?_))
  rintro e w1 ⟨rfl, b1⟩
  go_wp2_with (go_at_call 25; go_must (refine (H1.out _).mono ?_))
  rintro e w2 ⟨rfl, rfl⟩
  go_wp2_with (go_at_call 24; go_must (refine (H2.out _).mono ?_))
  rintro e w3 ⟨rfl, b3⟩
  have c3 := b1.trans (b3.mono b1.size)
  clear b1 b3
  go_wp2_with (go_at_call 18; go_must (refine (H3.out _).mono ?_))
  rintro e w4 ⟨rfl, b4⟩
  have c4 := c3.trans (b4.mono c3.size)
  clear c3 b4
  go_wp2_with (go_at_call 20; go_must (refine (H4.out _).mono ?_))
  rintro e w5 ⟨rfl, b5⟩
  have c5 := c4.trans (b5.mono c4.size)
  clear c4 b5
  go_wp2_with (go_at_call 21; go_must (refine (H5.out _).mono ?_))
  rintro e w6 ⟨rfl, b6⟩
  have c6 := c5.trans (b6.mono c5.size)
  clear c5 b6
  go_wp2_with (go_at_call 22; go_must (refine (H6.out _).mono ?_))
  rintro e w7 ⟨rfl, b7⟩
  have c7 := c6.trans (b7.mono c6.size)
  clear c6 b7
  go_wp2_with (go_at_call 23; go_must (refine (H7.out _).mono ?_))
  rintro e w8 ⟨rfl, b8⟩
  have c8 := c7.trans (b8.mono c7.size)
  clear c7 b8
  go_wp2_with (go_at_call 27; go_must (refine (H8.out _).mono ?_))
  rintro e w9 ⟨rfl, b9⟩
  have c9 := c8.trans (b9.mono c8.size)
  clear c8 b9
  go_wp2_with (go_at_call 26; go_must (refine (H9.out _).mono ?_))
  rintro e w10 ⟨rfl, b10⟩
  have c10 := c9.trans (b10.mono c9.size)
  clear c9 b10
  go_wp2_with (go_at_call 16; go_must (refine (HA.out _).mono ?_))
  rintro e w11 ⟨v11, rfl, o11, b11⟩
  obtain ⟨a11, k11, hv11, _, _⟩ := (ownsRow.reads o11).le
  subst hv11
  have c11 := c10.trans (b11.mono c10.size)
  clear c10 b11 o11
  go_wp2_with (go_at_call 13; go_must (refine (HB.out _).mono ?_))
  rintro e w12 ⟨rfl, b12⟩
  have c12 := c11.trans (b12.mono c11.size)
  clear c11 b12
  go_wp2
  go_ret
  exact ⟨rfl, c12⟩
end Go.Proofs.Ytbhapbioibhalaa
