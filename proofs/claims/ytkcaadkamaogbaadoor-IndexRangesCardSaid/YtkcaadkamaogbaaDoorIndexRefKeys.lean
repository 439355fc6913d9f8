import Derived.Test.YtkcaadkamaogbaaDoorIndexKeys
import Derived.Test.YtkcaadkamaogbaaDoorTupleRefKey
namespace Go.Proofs.YtkcaadkamaogbaaDoor
open Go Go.RowKit

def backTo (l : List ByteArray) (k : Nat) : List UInt8 := 114 :: keyL (lists (l.take k))

theorem backTo_succ {l : List ByteArray} {k : Nat} {s : ByteArray} (h : l[k]? = some s) : backTo l (k + 1) = backTo l k ++ s.data.toList ++ [0] := by
  unfold backTo
  rw [List.take_add_one, h]
  simp [lists, keyL_append, keyL]

theorem keyL_join : ∀ (l : List ByteArray) (s : ByteArray), keyL (lists (s :: l)) = joinL (s :: l) ++ [0]
  | [], s => by simp [lists, keyL, joinL, joinT]
  | t :: r, s => by
    have ih := keyL_join r t
    have e : keyL (lists (s :: t :: r)) = s.data.toList ++ 0 :: keyL (lists (t :: r)) := rfl
    rw [e, ih]
    simp [joinL, joinT]

theorem keyF_eq (t : Six) : keyF t = ⟨#[102]⟩ ++ bytesOf (keyL t.bytes) := by
  apply ByteArray.ext
  have h := keyL_join [t.b, t.c, t.d, t.e, t.f] t.a
  have hb : t.bytes = lists [t.a, t.b, t.c, t.d, t.e, t.f] := rfl
  unfold keyF rowB bytesOf
  rw [hb, h]
  simp [Six.list, ByteArray.data_append]

theorem keyR_eq (t : Six) : keyR t = bytesOf (backTo t.turned.list 6) := by
  apply ByteArray.ext
  have h := keyL_join [t.e, t.f, t.a, t.b, t.c] t.d
  have hb : backTo t.turned.list 6 = 114 :: keyL (lists [t.d, t.e, t.f, t.a, t.b, t.c]) := rfl
  unfold keyR rowB bytesOf
  rw [hb, h]
  simp [Six.list, Six.turned, ByteArray.data_append]


def RefKeysPost (w : World) (t : Six) (e : Ending) (w' : World) : Prop :=
  ∃ g, e = .returned (.slice (some ⟨g, 0, none⟩) 2 2) ∧ TwoAt w' g (keyF t) (keyR t) ∧ Below w.heap.size w w'

theorem backTo_length {t : Six} (h : t.short 1000000) (k : Nat) : (backTo t.turned.list k).length ≤ 6000007 := by
  obtain ⟨h1, h2, h3, h4, h5, h6⟩ := h
  have := keyTo_length (t := t.turned) ⟨h4, h5, h6, h1, h2, h3⟩ k
  unfold keyTo at this
  unfold backTo
  rw [List.length_cons]
  omega

theorem bytesOf_size (l : List UInt8) : (bytesOf l).size = l.length := rfl

set_option maxRecDepth 100000 in
set_option maxHeartbeats 1000000 in
theorem refkeys_any (w : World) (t : Six) (hs : t.short 1000000) : Calls Tryd.prog 11 #[t.val] w (RefKeysPost w t) := by
  have hrk := fun w => refkey_any w t hs
  have hkl := keyTo_length hs 6
  have hbl := backTo_length hs
  have hpl := hs
  have hfq := keyF_eq t
  have hrq := keyR_eq t
  have hl : t.turned.list = [t.d, t.e, t.f, t.a, t.b, t.c] := rfl
  have hall : ∀ s ∈ t.turned.list, s.size ≤ 1000000 := by
    obtain ⟨h1, h2, h3, h4, h5, h6⟩ := hs
    intro s h
    rw [hl] at h
    simp at h
    rcases h with rfl | rfl | rfl | rfl | rfl | rfl <;> assumption
  have hkk : (bytesOf (keyL t.bytes)).size ≤ 6000006 := hkl
  have hsu := fun k s (h : t.turned.list[k]? = some s) => backTo_succ h
  have hlen : t.turned.list.length = 6 := rfl
  have hcell : ∀ (W : World) (b : Nat), W.heap[b]? = some (.cells #[.string t.d, .string t.e, .string t.f, .string t.a, .string t.b, .string t.c] 9 (0, 0)) → ∀ k s, t.turned.list[k]? = some s → W.cell? ⟨b, k, none⟩ = some (.string s) := by
    intro W b h k s hk
    rw [Lib.cell_of_heap h k]
    rw [hl] at hk
    show (([t.d, t.e, t.f, t.a, t.b, t.c].map Value.string).toArray)[k]? = _
    rw [List.getElem?_toArray, List.getElem?_map, hk]
    rfl
  have hp : RefKeysPost w t = fun e w' => ∃ g, e = .returned (.slice (some ⟨g, 0, none⟩) 2 2) ∧ TwoAt w' g (keyF t) (keyR t) ∧ Below w.heap.size w w' := rfl
  rw [hp]
  clear hl hkl hs hpl hp
  generalize keyF t = KF at *
  generalize keyR t = KR at *
  generalize bytesOf (keyL t.bytes) = KY at *
  generalize t.turned.list = L at *
  obtain ⟨a, b, c, d, e, f⟩ := t
  unfold Six.val at *
  have HRk := Lib.hid hrk
  have HBl := Lib.hid hbl
  have HFq := Lib.hid hfq
  have HRq := Lib.hid hrq
  have HAl := Lib.hid hall
  have HSu := Lib.hid hsu
  have HLe := Lib.hid hlen
  have hc := hcell _ _ (heap_alloc2_new w (.cells #[.string a, .string b, .string c, .string d, .string e, .string f] 27) (.cells #[.string d, .string e, .string f, .string a, .string b, .string c] 9))
  have HCe := Lib.hid hc
  clear hrk hbl hfq hrq hall hsu hlen hcell hc
  go_enter Tryd.func11, Tryd.ntmps11
  go_wp2
  go_loop [3, 27] (fun v i => ∃ k : Nat, i = .int .i64 (k : Int) ∧ k ≤ 6 ∧ v = .string (bytesOf (backTo L k))) (fun _ i => 6 - (intOf i).toNat)
  case atStart => exact ⟨0, rfl, by decide, rfl⟩
  case round =>
    obtain ⟨k, rfl, hk, rfl⟩ := hrel
    by_cases hlt : k < 6
    · have hsk : L[k]? = some (L[k]'(by rw [HLe.out]; exact hlt)) := List.getElem?_eq_getElem _
      obtain ⟨s, hsk⟩ : ∃ s, L[k]? = some s := ⟨_, hsk⟩
      have ck := HCe.out k s hsk
      have hsz := HAl.out s (List.mem_of_getElem? hsk)
      have hst := HSu.out k s hsk
      have hbl := HBl.out k
      have hstep := bytesOf_step (backTo L k) s
      rw [← hst] at hstep
      have hbz := bytesOf_size (backTo L k)
      generalize bytesOf (backTo L k) = K at *
      have HSt := Lib.hid hstep
      have hltI : (k : Int) < 6 := by omega
      clear hsk hst hstep
      go_wp2
      exact ⟨⟨k + 1, by go_num, by omega, by rw [← HSt.out]⟩, by simp [intOf]; omega⟩
    · obtain rfl : k = 6 := by omega
      clear hlt hk
      rw [← HRq.out]
      go_wp2_with (go_at_call 25; go_must (refine (HRk.out _).mono ?_))
      rintro e1 w1 ⟨rfl, b1⟩
      have HB1 := Lib.hid ((((Below.refl _ w).alloc (Nat.le_refl _) (.cells #[.string a, .string b, .string c, .string d, .string e, .string f] 27)).alloc (by simp) (.cells #[.string d, .string e, .string f, .string a, .string b, .string c] 9)).trans (b1.mono (by simp; omega)))
      clear b1
      go_wp2
      go_ret
      refine ⟨_, rfl, ?_, HB1.out.alloc HB1.out.size _⟩
      rw [HFq.out]
      exact heap_alloc_new w1 _
end Go.Proofs.YtkcaadkamaogbaaDoor
