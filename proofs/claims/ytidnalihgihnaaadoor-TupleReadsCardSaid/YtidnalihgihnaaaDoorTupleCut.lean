import Derived.Test.YtidnalihgihnaaaDoorTuplePrint
import Derived.Test.YtidnalihgihnaaaDoorShelf
import Derived.BigQuiet
import Derived.Deep.QuietTactic
import Derived.Laws.DeepStrings4
import Derived.Lib.IndexLaws
import Derived.Lib.IndexBytes
import Derived.Lib.Split
namespace Go.Proofs.YtidnalihgihnaaaDoor
open Go Go.RowKit

def cutAL (l : List UInt8) (c : UInt8) : List UInt8 := l.takeWhile (· != c)
def cutRL (l : List UInt8) (c : UInt8) : List UInt8 := (l.dropWhile (· != c)).drop 1
def cutA (s : ByteArray) (c : UInt8) : ByteArray := ⟨(cutAL s.data.toList c).toArray⟩
def cutR (s : ByteArray) (c : UInt8) : ByteArray := ⟨(cutRL s.data.toList c).toArray⟩

theorem cut_hit : ∀ {l : List UInt8} {c : UInt8} {i : Nat}, l[i]? = some c → (∀ k, k < i → l[k]? ≠ some c) → l.takeWhile (· != c) = l.take i ∧ l.dropWhile (· != c) = l.drop i
  | [], c, i, h, _ => by simp at h
  | b :: l, c, 0, h, _ => by
    simp at h; subst h; simp
  | b :: l, c, i + 1, h, hb => by
    have hbc : b ≠ c := by
      have := hb 0 (Nat.succ_pos _)
      simpa using this
    have h' : l[i]? = some c := by simpa using h
    have ih := cut_hit (l := l) (c := c) (i := i) h' (fun k hk => by have := hb (k + 1) (Nat.succ_lt_succ hk); simpa using this)
    have hbc' : (b != c) = true := by simpa using hbc
    rw [List.takeWhile_cons, List.dropWhile_cons, hbc']
    simp [ih.1, ih.2]

theorem cut_miss {l : List UInt8} {c : UInt8} (h : ∀ k : Nat, l[k]? ≠ some c) : l.takeWhile (· != c) = l ∧ l.dropWhile (· != c) = [] := by
  induction l with
  | nil => simp
  | cons b l ih =>
    have hbc : b ≠ c := by simpa using h 0
    have hbc' : (b != c) = true := by simpa using hbc
    have := ih (fun k => by simpa using h (k + 1))
    rw [List.takeWhile_cons, List.dropWhile_cons, hbc']
    simp [this.1, this.2]

theorem below_drewN (w : World) (n : Nat) : Below w.heap.size w (w.drewN n) := ⟨rfl, rfl, rfl, Nat.le_refl _, fun _ _ => rfl⟩

def CutPost (w : World) (s : ByteArray) (c : UInt8) (e : Ending) (w' : World) : Prop :=
  ∃ b, e = .returned (.tuple #[.string (cutA s c), .string (cutR s c), .bool b]) ∧ Below w.heap.size w w'

theorem mk_data (s : ByteArray) : (⟨s.data.toList.toArray⟩ : ByteArray) = s := rfl

set_option maxRecDepth 100000 in
set_option maxHeartbeats 1000000 in
theorem litecut_any (w : World) (s : ByteArray) (c : UInt8) (hs : s.size ≤ 1000000000) :
    Calls Tryd.prog 29 #[.string s, .string ⟨#[c]⟩] w (CutPost w s c) := by
  have hindex := fun w => Tryd.stringslite_Index_one s c w
  have hge := Lib.indexByte_ge s.data.toList c
  have hn := fun h => Lib.indexByte_none (l := s.data.toList) (c := c) h
  have hsm := fun (o : Nat) (h : Lib.indexByte s.data.toList c = o) => Lib.indexByte_some (l := s.data.toList) (c := c) (o := o) h
  generalize Lib.indexByte s.data.toList c = i at *
  have HI := Lib.hid hindex
  clear hindex
  by_cases h0 : i = -1
  · subst h0
    have hm := cut_miss (hn rfl)
    have ha : cutA s c = s := by unfold cutA cutAL; rw [hm.1]
    have hr : cutR s c = ⟨#[]⟩ := by unfold cutR cutRL; rw [hm.2]; rfl
    have HA := Lib.hid ha
    have HR := Lib.hid hr
    clear hn hsm hm ha hr hge
    go_enter Tryd.func29, Tryd.ntmps29
    go_wp2_with (go_at_call 32; go_must (refine (HI.out _).mono ?_))
    rintro e w1 ⟨rfl, rfl⟩
    go_wp2
    refine bodyPost_ret (v := .tuple #[.string s, .string ⟨#[]⟩, .bool false]) ?_ rfl ⟨false, by rw [HA.out, HR.out], Below.refl _ _⟩
    simp [results, Tryd.results29, go_sem]
  · obtain ⟨k, rfl⟩ : ∃ k : Nat, i = k := ⟨i.toNat, by omega⟩
    have hh := hsm k rfl
    have hk : k < s.data.toList.length := (List.getElem?_eq_some_iff.1 hh.1).1
    have hsl : s.data.toList.length = s.size := Array.length_toList
    rw [hsl] at hk
    have hm := cut_hit hh.1 hh.2
    have ha : s.extract 0 k = cutA s c := by
      unfold cutA cutAL
      rw [hm.1, ← Lib.extract_from_zero]
    have hr : s.extract (k + 1) s.size = cutR s c := by
      unfold cutR cutRL
      rw [hm.2, List.drop_drop, ← Lib.extract_to_end]
    have HA := Lib.hid ha
    have HR := Lib.hid hr
    clear hn hsm hm ha hr hge hh hsl
    go_enter Tryd.func29, Tryd.ntmps29
    go_wp2_with (go_at_call 32; go_must (refine (HI.out _).mono ?_))
    rintro e w1 ⟨rfl, rfl⟩
    go_wp2_with fail
    go_quiet (fail)
    go_wp2
    refine bodyPost_ret (v := .tuple #[.string (s.extract 0 k), .string (s.extract (k + 1) s.size), .bool true]) ?_ rfl ⟨true, by rw [HA.out, HR.out], below_drewN _ _⟩
    simp [results, Tryd.results29, go_sem]

set_option maxRecDepth 100000 in
set_option maxHeartbeats 1000000 in
theorem cut_any (w : World) (s : ByteArray) (c : UInt8) (hs : s.size ≤ 1000000000) :
    Calls Tryd.prog 19 #[.string s, .string ⟨#[c]⟩] w (CutPost w s c) := by
  have hcut := fun w => litecut_any w s c hs
  have HC := Lib.hid hcut
  clear hcut
  go_enter Tryd.func19, Tryd.ntmps19
  go_wp2_with (go_at_call 29; go_must (refine (HC.out _).mono ?_))
  rintro e w1 ⟨b, rfl, b1⟩
  go_wp2
  refine bodyPost_ret (v := .tuple #[.string (cutA s c), .string (cutR s c), .bool b]) ?_ rfl ⟨b, rfl, b1⟩
  simp [results, Tryd.results19, go_sem]
end Go.Proofs.YtidnalihgihnaaaDoor
