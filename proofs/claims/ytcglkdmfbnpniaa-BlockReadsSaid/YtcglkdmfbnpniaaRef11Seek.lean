/- sentryref11.Seek. -/
import Derived.Test.YtcglkdmfbnpniaaStrRows
import Derived.Test.YtcglkdmfbnpniaaStrWalks
namespace Go.Proofs.Ytcglkdmfbnpniaa
open Go Go.RowKit

def sk11 (l : List ByteArray) (key : ByteArray) (after : Bool) : Option ByteArray := l.find? fun x => bl key x || (decide (x = key) && !after)

def sk11V : Option ByteArray → Value
  | none => .tuple #[.string ⟨#[]⟩, .bool false]
  | some x => .tuple #[.string x, .bool true]

def Seek11Rel (l : List ByteArray) (key : ByteArray) (after : Bool) (v : Value) : Prop := ∃ k : Nat, v = .int .i64 (k : Int) ∧ k ≤ l.length ∧ sk11 l key after = sk11 (l.drop k) key after

theorem sk11_step {l : List ByteArray} {key : ByteArray} {after : Bool} {k : Nat} {x : ByteArray} (h : l[k]? = some x) : sk11 (l.drop k) key after = if bl key x || (decide (x = key) && !after) then some x else sk11 (l.drop (k + 1)) key after := by
  have e : l.drop k = x :: l.drop (k + 1) := by
    have hk := (List.getElem?_eq_some_iff.1 h).1
    rw [List.drop_eq_getElem_cons hk]
    rw [List.getElem?_eq_getElem hk] at h
    cases h
    rfl
  unfold sk11
  rw [e, List.find?_cons]
  split
  · rename_i hp; rw [hp]; rfl
  · rename_i hp; rw [hp]; rfl

def Sk11Post (w : World) (o : Option ByteArray) (e : Ending) (w' : World) : Prop := e = .returned (sk11V o) ∧ w = w'

set_option maxRecDepth 100000 in
set_option maxHeartbeats 2000000 in
theorem seek11_any (w : World) (a : Option Addr) (n cap : Nat) (l : List ByteArray) (key : ByteArray) (after : Bool) (h : Reads w 1 (.slice a n cap) n (scells l)) :
    Calls Try.prog 17 #[.slice a n cap, .string key, .bool after] w (Sk11Post w (sk11 l key after)) := by
  have hll : l.length = n := by have := h.1; rw [scells_length] at this; omega
  have HR := Lib.hid h
  have HLL := Lib.hid hll
  obtain ⟨_, _, hv, hc1, hc2⟩ := h.le
  cases hv
  unfold maxLen at hc2
  clear h hll
  go_enter Try.func17, Try.ntmps17
  go_wp2
  go_loop [12] (fun v => Seek11Rel l key after v) (fun v => n - (intOf v).toNat)
  case atStart => exact ⟨0, rfl, Nat.zero_le _, rfl⟩
  case round =>
    obtain ⟨k, rfl, hk, hsk⟩ := hrel
    rw [HLL.out] at hk
    by_cases hlt : k < n
    · have hkI : (k : Int) < n := by omega
      obtain ⟨b, off, x, rfl, hx, hb, hc⟩ := HR.out.scell k hlt
      have hst := sk11_step (key := key) (after := after) hx
      have e1 := bl_spell x key
      have e2 := bl_spell key x
      have e3 := str_eq x key
      clear hx
      rcases bl_cases x key with ⟨k1, k2, k3⟩ | ⟨k1, k2, k3⟩ | ⟨k1, k2, k3⟩
      · rw [k1] at e1
        rw [k2, decide_eq_false k3] at hst
        rw [k2] at e2
        rw [decide_eq_false k3] at e3
        rw [hst] at hsk
        have HSk := Lib.hid hsk
        clear hst hsk k1 k2 k3
        go_wp2
        exact ⟨⟨k + 1, by go_num, by rw [HLL.out]; omega, by rw [HSk.out]; cases after <;> rfl⟩, by simp [intOf]; omega⟩
      · rw [k1] at e1
        rw [k2, decide_eq_true k3] at hst
        rw [k2] at e2
        rw [decide_eq_true k3] at e3
        cases after with
        | true =>
          rw [hst] at hsk
          have HSk := Lib.hid hsk
          clear hst hsk k1 k2 k3
          go_wp2
          exact ⟨⟨k + 1, by go_num, by rw [HLL.out]; omega, by rw [HSk.out]; rfl⟩, by simp [intOf]; omega⟩
        | false =>
          rw [hst] at hsk
          have HSk := Lib.hid hsk
          clear hst hsk k1 k2 k3
          go_wp2
          refine bodyPost_ret (v := .tuple #[.string x, .bool true]) (by simp [results, Try.results17, go_sem]) rfl ?_
          exact ⟨by rw [HSk.out]; rfl, rfl⟩
      · rw [k1] at e1
        rw [k2] at hst e2
        rw [decide_eq_false k3] at e3
        rw [hst] at hsk
        have HSk := Lib.hid hsk
        clear hst hsk k1 k2 k3
        go_wp2
        refine bodyPost_ret (v := .tuple #[.string x, .bool true]) (by simp [results, Try.results17, go_sem]) rfl ?_
        exact ⟨by rw [HSk.out]; rfl, rfl⟩
    · obtain rfl : k = n := by omega
      have hkI : ¬ ((k : Int) < k) := by omega
      have hz : sk11 l key after = none := by
        rw [hsk, List.drop_of_length_le (by rw [HLL.out]; omega)]
        rfl
      have HZ := Lib.hid hz
      clear hsk hz
      go_wp2
      refine bodyPost_ret (v := .tuple #[.string ⟨#[]⟩, .bool false]) (by simp [results, Try.results17, go_sem]) rfl ?_
      exact ⟨by rw [HZ.out]; rfl, rfl⟩
end Go.Proofs.Ytcglkdmfbnpniaa
