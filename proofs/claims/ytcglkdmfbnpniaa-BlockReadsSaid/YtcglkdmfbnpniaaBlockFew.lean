/- The law's few, and sorted. -/
import Derived.Test.YtcglkdmfbnpniaaRef11PutO
import Derived.Test.YtcglkdmfbnpniaaStrPuts
import Derived.Test.YtcglkdmfbnpniaaStrWalks
import Derived.Test.YtcglkdmfbnpniaaAppendRows
namespace Go.Proofs.Ytcglkdmfbnpniaa
open Go Go.RowKit

def shortL (l : List ByteArray) : Bool := l.all fun x => decide (x.size ≤ 300)
def few13 (l : List ByteArray) : Bool := shortL l && decide (l.length ≤ 200)

theorem shortL_snoc {l : List ByteArray} {k : Nat} {x : ByteArray} (h : l[k]? = some x) : shortL (l.take (k + 1)) = (shortL (l.take k) && decide (x.size ≤ 300)) := by
  unfold shortL
  rw [List.take_add_one, List.all_append, h]
  simp

theorem shortL_bad {l : List ByteArray} {k : Nat} {x : ByteArray} (h : l[k]? = some x) (hx : ¬ x.size ≤ 300) : few13 l = false := by
  unfold few13 shortL
  have : l.all (fun x => decide (x.size ≤ 300)) = false := by
    rw [List.all_eq_false]
    exact ⟨x, List.mem_of_getElem? h, by simpa using hx⟩
  rw [this, Bool.false_and]

theorem few13_low {l : List ByteArray} (h : few13 l = true) : (∀ x ∈ l, x.size ≤ 300) ∧ l.length ≤ 200 := by
  unfold few13 shortL at h
  simpa using h

def Few13Rel (l : List ByteArray) (v : Value) : Prop := ∃ k : Nat, v = .int .i64 (k : Int) ∧ k ≤ l.length ∧ shortL (l.take k) = true

def SamePost (w : World) (b : Bool) (e : Ending) (w' : World) : Prop := e = .returned (.bool b) ∧ w = w'

set_option maxRecDepth 100000 in
set_option maxHeartbeats 1000000 in
theorem few13_any (w : World) (a : Option Addr) (n cap : Nat) (l : List ByteArray) (h : Reads w 1 (.slice a n cap) n (scells l)) :
    Calls Try.prog 8 #[.slice a n cap] w (SamePost w (few13 l)) := by
  have hll : l.length = n := by have := h.1; rw [scells_length] at this; omega
  have HR := Lib.hid h
  have HLL := Lib.hid hll
  obtain ⟨_, _, hv, hc1, hc2⟩ := h.le
  cases hv
  unfold maxLen at hc2
  clear h hll
  go_enter Try.func8, Try.ntmps8
  go_wp2
  go_loop [7] (fun v => Few13Rel l v) (fun v => n - (intOf v).toNat)
  case atStart => exact ⟨0, rfl, Nat.zero_le _, rfl⟩
  case round =>
    obtain ⟨k, rfl, hk, hsk⟩ := hrel
    rw [HLL.out] at hk
    by_cases hlt : k < n
    · have hkI : (k : Int) < n := by omega
      obtain ⟨b, off, x, rfl, hx, hb, hc⟩ := HR.out.scell k hlt
      have hst := shortL_snoc hx
      rw [hsk] at hst
      have HBad := Lib.hid (shortL_bad hx)
      clear hx hsk
      by_cases h3 : x.size ≤ 300
      · have h3I : ¬ (300 : Int) < x.size := by omega
        rw [decide_eq_true h3] at hst
        have HSt := Lib.hid hst
        clear hst
        go_wp2
        exact ⟨⟨k + 1, by go_num, by rw [HLL.out]; omega, HSt.out⟩, by simp [intOf]; omega⟩
      · have h3I : (300 : Int) < x.size := by omega
        have HF := Lib.hid (HBad.out h3)
        clear hst HBad
        go_wp2
        go_ret
        rw [HF.out]
        exact ⟨rfl, rfl⟩
    · obtain rfl : k = n := by omega
      have hkI : ¬ ((k : Int) < k) := by omega
      have hz : few13 l = decide (k ≤ 200) := by
        unfold few13
        rw [← HLL.out, List.take_length] at hsk
        rw [hsk, HLL.out, Bool.true_and]
      have HZ := Lib.hid hz
      clear hsk hz
      by_cases h2 : k ≤ 200
      · have h2I : (k : Int) ≤ 200 := by omega
        rw [decide_eq_true h2] at HZ
        go_wp2
        go_ret
        rw [HZ.out]
        exact ⟨rfl, rfl⟩
      · have h2I : ¬ (k : Int) ≤ 200 := by omega
        rw [decide_eq_false h2] at HZ
        go_wp2
        go_ret
        rw [HZ.out]
        exact ⟨rfl, rfl⟩

def sortK (l : List ByteArray) : List ByteArray := l.foldl putK []

theorem sortK_snoc {l : List ByteArray} {k : Nat} {x : ByteArray} (h : l[k]? = some x) : sortK (l.take (k + 1)) = putK (sortK (l.take k)) x := by
  unfold sortK
  rw [List.take_add_one, List.foldl_append, h]
  rfl

theorem sortK_ok (l : List ByteArray) : rises (sortK l) ∧ (∀ x, x ∈ sortK l → x ∈ l) ∧ (sortK l).length ≤ l.length := by
  obtain ⟨h1, h2, h3⟩ := putsAll_ok l [] rises_nil
  exact ⟨h1, fun x hx => by simpa using (h2 x).1 hx, by simpa [sortK] using h3⟩

def SortRel (w : World) (l : List ByteArray) (ov iv : Value) (wr : World) : Prop :=
  ∃ k : Nat, iv = .int .i64 (k : Int) ∧ k ≤ l.length ∧ wr.ownsRow w.heap.size 9 1 ov (sortK (l.take k)).length (scells (sortK (l.take k))) ∧ Below w.heap.size w wr

def SortPost (w : World) (l : List ByteArray) (e : Ending) (w' : World) : Prop :=
  ∃ v, e = .returned v ∧ w'.ownsRow w.heap.size 9 1 v (sortK l).length (scells (sortK l)) ∧ Below w.heap.size w w'

set_option maxRecDepth 100000 in
set_option maxHeartbeats 1000000 in
theorem sorted_any (w : World) (a : Option Addr) (n cap : Nat) (l : List ByteArray) (h : Reads w 1 (.slice a n cap) n (scells l)) (hn : n ≤ 1000) :
    Calls Try.prog 9 #[.slice a n cap] w (SortPost w l) := by
  have hll : l.length = n := by have := h.1; rw [scells_length] at this; omega
  have HR := Lib.hid h
  have HLL := Lib.hid hll
  obtain ⟨_, _, hv, hc1, hc2⟩ := h.le
  cases hv
  unfold maxLen at hc2
  clear h hll
  go_enter Try.func9, Try.ntmps9
  go_wp2
  go_loopw [3, 8] (fun ov iv wr => SortRel w l ov iv wr) (fun _ iv _ => n - (intOf iv).toNat)
  case atStart => exact ⟨0, rfl, Nat.zero_le _, owns_nil _ _ _ _, Below.refl _ _⟩
  case round =>
    obtain ⟨k, rfl, hk, ho, hb⟩ := hrel
    rw [HLL.out] at hk
    by_cases hlt : k < n
    · have hkI : (k : Int) < n := by omega
      obtain ⟨b, off, x, rfl, hx, hbk, hc⟩ := (HR.out.below' hb).scell k hlt
      have hst := sortK_snoc hx
      have hle := (sortK_ok (l.take k)).2.2
      rw [List.length_take] at hle
      obtain ⟨va, vcap, rfl, _, _⟩ := (ownsRow.reads ho).le
      have HP := Lib.hid (puto_any wr w.heap.size va _ vcap _ x ho hb.size (by omega))
      have HSt := Lib.hid hst
      have HB := Lib.hid hb
      clear hx hst ho hb
      generalize sortK (l.take k) = T at *
      generalize T.length = m at *
      clear hle
      go_wp2_with (go_at_call 20; go_must (refine HP.out.mono ?_))
      rintro e w2 ⟨v2, b2, rfl, ho2, hb2⟩
      have HO2 := Lib.hid ho2
      have HB2 := Lib.hid (HB.out.trans (hb2.mono HB.out.size))
      clear ho2 hb2 HP HB
      go_wp2
      exact ⟨⟨k + 1, by go_num, by rw [HLL.out]; omega, by rw [HSt.out]; exact HO2.out, HB2.out⟩, by simp [intOf]; omega⟩
    · obtain rfl : k = n := by omega
      have hkI : ¬ ((k : Int) < k) := by omega
      rw [List.take_of_length_le (by rw [HLL.out]; exact Nat.le_refl _)] at ho
      have HO := Lib.hid ho
      have HB := Lib.hid hb
      clear ho hb
      go_wp2
      go_ret
      exact ⟨_, rfl, HO.out, HB.out⟩
end Go.Proofs.Ytcglkdmfbnpniaa
