/- The parser: signs. -/
import Derived.Test.YtopnldebekhelaaDoorZSchRef
import Derived.Test.YtopnldebekhelaaDoorZSchShelf
namespace Go.Proofs.YtopnldebekhelaaDoor
open Go Go.RowKit

theorem ext_data (s : ByteArray) (i j : Nat) : (s.extract i j).data.toList = (s.data.toList.take j).drop i := by
  rw [ByteArray.data_extract, Array.toList_extract]
  simp [List.extract, List.drop_take]

theorem ext_tk (s : ByteArray) (i j : Nat) : s.extract i j = tk ((s.data.toList.take j).drop i) := by
  rw [← ext_data, tk_of]

theorem ext_one {s : ByteArray} {k : Nat} {c : UInt8} {r : List UInt8} (h : s.data.toList.drop k = c :: r) : nameB (s.extract k (k + 1)) = okB c := by
  have : (s.data.toList.take (k + 1)).drop k = [c] := by
    rw [List.drop_take, h, show k + 1 - k = 1 by omega]; rfl
  unfold nameB
  rw [ext_data, this]
  unfold nameL
  simp

def NlRel (l : List UInt8) (i : Value) (w wr : World) : Prop := ∃ k : Nat, i = .int .i64 (k : Int) ∧ k ≤ l.length ∧ nlen l = k + nlen (l.drop k) ∧ Below w.heap.size w wr
def GivesN (w : World) (n : Nat) (e : Ending) (w' : World) : Prop := e = .returned (.int .i64 (n : Int)) ∧ Below w.heap.size w w'

set_option maxRecDepth 100000 in
set_option maxHeartbeats 1000000 in
theorem nlen_any (w : World) (s : ByteArray) (hs : s.size ≤ 1000000000) : Calls Tryd.prog 60 #[.string s] w (GivesN w (nlen s.data.toList)) := by
  have hsl : s.data.toList.length = s.size := Array.length_toList
  have Hsl := Lib.hid hsl
  clear hsl
  go_enter Tryd.func60, Tryd.ntmps60
  go_wp2
  go_loopw [3] (fun i wr => NlRel s.data.toList i w wr) (fun i _ => s.size - (intOf i).toNat)
  case atStart => exact ⟨0, rfl, Nat.zero_le _, by simp, Below.refl _ _⟩
  case round =>
    obtain ⟨k, rfl, hk, hn, hb⟩ := hrel
    rw [Hsl.out] at hk
    have HB := Lib.hid hb
    have HN := Lib.hid hn
    clear hb hn
    by_cases hlt : k < s.size
    · obtain ⟨c, r, hd⟩ : ∃ c r, s.data.toList.drop k = c :: r := by
        cases h : s.data.toList.drop k with
        | nil => have := congrArg List.length h; rw [List.length_drop, Hsl.out] at this; simp at this; omega
        | cons c r => exact ⟨c, r, rfl⟩
      have hone := ext_one hd
      have hsz : (s.extract k (k + 1)).size ≤ 1000000000 := by rw [ByteArray.size_extract]; omega
      have hdr : (s.extract k s.size).data.toList = c :: r := by
        rw [ext_data, List.take_of_length_le (by rw [Hsl.out]; exact Nat.le_refl _), hd]
      have hd1 : s.data.toList.drop (k + 1) = r := by rw [← List.drop_drop, hd]; rfl
      have HD := Lib.hid hd
      have HD1 := Lib.hid hd1
      have HP1 := Lib.hid (fun W : World => name_any W (s.extract k (k + 1)) hsz)
      have HP2 := Lib.hid (fun W : World => prefix_any W (s.extract k s.size) ⟨#[45, 62]⟩)
      have HO := Lib.hid hone
      have HR := Lib.hid hdr
      clear hd hd1 hone hdr hsz
      have hltI : (k : Int) < s.size := by omega
      have hk1 : (k : Int) + 1 ≤ s.size := by omega
      cases hok : okB c with
      | false =>
        have hz : nlen (c :: r) = 0 := by unfold nlen; rw [hok]; simp
        rw [hok] at HO
        have HZ := Lib.hid hz
        clear hz hok
        go_wp2_with (go_at_call 47; go_must (refine (HP1.out _).mono ?_))
        rintro e w1 ⟨rfl, b1⟩
        rw [HO.out]
        have HB1 := Lib.hid (HB.out.trans (b1.mono HB.out.size))
        clear b1
        go_wp2
        go_ret
        refine ⟨?_, HB1.out⟩
        rw [HN.out, HD.out, HZ.out]
        rfl
      | true =>
        rw [hok] at HO
        cases har : arrowB (c :: r) with
        | true =>
          have hz : nlen (c :: r) = 0 := by unfold nlen; rw [har]; simp
          have hpf : Lib.hasPrefix (s.extract k s.size).data.toList (⟨#[45, 62]⟩ : ByteArray).data.toList = true := by rw [HR.out]; exact har
          have HZ := Lib.hid hz
          have HF := Lib.hid hpf
          clear hz hok hpf har
          go_wp2_with (go_at_call 47; go_must (refine (HP1.out _).mono ?_))
          rintro e w1 ⟨rfl, b1⟩
          rw [HO.out]
          have HB1 := Lib.hid (HB.out.trans (b1.mono HB.out.size))
          clear b1
          go_wp2_with (go_at_call 16; go_must (refine (HP2.out _).mono ?_))
          rintro e w2 ⟨rfl, rfl⟩
          rw [HF.out]
          go_wp2
          go_ret
          refine ⟨?_, HB1.out⟩
          rw [HN.out, HD.out, HZ.out]
          rfl
        | false =>
          have hz : nlen (c :: r) = nlen r + 1 := by rw [nlen, if_pos ⟨hok, har⟩]
          have hpf : Lib.hasPrefix (s.extract k s.size).data.toList (⟨#[45, 62]⟩ : ByteArray).data.toList = false := by rw [HR.out]; exact har
          have HZ := Lib.hid hz
          have HF := Lib.hid hpf
          clear hz hok hpf har
          go_wp2_with (go_at_call 47; go_must (refine (HP1.out _).mono ?_))
          rintro e w1 ⟨rfl, b1⟩
          rw [HO.out]
          have HB1 := Lib.hid (HB.out.trans (b1.mono HB.out.size))
          clear b1
          go_wp2_with (go_at_call 16; go_must (refine (HP2.out _).mono ?_))
          rintro e w2 ⟨rfl, rfl⟩
          rw [HF.out]
          go_wp2
          refine ⟨⟨k + 1, by go_num, by rw [Hsl.out]; omega, ?_, HB1.out⟩, by simp [intOf]; omega⟩
          rw [HN.out, HD.out, HZ.out, HD1.out]
          omega
    · obtain rfl : k = s.size := by omega
      have hltI : ¬ (s.size : Int) < s.size := by omega
      have hz : nlen s.data.toList = s.size := by
        have h := HN.out
        rw [List.drop_of_length_le (by rw [Hsl.out]; exact Nat.le_refl _)] at h
        rw [h]; rfl
      have HZ := Lib.hid hz
      clear hz
      go_wp2
      go_ret
      exact ⟨by rw [HZ.out]; rfl, HB.out⟩
end Go.Proofs.YtopnldebekhelaaDoor
