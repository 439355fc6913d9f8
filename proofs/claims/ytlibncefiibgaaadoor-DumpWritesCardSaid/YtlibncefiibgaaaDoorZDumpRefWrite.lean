/- The reference's dump, given its set. -/
import Derived.Test.YtlibncefiibgaaaDoorZDumpTellM
import Derived.Test.YtlibncefiibgaaaDoorZDumpNil
import Derived.Test.YtlibncefiibgaaaDoorZTupleRefPrint
namespace Go.Proofs.YtlibncefiibgaaaDoor
open Go Go.RowKit

def RwRel (w : World) (v : Value) (m : Nat) (ts : List Six) (sv kv : Value) (wr : World) : Prop :=
  ∃ (k : Nat) (sb : ByteArray), sv = .string sb ∧ sb.data.toList = headB.data.toList ++ [10] ++ linesL (ts.take k) ∧ kv = .int .i64 (k : Int) ∧ k ≤ m ∧ Below w.heap.size w wr ∧ Reads wr 6 v m (tcells ts)

theorem wr_next0 {ts : List Six} {k : Nat} {t : Six} (h : ts[k]? = some t) : headB.data.toList ++ [10] ++ linesL (ts.take k) ++ t.text.data.toList ++ [10] = headB.data.toList ++ [10] ++ linesL (ts.take (k + 1)) := by
  rw [List.take_add_one, h, Option.toList_some, linesL_snoc]
  simp

theorem rw_next {ts : List Six} {k : Nat} {t : Six} {sb : ByteArray} (h : ts[k]? = some t) (hs : sb.data.toList = headB.data.toList ++ [10] ++ linesL (ts.take k)) : (sb ++ t.text ++ (⟨#[10]⟩ : ByteArray)).data.toList = headB.data.toList ++ [10] ++ linesL (ts.take (k + 1)) := by
  rw [← wr_next0 h, ← hs]
  simp

set_option maxRecDepth 100000 in
set_option maxHeartbeats 2000000 in
theorem refwrite_of (w : World) (a : Option Addr) (n cap : Nat) (ts : List Six) (hset : Calls Tryd.prog 11 #[.slice a n cap] w (RowPost w ts)) (hs : ∀ t ∈ ts, t.short 100) (hn : ts.length ≤ 60) :
    Calls Tryd.prog 9 #[.slice a n cap] w (GivesVal w (.string (dumpB ts))) := by
  have HS := Lib.hid hset
  have HGS := Lib.hid hs
  obtain ⟨m, hm⟩ : ∃ m, ts.length = m := ⟨_, rfl⟩
  have HM := Lib.hid hm
  rw [hm] at hn
  have HDU := Lib.hid (show dumpB ts = ⟨(headB.data.toList ++ [10] ++ linesL ts ++ (endB m).data.toList ++ [10]).toArray⟩ by unfold dumpB dumpL; rw [hm])
  generalize dumpB ts = D at *
  clear hset hs hm
  go_enter Tryd.func9, Tryd.ntmps9
  go_wp2_with (go_at_call 11; go_must (refine HS.out.mono ?_))
  rintro e w1 ⟨v1, rfl, o1, b1⟩
  rw [HM.out] at o1
  obtain ⟨a1, c1, rfl, _, hc2⟩ := (ownsRow.reads o1).le
  unfold maxLen at hc2
  have HR0 := Lib.hid (show RwRel w (.slice a1 m c1) m ts (.string ⟨#[100, 117, 109, 112, 32, 49, 10]⟩) (.int .i64 0) w1 from ⟨0, _, rfl, rfl, rfl, Nat.zero_le _, b1, ownsRow.reads o1⟩)
  clear o1 b1 HS
  go_wp2
  go_loopw [3, 11] (fun sv kv wr => RwRel w (.slice a1 m c1) m ts sv kv wr) (fun _ kv _ => m - (intOf kv).toNat)
  case atStart => exact HR0.out
  case round =>
    rename World => wr
    obtain ⟨k, sb, rfl, hsb, rfl, hkm, hb, ho⟩ := hrel
    clear HR0
    have hsz : sb.size ≤ 100000 := by
      have h1 := linesL_len (ts.take k) (fun u hu => HGS.out u (List.mem_of_mem_take hu))
      have h2 : (ts.take k).length ≤ k := by rw [List.length_take]; omega
      have h3 : (headB.data.toList ++ [10]).length = 7 := rfl
      have h4 : sb.size = sb.data.toList.length := (Array.length_toList (xs := sb.data)).symm
      rw [h4, hsb, List.length_append, h3]
      omega
    have HBr := Lib.hid hb
    have HO := Lib.hid ho
    have HSb := Lib.hid hsb
    clear hb ho hsb
    by_cases hlt : k < m
    · have hltI : (k : Int) < m := by omega
      have hk0 : (0 : Int) ≤ k := by omega
      obtain ⟨t, ht⟩ : ∃ t, ts[k]? = some t := ⟨ts[k]'(by rw [HM.out]; exact hlt), List.getElem?_eq_getElem _⟩
      obtain ⟨b, off, hv, hbl', k0, k1, k2, k3, k4, k5⟩ := HO.out.six ht
      cases hv
      have hsh := HGS.out t (List.mem_of_getElem? ht)
      have htz := text_len605 t hsh
      have HPr := Lib.hid (fun W => refprint_any W t ⟨by have := hsh.1; omega, by have := hsh.2.1; omega, by have := hsh.2.2.1; omega, by have := hsh.2.2.2.1; omega, by have := hsh.2.2.2.2.1; omega, by have := hsh.2.2.2.2.2; omega⟩)
      have hvl : t.val = .agg #[.string t.a, .string t.b, .string t.c, .string t.d, .string t.e, .string t.f] := rfl
      rw [hvl] at HPr
      have HNx := Lib.hid (rw_next ht HSb.out)
      clear ht hsh hvl
      generalize t.text = tx at *
      have hsum1 : sb.size + tx.size ≤ 9223372036854775807 := by omega
      have hsum2 : (sb ++ tx).size + (⟨#[10]⟩ : ByteArray).size ≤ 9223372036854775807 := by
        rw [ByteArray.size_append]
        have : (⟨#[10]⟩ : ByteArray).size = 1 := rfl
        omega
      go_wp2_with (go_at_call 27; go_must (refine (HPr.out _).mono ?_))
      rintro e w6 ⟨rfl, b6⟩
      have b7 : Below wr.heap.size wr w6 := ((Below.refl _ _).alloc (Nat.le_refl _) _).trans (b6.mono (by simp))
      have HR := Lib.hid (show RwRel w (.slice (some ⟨b, off, none⟩) m c1) m ts (.string (sb ++ tx ++ ⟨#[10]⟩)) (.int .i64 ((k + 1 : Nat) : Int)) w6 from ⟨k + 1, _, rfl, HNx.out, rfl, hlt, HBr.out.trans (b7.mono HBr.out.size), HO.out.below' b7⟩)
      clear b6 b7
      go_wp2
      exact ⟨HR.out, by simp [intOf]; omega⟩
    · have hkl : k = m := by omega
      subst hkl
      have hlI : ¬ (k : Int) < k := by omega
      have HE := Lib.hid (fun W => decimal_any k W (by omega))
      have hds := dec_size k (by omega)
      have hfull : ts.take k = ts := List.take_of_length_le (by rw [HM.out]; exact Nat.le_refl _)
      rw [hfull] at HSb
      have hen : endB k = ⟨#[101, 110, 100, 32]⟩ ++ ⟨(Lib.decDigits k).toArray⟩ := rfl
      rw [hen] at HDU
      generalize (⟨(Lib.decDigits k).toArray⟩ : ByteArray) = dd at *
      have hsum1 : sb.size + (⟨#[101, 110, 100, 32]⟩ : ByteArray).size ≤ 9223372036854775807 := by
        have : (⟨#[101, 110, 100, 32]⟩ : ByteArray).size = 4 := rfl
        omega
      have hsum2 : (sb ++ ⟨#[101, 110, 100, 32]⟩).size + dd.size ≤ 9223372036854775807 := by
        rw [ByteArray.size_append]
        have : (⟨#[101, 110, 100, 32]⟩ : ByteArray).size = 4 := rfl
        omega
      have hsum3 : (sb ++ ⟨#[101, 110, 100, 32]⟩ ++ dd).size + (⟨#[10]⟩ : ByteArray).size ≤ 9223372036854775807 := by
        rw [ByteArray.size_append, ByteArray.size_append]
        have : (⟨#[101, 110, 100, 32]⟩ : ByteArray).size = 4 := rfl
        have : (⟨#[10]⟩ : ByteArray).size = 1 := rfl
        omega
      clear hfull hen hds
      go_wp2_with (go_at_call 28; go_must (refine (HE.out _).mono ?_))
      rintro e w6 ⟨rfl, b6⟩
      have HB6 := Lib.hid (HBr.out.trans (b6.mono HBr.out.size))
      clear b6 HE
      go_wp2
      go_ret
      refine ⟨?_, HB6.out⟩
      rw [HDU.out, ← HSb.out]
      have hf : (sb ++ ⟨#[101, 110, 100, 32]⟩ ++ dd ++ ⟨#[10]⟩ : ByteArray) = ⟨(sb.data.toList ++ ((⟨#[101, 110, 100, 32]⟩ : ByteArray) ++ dd).data.toList ++ [10]).toArray⟩ := by
        apply ByteArray.ext
        apply Array.ext'
        simp
      rw [← hf]
      rfl
end Go.Proofs.YtlibncefiibgaaaDoor
