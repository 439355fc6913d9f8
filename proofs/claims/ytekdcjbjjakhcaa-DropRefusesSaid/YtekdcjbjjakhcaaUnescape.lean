import Derived.Test.YtekdcjbjjakhcaaBuilder
import Derived.Test.YtekdcjbjjakhcaaShelf
import Derived.Test.YtekdcjbjjakhcaaUnescMath
import Derived.Lib.Split
import Derived.Lib.IndexBytes
namespace Go.Proofs.Ytekdcjbjjakhcaa
open Go Go.RowKit

def UnescPost (w : World) (r : Option (List UInt8 × List UInt8)) (e : Ending) (w' : World) : Prop :=
  ((∃ x, r = some x ∧ e = .returned (.tuple #[.string ⟨x.1.toArray⟩, .string ⟨x.2.toArray⟩, .bool true])) ∨ r = none ∧ e = .returned (.tuple #[.string ⟨#[]⟩, .string ⟨#[]⟩, .bool false])) ∧ Below w.heap.size w w'

def UnescRel (w : World) (l : List UInt8) (s : Value) (wr : World) : Prop :=
  ∃ (t : ByteArray) (k : List UInt8), s = .string t ∧ t.size ≤ l.length ∧ k.length + t.size ≤ l.length ∧ unesc l = (unesc t.data.toList).map (fun x => (k ++ x.1, x.2)) ∧
    Lib.IsBuilder 92 5 w.heap.size w.heap.size (bcells k) wr ∧ Below w.heap.size w wr ∧ w.heap.size < wr.heap.size

def strLen : Value → Nat
  | .string t => t.size
  | _ => 0

theorem indexByte_any (s : ByteArray) (w : World) : Calls Try.prog 57 #[.string s, .int .u8 0] w fun e w' => e = .returned (.int .i64 (Lib.indexByte s.data.toList 0)) ∧ w = w' :=
  (Try.strings_IndexByte s 0 w).mono fun _ _ ⟨h1, h2⟩ => ⟨h1, h2.symm⟩

set_option maxRecDepth 100000 in
set_option maxHeartbeats 2000000 in
theorem unescape_any (w : World) (s : ByteArray) (hs : s.size ≤ 10000000000) :
    Calls Try.prog 56 #[.string s] w (UnescPost w (unesc s.data.toList)) := by
  have hsl : s.data.toList.length = s.size := Array.length_toList
  have hst : UnescRel w s.data.toList (.string s) (w.alloc (.cells #[.pointer none, .slice none 0 0] 92)) :=
    ⟨s, [], rfl, by omega, by simp, by cases unesc s.data.toList <;> simp, Lib.fresh_isBuilder _ _ _, (Below.refl _ _).alloc (Nat.le_refl _) _, by simp⟩
  have Hsl := Lib.hid hsl
  have Hst := Lib.hid hst
  clear hsl hst
  go_enter Try.func56, Try.ntmps56
  go_wp2
  go_loopw [0] (fun s' wr => UnescRel w s.data.toList s' wr) (fun s' _ => strLen s')
  case atStart => exact Hst.out
  case round =>
    obtain ⟨t, k, rfl, ht, hk, heq, hbd, hbel, hlt⟩ := hrel
    have hge := Lib.indexByte_ge t.data.toList 0
    have htl : t.data.toList.length = t.size := Array.length_toList
    have Heq := Lib.hid heq
    have Htl := Lib.hid htl
    have hkb : (bcells k).length ≤ 10000000000 := by rw [bcells_length]; have := Hsl.out; omega
    have hts : t.size ≤ 10000000000 := by have := Hsl.out; omega
    clear heq htl
    by_cases hi : Lib.indexByte t.data.toList 0 = -1
    · have hn := unesc_none (Lib.indexByte_none hi)
      have Hn := Lib.hid hn
      have Hi := Lib.hid hi
      clear hn hi
      go_wp2_with (go_at_call 57; go_must (refine (indexByte_any t _).mono ?_); rintro e w1 ⟨rfl, rfl⟩; rw [Hi.out])
      go_wp2
      go_ret3
      exact ⟨.inr ⟨by rw [Heq.out, Hn.out]; rfl, rfl⟩, hbel⟩
    · obtain ⟨o, ho⟩ : ∃ o : Nat, Lib.indexByte t.data.toList 0 = o := ⟨(Lib.indexByte t.data.toList 0).toNat, by omega⟩
      obtain ⟨hz, hbef⟩ := Lib.indexByte_some ho
      have hat := unesc_at hz hbef
      have hol : o < t.size := by
        have := (List.getElem?_eq_some_iff.1 hz).1
        rw [Htl.out] at this
        exact this
      have Ho := Lib.hid ho
      clear ho hi hbef hz hge
      by_cases h1 : o + 1 < t.size
      · have hd : t.data.toList[o + 1]? = some t[o + 1] := by
          rw [List.getElem?_eq_getElem (by rw [Htl.out]; exact h1)]
          rfl
        rw [hd] at hat
        simp only at hat
        have Hat := Lib.hid hat
        clear hat hd
        by_cases d1 : t[o + 1] = 1
        · have dx := d1
          have e1 : ((t[o + 1].toNat : Int) == 1) = true := by rw [d1]; rfl
          clear d1
          have Dx := Lib.hid dx
          clear dx
          go_wp2_with (go_at_call 57; go_must (refine (indexByte_any t _).mono ?_); rintro e w1 ⟨rfl, rfl⟩; rw [Ho.out])
          go_wp2_with (go_at_call 58; go_must (refine (writeString_any _ _ _ (t.extract 0 o) _ hbd (by simp [ByteArray.size_extract]; omega) (by omega)).mono ?_))
          rintro e w2 ⟨rfl, hbd2, hb2⟩
          rw [← bcells_append, Lib.extract_from_zero] at hbd2
          have hs2 : w.heap.size < w2.heap.size := Nat.lt_of_lt_of_le hlt hb2.size
          have hbel2 := hbel.trans hb2
          go_wp2_with (go_at_call 59; go_must (refine (Try.Builder_String_any w.heap.size w.heap.size (k ++ t.data.toList.take o) _ hbd2 (by omega)).mono ?_))
          rintro e w3 ⟨rfl, hb3⟩
          go_wp2
          go_ret3
          refine ⟨.inl ⟨(k ++ t.data.toList.take o, t.data.toList.drop (o + 2)), ?_, ?_⟩, hbel2.trans hb3⟩
          · rw [Heq.out, Hat.out, if_pos Dx.out]
            rfl
          · have e : (⟨(t.data.toList.drop (o + 2)).toArray⟩ : ByteArray) = t.extract (o + 2) t.size := by rw [← Lib.extract_to_end]
            rw [e]
            rfl
        · by_cases d2 : t[o + 1] = 255
          · have dx := And.intro d1 d2
            have e1 : ((t[o + 1].toNat : Int) == 1) = false := by rw [d2]; rfl
            have e2 : ((t[o + 1].toNat : Int) == 255) = true := by rw [d2]; rfl
            clear d1 d2
            have Dx := Lib.hid dx
            clear dx
            go_wp2_with (go_at_call 57; go_must (refine (indexByte_any t _).mono ?_); rintro e w1 ⟨rfl, rfl⟩; rw [Ho.out])
            go_wp2_with (go_at_call 58; go_must (refine (writeString_any _ _ _ (t.extract 0 o) _ hbd (by simp [ByteArray.size_extract]; omega) (by omega)).mono ?_))
            rintro e w2 ⟨rfl, hbd2, hb2⟩
            rw [← bcells_append, Lib.extract_from_zero] at hbd2
            have hs2 : w.heap.size < w2.heap.size := Nat.lt_of_lt_of_le hlt hb2.size
            have hbel2 := hbel.trans hb2
            go_wp2_with (go_at_call 60; go_must (refine (writeByte_any w.heap.size w.heap.size _ 0 _ hbd2 (by rw [bcells_length, List.length_append, List.length_take, Htl.out]; have := Hsl.out; omega) (by omega)).mono ?_))
            rintro e w3 ⟨rfl, hbd3, hb3⟩
            go_wp2
            refine ⟨⟨t.extract (o + 2) t.size, k ++ t.data.toList.take o ++ [0], rfl, ?_, ?_, ?_, ?_, hbel2.trans hb3, Nat.lt_of_lt_of_le hs2 hb3.size⟩, ?_⟩
            · have h3 := Hsl.out
              have h4 : (t.extract (o + 2) t.size).size = t.size - (o + 2) := by simp [ByteArray.size_extract]
              omega
            · have h3 := Hsl.out
              have h4 : (t.extract (o + 2) t.size).size = t.size - (o + 2) := by simp [ByteArray.size_extract]
              rw [List.length_append, List.length_append, List.length_take, Htl.out, Nat.min_eq_left (by omega), h4]
              simp only [List.length_singleton]
              omega
            · rw [Heq.out, Hat.out, if_neg Dx.out.1, if_pos Dx.out.2, Lib.extract_to_end]
              simp [Option.map_map, Function.comp_def]
            · rw [← bcells_append] at hbd3
              exact hbd3
            · simp [strLen, ByteArray.size_extract]; omega
          · have dx := And.intro d1 d2
            have e1 : ((t[o + 1].toNat : Int) == 1) = false := by
              rw [beq_eq_false_iff_ne]
              intro h
              exact d1 (UInt8.toNat_inj.1 (by simp; omega))
            have e2 : ((t[o + 1].toNat : Int) == 255) = false := by
              rw [beq_eq_false_iff_ne]
              intro h
              exact d2 (UInt8.toNat_inj.1 (by simp; omega))
            clear d1 d2
            have Dx := Lib.hid dx
            clear dx
            go_wp2_with (go_at_call 57; go_must (refine (indexByte_any t _).mono ?_); rintro e w1 ⟨rfl, rfl⟩; rw [Ho.out])
            go_wp2_with (go_at_call 58; go_must (refine (writeString_any _ _ _ (t.extract 0 o) _ hbd (by simp [ByteArray.size_extract]; omega) (by omega)).mono ?_))
            rintro e w2 ⟨rfl, hbd2, hb2⟩
            rw [← bcells_append, Lib.extract_from_zero] at hbd2
            have hs2 : w.heap.size < w2.heap.size := Nat.lt_of_lt_of_le hlt hb2.size
            have hbel2 := hbel.trans hb2
            go_wp2
            go_ret3
            exact ⟨.inr ⟨by rw [Heq.out, Hat.out, if_neg Dx.out.1, if_neg Dx.out.2]; rfl, rfl⟩, hbel2⟩
      · have hn : t.data.toList[o + 1]? = none := List.getElem?_eq_none (by rw [Htl.out]; omega)
        rw [hn] at hat
        simp only at hat
        have Hat := Lib.hid hat
        clear hat hn
        go_wp2_with (go_at_call 57; go_must (refine (indexByte_any t _).mono ?_); rintro e w1 ⟨rfl, rfl⟩; rw [Ho.out])
        go_wp2
        go_ret3
        exact ⟨.inr ⟨by rw [Heq.out, Hat.out]; rfl, rfl⟩, hbel⟩

theorem unescape_none (w : World) (s : ByteArray) (hs : s.size ≤ 10000000000) (h : unesc s.data.toList = none) :
    Calls Try.prog 56 #[.string s] w fun e w' => e = .returned (.tuple #[.string ⟨#[]⟩, .string ⟨#[]⟩, .bool false]) ∧ Below w.heap.size w w' :=
  (unescape_any w s hs).mono fun e w' ⟨h1, b1⟩ => by
    rcases h1 with ⟨x, hx, _⟩ | ⟨_, he⟩
    · rw [h] at hx; cases hx
    · exact ⟨he, b1⟩

theorem unescape_some (w : World) (s t : ByteArray) (hs : s.size ≤ 10000000000) {k : List UInt8} (h : unesc s.data.toList = some (k, t.data.toList)) :
    Calls Try.prog 56 #[.string s] w fun e w' => e = .returned (.tuple #[.string ⟨k.toArray⟩, .string t, .bool true]) ∧ Below w.heap.size w w' :=
  (unescape_any w s hs).mono fun e w' ⟨h1, b1⟩ => by
    rcases h1 with ⟨x, hx, he⟩ | ⟨hx, _⟩
    · rw [h] at hx; cases hx; exact ⟨he, b1⟩
    · rw [h] at hx; cases hx
end Go.Proofs.Ytekdcjbjjakhcaa
