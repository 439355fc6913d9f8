/- Towers: All; the law's fixed. -/
import Derived.Test.YthficboolhellaaSkipNew
namespace Go.Proofs.Ythficboolhellaa
open Go Go.RowKit

def lenOf : Value → Nat
  | .slice _ n _ => n
  | _ => 0

def AllPost (w : World) (K : List ByteArray) (e : Ending) (w' : World) : Prop := ∃ v, e = .returned v ∧ w'.ownsRow w.heap.size 9 1 v K.length (scells K) ∧ Below w.heap.size w w'

def AllRel (w : World) (ns : List Nat) (K : List ByteArray) (kv av : Value) (wr : World) : Prop :=
  ∃ i : Nat, i ≤ K.length ∧ av = ptrO ns[i]? ∧ wr.ownsRow w.heap.size 9 1 kv i (scells (K.take i)) ∧ Below w.heap.size w wr

set_option maxRecDepth 100000 in
set_option maxHeartbeats 2000000 in
theorem all_any (w : World) (L : Nat) (ns : List Nat) (kf : Nat → ByteArray) (ht : Nat → Nat) (K : List ByteArray) (h : SkL w L ns kf ht K) (hn : K.length ≤ 100000) :
    Calls Try.prog 20 #[.pointer (some ⟨L, 0, none⟩)] w (AllPost w K) := by
  obtain ⟨i0, hi, hz0, hz1, hz2⟩ := info_parts info9
  have HS := Lib.hid h
  have hlen := h.len
  have hll := h.nodes.lt (show L ∈ L :: ns by simp)
  have hnk : ns.length = K.length := by rw [← h.keys, List.length_map]
  have HNk := Lib.hid hnk
  clear h hnk
  go_enter Try.func20, Try.ntmps20
  go_wp2_with (at_make; go_must (refine wpList_make_own _ rfl _ _ 23 rfl w.heap.size 9 i0 _ 1 Try.underlying23 hi hz0 hz1 .i64 .i64 _ K.length rfl rfl ?_ ?_ ?_ ?_ ?_))
  · rfl
  · rw [hz2]; omega
  · unfold maxLen; omega
  · exact Nat.le_refl _
  intro w1 f1 g1
  have b1 : Below w.heap.size w w1 := (Below.refl _ _).grown g1 (Nat.le_refl _) (fun k hk => by cases hk)
  have h1 := HS.out.below b1
  have hch := h1.nodes.chain 0 (by omega) 0 L rfl
  rw [fl_zero h1.nodes.tall] at hch
  have hll1 := h1.nodes.lt (show L ∈ L :: ns by simp)
  obtain ⟨q, hq⟩ : ∃ q, ptrO ns[0]? = .pointer q := by
    cases ns[0]? with
    | none => exact ⟨_, rfl⟩
    | some x => exact ⟨_, rfl⟩
  rw [hq] at hch
  have HQ := Lib.hid hq
  have HO1 := Lib.hid f1
  have HB1 := Lib.hid b1
  clear f1 g1 b1 h1 hq
  go_wp2
  go_loopw [3, 4] (fun kv av wr => AllRel w ns K kv av wr) (fun kv _ _ => K.length - lenOf kv)
  case atStart => exact ⟨0, Nat.zero_le _, HQ.out.symm, HO1.out, HB1.out⟩
  case round =>
    obtain ⟨i, hik, rfl, hown, hb⟩ := hrel
    obtain ⟨ka, kcap, rfl, hk1, hk2⟩ := (ownsRow.reads hown).le
    unfold maxLen at hk2
    have hr := HS.out.below hb
    have HO := Lib.hid hown
    have HB := Lib.hid hb
    clear hown hb
    cases hx : ns[i]? with
    | none =>
      have hie : i = K.length := by
        have := List.getElem?_eq_none_iff.1 hx
        rw [HNk.out] at this
        omega
      have HT := Lib.hid (show K.take i = K from List.take_of_length_le (by omega))
      have HI := Lib.hid hie
      clear hx hr hie
      unfold ptrO
      go_wp2
      go_ret
      refine ⟨_, rfl, ?_, HB.out⟩
      have := HO.out
      rw [HT.out] at this
      rw [← HI.out]
      exact this
    | some x =>
      have hxm : x ∈ ns := List.mem_of_getElem? hx
      have hxk := hr.nodes.key x hxm
      have hxl := hr.nodes.lt (List.mem_cons_of_mem L hxm)
      have hch := hr.nodes.chain 0 (by omega) (i + 1) x (by rw [fl_zero hr.nodes.tall, List.getElem?_cons_succ]; exact hx)
      rw [fl_zero hr.nodes.tall] at hch
      have hilt : i < K.length := by
        have := (List.getElem?_eq_some_iff.1 hx).1
        rw [HNk.out] at this
        exact this
      have hkx : K[i]? = some (kf x) := by
        rw [← HS.out.keys, List.getElem?_map, hx]
        rfl
      have HTk := Lib.hid (show scells (K.take i) ++ [.string (kf x)] = scells (K.take (i + 1)) by
        rw [List.take_add_one, hkx]
        simp [scells])
      obtain ⟨q, hq⟩ : ∃ q, ptrO ns[i + 1]? = .pointer q := by
        cases ns[i + 1]? with
        | none => exact ⟨_, rfl⟩
        | some x => exact ⟨_, rfl⟩
      rw [hq] at hch
      have HQ := Lib.hid hq
      have HX := Lib.hid hx
      have HXm := Lib.hid hxm
      clear hx hxm hr hkx hq hch
      unfold ptrO
      go_wp2_with (at_builtin; go_must (refine wpList_append_rows_at (w0 := wr) rfl _ _ 23 rfl w.heap.size 9 i0 _ 1 16 Try.underlying23 hi hz0 hz1 hz2 rfl [.string (kf x)] 1 rfl rfl HO.out rfl rfl ?_ ?_ ?_ HB.out.size ?_))
      · intro u hu
        simp at hu
        subst hu
        rfl
      · unfold maxLen; omega
      · omega
      intro v6 w6 o6 g6 b6 _
      have h6 := HS.out.below (HB.out.trans b6)
      have hx6 := h6.nodes.lt (List.mem_cons_of_mem L HXm.out)
      have hc6 := h6.nodes.chain 0 (by omega) (i + 1) x (by rw [fl_zero h6.nodes.tall, List.getElem?_cons_succ]; exact HX.out)
      rw [fl_zero h6.nodes.tall, HQ.out] at hc6
      have HO6 := Lib.hid o6
      have HB6 := Lib.hid (HB.out.trans b6)
      clear h6 o6 g6 b6 hxl hxk
      obtain ⟨na, ncap, rfl, _, _⟩ := (ownsRow.reads HO6.out).le
      go_wp2
      exact ⟨⟨i + 1, by omega, HQ.out.symm, by rw [← HTk.out]; exact HO6.out, HB6.out⟩, by simp [lenOf]; omega⟩

/-- The law's fixed. -/
theorem fix11 : putK [] ⟨#[98]⟩ = [⟨#[98]⟩] ∧ putK [⟨#[98]⟩] ⟨#[97]⟩ = [⟨#[97]⟩, ⟨#[98]⟩] ∧ putK [⟨#[97]⟩, ⟨#[98]⟩] ⟨#[98]⟩ = [⟨#[97]⟩, ⟨#[98]⟩] ∧ isIn [] ⟨#[98]⟩ = false ∧ isIn [⟨#[98]⟩] ⟨#[97]⟩ = false ∧ isIn [⟨#[97]⟩, ⟨#[98]⟩] ⟨#[98]⟩ = true ∧ sk11 [⟨#[97]⟩, ⟨#[98]⟩] ⟨#[97, 97]⟩ false = some ⟨#[98]⟩ ∧ sumSz [] = 0 ∧ sumSz [⟨#[98]⟩] = 1 ∧ sumSz [⟨#[97]⟩, ⟨#[98]⟩] = 2 := by decide

set_option maxRecDepth 100000 in
set_option maxHeartbeats 4000000 in
theorem fixed11_any (w : World) : Calls Try.prog 7 #[] w (GivesVal w (.bool true)) := by
  obtain ⟨p1, p2, p3, q1, q2, q3, s1, z0, z1, z2⟩ := fix11
  have HNe := Lib.hid (new_any w none 0 0 [] ⟨rfl, _, _, rfl, Nat.le_refl _, Nat.zero_le _, fun j u h => by simp [bcells] at h⟩ (by omega))
  go_enter Try.func7, Try.ntmps7
  go_wp2_with (go_at_call 9; go_must (refine HNe.out.mono ?_))
  rintro e w1 ⟨L, kf, ht, rfl, h1, b1, hL⟩
  have HA := Lib.hid (skput_any w1 L [] kf ht [] ⟨#[98]⟩ h1 (by decide) (by decide))
  have HB1 := Lib.hid b1
  have HLL := Lib.hid hL
  clear h1 b1 hL HNe
  go_wp2_with (go_at_call 11; go_must (refine HA.out.mono ?_))
  rintro e w2 ⟨n2, kf2, ht2, he, h2, t2, m2⟩
  rw [q1] at he
  subst he
  rw [p1] at h2
  have HA2 := Lib.hid (skput_any w2 L n2 kf2 ht2 _ ⟨#[97]⟩ h2 (by decide) (by decide))
  have HB2 := Lib.hid (HB1.out.trans (t2.below (B := w.heap.size) HB1.out.size (fun x hx => by simp at hx; subst hx; exact HLL.out)))
  have hge2 : ∀ x ∈ L :: n2, w.heap.size ≤ x := fun x hx => by
    rcases List.mem_cons.1 hx with rfl | hx
    · exact HLL.out
    · rcases m2 x hx with h | h
      · cases h
      · exact Nat.le_trans HB1.out.size h
  have HG2 := Lib.hid hge2
  clear h2 t2 m2 hge2 HA
  go_wp2_with (go_at_call 11; go_must (refine HA2.out.mono ?_))
  rintro e w3 ⟨n3, kf3, ht3, he, h3, t3, m3⟩
  rw [q2] at he
  subst he
  rw [p2] at h3
  have HA3 := Lib.hid (skput_any w3 L n3 kf3 ht3 _ ⟨#[98]⟩ h3 (by decide) (by decide))
  have HB3 := Lib.hid (HB2.out.trans (t3.below (B := w.heap.size) HB2.out.size HG2.out))
  have hge3 : ∀ x ∈ L :: n3, w.heap.size ≤ x := fun x hx => by
    rcases List.mem_cons.1 hx with rfl | hx
    · exact HLL.out
    · rcases m3 x hx with h | h
      · exact HG2.out x (List.mem_cons_of_mem _ h)
      · exact Nat.le_trans HB2.out.size h
  have HG3 := Lib.hid hge3
  clear h3 t3 m3 hge3 HA2
  go_wp2_with (go_at_call 11; go_must (refine HA3.out.mono ?_))
  rintro e w4 ⟨n4, kf4, ht4, he, h4, t4, m4⟩
  rw [q3] at he
  subst he
  rw [p3] at h4
  have HB4 := Lib.hid (HB3.out.trans (t4.below (B := w.heap.size) HB3.out.size HG3.out))
  have hse := seek_any w4 L n4 kf4 ht4 _ ⟨#[97, 97]⟩ h4
  rw [s1] at hse
  have HS := Lib.hid hse
  have H4 := Lib.hid h4
  clear h4 t4 m4 hse HA3 p1 p2 p3 q1 q2 q3 s1 z0 z1
  go_wp2_with (go_at_call 14; go_must (refine HS.out.mono ?_))
  rintro e w5 ⟨rfl, b5⟩
  have h5 := H4.out.below b5
  have hl5 := h5.len
  have hs5 := h5.size
  rw [z2] at hs5
  have HLn := Lib.hid (len_any w5 L _ hl5)
  have HSz := Lib.hid (size_any w5 L _ hs5)
  have HB5 := Lib.hid (HB4.out.trans (b5.mono HB4.out.size))
  clear h5 hl5 hs5 b5 HS
  unfold sk11V
  go_wp2_with (go_at_call 12; go_must (refine HLn.out.mono ?_))
  rintro e w6 ⟨rfl, rfl⟩
  go_wp2_with (go_at_call 13; go_must (refine HSz.out.mono ?_))
  rintro e w6 ⟨rfl, rfl⟩
  go_wp2
  go_ret
  exact ⟨rfl, HB5.out⟩
end Go.Proofs.Ythficboolhellaa
