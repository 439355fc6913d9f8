import Derived.Test.YtkcaadkamaogbaaDoorIndexRefKeys
import Derived.Test.YtkcaadkamaogbaaDoorIndexFixed
import Derived.Test.YtkcaadkamaogbaaDoorIndexFew
import Derived.Test.YtkcaadkamaogbaaDoorLies
import Derived.Test.YtkcaadkamaogbaaDoorTupleRefCheck
namespace Go.Proofs.YtkcaadkamaogbaaDoor
open Go Go.RowKit

theorem starts_cons (b c : UInt8) (x : ByteArray) : startsB ((⟨#[b]⟩ : ByteArray) ++ x) c = (b == c) := by
  unfold startsB
  rw [ByteArray.data_append]
  simp

theorem rest_cons (b : UInt8) (x : ByteArray) : restB ((⟨#[b]⟩ : ByteArray) ++ x) = x := by
  unfold restB
  apply ByteArray.ext
  apply Array.ext'
  rw [ByteArray.data_extract, Array.toList_extract, ByteArray.data_append, ByteArray.size_append]
  have : (⟨#[b]⟩ : ByteArray).size = 1 := rfl
  rw [this]
  simp [List.extract]
  exact List.take_of_length_le (Nat.le_of_eq Array.length_toList)

theorem unk_nz {t : Six} (h : ∀ x ∈ t.list, NZ x.data.toList) : Six.unk (keyB' t) = t ∧ Lib.countB (keyB' t) zB = 6 ∧ zrest (keyB' t) 6 = ⟨#[]⟩ := by
  obtain ⟨h1, h2, h3⟩ := key_count t.list (keyB' t) h rfl
  refine ⟨six_list_eq ?_, h1, h2⟩
  simp only [Six.unk, Six.list]
  rw [h3 0 t.a rfl, h3 1 t.b rfl, h3 2 t.c rfl, h3 3 t.d rfl, h3 4 t.e rfl, h3 5 t.f rfl]

theorem turned_turned (t : Six) : t.turned.turned = t := rfl

theorem nz_turned {t : Six} (h : t.ok = true) : ∀ x ∈ t.turned.list, NZ x.data.toList := by
  intro x hx
  refine nz_list h x ?_
  simp [Six.list, Six.turned] at hx ⊢
  rcases hx with h | h | h | h | h | h <;> simp [h]

theorem tup_fwd {t : Six} (h : t.ok = true) : tupV (keyF t) = .tuple #[t.val, .bool true, .int .i64 0] := by
  have e : keyF t = ⟨#[102]⟩ ++ keyB' t := keyF_eq t
  have hk : isKey (keyB' t) = true := by
    unfold isKey
    rw [(unk_key h).1, h]
    simp
  unfold tupV
  rw [e, if_pos (by rw [starts_cons]; rfl), rest_cons, if_pos hk, (unk_key h).1]

theorem tup_back {t : Six} (h : t.ok = true) : tupV (keyR t) = .tuple #[t.val, .bool false, .int .i64 0] := by
  have e : keyR t = ⟨#[114]⟩ ++ keyB' t.turned := by
    rw [keyR_eq]
    apply ByteArray.ext
    rw [ByteArray.data_append]
    apply Array.ext'
    rw [Array.toList_append]
    rfl
  obtain ⟨h1, h2, h3⟩ := unk_nz (nz_turned h)
  have hb : isBack (keyB' t.turned) = true := by
    unfold isBack
    rw [h1, h2, h3, turned_turned, h]
    rfl
  unfold tupV
  rw [e, if_neg (by rw [starts_cons]; decide), if_pos ⟨by rw [starts_cons]; rfl, by rw [rest_cons]; exact hb⟩, rest_cons, h1, turned_turned]

theorem keyF_size {t : Six} (h : t.short 200) : (keyF t).size ≤ 1000000 := by
  obtain ⟨h1, h2, h3, h4, h5, h6⟩ := h
  unfold keyF
  rw [rowB_size]
  have e : (joinL t.list).length = t.a.size + (t.b.size + (t.c.size + (t.d.size + (t.e.size + (t.f.size + 1) + 1) + 1) + 1) + 1) := by
    simp [Six.list, joinL, joinT]
  rw [e]
  have : (⟨#[102]⟩ : ByteArray).size = 1 := rfl
  omega

theorem keyR_size {t : Six} (h : t.short 200) : (keyR t).size ≤ 1000000 := by
  obtain ⟨h1, h2, h3, h4, h5, h6⟩ := h
  unfold keyR
  rw [rowB_size]
  have e : (joinL t.turned.list).length = t.d.size + (t.e.size + (t.f.size + (t.a.size + (t.b.size + (t.c.size + 1) + 1) + 1) + 1) + 1) := by
    simp [Six.list, Six.turned, joinL, joinT]
  rw [e]
  have : (⟨#[114]⟩ : ByteArray).size = 1 := rfl
  omega

theorem TwoAt.keep {w w' : World} {g : Nat} {x y : ByteArray} (h : TwoAt w g x y) (hb : Below w.heap.size w w') : TwoAt w' g x y := below_block hb h (Array.getElem?_eq_some_iff.1 h).1

theorem TwoAt.cells {w : World} {g : Nat} {x y : ByteArray} (h : TwoAt w g x y) : w.cell? ⟨g, 0, none⟩ = some (.string x) ∧ w.cell? ⟨g, 1, none⟩ = some (.string y) :=
  ⟨Lib.cell_of_heap h 0, Lib.cell_of_heap h 1⟩

def KeysYes (x y : ByteArray) (w : World) (e : Ending) (w' : World) : Prop :=
  ∃ g, e = .returned (.tuple #[.slice (some ⟨g, 0, none⟩) 2 2, .int .i64 0]) ∧ TwoAt w' g x y ∧ Below w.heap.size w w'

def KeysRef (x y : ByteArray) (w : World) (e : Ending) (w' : World) : Prop :=
  ∃ g, e = .returned (.slice (some ⟨g, 0, none⟩) 2 2) ∧ TwoAt w' g x y ∧ Below w.heap.size w w'

theorem keys_yes (w : World) (t : Six) (hs : t.short 1000000000) (h : t.ok = true) : Calls Tryd.prog 9 #[t.val] w (KeysYes (keyF t) (keyR t) w) :=
  (keys_any w t hs).mono fun e w' hp => by
    rcases hp with ⟨_, h2⟩ | ⟨h1, _⟩
    · exact h2
    · rw [h] at h1
      cases h1

theorem keys_no (w : World) (t : Six) (hs : t.short 1000000000) (h : t.ok = false) : Calls Tryd.prog 9 #[t.val] w (GivesVal w (.tuple #[.slice none 0 0, checkV false])) :=
  (keys_any w t hs).mono fun e w' hp => by
    rcases hp with ⟨h1, _⟩ | ⟨_, h2⟩
    · rw [h] at h1
      cases h1
    · exact h2

set_option maxRecDepth 100000 in
set_option maxHeartbeats 1000000 in
theorem indexKeys_walk (w : World) (t : Six) (hm : MaxInt w) : Calls Tryd.prog 3 #[t.val] w (SaysTrue w) := by
  have up : t.short 200 → t.short 1000000 := fun ⟨h1, h2, h3, h4, h5, h6⟩ => ⟨by omega, by omega, by omega, by omega, by omega, by omega⟩
  have up9 : t.short 200 → t.short 1000000000 := fun ⟨h1, h2, h3, h4, h5, h6⟩ => ⟨by omega, by omega, by omega, by omega, by omega, by omega⟩
  have hc1 := fun h w => refcheck_any w t (up9 h)
  have hky := fun h (hk : t.ok = true) w => keys_yes w t (up9 h) hk
  have hkn := fun h (hk : t.ok = false) w => keys_no w t (up9 h) hk
  have hk2 : ∀ (_ : t.short 200) w, Calls Tryd.prog 11 #[t.val] w (KeysRef (keyF t) (keyR t) w) := fun h w => refkeys_any w t (up h)
  have htf := fun (h : t.short 200) w hm => ituple_any w (keyF t) (keyF_size h) hm
  have htr := fun (h : t.short 200) w hm => ituple_any w (keyR t) (keyR_size h) hm
  have hvf := fun (h : t.ok = true) => tup_fwd h
  have hvr := fun (h : t.ok = true) => tup_back h
  have hval : t.val = .agg #[.string t.a, .string t.b, .string t.c, .string t.d, .string t.e, .string t.f] := rfl
  generalize keyF t = KF at *
  generalize keyR t = KR at *
  generalize hok : t.ok = ok at *
  simp only [hval] at hc1 hky hkn hk2 hvf hvr ⊢
  have HC1 := Lib.hid hc1
  have HKy := Lib.hid hky
  have HKn := Lib.hid hkn
  have HK2 := Lib.hid hk2
  have HTf := Lib.hid htf
  have HTr := Lib.hid htr
  have HVf := Lib.hid hvf
  have HVr := Lib.hid hvr
  have hm0 : MaxInt (w.alloc (.cells (scells t.list).toArray 27)) := hm.below ((Below.refl _ w).alloc (Nat.le_refl _) _)
  have hb0 : Below w.heap.size w (w.alloc (.cells (scells t.list).toArray 27)) := (Below.refl _ w).alloc (Nat.le_refl _) _
  have ht0 := LiesAt.new w t
  have HM0 := Lib.hid hm0
  have HB0 := Lib.hid hb0
  have HT0 := Lib.hid ht0
  clear hc1 hky hkn hk2 htf htr hvf hvr up up9 hm hm0 hb0 ht0 hval
  go_enter Tryd.func3, Tryd.ntmps3
  go_wp2_with (go_at_call 7; go_must (refine (ifixed_any _ HM0.out).mono ?_))
  rintro e w1 ⟨rfl, b1⟩
  have hm1 := HM0.out.below b1
  have hb1 := HB0.out.trans (b1.mono HB0.out.size)
  have ht1 := HT0.out.below b1
  obtain ⟨c0, c1, c2, c3, c4, c5⟩ := six_cells ht1
  have hnew := LiesAt.new w1 t
  have hfew := few_any (w1.alloc (.cells (scells t.list).toArray 27)) w1.heap.size 1 1 [t] rfl (by decide) (by decide) (by simp) (tups_one hnew)
  have HFew := Lib.hid hfew
  have HM1 := Lib.hid hm1
  have HB1 := Lib.hid hb1
  have HT1 := Lib.hid ht1
  clear hnew hfew hm1 hb1 ht1 b1 HM0 HB0 HT0
  go_wp2_with (go_at_call 8; go_must (refine HFew.out.mono ?_))
  rintro e w2 ⟨rfl, b2⟩
  have b12 : Below w1.heap.size w1 w2 := ((Below.refl _ w1).alloc (Nat.le_refl _) _).trans (b2.mono (by simp))
  have hm2 := HM1.out.below b12
  have hb2 := HB1.out.trans (b12.mono HB1.out.size)
  have ht2 := HT1.out.below b12
  clear c0 c1 c2 c3 c4 c5
  obtain ⟨c0, c1, c2, c3, c4, c5⟩ := six_cells ht2
  have HM2 := Lib.hid hm2
  have HB2 := Lib.hid hb2
  have HT2 := Lib.hid ht2
  clear hm2 hb2 ht2 b2 b12 HFew HM1 HB1 HT1
  cases hfew : [t].all Six.tight with
  | false =>
    go_wp2
    go_ret
    exact ⟨rfl, HB2.out⟩
  | true =>
    have hsh : t.short 200 := by
      simp at hfew
      exact tight_short hfew
    have HSh := Lib.hid hsh
    clear hfew hsh
    cases ok with
    | false =>
      have hk := HKn.out HSh.out rfl
      have HK := Lib.hid hk
      clear hk
      unfold checkV at HK HC1
      go_wp2_with (go_at_call 9; go_must (refine (HK.out _).mono ?_))
      rintro e w3 ⟨rfl, b3⟩
      have hb3 := HB2.out.trans (b3.mono HB2.out.size)
      have ht3 := HT2.out.below b3
      clear c0 c1 c2 c3 c4 c5
      obtain ⟨c0, c1, c2, c3, c4, c5⟩ := six_cells ht3
      have HB3 := Lib.hid hb3
      clear hb3 ht3 b3 HB2 HT2
      go_wp2_with (go_at_call 10; go_must (refine (HC1.out HSh.out _).mono ?_))
      rintro e w4 ⟨rfl, b4⟩
      have HB4 := Lib.hid (HB3.out.trans (b4.mono HB3.out.size))
      clear b4
      go_wp2
      go_ret
      exact ⟨rfl, HB4.out⟩
    | true =>
      have hvf := HVf.out rfl
      have hvr := HVr.out rfl
      have htf := HTf.out HSh.out
      have htr := HTr.out HSh.out
      simp only [hvf] at htf
      simp only [hvr] at htr
      have hk := HKy.out HSh.out rfl
      have hc := HC1.out HSh.out
      have hr := HK2.out HSh.out
      unfold checkV at hc
      have HKk := Lib.hid hk
      have HCc := Lib.hid hc
      have HRr := Lib.hid hr
      have HFf := Lib.hid htf
      have HTt := Lib.hid htr
      clear hvf hvr htf htr hk hc hr HVf HVr HTf HTr HKy HKn HC1 HK2
      go_wp2_with (go_at_call 9; go_must (refine (HKk.out _).mono ?_))
      rintro e w3 ⟨gk, rfl, two3, b3⟩
      have hb3 := HB2.out.trans (b3.mono HB2.out.size)
      have ht3 := HT2.out.below b3
      have hm3 := HM2.out.below b3
      clear c0 c1 c2 c3 c4 c5
      obtain ⟨c0, c1, c2, c3, c4, c5⟩ := six_cells ht3
      have HB3 := Lib.hid hb3
      have HT3 := Lib.hid ht3
      have HM3 := Lib.hid hm3
      have HTw3 := Lib.hid two3
      clear hb3 ht3 hm3 two3 b3 HB2 HT2 HM2
      go_wp2_with (go_at_call 10; go_must (refine (HCc.out _).mono ?_))
      rintro e w4 ⟨rfl, b4⟩
      have hb4 := HB3.out.trans (b4.mono HB3.out.size)
      have ht4 := HT3.out.below b4
      have hm4 := HM3.out.below b4
      have hw4 := HTw3.out.keep b4
      clear c0 c1 c2 c3 c4 c5
      obtain ⟨c0, c1, c2, c3, c4, c5⟩ := six_cells ht4
      have HB4 := Lib.hid hb4
      have HT4 := Lib.hid ht4
      have HM4 := Lib.hid hm4
      have HTw4 := Lib.hid hw4
      clear hb4 ht4 hm4 hw4 b4 HB3 HT3 HM3 HTw3
      go_wp2_with (go_at_call 11; go_must (refine (HRr.out _).mono ?_))
      rintro e w5 ⟨gw, rfl, two5, b5⟩
      have hb5 := HB4.out.trans (b5.mono HB4.out.size)
      have ht5 := HT4.out.below b5
      have hm5 := HM4.out.below b5
      have hw5 := HTw4.out.keep b5
      clear c0 c1 c2 c3 c4 c5
      obtain ⟨c0, c1, c2, c3, c4, c5⟩ := six_cells ht5
      obtain ⟨k0, k1⟩ := hw5.cells
      obtain ⟨q0, q1⟩ := two5.cells
      have HB5 := Lib.hid hb5
      have HT5 := Lib.hid ht5
      have HM5 := Lib.hid hm5
      have HTw5 := Lib.hid hw5
      clear hb5 ht5 hm5 hw5 b5 two5 HB4 HT4 HM4 HTw4
      go_wp2
      go_quiet (fail)
      have b6 := below_drewN w5 nq
      have hb6 := HB5.out.trans (b6.mono HB5.out.size)
      have ht6 := HT5.out.below b6
      have hm6 := HM5.out.below b6
      have hw6 := HTw5.out.keep b6
      clear c0 c1 c2 c3 c4 c5 k0 k1 q0 q1 b6
      generalize w5.drewN nq = w6 at *
      obtain ⟨k0, k1⟩ := hw6.cells
      have HB6 := Lib.hid hb6
      have HT6 := Lib.hid ht6
      have HM6 := Lib.hid hm6
      have HTw6 := Lib.hid hw6
      clear hb6 ht6 hm6 hw6 HB5 HT5 HM5 HTw5
      go_wp2_with (go_at_call 12; go_must (refine (HFf.out _ HM6.out).mono ?_))
      rintro e w7 ⟨rfl, b7⟩
      have hb7 : Below w.heap.size w (w7.alloc (.cells (scells t.list).toArray 27)) := (HB6.out.trans (b7.mono HB6.out.size)).alloc (Nat.le_trans HB6.out.size b7.size) _
      have ht7 := (HT6.out.below b7).alloc (.cells (scells t.list).toArray 27)
      have hn7 := LiesAt.new w7 t
      have hm7 : MaxInt (w7.alloc (.cells (scells t.list).toArray 27)) := (HM6.out.below b7).below ((Below.refl _ w7).alloc (Nat.le_refl _) _)
      have hw7 := (HTw6.out.keep b7).keep ((Below.refl _ w7).alloc (Nat.le_refl _) (.cells (scells t.list).toArray 27))
      have hw7' := HTw6.out.keep b7
      clear k0 k1
      obtain ⟨k0, k1⟩ := hw7'.cells
      have HB7 := Lib.hid hb7
      have HT7 := Lib.hid ht7
      have HN7 := Lib.hid hn7
      have HM7 := Lib.hid hm7
      have HTw7 := Lib.hid hw7
      have hgl7 : gk < w7.heap.size := (Array.getElem?_eq_some_iff.1 hw7').1
      clear hb7 ht7 hn7 hm7 hw7 hw7' b7 HB6 HT6 HM6 HTw6
      go_wp2_with (go_at_call 12; go_must (refine (HTt.out _ HM7.out).mono ?_))
      rintro e w8 ⟨rfl, b8⟩
      have ht8 := HT7.out.below b8
      have hn8 := HN7.out.below b8
      have hb8 := (HB7.out.trans (b8.mono HB7.out.size)).alloc (Nat.le_trans HB7.out.size b8.size) (.cells (scells t.list).toArray 27)
      obtain ⟨c0, c1, c2, c3, c4, c5⟩ := six_cells ht8
      obtain ⟨d0, d1, d2, d3, d4, d5⟩ := six_cells hn8
      have l0 := ht8.lt
      have l1 := hn8.lt
      have HB8 := Lib.hid hb8
      clear b8 hb8 ht8 hn8 HT7 HN7 HB7 k0 k1
      go_wp2
      go_ret
      exact ⟨rfl, HB8.out⟩
end Go.Proofs.YtkcaadkamaogbaaDoor
