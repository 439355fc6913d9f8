/- The calls whose answers the document fixes (drop). -/
import Derived.Test.YtekdcjbjjakhcaaDropKeep2
import Derived.Test.YtekdcjbjjakhcaaDropLaw
namespace Go.Proofs.Ytekdcjbjjakhcaa
open Go Go.RowKit

theorem inn_size {x : Ent} (h : x.key.size ≤ 100) : (innB x).size ≤ 1000000 := by
  have h1 := esc_length x.key.data.toList
  have h2 : x.key.data.toList.length = x.key.size := Array.length_toList
  have h3 : (innB x).size = (inner x.key.data.toList x.rev x.del).length := by
    unfold innB
    show (inner x.key.data.toList x.rev x.del).toArray.size = _
    simp
  rw [h3, inner, List.length_append, innTo_length, List.length_singleton]
  omega

theorem rowsL_size {es : List Ent} (h : ∀ x ∈ es, x.key.size ≤ 100) : ∀ k ∈ rowsL es, k.size ≤ 1000000 := fun k hk => by
  obtain ⟨x, hx, rfl⟩ := (rowsL_all es).2.2 k hk
  exact inn_size (h x hx)

def es0 : List Ent := [⟨⟨#[97]⟩, 5, false⟩, ⟨⟨#[97]⟩, 3, false⟩, ⟨⟨#[97]⟩, 1, false⟩]

theorem f_low : ∀ x ∈ es0, x.key.size ≤ 100 ∧ x.rev < 18446744073709551616 := by decide +kernel
theorem f_len : (rowsL es0).length = 3 := by decide +kernel
theorem f_err : errOf (rowsL es0) = 0 := by decide +kernel
theorem f_keep : (keepOut 3 false (rowsL es0)).map (·.data.toList) = ((rowsL es0).take 2).map (·.data.toList) := by decide +kernel
theorem f_bad : errOf [⟨#[97]⟩] = 9 := by decide +kernel

theorem f_keep' : keepOut 3 false (rowsL es0) = (rowsL es0).take 2 := by
  have h := f_keep
  have inj : ∀ (a b : List ByteArray), a.map (·.data.toList) = b.map (·.data.toList) → a = b := by
    intro a
    induction a with
    | nil => intro b hb; cases b with
      | nil => rfl
      | cons _ _ => cases hb
    | cons x a ih => intro b hb; cases b with
      | nil => cases hb
      | cons y b =>
        obtain ⟨h1, h2⟩ := List.cons.inj hb
        have e1 : x = y := Go.WideShapes.bytes_inj h1
        rw [e1, ih b h2]
  exact inj _ _ h

set_option maxRecDepth 100000 in
set_option maxHeartbeats 2000000 in
theorem fixed18_any (w : World) : Calls Try.prog 11 #[] w (SaysTrue w) := by
  have hlit := lit_reads (w := w.alloc (.cells (ecells es0).toArray 48)) (g := w.heap.size) (n := 3) (size := 3) (e := 48) (cs := ecells es0) (heap_alloc_new w _) rfl (by decide)
  have hb0 : Below w.heap.size w (w.alloc (.cells (ecells es0).toArray 48)) := (Below.refl _ _).alloc (Nat.le_refl _) _
  have hrw := rows18_any _ _ 3 3 es0 hlit rfl (by decide) f_low
  have HRw := Lib.hid hrw
  have HB0 := Lib.hid hb0
  clear hrw hb0 hlit
  go_enter Try.func11, Try.ntmps11
  go_wp2_with (go_at_call 13; fail)
  change Calls _ _ _ (w.alloc (.cells (ecells es0).toArray 48)) _
  refine HRw.out.mono ?_
  rintro e w1 ⟨a1, cap1, rfl, r1, b1⟩
  have hsz := rowsL_size (es := es0) (fun x hx => (f_low x hx).1)
  have hk1 := keep_any w1 a1 _ cap1 (rowsL es0) 3 false r1 hsz (by rw [f_len]; decide)
  have HK1 := Lib.hid hk1
  have HR1 := Lib.hid r1
  have HB1 := Lib.hid (HB0.out.trans (b1.mono HB0.out.size))
  clear b1 r1 hk1 hsz HRw
  rw [f_len] at HK1 HR1 ⊢
  go_wp2_with (go_at_call 14; go_must (refine HK1.out.mono ?_))
  rintro e w2 ⟨a2, cap2, rfl, r2, b2⟩
  have hk2l : (keepOut 3 false (rowsL es0)).length = 2 := by rw [f_keep', List.length_take, f_len]; rfl
  rw [hk2l] at r2 ⊢
  rw [f_err]
  rw [f_keep'] at r2
  have HR2 := Lib.hid r2
  have HR12 := Lib.hid ((HR1.out.stake 2 (by decide)).below' b2)
  have HB2 := Lib.hid (HB1.out.trans (b2.mono HB1.out.size))
  clear r2 b2 hk2l HK1 HR1
  have hlit2 := lit_reads (w := w2.alloc (.cells #[.string ⟨#[97]⟩] 9)) (g := w2.heap.size) (n := 1) (size := 1) (e := 9) (cs := [.string ⟨#[97]⟩]) (heap_alloc_new w2 _) rfl (by decide)
  have hk3 := keep_any _ _ 1 1 [⟨#[97]⟩] 3 false hlit2 (by decide) (by decide)
  have HK3 := Lib.hid hk3
  have hal : Below w2.heap.size w2 (w2.alloc (.cells #[.string ⟨#[97]⟩] 9)) := (Below.refl _ _).alloc (Nat.le_refl _) _
  have HAl := Lib.hid hal
  clear hk3 hlit2 hal
  go_wp2_with (go_at_call 14; go_must (refine HK3.out.mono ?_))
  rintro e w3 ⟨a3, cap3, rfl, r3, b3⟩
  rw [f_bad]
  have hb3 := HAl.out.trans (b3.mono (by simp))
  have hsm := sames_any w3 a2 a1 2 2 cap2 cap1 _ _ (HR2.out.below' hb3) (HR12.out.below' hb3)
  have HSm := Lib.hid hsm
  have HB3 := Lib.hid (HB2.out.trans (hb3.mono HB2.out.size))
  obtain ⟨_, _, hv, hc1, hc2⟩ := HR12.out.le
  cases hv
  have hcap : (2 : Int) ≤ cap1 := by omega
  unfold maxLen at hc2
  clear r3 b3 hb3 hsm HK3 HAl
  go_wp2_with (go_at_call 17; go_must (refine HSm.out.mono ?_))
  rintro e w4 ⟨rfl, b4⟩
  have HB4 := Lib.hid (HB3.out.trans (b4.mono HB3.out.size))
  clear b4
  go_wp2
  go_ret
  exact ⟨rfl, HB4.out⟩
end Go.Proofs.Ytekdcjbjjakhcaa
