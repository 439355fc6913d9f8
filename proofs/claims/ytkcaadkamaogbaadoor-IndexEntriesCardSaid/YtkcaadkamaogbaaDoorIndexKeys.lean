import Derived.Test.YtkcaadkamaogbaaDoorIndexParts
import Derived.Test.YtkcaadkamaogbaaDoorDrawnAct
namespace Go.Proofs.YtkcaadkamaogbaaDoor
open Go Go.RowKit

def keyF (t : Six) : ByteArray := rowB ⟨#[102]⟩ t.list
def keyR (t : Six) : ByteArray := rowB ⟨#[114]⟩ t.turned.list

/-- Two strings in a row of their own. -/
def TwoAt (w : World) (g : Nat) (x y : ByteArray) : Prop := w.heap[g]? = some (.cells #[.string x, .string y] 9 (0, 0))

def KeysPost (w : World) (t : Six) (e : Ending) (w' : World) : Prop :=
  (t.ok = true ∧ ∃ g, e = .returned (.tuple #[.slice (some ⟨g, 0, none⟩) 2 2, .int .i64 0]) ∧ TwoAt w' g (keyF t) (keyR t) ∧ Below w.heap.size w w') ∨
  (t.ok = false ∧ e = .returned (.tuple #[.slice none 0 0, checkV false]) ∧ Below w.heap.size w w')

theorem y_new {P : Program} {ρ : Operand → Value} {o : Oper} {w w' : World} {v : Value} {p : Value → World → Prop} (h : (execOp ρ o).run P w = .ok (.value v) w') (hp : p v w') (hb : Below w.heap.size w w') : YieldsP P ρ o w (fun u w' => p u w' ∧ Below w.heap.size w w') := by
  unfold YieldsP
  rw [h]
  exact ⟨hp, hb⟩

def twoF (x y : ByteArray) : SlotFact := ⟨fun v w => ∃ g, v = .slice (some ⟨g, 0, none⟩) 2 2 ∧ TwoAt w g x y, fun _ _ _ ⟨g, h1, h2⟩ hb => ⟨g, h1, (hb.block g (Array.getElem?_eq_some_iff.1 h2).1).trans h2⟩⟩

set_option maxRecDepth 100000 in
set_option maxHeartbeats 1000000 in
theorem keys_any (w : World) (t : Six) (hs : t.short 1000000000) : Calls Tryd.prog 9 #[t.val] w (KeysPost w t) := by
  have hck := fun w => check_any w t hs
  have hsp := fun w => isplit_any w t
  have htu := fun w => turn_any w t
  have hl1 : ∀ s ∈ t.list, s.size ≤ 1000000000 := by
    obtain ⟨h1, h2, h3, h4, h5, h6⟩ := hs
    intro s h
    simp [Six.list] at h
    rcases h with rfl | rfl | rfl | rfl | rfl | rfl <;> assumption
  have hl2 : ∀ s ∈ t.turned.list, s.size ≤ 1000000000 := by
    obtain ⟨h1, h2, h3, h4, h5, h6⟩ := hs
    intro s h
    simp [Six.list, Six.turned] at h
    rcases h with rfl | rfl | rfl | rfl | rfl | rfl <;> assumption
  have hr1 := fun w v (h : Reads w 1 v 6 (scells t.list)) => row_any w ⟨#[102]⟩ v 6 t.list (by decide) h (by omega) hl1
  have hr2 := fun w v (h : Reads w 1 v 6 (scells t.turned.list)) => row_any w ⟨#[114]⟩ v 6 t.turned.list (by decide) h (by omega) hl2
  have hK1 : rowB ⟨#[102]⟩ t.list = keyF t := rfl
  have hK2 : rowB ⟨#[114]⟩ t.turned.list = keyR t := rfl
  rw [hK1] at hr1
  rw [hK2] at hr2
  have hp : KeysPost w t = KeysPost w t := rfl
  generalize hkf : keyF t = KF at *
  generalize hkr : keyR t = KR at *
  have HR1 := Lib.hid hr1
  have HR2 := Lib.hid hr2
  have HKF := Lib.hid hkf
  have HKR := Lib.hid hkr
  have HCk := Lib.hid hck
  have HSp := Lib.hid hsp
  have HTu := Lib.hid htu
  clear hck hsp htu hl1 hl2 hr1 hr2 hK1 hK2 hp hkf hkr hs
  cases hok : t.ok with
  | false =>
    have HOk := Lib.hid hok
    rw [hok] at HCk
    obtain ⟨a, b, c, d, e, f⟩ := t
    unfold Six.val at HCk ⊢
    unfold checkV at HCk
    clear hok
    go_enter Tryd.func9, Tryd.ntmps9
    go_wp2_with (go_at_call 20; go_must (refine (HCk.out _).mono ?_))
    rintro e w1 ⟨rfl, b1⟩
    have HB1 := Lib.hid (((Below.refl _ w).alloc (Nat.le_refl _) _).trans (b1.mono (by simp)))
    clear b1
    go_wp2
    go_ret2
    exact .inr ⟨HOk.out, rfl, HB1.out⟩
  | true =>
    have HOk := Lib.hid hok
    rw [hok] at HCk
    have htl : t.list = [t.a, t.b, t.c, t.d, t.e, t.f] := rfl
    have hul : t.turned.list = [t.d, t.e, t.f, t.a, t.b, t.c] := rfl
    rw [htl] at HR1
    rw [hul] at HR2
    obtain ⟨a, b, c, d, e, f⟩ := t
    unfold Six.turned at HTu
    unfold Six.val at *
    unfold checkV at HCk
    clear hok htl hul
    go_enter Tryd.func9, Tryd.ntmps9
    go_wp2_with (go_at_call 20; go_must (refine (HCk.out _).mono ?_))
    rintro e1 w1 ⟨rfl, b1⟩
    have hbx := entryBox (w := w) (w1 := w1) (cs := #[.string a, .string b, .string c, .string d, .string e, .string f]) (t := 27) (b1.mono (by simp))
    have hx0 := hbx.1 0
    have hx1 := hbx.1 1
    have hx2 := hbx.1 2
    have hx3 := hbx.1 3
    have hx4 := hbx.1 4
    have hx5 := hbx.1 5
    simp only [List.getElem?_toArray, List.getElem?_cons_zero, List.getElem?_cons_succ] at hx0 hx1 hx2 hx3 hx4 hx5
    have HB1 := Lib.hid (((Below.refl _ w).alloc (Nat.le_refl _) (.cells #[.string a, .string b, .string c, .string d, .string e, .string f] 27)).trans (b1.mono (by simp)))
    clear b1 hbx
    go_wp2_with (go_at_call 21; go_must (refine (HSp.out _).mono ?_))
    rintro e2 w2 ⟨rfl, b2⟩
    have HB2 := Lib.hid (HB1.out.trans (b2.mono HB1.out.size))
    clear b2 hx0 hx1 hx2 hx3 hx4 hx5
    have h22 := heap_alloc_new w2 (.cells #[.string a, .string b, .string c, .string d, .string e, .string f] 57)
    have h2b : Below w.heap.size w (w2.alloc (.cells #[.string a, .string b, .string c, .string d, .string e, .string f] 57)) := HB2.out.alloc HB2.out.size _
    have H22 := Lib.hid h22
    have H2B := Lib.hid h2b
    clear h22 h2b
    go_wp2_with (go_at_call 22; go_must (refine (HTu.out _).mono ?_))
    rintro e3 w3 ⟨rfl, b3⟩
    have HB3 := Lib.hid (H2B.out.trans (b3.mono H2B.out.size))
    have h23 : w3.heap[w2.heap.size]? = some (.cells #[.string a, .string b, .string c, .string d, .string e, .string f] 57 (0, 0)) := (b3.block _ (by simp)).trans H22.out
    have hrp : Reads w3 1 (.slice (some ⟨w2.heap.size, 0, none⟩) 6 6) 6 (scells [a, b, c, d, e, f]) := reads_new rfl h23 (by decide)
    have hrp4 := hrp.alloc (.cells #[.string d, .string e, .string f, .string a, .string b, .string c] 57)
    have hrb4 : Reads (w3.alloc (.cells #[.string d, .string e, .string f, .string a, .string b, .string c] 57)) 1 (.slice (some ⟨w3.heap.size, 0, none⟩) 6 6) 6 (scells [d, e, f, a, b, c]) := reads_new rfl (heap_alloc_new w3 (.cells #[.string d, .string e, .string f, .string a, .string b, .string c] 57)) (by decide)
    have hb4 : Below w.heap.size w (w3.alloc (.cells #[.string d, .string e, .string f, .string a, .string b, .string c] 57)) := HB3.out.alloc HB3.out.size _
    have HRp := Lib.hid hrp4
    have HRb := Lib.hid hrb4
    have HB4 := Lib.hid hb4
    clear b3 h23 hrp hrp4 hrb4 hb4
    go_wp2
    generalize w2.heap.size = gp at *
    generalize w3.heap.size = gb at *
    generalize w3.alloc (.cells #[.string d, .string e, .string f, .string a, .string b, .string c] 57) = w4 at *
    clear HB3 H22 H2B HB2 HB1
    refine wp_region_all (by kernel_rfl) [eqF (.slice (some ⟨gp, 0, none⟩) 6 6), eqF (.string KF), eqF (.slice (some ⟨gb, 0, none⟩) 6 6), eqF (.string KR), twoF KF KR, twoF KF KR, eqF (.int .i64 0)] (by kernel_rfl) ⟨?_, ?_, ?_, ?_, ?_, ?_, ?_, trivial⟩ ⟨trivial, trivial, trivial, trivial, trivial, trivial, trivial, trivial⟩ ?_
    · intro ρ wx hρ hbx hl
      have e5 : ρ (.tmp 5) = .pointer (some ⟨gp, 0, none⟩) := hρ.tmp 5 (by decide +kernel)
      refine y_val (v := .slice (some ⟨gp, 0, none⟩) 6 6) ?_ rfl
      simp [execOp, go_sem, e5]
    · intro ρ wx hρ hbx hl
      have e16 : ρ (.tmp 16) = .slice (some ⟨gp, 0, none⟩) 6 6 := hl 0 (by decide +kernel) 16 rfl
      refine y_call (f := 23) (args := #[.string ⟨#[102]⟩, .slice (some ⟨gp, 0, none⟩) 6 6]) (by simp [execOp, resolve, invoke, hρ.func, hρ.const, go_sem, e16]) ?_
      refine (HR1.out wx _ (HRp.out.below' hbx)).mono ?_
      rintro e w6 ⟨rfl, b6⟩
      exact ⟨_, rfl, rfl, b6⟩
    · intro ρ wx hρ hbx hl
      have e6 : ρ (.tmp 6) = .pointer (some ⟨gb, 0, none⟩) := hρ.tmp 6 (by decide +kernel)
      refine y_val (v := .slice (some ⟨gb, 0, none⟩) 6 6) ?_ rfl
      simp [execOp, go_sem, e6]
    · intro ρ wx hρ hbx hl
      have e18 : ρ (.tmp 18) = .slice (some ⟨gb, 0, none⟩) 6 6 := hl 2 (by decide +kernel) 18 rfl
      refine y_call (f := 23) (args := #[.string ⟨#[114]⟩, .slice (some ⟨gb, 0, none⟩) 6 6]) (by simp [execOp, resolve, invoke, hρ.func, hρ.const, go_sem, e18]) ?_
      refine (HR2.out wx _ (HRb.out.below' hbx)).mono ?_
      rintro e w6 ⟨rfl, b6⟩
      exact ⟨_, rfl, rfl, b6⟩
    · intro ρ wx hρ hbx hl
      have e17 : ρ (.tmp 17) = .string KF := hl 1 (by decide +kernel) 17 rfl
      have e19 : ρ (.tmp 19) = .string KR := hl 3 (by decide +kernel) 19 rfl
      refine y_new (v := .slice (some ⟨wx.heap.size, 0, none⟩) 2 2) (w' := wx.alloc (.cells #[.string KF, .string KR] 9)) ?_ ⟨_, rfl, heap_alloc_new wx _⟩ ((Below.refl _ _).alloc (Nat.le_refl _) _)
      simp [execOp, go_sem, e17, e19]
    · intro ρ wx hρ hbx hl
      have e20 := hl 4 (by decide +kernel) 20 rfl
      obtain ⟨g, hg, ht⟩ := e20
      refine y_val (v := .slice (some ⟨g, 0, none⟩) 2 2) ?_ ⟨g, rfl, ht⟩
      simp [execOp, go_sem, hg]
    · intro ρ wx hρ hbx hl
      refine y_val (v := .int .i64 0) ?_ rfl
      simp [execOp, hρ.const, go_sem]
    intro aa w5 hdef hsz hlk hbz hf
    have ha := act_of_like hdef hsz hlk [16, 17, 18, 19, 20, 2, 3] 21 rfl (by decide +kernel)
    have e16 : aa.tmps.getD 16 undef = .slice (some ⟨gp, 0, none⟩) 6 6 := hf 0 _ 16 rfl rfl
    have e17 : aa.tmps.getD 17 undef = .string KF := hf 1 _ 17 rfl rfl
    have e18 : aa.tmps.getD 18 undef = .slice (some ⟨gb, 0, none⟩) 6 6 := hf 2 _ 18 rfl rfl
    have e19 : aa.tmps.getD 19 undef = .string KR := hf 3 _ 19 rfl rfl
    have e2 : (twoF KF KR).1 (aa.tmps.getD 2 undef) w5 := hf 5 _ 2 rfl rfl
    have e3 : aa.tmps.getD 3 undef = .int .i64 0 := hf 6 _ 3 rfl rfl
    obtain ⟨g, hg, ht⟩ := e2
    simp only [putAll, List.foldl_cons, List.foldl_nil, e16, e17, e18, e19, hg, e3] at ha
    generalize aa.tmps.getD 20 undef = v20 at ha
    simp [Act.put] at ha
    subst ha
    have HT := Lib.hid ht
    have HB5 := Lib.hid (HB4.out.trans (hbz.mono HB4.out.size))
    clear hdef hsz hlk hf e16 e17 e18 e19 hg e3 hbz ht
    go_wp2
    go_ret2
    refine .inl ⟨HOk.out, g, rfl, ?_, HB5.out⟩
    rw [HKF.out, HKR.out]
    exact HT.out
end Go.Proofs.YtkcaadkamaogbaaDoor
