/- IterGets: whatever the input, the law says true, and its arguments read as they did. -/
import Derived.Test.YtekdcjbjjakhcaaMg11
import Derived.Test.YtekdcjbjjakhcaaRows
import Derived.ProofKit
import Derived.OpenShut
import Derived.ShutString
import Derived.ChangeOld
import Derived.Lib.SmallJoins
/- The law IterGets. -/
namespace Go.Proofs.Ytekdcjbjjakhcaa
open Go Go.RowKit

set_option maxRecDepth 100000 in
set_option maxHeartbeats 4000000 in
theorem iterGets_walk (w : World) (a : Option Addr) (n cap : Nat) (ls : List (List Ent)) (key : ByteArray) (r : Nat) (h : ERows w (.slice a n cap) n ls) (hrev : ∀ l ∈ ls, ∀ x ∈ l, x.rev < 18446744073709551616) (hr : r < 18446744073709551616) :
    Calls Try.prog 7 #[.slice a n cap, .string key, .int .u64 (r : Int)] w (SaysTrue w) := by
  have HE := Lib.hid h
  have HRev := Lib.hid hrev
  have hll : ls.length = n := by obtain ⟨_, _, _, _, _, hl, _⟩ := h; exact hl
  clear h hrev
  go_enter Try.func7, Try.ntmps7
  go_wp2_with (go_at_call 22; go_must (refine (fixed19_any w).mono ?_))
  rintro e w1 ⟨rfl, b1⟩
  have hE1 := HE.out.below b1
  have HE1 := Lib.hid hE1
  have HB1 := Lib.hid b1
  have HFw := Lib.hid (few19_any w1 _ n ls hE1)
  clear b1 hE1 HE
  go_wp2_with (go_at_call 23; go_must (refine HFw.out.mono ?_))
  rintro e w2 ⟨rfl, b2⟩
  have HE2 := Lib.hid (HE1.out.below b2)
  have HB2 := Lib.hid (HB1.out.trans (b2.mono HB1.out.size))
  clear b2 HE1 HB1 HFw
  cases hf : few19 ls with
  | false =>
    go_wp2
    go_ret
    exact ⟨rfl, HB2.out⟩
  | true =>
    obtain ⟨hn12, hlw⟩ := few19_low hf
    have hlow : LowE ls := fun l hl => ⟨(hlw l hl).1, fun x hx => ⟨(hlw l hl).2 x hx, HRev.out l hl x hx⟩⟩
    by_cases hk : key.size ≤ 200
    · have hkI : ¬ (200 : Int) < key.size := by omega
      obtain ⟨xs, htold, hall, hsz⟩ := told_rows hlow
      have htot : total (ls.map rowsL) ≤ 150 := by
        have h1 := total_rows ls
        unfold few19 at hf
        simp only [Bool.and_eq_true, decide_eq_true_eq] at hf
        omega
      have hrl : (ls.map rowsL).length = n := by rw [List.length_map]; exact hll
      have HRo := Lib.hid (rows19_any w2 _ n ls HE2.out (by omega) hlow)
      have HTd := Lib.hid htold
      have HAll := Lib.hid hall
      have HSz := Lib.hid hsz
      clear hlw hlow htold hall hsz hf HRev HE2
      go_wp2_with (go_at_call 24; go_must (refine HRo.out.mono ?_))
      rintro e w3 ⟨v3, rfl, so3, b3⟩
      have hse := so3.see
      have HSe := Lib.hid hse
      have HB3 := Lib.hid (HB2.out.trans (b3.mono HB2.out.size))
      have HSr := Lib.hid (srcs_any w3 v3 _ _ hse (by omega))
      clear so3 b3 hse HRo HB2
      go_wp2_with (go_at_call 26; go_must (refine HSr.out.mono ?_))
      rintro e w4 ⟨v4, vs4, rfl, f4, o4, b4⟩
      have HB4 := Lib.hid (HB3.out.trans (b4.mono HB3.out.size))
      have HB43 := Lib.hid b4
      have hg := iget_any w4 v4 _ _ key r (srcs_owns rfl f4 o4 b4) HTd.out.ok (by omega) (by omega) hr
      rw [HTd.out.get key r hr] at hg
      have HG := Lib.hid hg
      clear f4 o4 b4 hg HSr HB3
      go_wp2_with (go_at_call 25; go_must (refine HG.out.mono ?_))
      rintro e w5 ⟨rfl, b5⟩
      have HB5 := Lib.hid (HB4.out.trans (b5.mono HB4.out.size))
      have HB53 := Lib.hid (HB43.out.trans (b5.mono HB43.out.size))
      have HRg := Lib.hid fun w' (hw : Below w3.heap.size w3 w') => refget19_any w' v3 _ (ls.map rowsL) xs key r (HSe.out.below hw) (by omega) HTd.out.rows HAll.out (fun k hk => by have := HSz.out k hk; omega)
      clear b5 HG HB4 HB43
      generalize getK xs key r = o at *
      obtain ⟨xk, xr, xd, ok, hov, hrv⟩ : ∃ xk xr xd ok, foundV o = .tuple #[.agg #[.string xk, .int .u64 xr, .bool xd], .bool ok, .int .i64 0] ∧ refGetV o = .tuple #[.agg #[.string xk, .int .u64 xr, .bool xd], .bool ok] := by
        cases o with
        | none => exact ⟨_, _, _, _, rfl, rfl⟩
        | some x => exact ⟨_, _, _, _, rfl, rfl⟩
      rw [hov]
      have HRv := Lib.hid hrv
      clear hov hrv
      have HBa := Lib.hid (HB5.out.alloc HB5.out.size (.cells #[.string xk, .int .u64 xr, .bool xd] 48))
      have HBa3 := Lib.hid (HB53.out.alloc HB53.out.size (.cells #[.string xk, .int .u64 xr, .bool xd] 48))
      have HGa := Lib.hid (heap_alloc_new w5 (.cells #[.string xk, .int .u64 xr, .bool xd] 48))
      have HZa := Lib.hid (show w5.heap.size < (w5.alloc (.cells #[.string xk, .int .u64 xr, .bool xd] 48)).heap.size by simp)
      go_wp2_with (go_at_call 27; go_must (refine (HRg.out _ HBa3.out).mono ?_))
      rintro e w6 ⟨rfl, b6⟩
      rw [HRv.out]
      have hg6 := (b6.block w5.heap.size HZa.out).trans HGa.out
      have HB6 := Lib.hid (HBa.out.trans (b6.mono HBa.out.size))
      have hlt6 : w5.heap.size < w6.heap.size := (Array.getElem?_eq_some_iff.1 hg6).1
      have c0 := Lib.cell_of_heap hg6 0
      have c1 := Lib.cell_of_heap hg6 1
      have c2 := Lib.cell_of_heap hg6 2
      have qf := Lib.frozen_of_heap hg6
      simp at c0 c1 c2
      have HB7 := Lib.hid (HB6.out.alloc HB6.out.size (.cells #[.string xk, .int .u64 xr, .bool xd] 48))
      clear b6 hg6 HBa HBa3 HGa HZa HRg HRv HB5 HB53
      go_wp2
      go_ret
      exact ⟨rfl, HB7.out⟩
    · have hkI : (200 : Int) < key.size := by omega
      go_wp2
      go_ret
      exact ⟨rfl, HB2.out⟩
end Go.Proofs.Ytekdcjbjjakhcaa

namespace Go.Proofs.Ytekdcjbjjakhcaa.iterGets
open Go.ChangeShapes Go.WideShapes Go.ChangeAt Go.RowKit Go.Joins
open Go.ChangeMaps (open_string shut_string)

theorem own : ownKnob Try.prog.godebug = none := by kernel_rfl
theorem laidOut : laidOutB Try.prog = true := by kernel_rfl

set_option maxRecDepth 100000 in
theorem lifted (os : Os) (started : os.Started) (H : Type) (enc : TypeId × Value → H) :
    ReturnsInHanded {} Try.checked os 7 .any (Rows.iterGetsSpec.pre6 enc Try.prog Try.f7 Rows.iterGetsRow.domain false) (Rows.iterGetsSpec.post enc Try.prog Try.f7 false true false false) := by
  refine handed_sized (C := Try.checked) own started (by kernel_rfl) Try.func7
    (ChangeSpec.witness6 (enc := enc) (C := Try.checked) false ⟨#[], #[.slice none 0 0, .string .empty, .int .u64 0], []⟩ 8 (by kernel_rfl) (by kernel_rfl) (by kernel_rfl) (by kernel_rfl)) ?_
  intro W base args ds gs before hval0 hW hsz0
  have hval : ∀ (j : Nat) t v, Try.f7.params[j]? = some t → args[j]? = some v → Value.okWide Try.prog W .any base t v := hval0
  have hW' := hW
  obtain ⟨p, q, hA0, hV, rfl, hfz, hnd⟩ := hW
  clear hfz hnd
  have hA : DataW.TrodAll enc Try.prog W 0 (fun _ => true) true Try.f7.params.toList args.toList ds p := hA0
  rw [Try.params7] at hA hval
  obtain ⟨v0, vs0, d0, ds0, p0, q0, hargs, rfl, rfl, h0, r0⟩ := trodAll_cons hA
  obtain ⟨v1, vs1, d1, ds1, p1, q1, rfl, rfl, rfl, h1, r1⟩ := trodAll_cons r0
  obtain ⟨v2, vs2, d2, ds2, p2, q2, rfl, rfl, rfl, h2, r2⟩ := trodAll_cons r1
  obtain ⟨rfl, rfl, rfl⟩ := trodAll_nil r2
  obtain rfl : args = #[v0, v1, v2] := by cases args; simp_all
  obtain ⟨rfl, rfl⟩ := trodVars_none hV
  have k0 := h0
  have lt0 : ∀ x ∈ p0, x.block < W.heap.size := by obtain ⟨m, hm⟩ := k0; exact DataW.trod_lt m _ _ _ hm
  have k1 := h1
  have lt1 : ∀ x ∈ p1, x.block < W.heap.size := by obtain ⟨m, hm⟩ := k1; exact DataW.trod_lt m _ _ _ hm
  have k2 := h2
  have lt2 : ∀ x ∈ p2, x.block < W.heap.size := by obtain ⟨m, hm⟩ := k2; exact DataW.trod_lt m _ _ _ hm
  clear hA0 hval0
  obtain ⟨a0, len0, cap0, ls0, rfl, er0, rv0⟩ := erevs_open (hval 0 43 v0 rfl rfl) h0 (wok_arg _ _ 0 _ _ hsz0 (by kernel_rfl) rfl)
  obtain ⟨s1, rfl, rfl, rfl, hs1⟩ := open_string Try.underlying9 (hval 1 9 v1 rfl rfl) h1
  obtain ⟨n2, rfl, rfl, rfl, w2⟩ := open_int Try.underlying23 (hval 2 23 v2 rfl rfl) h2
  have bd2 : 0 ≤ n2 ∧ n2 ≤ 18446744073709551615 := by simpa [Lit.wf, IntKind.min, IntKind.max, IntKind.signed, IntKind.bits] using w2
  obtain ⟨m2, rfl⟩ := Int.eq_ofNat_of_zero_le bd2.1
  refine (iterGets_walk W a0 len0 cap0 ls0 s1 m2 er0 rv0 (by omega)).mono fun e W' ⟨he, bel⟩ => ?_
  subst he
  exact ⟨_, rfl, _, _, _, [], _, [], hW', trodAll_mk1 (shut_bool Try.underlying4 _), (trodAll_cons_mk (Below.trod laidOut (by kernel_rfl) (of_decide_eq_true (by kernel_rfl)) k0 bel lt0) (trodAll_cons_mk (Below.trod laidOut (by kernel_rfl) (of_decide_eq_true (by kernel_rfl)) k1 bel lt1) (trodAll_cons_mk (Below.trod laidOut (by kernel_rfl) (of_decide_eq_true (by kernel_rfl)) k2 bel lt2) trodAll_mk0))), rfl, bel.frame _, fun h => by cases h⟩

theorem over : Rows.iterGetsRow.holds Try.pinned (OpenSpec.ofChange Rows.iterGetsSpec) :=
  OpenClaim.holds_of_wide 7 Try.f7 rfl rfl rfl rfl rfl rfl rfl ⟨rfl, rfl, rfl, rfl, rfl⟩ rfl rfl rfl rfl rfl (by kernel_rfl) Try.func7 (by kernel_rfl)
    (of_decide_eq_true (by kernel_rfl)) (by unfold Func.isWrapper; first | (rw [if_pos (by decide +kernel)]; kernel_rfl) | (rw [if_neg (by decide +kernel)]; exact ⟨rfl, rfl⟩))
    (fun os started H enc _ => lifted os started H enc)

theorem proved : Rows.IterGetsSaid := over
end Go.Proofs.Ytekdcjbjjakhcaa.iterGets
