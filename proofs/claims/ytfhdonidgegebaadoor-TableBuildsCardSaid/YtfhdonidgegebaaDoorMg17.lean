/- What the proof stands on, part 17. -/
import Derived.Test.YtfhdonidgegebaaDoorMg16
/- The reference's Put: a key among keys that rise. -/
namespace Go.Proofs.YtfhdonidgegebaaDoor
open Go Go.RowKit

def PutPost (w : World) (l : List ByteArray) (key : ByteArray) (e : Ending) (w' : World) : Prop :=
  ∃ a cap b, e = .returned (.tuple #[.slice a (putK l key).length cap, .bool b]) ∧ Reads w' 1 (.slice a (putK l key).length cap) (putK l key).length (scells (putK l key)) ∧ Below w.heap.size w w'

def PutARel (l : List ByteArray) (key : ByteArray) (v : Value) : Prop := ∃ i : Nat, v = .int .i64 (i : Int) ∧ i ≤ l.length ∧ ∀ j x, j < i → l[j]? = some x → bl x key = true

set_option maxRecDepth 100000 in
set_option maxHeartbeats 2000000 in
theorem putk_any (w : World) (a : Option Addr) (n cap : Nat) (l : List ByteArray) (key : ByteArray) (h : Reads w 1 (.slice a n cap) n (scells l)) (hn : n ≤ 100000) :
    Calls Tryd.prog 38 #[.slice a n cap, .string key] w (PutPost w l key) := by
  obtain ⟨i0, hi, hz0, hz1, hz2⟩ := info_parts info9
  have HR := Lib.hid h
  have hll : l.length = n := by have := h.1; rw [scells_length] at this; omega
  have HLL := Lib.hid hll
  obtain ⟨_, _, hv, hc1, hc2⟩ := h.le
  cases hv
  have hc3 := hc2
  unfold maxLen at hc2
  clear h hll
  go_enter Tryd.func38, Tryd.ntmps38
  go_wp2
  go_loop [6] (fun v => PutARel l key v) (fun v => n - (intOf v).toNat)
  case atStart => exact ⟨0, rfl, Nat.zero_le _, fun j x hj => by omega⟩
  case round =>
    obtain ⟨i, rfl, hil, hlt⟩ := hrel
    rw [HLL.out] at hil
    have HLt := Lib.hid hlt
    clear hlt
    by_cases hin : i < n
    · have hinI : (i : Int) < n := by omega
      obtain ⟨b, off, x, rfl, hx, hb, hc⟩ := HR.out.scell i hin
      cases hbl : bl x key with
      | true =>
        have hbI : Op.bytesLess x.toList key.toList = true := by rw [bl_spell]; exact hbl
        have HX := Lib.hid hx
        have HBl := Lib.hid hbl
        clear hx hbl
        go_wp2
        refine ⟨⟨i + 1, by go_num, by rw [HLL.out]; omega, fun j y hj hy => ?_⟩, by simp [intOf]; omega⟩
        by_cases hji : j < i
        · exact HLt.out j y hji hy
        · obtain rfl : j = i := by omega
          rw [HX.out] at hy
          cases hy
          exact HBl.out
      | false =>
        have hbI : Op.bytesLess x.toList key.toList = false := by rw [bl_spell]; exact hbl
        have hpa : putAt l key = i := putAt_eq HLt.out (by rw [HLL.out]; omega) (fun y hy => by rw [hx] at hy; cases hy; exact hbl)
        by_cases hxk : x = key
        · subst hxk
          have hpk : putK l x = l := by unfold putK; rw [hpa, hx, if_pos rfl]
          have HP := Lib.hid hpk
          clear hx hpa hpk hbl
          go_wp2
          go_ret2
          unfold PutPost
          rw [HP.out, HLL.out]
          exact ⟨_, _, _, rfl, HR.out, Below.refl _ _⟩
        · have hpk : putK l key = l.take i ++ key :: l.drop i := by
            unfold putK
            rw [hpa, hx, if_neg (fun e => hxk (Option.some.inj e))]
          have hxkI : (x.toList == key.toList) = false := by
            rw [beq_eq_false_iff_ne, Go.ByteArray.toList_eq, Go.ByteArray.toList_eq]
            exact fun e => hxk (Go.WideShapes.bytes_inj e)
          have hat : i ≤ n := by omega
          have HP := Lib.hid hpk
          clear hx hpk hbl HLt hxk hil hpa
          go_wp2_with fail
          generalize (some ({ block := b, off := off } : Addr)) = a at *
          clear hb hc
          obtain ⟨at', rfl⟩ : ∃ at', at' = i := ⟨_, rfl⟩
          refine wp_region_until (by kernel_rfl) [onU (zeroF w.heap.size 9 1) (some 4), eqU (.slice a n cap), eqU (.int .i64 (at' : Int)), eqU (.slice a at' cap), onU (ownsF w.heap.size 9 1 at' (scells (l.take at'))) (some 7), eqU (.string key), onU (litF 9 #[.string key] 1) (some 7), onU (ownsF w.heap.size 9 1 (at' + 1) (scells (l.take at' ++ [key]))) (some 11), eqU (.slice a n cap), eqU (.int .i64 (at' : Int)), eqU (.slice (behind a at' cap) (n - at') (cap - at')), onU (ownsF w.heap.size 9 1 (n + 1) (scells (l.take at' ++ key :: l.drop at'))) none, onU (ownsF w.heap.size 9 1 (n + 1) (scells (l.take at' ++ key :: l.drop at'))) none, eqU (.bool true)] [7, 11] (by kernel_rfl) (by kernel_rfl) (by kernel_rfl) ⟨?_, ?_, ?_, ?_, ?_, ?_, ?_, ?_, ?_, ?_, ?_, ?_, ?_, ?_, trivial⟩ ?_
          · intro ρ wx hρ hbx hl
            refine u_new (v := .slice (some ⟨wx.heap.size, 0, none⟩) 0 0) (w' := wx.alloc (.cells #[] 9)) ?_ ⟨_, rfl, owns_less (owns_zero wx _ 1) hbx.size⟩ ((Below.refl _ _).alloc (Nat.le_refl _) _)
            simp [execOp, go_sem]
          · intro ρ wx hρ hbx hl
            have e0 : ρ (.tmp 0) = .slice a n cap := hρ.tmp 0 (by decide +kernel)
            refine u_val (v := .slice a n cap) ?_ rfl
            simp [execOp, go_sem, e0]
          · intro ρ wx hρ hbx hl
            have e6 : ρ (.tmp 6) = .int .i64 (at' : Int) := hρ.tmp 6 (by decide +kernel)
            refine u_val (v := .int .i64 (at' : Int)) ?_ rfl
            simp [execOp, go_sem, e6]
          · intro ρ wx hρ hbx hl
            have e35 : ρ (.tmp 35) = .slice a n cap := hl 1 (by decide +kernel) (.inl rfl) 35 rfl
            have e36 : ρ (.tmp 36) = .int .i64 (at' : Int) := hl 2 (by decide +kernel) (.inl rfl) 36 rfl
            refine u_val (v := .slice a at' cap) ?_ rfl
            simp [execOp, go_sem, e35, e36]
            first | done | omega
          · intro ρ wx hρ hbx hl
            have e34 : (zeroF w.heap.size 9 1).p (ρ (.tmp 34)) wx := hl 0 (by decide +kernel) (.inr rfl) 34 rfl
            have e37 : ρ (.tmp 37) = .slice a at' cap := hl 3 (by decide +kernel) (.inl rfl) 37 rfl
            obtain ⟨g34, e34, o34⟩ := e34
            rw [e34] at o34
            obtain ⟨v', w', hr, ho, hb⟩ := run_append_zero (P := Tryd.prog) (w := wx) w.heap.size 22 22 22 9 i0 _ 16 Tryd.underlying22 hi hz0 hz1 hz2 rfl g34 o34 (.slice a at' cap) at' (scells (l.take at')) (((HR.out.below' hbx).stake at' hat).src Tryd.underlying22 (scells_one _)) (by unfold maxLen; omega) (by omega) hbx.size
            refine u_new ?_ ho hb
            simp only [execOp, resolve, invoke, builtin, Sem.run_bind, Sem.run_pure, Result.andThen_ok, List.map_toArray, List.map_cons, List.map_nil, e34, e37, hr]
          · intro ρ wx hρ hbx hl
            have e1 : ρ (.tmp 1) = .string key := hρ.tmp 1 (by decide +kernel)
            refine u_val (v := .string key) ?_ rfl
            simp [execOp, go_sem, e1]
          · intro ρ wx hρ hbx hl
            have e39 : ρ (.tmp 39) = .string key := hl 5 (by decide +kernel) (.inl rfl) 39 rfl
            refine u_new (v := .slice (some ⟨wx.heap.size, 0, none⟩) 1 1) (w' := wx.alloc (.cells #[.string key] 9)) ?_ ⟨_, rfl, heap_alloc_new wx _⟩ ((Below.refl _ _).alloc (Nat.le_refl _) _)
            simp [execOp, go_sem, e39]
          · intro ρ wx hρ hbx hl
            have e38 : (ownsF w.heap.size 9 1 at' (scells (l.take at'))).p (ρ (.tmp 38)) wx := hl 4 (by decide +kernel) (.inr rfl) 38 rfl
            have e40 : (litF 9 #[.string key] 1).p (ρ (.tmp 40)) wx := hl 6 (by decide +kernel) (.inr rfl) 40 rfl
            obtain ⟨g40, e40, o40⟩ := e40
            have hrd := lit_reads (cs := [.string key]) (size := 1) o40 rfl (by decide)
            obtain ⟨v', w', hr, ho, hg, hb, _⟩ := run_append_owns (P := Tryd.prog) (w := wx) w.heap.size 22 22 22 9 i0 _ 1 16 Tryd.underlying22 hi hz0 hz1 hz2 rfl _ at' _ e38 _ 1 [.string key] (hrd.src Tryd.underlying22 (by simp [Value.oneCell'])) (by unfold maxLen; omega) (by omega) hbx.size
            rw [show scells (l.take at') ++ [Value.string key] = scells (l.take at' ++ [key]) from (scells_append (l.take at') [key]).symm] at ho
            refine u_new ?_ ho hb
            simp only [execOp, resolve, invoke, builtin, Sem.run_bind, Sem.run_pure, Result.andThen_ok, List.map_toArray, List.map_cons, List.map_nil, e40, hr]
          · intro ρ wx hρ hbx hl
            have e0 : ρ (.tmp 0) = .slice a n cap := hρ.tmp 0 (by decide +kernel)
            refine u_val (v := .slice a n cap) ?_ rfl
            simp [execOp, go_sem, e0]
          · intro ρ wx hρ hbx hl
            have e6 : ρ (.tmp 6) = .int .i64 (at' : Int) := hρ.tmp 6 (by decide +kernel)
            refine u_val (v := .int .i64 (at' : Int)) ?_ rfl
            simp [execOp, go_sem, e6]
          · intro ρ wx hρ hbx hl
            have e42 : ρ (.tmp 42) = .slice a n cap := hl 8 (by decide +kernel) (.inl rfl) 42 rfl
            have e43 : ρ (.tmp 43) = .int .i64 (at' : Int) := hl 9 (by decide +kernel) (.inl rfl) 43 rfl
            refine u_val (v := .slice (behind a at' cap) (n - at') (cap - at')) ?_ rfl
            simp [execOp, go_sem, e42, e43, behind, hat]
          · intro ρ wx hρ hbx hl
            have e41 : (ownsF w.heap.size 9 1 (at' + 1) (scells (l.take at' ++ [key]))).p (ρ (.tmp 41)) wx := hl 7 (by decide +kernel) (.inr rfl) 41 rfl
            have e44 : ρ (.tmp 44) = .slice (behind a at' cap) (n - at') (cap - at') := hl 10 (by decide +kernel) (.inl rfl) 44 rfl
            obtain ⟨v', w', hr, ho, hg, hb, _⟩ := run_append_owns (P := Tryd.prog) (w := wx) w.heap.size 22 22 22 9 i0 _ 1 16 Tryd.underlying22 hi hz0 hz1 hz2 rfl _ (at' + 1) _ e41 (.slice (behind a at' cap) (n - at') (cap - at')) (n - at') (scells (l.drop at')) (((HR.out.below' hbx).sdrop at' hat).src Tryd.underlying22 (scells_one _)) (by unfold maxLen; omega) (by omega) hbx.size
            rw [← scells_append, List.append_assoc, List.singleton_append, show at' + 1 + (n - at') = n + 1 by omega] at ho
            refine u_new ?_ ho hb
            simp only [execOp, resolve, invoke, builtin, Sem.run_bind, Sem.run_pure, Result.andThen_ok, List.map_toArray, List.map_cons, List.map_nil, e44, hr]
          · intro ρ wx hρ hbx hl
            have e45 : (ownsF w.heap.size 9 1 (n + 1) (scells (l.take at' ++ key :: l.drop at'))).p (ρ (.tmp 45)) wx := hl 11 (by decide +kernel) (.inl rfl) 45 rfl
            refine u_val (v := ρ (.tmp 45)) ?_ e45
            simp [execOp, go_sem]
          · intro ρ wx hρ hbx hl
            refine u_val (v := .bool true) ?_ rfl
            simp [execOp, hρ.const, go_sem]
          intro aa wz hdef hsz hlk hbz hf
          have ha := act_of_like hdef hsz hlk [34, 35, 36, 37, 38, 39, 40, 41, 42, 43, 44, 45, 4, 5] 46 rfl (by decide +kernel)
          have e35 : aa.tmps.getD 35 undef = .slice a n cap := hf 1 _ 35 rfl rfl rfl
          have e36 : aa.tmps.getD 36 undef = .int .i64 (at' : Int) := hf 2 _ 36 rfl rfl rfl
          have e37 : aa.tmps.getD 37 undef = .slice a at' cap := hf 3 _ 37 rfl rfl rfl
          have e39 : aa.tmps.getD 39 undef = .string key := hf 5 _ 39 rfl rfl rfl
          have e42 : aa.tmps.getD 42 undef = .slice a n cap := hf 8 _ 42 rfl rfl rfl
          have e43 : aa.tmps.getD 43 undef = .int .i64 (at' : Int) := hf 9 _ 43 rfl rfl rfl
          have e44 : aa.tmps.getD 44 undef = .slice (behind a at' cap) (n - at') (cap - at') := hf 10 _ 44 rfl rfl rfl
          have e45 : (ownsF w.heap.size 9 1 (n + 1) (scells (l.take at' ++ key :: l.drop at'))).p (aa.tmps.getD 45 undef) wz := hf 11 _ 45 rfl rfl rfl
          generalize hv45 : aa.tmps.getD 45 undef = v45 at e45
          have e4 : (ownsF w.heap.size 9 1 (n + 1) (scells (l.take at' ++ key :: l.drop at'))).p (aa.tmps.getD 4 undef) wz := hf 12 _ 4 rfl rfl rfl
          generalize hv4 : aa.tmps.getD 4 undef = v4 at e4
          have e5 : aa.tmps.getD 5 undef = .bool true := hf 13 _ 5 rfl rfl rfl
          simp only [putAll, List.foldl_cons, List.foldl_nil, e35, e36, e37, e39, e42, e43, e44, hv45, hv4, e5] at ha
          generalize aa.tmps.getD 34 undef = v34 at ha
          generalize aa.tmps.getD 38 undef = v38 at ha
          generalize aa.tmps.getD 40 undef = v40 at ha
          generalize aa.tmps.getD 41 undef = v41 at ha
          simp [Act.put] at ha
          subst ha
          clear hdef hsz hlk hf e35 e36 e37 e39 e42 e43 e44 hv45 hv4 e5
          have HB := Lib.hid hbz
          have hlen : (l.take at' ++ key :: l.drop at').length = n + 1 := by
            have := HLL.out
            simp
            omega
          obtain ⟨a9, c9, hv9, _, _⟩ := (ownsRow.reads e4).le
          subst hv9
          have HW := Lib.hid (ownsRow.reads e4)
          clear e45 e4 hbz
          go_wp2
          go_ret2
          unfold PutPost
          rw [HP.out, hlen]
          exact ⟨_, _, _, rfl, HW.out, HB.out⟩
    · have hinI : ¬ ((i : Int) < n) := by omega
      have hnone : l[i]? = none := List.getElem?_eq_none (by rw [HLL.out]; omega)
      have hpa : putAt l key = i := putAt_eq HLt.out (by rw [HLL.out]; omega) (fun x hx => by rw [hnone] at hx; cases hx)
      have hpk : putK l key = l.take i ++ key :: l.drop i := by
        unfold putK
        rw [hpa, hnone, if_neg (by simp)]
      have HP := Lib.hid hpk
      have hat : i ≤ n := hil
      clear hpk HLt hil hpa hnone
      go_wp2_with fail
      obtain ⟨at', rfl⟩ : ∃ at', at' = i := ⟨_, rfl⟩
      refine wp_region_until (by kernel_rfl) [onU (zeroF w.heap.size 9 1) (some 4), eqU (.slice a n cap), eqU (.int .i64 (at' : Int)), eqU (.slice a at' cap), onU (ownsF w.heap.size 9 1 at' (scells (l.take at'))) (some 7), eqU (.string key), onU (litF 9 #[.string key] 1) (some 7), onU (ownsF w.heap.size 9 1 (at' + 1) (scells (l.take at' ++ [key]))) (some 11), eqU (.slice a n cap), eqU (.int .i64 (at' : Int)), eqU (.slice (behind a at' cap) (n - at') (cap - at')), onU (ownsF w.heap.size 9 1 (n + 1) (scells (l.take at' ++ key :: l.drop at'))) none, onU (ownsF w.heap.size 9 1 (n + 1) (scells (l.take at' ++ key :: l.drop at'))) none, eqU (.bool true)] [7, 11] (by kernel_rfl) (by kernel_rfl) (by kernel_rfl) ⟨?_, ?_, ?_, ?_, ?_, ?_, ?_, ?_, ?_, ?_, ?_, ?_, ?_, ?_, trivial⟩ ?_
      · intro ρ wx hρ hbx hl
        refine u_new (v := .slice (some ⟨wx.heap.size, 0, none⟩) 0 0) (w' := wx.alloc (.cells #[] 9)) ?_ ⟨_, rfl, owns_less (owns_zero wx _ 1) hbx.size⟩ ((Below.refl _ _).alloc (Nat.le_refl _) _)
        simp [execOp, go_sem]
      · intro ρ wx hρ hbx hl
        have e0 : ρ (.tmp 0) = .slice a n cap := hρ.tmp 0 (by decide +kernel)
        refine u_val (v := .slice a n cap) ?_ rfl
        simp [execOp, go_sem, e0]
      · intro ρ wx hρ hbx hl
        have e6 : ρ (.tmp 6) = .int .i64 (at' : Int) := hρ.tmp 6 (by decide +kernel)
        refine u_val (v := .int .i64 (at' : Int)) ?_ rfl
        simp [execOp, go_sem, e6]
      · intro ρ wx hρ hbx hl
        have e35 : ρ (.tmp 35) = .slice a n cap := hl 1 (by decide +kernel) (.inl rfl) 35 rfl
        have e36 : ρ (.tmp 36) = .int .i64 (at' : Int) := hl 2 (by decide +kernel) (.inl rfl) 36 rfl
        refine u_val (v := .slice a at' cap) ?_ rfl
        simp [execOp, go_sem, e35, e36]
        first | done | omega
      · intro ρ wx hρ hbx hl
        have e34 : (zeroF w.heap.size 9 1).p (ρ (.tmp 34)) wx := hl 0 (by decide +kernel) (.inr rfl) 34 rfl
        have e37 : ρ (.tmp 37) = .slice a at' cap := hl 3 (by decide +kernel) (.inl rfl) 37 rfl
        obtain ⟨g34, e34, o34⟩ := e34
        rw [e34] at o34
        obtain ⟨v', w', hr, ho, hb⟩ := run_append_zero (P := Tryd.prog) (w := wx) w.heap.size 22 22 22 9 i0 _ 16 Tryd.underlying22 hi hz0 hz1 hz2 rfl g34 o34 (.slice a at' cap) at' (scells (l.take at')) (((HR.out.below' hbx).stake at' hat).src Tryd.underlying22 (scells_one _)) (by unfold maxLen; omega) (by omega) hbx.size
        refine u_new ?_ ho hb
        simp only [execOp, resolve, invoke, builtin, Sem.run_bind, Sem.run_pure, Result.andThen_ok, List.map_toArray, List.map_cons, List.map_nil, e34, e37, hr]
      · intro ρ wx hρ hbx hl
        have e1 : ρ (.tmp 1) = .string key := hρ.tmp 1 (by decide +kernel)
        refine u_val (v := .string key) ?_ rfl
        simp [execOp, go_sem, e1]
      · intro ρ wx hρ hbx hl
        have e39 : ρ (.tmp 39) = .string key := hl 5 (by decide +kernel) (.inl rfl) 39 rfl
        refine u_new (v := .slice (some ⟨wx.heap.size, 0, none⟩) 1 1) (w' := wx.alloc (.cells #[.string key] 9)) ?_ ⟨_, rfl, heap_alloc_new wx _⟩ ((Below.refl _ _).alloc (Nat.le_refl _) _)
        simp [execOp, go_sem, e39]
      · intro ρ wx hρ hbx hl
        have e38 : (ownsF w.heap.size 9 1 at' (scells (l.take at'))).p (ρ (.tmp 38)) wx := hl 4 (by decide +kernel) (.inr rfl) 38 rfl
        have e40 : (litF 9 #[.string key] 1).p (ρ (.tmp 40)) wx := hl 6 (by decide +kernel) (.inr rfl) 40 rfl
        obtain ⟨g40, e40, o40⟩ := e40
        have hrd := lit_reads (cs := [.string key]) (size := 1) o40 rfl (by decide)
        obtain ⟨v', w', hr, ho, hg, hb, _⟩ := run_append_owns (P := Tryd.prog) (w := wx) w.heap.size 22 22 22 9 i0 _ 1 16 Tryd.underlying22 hi hz0 hz1 hz2 rfl _ at' _ e38 _ 1 [.string key] (hrd.src Tryd.underlying22 (by simp [Value.oneCell'])) (by unfold maxLen; omega) (by omega) hbx.size
        rw [show scells (l.take at') ++ [Value.string key] = scells (l.take at' ++ [key]) from (scells_append (l.take at') [key]).symm] at ho
        refine u_new ?_ ho hb
        simp only [execOp, resolve, invoke, builtin, Sem.run_bind, Sem.run_pure, Result.andThen_ok, List.map_toArray, List.map_cons, List.map_nil, e40, hr]
      · intro ρ wx hρ hbx hl
        have e0 : ρ (.tmp 0) = .slice a n cap := hρ.tmp 0 (by decide +kernel)
        refine u_val (v := .slice a n cap) ?_ rfl
        simp [execOp, go_sem, e0]
      · intro ρ wx hρ hbx hl
        have e6 : ρ (.tmp 6) = .int .i64 (at' : Int) := hρ.tmp 6 (by decide +kernel)
        refine u_val (v := .int .i64 (at' : Int)) ?_ rfl
        simp [execOp, go_sem, e6]
      · intro ρ wx hρ hbx hl
        have e42 : ρ (.tmp 42) = .slice a n cap := hl 8 (by decide +kernel) (.inl rfl) 42 rfl
        have e43 : ρ (.tmp 43) = .int .i64 (at' : Int) := hl 9 (by decide +kernel) (.inl rfl) 43 rfl
        refine u_val (v := .slice (behind a at' cap) (n - at') (cap - at')) ?_ rfl
        simp [execOp, go_sem, e42, e43, behind, hat]
      · intro ρ wx hρ hbx hl
        have e41 : (ownsF w.heap.size 9 1 (at' + 1) (scells (l.take at' ++ [key]))).p (ρ (.tmp 41)) wx := hl 7 (by decide +kernel) (.inr rfl) 41 rfl
        have e44 : ρ (.tmp 44) = .slice (behind a at' cap) (n - at') (cap - at') := hl 10 (by decide +kernel) (.inl rfl) 44 rfl
        obtain ⟨v', w', hr, ho, hg, hb, _⟩ := run_append_owns (P := Tryd.prog) (w := wx) w.heap.size 22 22 22 9 i0 _ 1 16 Tryd.underlying22 hi hz0 hz1 hz2 rfl _ (at' + 1) _ e41 (.slice (behind a at' cap) (n - at') (cap - at')) (n - at') (scells (l.drop at')) (((HR.out.below' hbx).sdrop at' hat).src Tryd.underlying22 (scells_one _)) (by unfold maxLen; omega) (by omega) hbx.size
        rw [← scells_append, List.append_assoc, List.singleton_append, show at' + 1 + (n - at') = n + 1 by omega] at ho
        refine u_new ?_ ho hb
        simp only [execOp, resolve, invoke, builtin, Sem.run_bind, Sem.run_pure, Result.andThen_ok, List.map_toArray, List.map_cons, List.map_nil, e44, hr]
      · intro ρ wx hρ hbx hl
        have e45 : (ownsF w.heap.size 9 1 (n + 1) (scells (l.take at' ++ key :: l.drop at'))).p (ρ (.tmp 45)) wx := hl 11 (by decide +kernel) (.inl rfl) 45 rfl
        refine u_val (v := ρ (.tmp 45)) ?_ e45
        simp [execOp, go_sem]
      · intro ρ wx hρ hbx hl
        refine u_val (v := .bool true) ?_ rfl
        simp [execOp, hρ.const, go_sem]
      intro aa wz hdef hsz hlk hbz hf
      have ha := act_of_like hdef hsz hlk [34, 35, 36, 37, 38, 39, 40, 41, 42, 43, 44, 45, 4, 5] 46 rfl (by decide +kernel)
      have e35 : aa.tmps.getD 35 undef = .slice a n cap := hf 1 _ 35 rfl rfl rfl
      have e36 : aa.tmps.getD 36 undef = .int .i64 (at' : Int) := hf 2 _ 36 rfl rfl rfl
      have e37 : aa.tmps.getD 37 undef = .slice a at' cap := hf 3 _ 37 rfl rfl rfl
      have e39 : aa.tmps.getD 39 undef = .string key := hf 5 _ 39 rfl rfl rfl
      have e42 : aa.tmps.getD 42 undef = .slice a n cap := hf 8 _ 42 rfl rfl rfl
      have e43 : aa.tmps.getD 43 undef = .int .i64 (at' : Int) := hf 9 _ 43 rfl rfl rfl
      have e44 : aa.tmps.getD 44 undef = .slice (behind a at' cap) (n - at') (cap - at') := hf 10 _ 44 rfl rfl rfl
      have e45 : (ownsF w.heap.size 9 1 (n + 1) (scells (l.take at' ++ key :: l.drop at'))).p (aa.tmps.getD 45 undef) wz := hf 11 _ 45 rfl rfl rfl
      generalize hv45 : aa.tmps.getD 45 undef = v45 at e45
      have e4 : (ownsF w.heap.size 9 1 (n + 1) (scells (l.take at' ++ key :: l.drop at'))).p (aa.tmps.getD 4 undef) wz := hf 12 _ 4 rfl rfl rfl
      generalize hv4 : aa.tmps.getD 4 undef = v4 at e4
      have e5 : aa.tmps.getD 5 undef = .bool true := hf 13 _ 5 rfl rfl rfl
      simp only [putAll, List.foldl_cons, List.foldl_nil, e35, e36, e37, e39, e42, e43, e44, hv45, hv4, e5] at ha
      generalize aa.tmps.getD 34 undef = v34 at ha
      generalize aa.tmps.getD 38 undef = v38 at ha
      generalize aa.tmps.getD 40 undef = v40 at ha
      generalize aa.tmps.getD 41 undef = v41 at ha
      simp [Act.put] at ha
      subst ha
      clear hdef hsz hlk hf e35 e36 e37 e39 e42 e43 e44 hv45 hv4 e5
      have HB := Lib.hid hbz
      have hlen : (l.take at' ++ key :: l.drop at').length = n + 1 := by
        have := HLL.out
        simp
        omega
      obtain ⟨a9, c9, hv9, _, _⟩ := (ownsRow.reads e4).le
      subst hv9
      have HW := Lib.hid (ownsRow.reads e4)
      clear e45 e4 hbz
      go_wp2
      go_ret2
      unfold PutPost
      rw [HP.out, hlen]
      exact ⟨_, _, _, rfl, HW.out, HB.out⟩
end Go.Proofs.YtfhdonidgegebaaDoor

/- sentryref11.Put: of a row of one's own. -/
namespace Go.Proofs.YtfhdonidgegebaaDoor
open Go Go.RowKit

theorem owns_lower {w : World} {B C n s : Nat} {e : TypeId} {v : Value} {xs : List Value} (h : w.ownsRow B e s v n xs) (hc : C ≤ B) : w.ownsRow C e s v n xs := by
  refine ⟨h.1, ?_⟩
  rcases h.2 with h0 | ⟨g, cap, cur, hv, hB, h3⟩
  · exact .inl h0
  · exact .inr ⟨g, cap, cur, hv, by omega, h3⟩

def PutOPost (w : World) (B : Nat) (l : List ByteArray) (key : ByteArray) (e : Ending) (w' : World) : Prop :=
  ∃ v b, e = .returned (.tuple #[v, .bool b]) ∧ w'.ownsRow B 9 1 v (putK l key).length (scells (putK l key)) ∧ Below w.heap.size w w'

set_option maxRecDepth 100000 in
set_option maxHeartbeats 2000000 in
theorem puto_any (w : World) (B : Nat) (a : Option Addr) (n cap : Nat) (l : List ByteArray) (key : ByteArray) (ho : w.ownsRow B 9 1 (.slice a n cap) n (scells l)) (hB : B ≤ w.heap.size) (hn : n ≤ 5000000000000) :
    Calls Tryd.prog 38 #[.slice a n cap, .string key] w (PutOPost w B l key) := by
  have h := ownsRow.reads ho
  have HOw := Lib.hid ho
  clear ho
  obtain ⟨i0, hi, hz0, hz1, hz2⟩ := info_parts info9
  have HR := Lib.hid h
  have hll : l.length = n := by have := h.1; rw [scells_length] at this; omega
  have HLL := Lib.hid hll
  obtain ⟨_, _, hv, hc1, hc2⟩ := h.le
  cases hv
  have hc3 := hc2
  unfold maxLen at hc2
  clear h hll
  go_enter Tryd.func38, Tryd.ntmps38
  go_wp2
  go_loop [6] (fun v => PutARel l key v) (fun v => n - (intOf v).toNat)
  case atStart => exact ⟨0, rfl, Nat.zero_le _, fun j x hj => by omega⟩
  case round =>
    obtain ⟨i, rfl, hil, hlt⟩ := hrel
    rw [HLL.out] at hil
    have HLt := Lib.hid hlt
    clear hlt
    by_cases hin : i < n
    · have hinI : (i : Int) < n := by omega
      obtain ⟨b, off, x, rfl, hx, hb, hc⟩ := HR.out.scell i hin
      cases hbl : bl x key with
      | true =>
        have hbI : Op.bytesLess x.toList key.toList = true := by rw [bl_spell]; exact hbl
        have HX := Lib.hid hx
        have HBl := Lib.hid hbl
        clear hx hbl
        go_wp2
        refine ⟨⟨i + 1, by go_num, by rw [HLL.out]; omega, fun j y hj hy => ?_⟩, by simp [intOf]; omega⟩
        by_cases hji : j < i
        · exact HLt.out j y hji hy
        · obtain rfl : j = i := by omega
          rw [HX.out] at hy
          cases hy
          exact HBl.out
      | false =>
        have hbI : Op.bytesLess x.toList key.toList = false := by rw [bl_spell]; exact hbl
        have hpa : putAt l key = i := putAt_eq HLt.out (by rw [HLL.out]; omega) (fun y hy => by rw [hx] at hy; cases hy; exact hbl)
        by_cases hxk : x = key
        · subst hxk
          have hpk : putK l x = l := by unfold putK; rw [hpa, hx, if_pos rfl]
          have HP := Lib.hid hpk
          clear hx hpa hpk hbl
          go_wp2
          go_ret2
          exact ⟨_, _, rfl, by rw [HP.out, HLL.out]; exact HOw.out, Below.refl _ _⟩
        · have hpk : putK l key = l.take i ++ key :: l.drop i := by
            unfold putK
            rw [hpa, hx, if_neg (fun e => hxk (Option.some.inj e))]
          have hxkI : (x.toList == key.toList) = false := by
            rw [beq_eq_false_iff_ne, Go.ByteArray.toList_eq, Go.ByteArray.toList_eq]
            exact fun e => hxk (Go.WideShapes.bytes_inj e)
          have hat : i ≤ n := by omega
          have HP := Lib.hid hpk
          clear hx hpk hbl HLt hxk hil hpa
          go_wp2_with fail
          generalize (some ({ block := b, off := off } : Addr)) = a at *
          clear hb hc
          obtain ⟨at', rfl⟩ : ∃ at', at' = i := ⟨_, rfl⟩
          refine wp_region_until (by kernel_rfl) [onU (zeroF w.heap.size 9 1) (some 4), eqU (.slice a n cap), eqU (.int .i64 (at' : Int)), eqU (.slice a at' cap), onU (ownsF w.heap.size 9 1 at' (scells (l.take at'))) (some 7), eqU (.string key), onU (litF 9 #[.string key] 1) (some 7), onU (ownsF w.heap.size 9 1 (at' + 1) (scells (l.take at' ++ [key]))) (some 11), eqU (.slice a n cap), eqU (.int .i64 (at' : Int)), eqU (.slice (behind a at' cap) (n - at') (cap - at')), onU (ownsF w.heap.size 9 1 (n + 1) (scells (l.take at' ++ key :: l.drop at'))) none, onU (ownsF w.heap.size 9 1 (n + 1) (scells (l.take at' ++ key :: l.drop at'))) none, eqU (.bool true)] [7, 11] (by kernel_rfl) (by kernel_rfl) (by kernel_rfl) ⟨?_, ?_, ?_, ?_, ?_, ?_, ?_, ?_, ?_, ?_, ?_, ?_, ?_, ?_, trivial⟩ ?_
          · intro ρ wx hρ hbx hl
            refine u_new (v := .slice (some ⟨wx.heap.size, 0, none⟩) 0 0) (w' := wx.alloc (.cells #[] 9)) ?_ ⟨_, rfl, owns_less (owns_zero wx _ 1) hbx.size⟩ ((Below.refl _ _).alloc (Nat.le_refl _) _)
            simp [execOp, go_sem]
          · intro ρ wx hρ hbx hl
            have e0 : ρ (.tmp 0) = .slice a n cap := hρ.tmp 0 (by decide +kernel)
            refine u_val (v := .slice a n cap) ?_ rfl
            simp [execOp, go_sem, e0]
          · intro ρ wx hρ hbx hl
            have e6 : ρ (.tmp 6) = .int .i64 (at' : Int) := hρ.tmp 6 (by decide +kernel)
            refine u_val (v := .int .i64 (at' : Int)) ?_ rfl
            simp [execOp, go_sem, e6]
          · intro ρ wx hρ hbx hl
            have e35 : ρ (.tmp 35) = .slice a n cap := hl 1 (by decide +kernel) (.inl rfl) 35 rfl
            have e36 : ρ (.tmp 36) = .int .i64 (at' : Int) := hl 2 (by decide +kernel) (.inl rfl) 36 rfl
            refine u_val (v := .slice a at' cap) ?_ rfl
            simp [execOp, go_sem, e35, e36]
            first | done | omega
          · intro ρ wx hρ hbx hl
            have e34 : (zeroF w.heap.size 9 1).p (ρ (.tmp 34)) wx := hl 0 (by decide +kernel) (.inr rfl) 34 rfl
            have e37 : ρ (.tmp 37) = .slice a at' cap := hl 3 (by decide +kernel) (.inl rfl) 37 rfl
            obtain ⟨g34, e34, o34⟩ := e34
            rw [e34] at o34
            obtain ⟨v', w', hr, ho, hb⟩ := run_append_zero (P := Tryd.prog) (w := wx) w.heap.size 22 22 22 9 i0 _ 16 Tryd.underlying22 hi hz0 hz1 hz2 rfl g34 o34 (.slice a at' cap) at' (scells (l.take at')) (((HR.out.below' hbx).stake at' hat).src Tryd.underlying22 (scells_one _)) (by unfold maxLen; omega) (by omega) hbx.size
            refine u_new ?_ ho hb
            simp only [execOp, resolve, invoke, builtin, Sem.run_bind, Sem.run_pure, Result.andThen_ok, List.map_toArray, List.map_cons, List.map_nil, e34, e37, hr]
          · intro ρ wx hρ hbx hl
            have e1 : ρ (.tmp 1) = .string key := hρ.tmp 1 (by decide +kernel)
            refine u_val (v := .string key) ?_ rfl
            simp [execOp, go_sem, e1]
          · intro ρ wx hρ hbx hl
            have e39 : ρ (.tmp 39) = .string key := hl 5 (by decide +kernel) (.inl rfl) 39 rfl
            refine u_new (v := .slice (some ⟨wx.heap.size, 0, none⟩) 1 1) (w' := wx.alloc (.cells #[.string key] 9)) ?_ ⟨_, rfl, heap_alloc_new wx _⟩ ((Below.refl _ _).alloc (Nat.le_refl _) _)
            simp [execOp, go_sem, e39]
          · intro ρ wx hρ hbx hl
            have e38 : (ownsF w.heap.size 9 1 at' (scells (l.take at'))).p (ρ (.tmp 38)) wx := hl 4 (by decide +kernel) (.inr rfl) 38 rfl
            have e40 : (litF 9 #[.string key] 1).p (ρ (.tmp 40)) wx := hl 6 (by decide +kernel) (.inr rfl) 40 rfl
            obtain ⟨g40, e40, o40⟩ := e40
            have hrd := lit_reads (cs := [.string key]) (size := 1) o40 rfl (by decide)
            obtain ⟨v', w', hr, ho, hg, hb, _⟩ := run_append_owns (P := Tryd.prog) (w := wx) w.heap.size 22 22 22 9 i0 _ 1 16 Tryd.underlying22 hi hz0 hz1 hz2 rfl _ at' _ e38 _ 1 [.string key] (hrd.src Tryd.underlying22 (by simp [Value.oneCell'])) (by unfold maxLen; omega) (by omega) hbx.size
            rw [show scells (l.take at') ++ [Value.string key] = scells (l.take at' ++ [key]) from (scells_append (l.take at') [key]).symm] at ho
            refine u_new ?_ ho hb
            simp only [execOp, resolve, invoke, builtin, Sem.run_bind, Sem.run_pure, Result.andThen_ok, List.map_toArray, List.map_cons, List.map_nil, e40, hr]
          · intro ρ wx hρ hbx hl
            have e0 : ρ (.tmp 0) = .slice a n cap := hρ.tmp 0 (by decide +kernel)
            refine u_val (v := .slice a n cap) ?_ rfl
            simp [execOp, go_sem, e0]
          · intro ρ wx hρ hbx hl
            have e6 : ρ (.tmp 6) = .int .i64 (at' : Int) := hρ.tmp 6 (by decide +kernel)
            refine u_val (v := .int .i64 (at' : Int)) ?_ rfl
            simp [execOp, go_sem, e6]
          · intro ρ wx hρ hbx hl
            have e42 : ρ (.tmp 42) = .slice a n cap := hl 8 (by decide +kernel) (.inl rfl) 42 rfl
            have e43 : ρ (.tmp 43) = .int .i64 (at' : Int) := hl 9 (by decide +kernel) (.inl rfl) 43 rfl
            refine u_val (v := .slice (behind a at' cap) (n - at') (cap - at')) ?_ rfl
            simp [execOp, go_sem, e42, e43, behind, hat]
          · intro ρ wx hρ hbx hl
            have e41 : (ownsF w.heap.size 9 1 (at' + 1) (scells (l.take at' ++ [key]))).p (ρ (.tmp 41)) wx := hl 7 (by decide +kernel) (.inr rfl) 41 rfl
            have e44 : ρ (.tmp 44) = .slice (behind a at' cap) (n - at') (cap - at') := hl 10 (by decide +kernel) (.inl rfl) 44 rfl
            obtain ⟨v', w', hr, ho, hg, hb, _⟩ := run_append_owns (P := Tryd.prog) (w := wx) w.heap.size 22 22 22 9 i0 _ 1 16 Tryd.underlying22 hi hz0 hz1 hz2 rfl _ (at' + 1) _ e41 (.slice (behind a at' cap) (n - at') (cap - at')) (n - at') (scells (l.drop at')) (((HR.out.below' hbx).sdrop at' hat).src Tryd.underlying22 (scells_one _)) (by unfold maxLen; omega) (by omega) hbx.size
            rw [← scells_append, List.append_assoc, List.singleton_append, show at' + 1 + (n - at') = n + 1 by omega] at ho
            refine u_new ?_ ho hb
            simp only [execOp, resolve, invoke, builtin, Sem.run_bind, Sem.run_pure, Result.andThen_ok, List.map_toArray, List.map_cons, List.map_nil, e44, hr]
          · intro ρ wx hρ hbx hl
            have e45 : (ownsF w.heap.size 9 1 (n + 1) (scells (l.take at' ++ key :: l.drop at'))).p (ρ (.tmp 45)) wx := hl 11 (by decide +kernel) (.inl rfl) 45 rfl
            refine u_val (v := ρ (.tmp 45)) ?_ e45
            simp [execOp, go_sem]
          · intro ρ wx hρ hbx hl
            refine u_val (v := .bool true) ?_ rfl
            simp [execOp, hρ.const, go_sem]
          intro aa wz hdef hsz hlk hbz hf
          have ha := act_of_like hdef hsz hlk [34, 35, 36, 37, 38, 39, 40, 41, 42, 43, 44, 45, 4, 5] 46 rfl (by decide +kernel)
          have e35 : aa.tmps.getD 35 undef = .slice a n cap := hf 1 _ 35 rfl rfl rfl
          have e36 : aa.tmps.getD 36 undef = .int .i64 (at' : Int) := hf 2 _ 36 rfl rfl rfl
          have e37 : aa.tmps.getD 37 undef = .slice a at' cap := hf 3 _ 37 rfl rfl rfl
          have e39 : aa.tmps.getD 39 undef = .string key := hf 5 _ 39 rfl rfl rfl
          have e42 : aa.tmps.getD 42 undef = .slice a n cap := hf 8 _ 42 rfl rfl rfl
          have e43 : aa.tmps.getD 43 undef = .int .i64 (at' : Int) := hf 9 _ 43 rfl rfl rfl
          have e44 : aa.tmps.getD 44 undef = .slice (behind a at' cap) (n - at') (cap - at') := hf 10 _ 44 rfl rfl rfl
          have e45 : (ownsF w.heap.size 9 1 (n + 1) (scells (l.take at' ++ key :: l.drop at'))).p (aa.tmps.getD 45 undef) wz := hf 11 _ 45 rfl rfl rfl
          generalize hv45 : aa.tmps.getD 45 undef = v45 at e45
          have e4 : (ownsF w.heap.size 9 1 (n + 1) (scells (l.take at' ++ key :: l.drop at'))).p (aa.tmps.getD 4 undef) wz := hf 12 _ 4 rfl rfl rfl
          generalize hv4 : aa.tmps.getD 4 undef = v4 at e4
          have e5 : aa.tmps.getD 5 undef = .bool true := hf 13 _ 5 rfl rfl rfl
          simp only [putAll, List.foldl_cons, List.foldl_nil, e35, e36, e37, e39, e42, e43, e44, hv45, hv4, e5] at ha
          generalize aa.tmps.getD 34 undef = v34 at ha
          generalize aa.tmps.getD 38 undef = v38 at ha
          generalize aa.tmps.getD 40 undef = v40 at ha
          generalize aa.tmps.getD 41 undef = v41 at ha
          simp [Act.put] at ha
          subst ha
          clear hdef hsz hlk hf e35 e36 e37 e39 e42 e43 e44 hv45 hv4 e5
          have HB := Lib.hid hbz
          have hlen : (l.take at' ++ key :: l.drop at').length = n + 1 := by
            have := HLL.out
            simp
            omega
          obtain ⟨a9, c9, hv9, _, _⟩ := (ownsRow.reads e4).le
          subst hv9
          have HW := Lib.hid (owns_lower e4 hB)
          clear e45 e4 hbz
          go_wp2
          go_ret2
          exact ⟨_, _, rfl, by rw [HP.out, hlen]; exact HW.out, HB.out⟩
    · have hinI : ¬ ((i : Int) < n) := by omega
      have hnone : l[i]? = none := List.getElem?_eq_none (by rw [HLL.out]; omega)
      have hpa : putAt l key = i := putAt_eq HLt.out (by rw [HLL.out]; omega) (fun x hx => by rw [hnone] at hx; cases hx)
      have hpk : putK l key = l.take i ++ key :: l.drop i := by
        unfold putK
        rw [hpa, hnone, if_neg (by simp)]
      have HP := Lib.hid hpk
      have hat : i ≤ n := hil
      clear hpk HLt hil hpa hnone
      go_wp2_with fail
      obtain ⟨at', rfl⟩ : ∃ at', at' = i := ⟨_, rfl⟩
      refine wp_region_until (by kernel_rfl) [onU (zeroF w.heap.size 9 1) (some 4), eqU (.slice a n cap), eqU (.int .i64 (at' : Int)), eqU (.slice a at' cap), onU (ownsF w.heap.size 9 1 at' (scells (l.take at'))) (some 7), eqU (.string key), onU (litF 9 #[.string key] 1) (some 7), onU (ownsF w.heap.size 9 1 (at' + 1) (scells (l.take at' ++ [key]))) (some 11), eqU (.slice a n cap), eqU (.int .i64 (at' : Int)), eqU (.slice (behind a at' cap) (n - at') (cap - at')), onU (ownsF w.heap.size 9 1 (n + 1) (scells (l.take at' ++ key :: l.drop at'))) none, onU (ownsF w.heap.size 9 1 (n + 1) (scells (l.take at' ++ key :: l.drop at'))) none, eqU (.bool true)] [7, 11] (by kernel_rfl) (by kernel_rfl) (by kernel_rfl) ⟨?_, ?_, ?_, ?_, ?_, ?_, ?_, ?_, ?_, ?_, ?_, ?_, ?_, ?_, trivial⟩ ?_
      · intro ρ wx hρ hbx hl
        refine u_new (v := .slice (some ⟨wx.heap.size, 0, none⟩) 0 0) (w' := wx.alloc (.cells #[] 9)) ?_ ⟨_, rfl, owns_less (owns_zero wx _ 1) hbx.size⟩ ((Below.refl _ _).alloc (Nat.le_refl _) _)
        simp [execOp, go_sem]
      · intro ρ wx hρ hbx hl
        have e0 : ρ (.tmp 0) = .slice a n cap := hρ.tmp 0 (by decide +kernel)
        refine u_val (v := .slice a n cap) ?_ rfl
        simp [execOp, go_sem, e0]
      · intro ρ wx hρ hbx hl
        have e6 : ρ (.tmp 6) = .int .i64 (at' : Int) := hρ.tmp 6 (by decide +kernel)
        refine u_val (v := .int .i64 (at' : Int)) ?_ rfl
        simp [execOp, go_sem, e6]
      · intro ρ wx hρ hbx hl
        have e35 : ρ (.tmp 35) = .slice a n cap := hl 1 (by decide +kernel) (.inl rfl) 35 rfl
        have e36 : ρ (.tmp 36) = .int .i64 (at' : Int) := hl 2 (by decide +kernel) (.inl rfl) 36 rfl
        refine u_val (v := .slice a at' cap) ?_ rfl
        simp [execOp, go_sem, e35, e36]
        first | done | omega
      · intro ρ wx hρ hbx hl
        have e34 : (zeroF w.heap.size 9 1).p (ρ (.tmp 34)) wx := hl 0 (by decide +kernel) (.inr rfl) 34 rfl
        have e37 : ρ (.tmp 37) = .slice a at' cap := hl 3 (by decide +kernel) (.inl rfl) 37 rfl
        obtain ⟨g34, e34, o34⟩ := e34
        rw [e34] at o34
        obtain ⟨v', w', hr, ho, hb⟩ := run_append_zero (P := Tryd.prog) (w := wx) w.heap.size 22 22 22 9 i0 _ 16 Tryd.underlying22 hi hz0 hz1 hz2 rfl g34 o34 (.slice a at' cap) at' (scells (l.take at')) (((HR.out.below' hbx).stake at' hat).src Tryd.underlying22 (scells_one _)) (by unfold maxLen; omega) (by omega) hbx.size
        refine u_new ?_ ho hb
        simp only [execOp, resolve, invoke, builtin, Sem.run_bind, Sem.run_pure, Result.andThen_ok, List.map_toArray, List.map_cons, List.map_nil, e34, e37, hr]
      · intro ρ wx hρ hbx hl
        have e1 : ρ (.tmp 1) = .string key := hρ.tmp 1 (by decide +kernel)
        refine u_val (v := .string key) ?_ rfl
        simp [execOp, go_sem, e1]
      · intro ρ wx hρ hbx hl
        have e39 : ρ (.tmp 39) = .string key := hl 5 (by decide +kernel) (.inl rfl) 39 rfl
        refine u_new (v := .slice (some ⟨wx.heap.size, 0, none⟩) 1 1) (w' := wx.alloc (.cells #[.string key] 9)) ?_ ⟨_, rfl, heap_alloc_new wx _⟩ ((Below.refl _ _).alloc (Nat.le_refl _) _)
        simp [execOp, go_sem, e39]
      · intro ρ wx hρ hbx hl
        have e38 : (ownsF w.heap.size 9 1 at' (scells (l.take at'))).p (ρ (.tmp 38)) wx := hl 4 (by decide +kernel) (.inr rfl) 38 rfl
        have e40 : (litF 9 #[.string key] 1).p (ρ (.tmp 40)) wx := hl 6 (by decide +kernel) (.inr rfl) 40 rfl
        obtain ⟨g40, e40, o40⟩ := e40
        have hrd := lit_reads (cs := [.string key]) (size := 1) o40 rfl (by decide)
        obtain ⟨v', w', hr, ho, hg, hb, _⟩ := run_append_owns (P := Tryd.prog) (w := wx) w.heap.size 22 22 22 9 i0 _ 1 16 Tryd.underlying22 hi hz0 hz1 hz2 rfl _ at' _ e38 _ 1 [.string key] (hrd.src Tryd.underlying22 (by simp [Value.oneCell'])) (by unfold maxLen; omega) (by omega) hbx.size
        rw [show scells (l.take at') ++ [Value.string key] = scells (l.take at' ++ [key]) from (scells_append (l.take at') [key]).symm] at ho
        refine u_new ?_ ho hb
        simp only [execOp, resolve, invoke, builtin, Sem.run_bind, Sem.run_pure, Result.andThen_ok, List.map_toArray, List.map_cons, List.map_nil, e40, hr]
      · intro ρ wx hρ hbx hl
        have e0 : ρ (.tmp 0) = .slice a n cap := hρ.tmp 0 (by decide +kernel)
        refine u_val (v := .slice a n cap) ?_ rfl
        simp [execOp, go_sem, e0]
      · intro ρ wx hρ hbx hl
        have e6 : ρ (.tmp 6) = .int .i64 (at' : Int) := hρ.tmp 6 (by decide +kernel)
        refine u_val (v := .int .i64 (at' : Int)) ?_ rfl
        simp [execOp, go_sem, e6]
      · intro ρ wx hρ hbx hl
        have e42 : ρ (.tmp 42) = .slice a n cap := hl 8 (by decide +kernel) (.inl rfl) 42 rfl
        have e43 : ρ (.tmp 43) = .int .i64 (at' : Int) := hl 9 (by decide +kernel) (.inl rfl) 43 rfl
        refine u_val (v := .slice (behind a at' cap) (n - at') (cap - at')) ?_ rfl
        simp [execOp, go_sem, e42, e43, behind, hat]
      · intro ρ wx hρ hbx hl
        have e41 : (ownsF w.heap.size 9 1 (at' + 1) (scells (l.take at' ++ [key]))).p (ρ (.tmp 41)) wx := hl 7 (by decide +kernel) (.inr rfl) 41 rfl
        have e44 : ρ (.tmp 44) = .slice (behind a at' cap) (n - at') (cap - at') := hl 10 (by decide +kernel) (.inl rfl) 44 rfl
        obtain ⟨v', w', hr, ho, hg, hb, _⟩ := run_append_owns (P := Tryd.prog) (w := wx) w.heap.size 22 22 22 9 i0 _ 1 16 Tryd.underlying22 hi hz0 hz1 hz2 rfl _ (at' + 1) _ e41 (.slice (behind a at' cap) (n - at') (cap - at')) (n - at') (scells (l.drop at')) (((HR.out.below' hbx).sdrop at' hat).src Tryd.underlying22 (scells_one _)) (by unfold maxLen; omega) (by omega) hbx.size
        rw [← scells_append, List.append_assoc, List.singleton_append, show at' + 1 + (n - at') = n + 1 by omega] at ho
        refine u_new ?_ ho hb
        simp only [execOp, resolve, invoke, builtin, Sem.run_bind, Sem.run_pure, Result.andThen_ok, List.map_toArray, List.map_cons, List.map_nil, e44, hr]
      · intro ρ wx hρ hbx hl
        have e45 : (ownsF w.heap.size 9 1 (n + 1) (scells (l.take at' ++ key :: l.drop at'))).p (ρ (.tmp 45)) wx := hl 11 (by decide +kernel) (.inl rfl) 45 rfl
        refine u_val (v := ρ (.tmp 45)) ?_ e45
        simp [execOp, go_sem]
      · intro ρ wx hρ hbx hl
        refine u_val (v := .bool true) ?_ rfl
        simp [execOp, hρ.const, go_sem]
      intro aa wz hdef hsz hlk hbz hf
      have ha := act_of_like hdef hsz hlk [34, 35, 36, 37, 38, 39, 40, 41, 42, 43, 44, 45, 4, 5] 46 rfl (by decide +kernel)
      have e35 : aa.tmps.getD 35 undef = .slice a n cap := hf 1 _ 35 rfl rfl rfl
      have e36 : aa.tmps.getD 36 undef = .int .i64 (at' : Int) := hf 2 _ 36 rfl rfl rfl
      have e37 : aa.tmps.getD 37 undef = .slice a at' cap := hf 3 _ 37 rfl rfl rfl
      have e39 : aa.tmps.getD 39 undef = .string key := hf 5 _ 39 rfl rfl rfl
      have e42 : aa.tmps.getD 42 undef = .slice a n cap := hf 8 _ 42 rfl rfl rfl
      have e43 : aa.tmps.getD 43 undef = .int .i64 (at' : Int) := hf 9 _ 43 rfl rfl rfl
      have e44 : aa.tmps.getD 44 undef = .slice (behind a at' cap) (n - at') (cap - at') := hf 10 _ 44 rfl rfl rfl
      have e45 : (ownsF w.heap.size 9 1 (n + 1) (scells (l.take at' ++ key :: l.drop at'))).p (aa.tmps.getD 45 undef) wz := hf 11 _ 45 rfl rfl rfl
      generalize hv45 : aa.tmps.getD 45 undef = v45 at e45
      have e4 : (ownsF w.heap.size 9 1 (n + 1) (scells (l.take at' ++ key :: l.drop at'))).p (aa.tmps.getD 4 undef) wz := hf 12 _ 4 rfl rfl rfl
      generalize hv4 : aa.tmps.getD 4 undef = v4 at e4
      have e5 : aa.tmps.getD 5 undef = .bool true := hf 13 _ 5 rfl rfl rfl
      simp only [putAll, List.foldl_cons, List.foldl_nil, e35, e36, e37, e39, e42, e43, e44, hv45, hv4, e5] at ha
      generalize aa.tmps.getD 34 undef = v34 at ha
      generalize aa.tmps.getD 38 undef = v38 at ha
      generalize aa.tmps.getD 40 undef = v40 at ha
      generalize aa.tmps.getD 41 undef = v41 at ha
      simp [Act.put] at ha
      subst ha
      clear hdef hsz hlk hf e35 e36 e37 e39 e42 e43 e44 hv45 hv4 e5
      have HB := Lib.hid hbz
      have hlen : (l.take at' ++ key :: l.drop at').length = n + 1 := by
        have := HLL.out
        simp
        omega
      obtain ⟨a9, c9, hv9, _, _⟩ := (ownsRow.reads e4).le
      subst hv9
      have HW := Lib.hid (owns_lower e4 hB)
      clear e45 e4 hbz
      go_wp2
      go_ret2
      exact ⟨_, _, rfl, by rw [HP.out, hlen]; exact HW.out, HB.out⟩
end Go.Proofs.YtfhdonidgegebaaDoor

/- A slice of nothing. -/
namespace Go.Proofs.YtfhdonidgegebaaDoor
open Go Go.RowKit

theorem Reads.none (w : World) (size : Nat) : Reads w size (.slice none 0 0) 0 [] := ⟨by simp, Option.none, 0, rfl, Nat.le_refl _, Nat.zero_le _, fun j u h => by simp at h⟩
end Go.Proofs.YtfhdonidgegebaaDoor

namespace Go.Proofs.YtfhdonidgegebaaDoor
open Go Go.RowKit

def TellsU64 (w : World) (n : Nat) (e : Ending) (w' : World) : Prop := e = .returned (.int .u64 (n : Int)) ∧ w = w'

theorem times_math (a b : Nat) :
    (((a % 4294967296 * (b % 4294967296) / 4294967296 + (a % 4294967296 * (b / 4294967296) % 4294967296 + a / 4294967296 * (b % 4294967296) % 4294967296) % 4294967296) % 4294967296) * 4294967296 + a % 4294967296 * (b % 4294967296) % 4294967296) = a * b % 18446744073709551616 := by
  have ha : a = a % 4294967296 + 4294967296 * (a / 4294967296) := by omega
  have hb : b = b % 4294967296 + 4294967296 * (b / 4294967296) := by omega
  have e : a * b = a % 4294967296 * (b % 4294967296) + 4294967296 * (a % 4294967296 * (b / 4294967296)) + 4294967296 * (a / 4294967296 * (b % 4294967296)) + 18446744073709551616 * (a / 4294967296 * (b / 4294967296)) := by
    generalize a % 4294967296 = l at *
    generalize a / 4294967296 = h at *
    generalize b % 4294967296 = x at *
    generalize b / 4294967296 = y at *
    subst ha hb
    simp only [Nat.add_mul, Nat.mul_add, Nat.mul_assoc]
    have e1 : l * (4294967296 * y) = 4294967296 * (l * y) := by rw [← Nat.mul_assoc, Nat.mul_comm l, Nat.mul_assoc]
    have e2 : h * (4294967296 * y) = 4294967296 * (h * y) := by rw [← Nat.mul_assoc, Nat.mul_comm h, Nat.mul_assoc]
    rw [e1, e2]
    omega
  rw [e]
  generalize a % 4294967296 * (b % 4294967296) = A
  generalize a % 4294967296 * (b / 4294967296) = B
  generalize a / 4294967296 * (b % 4294967296) = C
  generalize a / 4294967296 * (b / 4294967296) = D
  omega

theorem mul_le32 {x y : Nat} (hx : x < 4294967296) (hy : y < 4294967296) : ((x : Int) * (y : Int)) ≤ 18446744065119617025 ∧ 0 ≤ ((x : Int) * (y : Int)) := by
  have h := Nat.mul_le_mul (show x ≤ 4294967295 by omega) (show y ≤ 4294967295 by omega)
  have h2 : ((x * y : Nat) : Int) ≤ 18446744065119617025 := by omega
  rw [Int.natCast_mul] at h2
  exact ⟨h2, Int.mul_nonneg (by omega) (by omega)⟩

set_option maxRecDepth 100000 in
set_option maxHeartbeats 400000 in
theorem times_any (w : World) (a b : Nat) (ha : a < 18446744073709551616) (hb : b < 18446744073709551616) :
    Calls Tryd.prog 90 #[.int .u64 a, .int .u64 b] w (TellsU64 w (a * b % 18446744073709551616)) := by
  have q1 := mul_le32 (x := a % 4294967296) (y := b % 4294967296) (by omega) (by omega)
  have q2 := mul_le32 (x := a % 4294967296) (y := b / 4294967296) (by omega) (by omega)
  have q3 := mul_le32 (x := a / 4294967296) (y := b % 4294967296) (by omega) (by omega)
  simp only [Int.natCast_emod, Int.natCast_ediv, Int.cast_ofNat_Int] at q1 q2 q3
  go_enter Tryd.func90, Tryd.ntmps90
  go_wp2
  go_ret
  refine ⟨?_, rfl⟩
  rw [← times_math]
  refine congrArg Ending.returned (congrArg (Value.int IntKind.u64) ?_)
  simp only [Int.natCast_mul, Int.natCast_add, Int.natCast_emod, Int.natCast_ediv, Int.cast_ofNat_Int]
  generalize (a : Int) % 4294967296 * ((b : Int) % 4294967296) = A at *
  generalize (a : Int) % 4294967296 * ((b : Int) / 4294967296) = B at *
  generalize (a : Int) / 4294967296 * ((b : Int) % 4294967296) = C at *
  omega

set_option maxRecDepth 100000 in
set_option maxHeartbeats 400000 in
theorem refhash_any (w : World) (s : ByteArray) (hs : s.size ≤ 1000000000) :
    Calls Tryd.prog 81 #[.string s] w (TellsU64 w (hashL s.data.toList)) := by
  have hsl : s.data.toList.length = s.size := Array.length_toList
  have Hsl := Lib.hid hsl
  clear hsl
  go_enter Tryd.func81, Tryd.ntmps81
  go_wp2
  go_loop [3, 4] (fun h i => HashRel s.data.toList h i) (fun _ i => s.size - (intOf i).toNat)
  case atStart => exact ⟨0, rfl, Nat.zero_le _, rfl⟩
  case round =>
    obtain ⟨k, rfl, hk, rfl⟩ := hrel
    rw [Hsl.out] at hk
    by_cases hlt : k < s.size
    · have hgd : s.data.toList.getD k 0 = s[k] := by
        rw [List.getD_eq_getElem?_getD, List.getElem?_eq_getElem (by rw [Hsl.out]; exact hlt)]
        rfl
      have hsu := hashL_succ s.data.toList k (by rw [Hsl.out]; exact hlt)
      rw [hgd] at hsu
      have hh := hashL_lt (s.data.toList.take k)
      generalize hashL (s.data.toList.take k) = h at *
      have hc := s[k].toNat_lt
      have hx := bits_xor_u64_nat h s[k].toNat hh (by omega)
      have hxl : h ^^^ s[k].toNat < 18446744073709551616 := Nat.xor_lt_two_pow (n := 64) hh (by omega)
      have Hx := Lib.hid hx
      have Hsu := Lib.hid hsu
      clear hx hsu hgd
      go_wp2_with (go_at_call 90; go_must (rw [Hx.out]; refine (times_any w (h ^^^ s[k].toNat) 1099511628211 hxl (by decide)).mono ?_))
      rintro e w1 ⟨rfl, rfl⟩
      have hst : (h ^^^ s[k].toNat) * 1099511628211 % 18446744073709551616 = hashL (s.data.toList.take (k + 1)) := Hsu.out.symm
      rw [hst]
      clear hst
      go_wp2
      exact ⟨⟨k + 1, by go_num, by rw [Hsl.out]; omega, rfl⟩, by simp [intOf]; omega⟩
    · have e : List.take k s.data.toList = s.data.toList := List.take_of_length_le (by rw [Hsl.out]; omega)
      have E := Lib.hid e
      clear e
      go_wp2
      go_ret
      rw [E.out]
      exact ⟨rfl, rfl⟩

/-- the places of a key -/
def placesL (x y n k : Nat) : List Nat := (List.range k).map fun i => place x y n i

def ucells (l : List Nat) : List Value := l.map fun p : Nat => Value.int .u64 (p : Int)

theorem placesL_succ (x y n k : Nat) : placesL x y n (k + 1) = placesL x y n k ++ [place x y n k] := by
  simp [placesL, List.range_succ]

theorem info30 : (Tryd.prog.info? 55).map (fun i => (i.zero, i.size, i.bytes)) = some (some (.int .u64 0), 1, 8) := by kernel_rfl

def GivesPlaces (w : World) (l : List Nat) (e : Ending) (w' : World) : Prop :=
  ∃ v', e = .returned v' ∧ Reads w' 1 v' l.length (ucells l) ∧ Below w.heap.size w w' ∧ ∀ b, b < w.heap.size → v'.ownBlock ≠ some b

theorem fresh_start (B : Nat) (w : World) (e : TypeId) (size : Nat) : Fresh B w e size (.slice none 0 0) 0 [] :=
  ⟨Reads.none w size, .inl ⟨none, rfl⟩⟩

theorem step_or (h : Nat) : (if h / 4294967296 % 2 = 0 then h / 4294967296 + 1 else h / 4294967296) = stepOf h := by
  unfold stepOf
  generalize h / 4294967296 = y
  have h2 : y ||| 1 = 2 * (y / 2) + 1 := by
    apply Nat.eq_of_testBit_eq
    intro j
    rw [Nat.testBit_or]
    cases j with
    | zero => simp
    | succ j =>
      rw [Nat.testBit_succ, Nat.testBit_succ, Nat.testBit_succ]
      simp
      congr 1
      omega
  rw [h2]
  split <;> omega

def PlRel (w : World) (x y n K : Nat) (out c : Value) (wr : World) : Prop :=
  ∃ i : Nat, c = .int .i64 (i : Int) ∧ i ≤ K ∧ Fresh w.heap.size wr 55 1 out i (ucells (placesL x y n i)) ∧ Below w.heap.size w wr ∧ ∀ b, b < w.heap.size → out.ownBlock ≠ some b

set_option maxRecDepth 100000 in
set_option maxHeartbeats 1000000 in
theorem places_any (w : World) (s : ByteArray) (K n : Nat) (hs : s.size ≤ 1000000000) (hK : K ≤ 1000) (hn : 0 < n) (hn' : n ≤ 1000000000000) :
    Calls Tryd.prog 66 #[.string s, .int .i64 K, .int .u64 n] w (GivesPlaces w (placesL (atOf (hashL s.data.toList)) (stepOf (hashL s.data.toList)) n K)) := by
  obtain ⟨i0, hi, hz0, hz1, hz2⟩ := info_parts info30
  have hh := hashL_lt s.data.toList
  have hx := atOf_lt (hashL s.data.toList)
  have hy := stepOf_lt hh
  have hst := step_or (hashL s.data.toList)
  have hat : (hashL s.data.toList : Int) % 4294967296 = (atOf (hashL s.data.toList) : Int) := by unfold atOf; simp
  have href := fun w => refhash_any w s hs
  generalize hashL s.data.toList = h at *
  generalize atOf h = x at *
  generalize stepOf h = y at *
  have Href := Lib.hid href
  have Hst := Lib.hid hst
  have Hat := Lib.hid hat
  clear href hst hat
  have hways : ((((h : Int) / 4294967296 % 2) == 0) = true ∧ (h : Int) / 4294967296 + 1 = (y : Int)) ∨ ((((y : Int) % 2) == 0) = false ∧ (h : Int) / 4294967296 = (y : Int)) := by
    have := Hst.out
    by_cases hodd : h / 4294967296 % 2 = 0
    · rw [if_pos hodd] at this
      exact .inl ⟨by simp; omega, by omega⟩
    · rw [if_neg hodd] at this
      exact .inr ⟨by simp; omega, by omega⟩
  rcases hways with ⟨ho, hy1⟩ | ⟨ho, hy1⟩
  all_goals
    go_enter Tryd.func66, Tryd.ntmps66
    go_wp2_with (go_at_call 81; go_must (refine (Href.out _).mono ?_))
    rintro e w1 ⟨rfl, rfl⟩
    go_wp2
    go_loopw [10, 11] (fun out c wr => PlRel w x y n K out c wr) (fun _ c _ => K - (intOf c).toNat)
    case atStart => exact ⟨0, rfl, Nat.zero_le _, fresh_start _ _ _ _, Below.refl _ _, fun _ _ => by simp [Value.ownBlock]⟩
    case round =>
      obtain ⟨i, rfl, hi', hf, hb, hob⟩ := hrel
      have Hob := Lib.hid hob
      clear hob
      clear ho hy1
      by_cases hik : i < K
      · have hik' : (i : Int) < K := by omega
        have hm1 : i * y ≤ 1000 * 4294967296 := Nat.mul_le_mul (by omega) (by omega)
        have hm2 : (i : Int) * (y : Int) ≤ 4294967296000 := by
          rw [← Int.natCast_mul]
          omega
        have hm3 : 0 ≤ (i : Int) * (y : Int) := Int.mul_nonneg (by omega) (by omega)
        have hbs := hb.size
        have hpl : ucells (placesL x y n i) ++ [Value.int .u64 (((x : Int) + (i : Int) * (y : Int)) % (n : Int))] = ucells (placesL x y n (i + 1)) := by
          rw [placesL_succ]
          simp [ucells, place]
        have Hpl := Lib.hid hpl
        clear hpl
        go_wp2_with (at_builtin; go_must (refine wpList_append_one (w0 := wr) rfl _ _ 106 rfl w.heap.size 55 i0 (.int .u64 0) 8 Tryd.underlying106 hi hz0 hz1 hz2 rfl hf rfl rfl rfl ?_ ?_ hbs ?_))
        · unfold maxLen; omega
        · omega
        intro v' w1 f1 g1 b1 m1
        rw [Hat.out, Hpl.out] at f1
        have hb1 := hb.trans b1
        have hob1 := Lib.hid (fun b (hb' : b < w.heap.size) => m1 b (by omega) (Hob.out b hb'))
        go_wp2
        exact ⟨⟨i + 1, by go_num, by omega, f1, hb1, hob1.out⟩, by simp [intOf]; omega⟩
      · obtain rfl : i = K := by omega
        have hik' : ¬ ((i : Int) < i) := by omega
        have hl : (placesL x y n i).length = i := by simp [placesL]
        have Hl := Lib.hid hl
        have HF := Lib.hid hf
        clear hl hf
        go_wp2
        go_ret
        refine ⟨_, rfl, ?_, hb, Hob.out⟩
        rw [Hl.out]
        exact HF.out.1
end Go.Proofs.YtfhdonidgegebaaDoor

/- Rows of places, read. -/
namespace Go.Proofs.YtfhdonidgegebaaDoor
open Go Go.RowKit

theorem reads_at {w : World} {a : Option Addr} {n cap : Nat} {xs : List Value} (h : Reads w 1 (.slice a n cap) n xs) {j : Nat} {u : Value} (hj : xs[j]? = some u) :
    ∃ b off, a = some ⟨b, off, none⟩ ∧ b < w.heap.size ∧ w.cell? ⟨b, off + j, none⟩ = some u := by
  obtain ⟨_, a', cap', hv, _, _, h3⟩ := h
  cases hv
  obtain ⟨b, off, rfl, hb, hc⟩ := h3 j u hj
  exact ⟨b, off, rfl, hb, hc⟩

theorem ucells_at {x y n k i : Nat} (h : i < k) : (ucells (placesL x y n k))[i]? = some (.int .u64 (place x y n i : Int)) := by
  simp [ucells, placesL, h]
end Go.Proofs.YtfhdonidgegebaaDoor
