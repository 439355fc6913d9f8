/- What the proof stands on, part 6. -/
import Derived.Test.YtekdcjbjjakhcaaMg5
/- sentryref11.Put: of a row of one's own. -/
namespace Go.Proofs.Ytekdcjbjjakhcaa
open Go Go.RowKit

theorem owns_lower {w : World} {B C n s : Nat} {e : TypeId} {v : Value} {xs : List Value} (h : w.ownsRow B e s v n xs) (hc : C ≤ B) : w.ownsRow C e s v n xs := by
  refine ⟨h.1, ?_⟩
  rcases h.2 with h0 | ⟨g, cap, cur, hv, hB, h3⟩
  · exact .inl h0
  · exact .inr ⟨g, cap, cur, hv, by omega, h3⟩

def PutOPost (w : World) (B : Nat) (l : List ByteArray) (key : ByteArray) (e : Ending) (w' : World) : Prop :=
  ∃ v b, e = .returned (.tuple #[v, .bool b]) ∧ w'.ownsRow B 9 1 v (putK l key).length (scells (putK l key)) ∧ Below w.heap.size w w'

set_option maxRecDepth 100000 in
set_option maxHeartbeats 2000000 in
theorem puto_any (w : World) (B : Nat) (a : Option Addr) (n cap : Nat) (l : List ByteArray) (key : ByteArray) (ho : w.ownsRow B 9 1 (.slice a n cap) n (scells l)) (hB : B ≤ w.heap.size) (hn : n ≤ 100000) :
    Calls Try.prog 30 #[.slice a n cap, .string key] w (PutOPost w B l key) := by
  have h := ownsRow.reads ho
  have HOw := Lib.hid ho
  clear ho
  obtain ⟨i0, hi, hz0, hz1, hz2⟩ := info_parts info9
  have HR := Lib.hid h
  have hll : l.length = n := by have := h.1; rw [scells_length] at this; omega
  have HLL := Lib.hid hll
  obtain ⟨_, _, hv, hc1, hc2⟩ := h.le
  cases hv
  have hc3 := hc2
  unfold maxLen at hc2
  clear h hll
  go_enter Try.func30, Try.ntmps30
  go_wp2
  go_loop [6] (fun v => PutARel l key v) (fun v => n - (intOf v).toNat)
  case atStart => exact ⟨0, rfl, Nat.zero_le _, fun j x hj => by omega⟩
  case round =>
    obtain ⟨i, rfl, hil, hlt⟩ := hrel
    rw [HLL.out] at hil
    have HLt := Lib.hid hlt
    clear hlt
    by_cases hin : i < n
    · have hinI : (i : Int) < n := by omega
      obtain ⟨b, off, x, rfl, hx, hb, hc⟩ := HR.out.scell i hin
      cases hbl : bl x key with
      | true =>
        have hbI : Op.bytesLess x.toList key.toList = true := by rw [bl_spell]; exact hbl
        have HX := Lib.hid hx
        have HBl := Lib.hid hbl
        clear hx hbl
        go_wp2
        refine ⟨⟨i + 1, by go_num, by rw [HLL.out]; omega, fun j y hj hy => ?_⟩, by simp [intOf]; omega⟩
        by_cases hji : j < i
        · exact HLt.out j y hji hy
        · obtain rfl : j = i := by omega
          rw [HX.out] at hy
          cases hy
          exact HBl.out
      | false =>
        have hbI : Op.bytesLess x.toList key.toList = false := by rw [bl_spell]; exact hbl
        have hpa : putAt l key = i := putAt_eq HLt.out (by rw [HLL.out]; omega) (fun y hy => by rw [hx] at hy; cases hy; exact hbl)
        by_cases hxk : x = key
        · subst hxk
          have hpk : putK l x = l := by unfold putK; rw [hpa, hx, if_pos rfl]
          have HP := Lib.hid hpk
          clear hx hpa hpk hbl
          go_wp2
          go_ret2
          exact ⟨_, _, rfl, by rw [HP.out, HLL.out]; exact HOw.out, Below.refl _ _⟩
        · have hpk : putK l key = l.take i ++ key :: l.drop i := by
            unfold putK
            rw [hpa, hx, if_neg (fun e => hxk (Option.some.inj e))]
          have hxkI : (x.toList == key.toList) = false := by
            rw [beq_eq_false_iff_ne, Go.ByteArray.toList_eq, Go.ByteArray.toList_eq]
            exact fun e => hxk (Go.WideShapes.bytes_inj e)
          have hat : i ≤ n := by omega
          have HP := Lib.hid hpk
          clear hx hpk hbl HLt hxk hil hpa
          go_wp2_with fail
          generalize (some ({ block := b, off := off } : Addr)) = a at *
          clear hb hc
          obtain ⟨at', rfl⟩ : ∃ at', at' = i := ⟨_, rfl⟩
          refine wp_region_until (by kernel_rfl) [onU (zeroF w.heap.size 9 1) (some 4), eqU (.slice a n cap), eqU (.int .i64 (at' : Int)), eqU (.slice a at' cap), onU (ownsF w.heap.size 9 1 at' (scells (l.take at'))) (some 7), eqU (.string key), onU (litF 9 #[.string key] 1) (some 7), onU (ownsF w.heap.size 9 1 (at' + 1) (scells (l.take at' ++ [key]))) (some 11), eqU (.slice a n cap), eqU (.int .i64 (at' : Int)), eqU (.slice (behind a at' cap) (n - at') (cap - at')), onU (ownsF w.heap.size 9 1 (n + 1) (scells (l.take at' ++ key :: l.drop at'))) none, onU (ownsF w.heap.size 9 1 (n + 1) (scells (l.take at' ++ key :: l.drop at'))) none, eqU (.bool true)] [7, 11] (by kernel_rfl) (by kernel_rfl) (by kernel_rfl) ⟨?_, ?_, ?_, ?_, ?_, ?_, ?_, ?_, ?_, ?_, ?_, ?_, ?_, ?_, trivial⟩ ?_
          · intro ρ wx hρ hbx hl
            refine u_new (v := .slice (some ⟨wx.heap.size, 0, none⟩) 0 0) (w' := wx.alloc (.cells #[] 9)) ?_ ⟨_, rfl, owns_less (owns_zero wx _ 1) hbx.size⟩ ((Below.refl _ _).alloc (Nat.le_refl _) _)
            simp [execOp, go_sem]
          · intro ρ wx hρ hbx hl
            have e0 : ρ (.tmp 0) = .slice a n cap := hρ.tmp 0 (by decide +kernel)
            refine u_val (v := .slice a n cap) ?_ rfl
            simp [execOp, go_sem, e0]
          · intro ρ wx hρ hbx hl
            have e6 : ρ (.tmp 6) = .int .i64 (at' : Int) := hρ.tmp 6 (by decide +kernel)
            refine u_val (v := .int .i64 (at' : Int)) ?_ rfl
            simp [execOp, go_sem, e6]
          · intro ρ wx hρ hbx hl
            have e35 : ρ (.tmp 35) = .slice a n cap := hl 1 (by decide +kernel) (.inl rfl) 35 rfl
            have e36 : ρ (.tmp 36) = .int .i64 (at' : Int) := hl 2 (by decide +kernel) (.inl rfl) 36 rfl
            refine u_val (v := .slice a at' cap) ?_ rfl
            simp [execOp, go_sem, e35, e36]
            first | done | omega
          · intro ρ wx hρ hbx hl
            have e34 : (zeroF w.heap.size 9 1).p (ρ (.tmp 34)) wx := hl 0 (by decide +kernel) (.inr rfl) 34 rfl
            have e37 : ρ (.tmp 37) = .slice a at' cap := hl 3 (by decide +kernel) (.inl rfl) 37 rfl
            obtain ⟨g34, e34, o34⟩ := e34
            rw [e34] at o34
            obtain ⟨v', w', hr, ho, hb⟩ := run_append_zero (P := Try.prog) (w := wx) w.heap.size 26 26 26 9 i0 _ 16 Try.underlying26 hi hz0 hz1 hz2 rfl g34 o34 (.slice a at' cap) at' (scells (l.take at')) (((HR.out.below' hbx).stake at' hat).src Try.underlying26 (scells_one _)) (by unfold maxLen; omega) (by omega) hbx.size
            refine u_new ?_ ho hb
            simp only [execOp, resolve, invoke, builtin, Sem.run_bind, Sem.run_pure, Result.andThen_ok, List.map_toArray, List.map_cons, List.map_nil, e34, e37, hr]
          · intro ρ wx hρ hbx hl
            have e1 : ρ (.tmp 1) = .string key := hρ.tmp 1 (by decide +kernel)
            refine u_val (v := .string key) ?_ rfl
            simp [execOp, go_sem, e1]
          · intro ρ wx hρ hbx hl
            have e39 : ρ (.tmp 39) = .string key := hl 5 (by decide +kernel) (.inl rfl) 39 rfl
            refine u_new (v := .slice (some ⟨wx.heap.size, 0, none⟩) 1 1) (w' := wx.alloc (.cells #[.string key] 9)) ?_ ⟨_, rfl, heap_alloc_new wx _⟩ ((Below.refl _ _).alloc (Nat.le_refl _) _)
            simp [execOp, go_sem, e39]
          · intro ρ wx hρ hbx hl
            have e38 : (ownsF w.heap.size 9 1 at' (scells (l.take at'))).p (ρ (.tmp 38)) wx := hl 4 (by decide +kernel) (.inr rfl) 38 rfl
            have e40 : (litF 9 #[.string key] 1).p (ρ (.tmp 40)) wx := hl 6 (by decide +kernel) (.inr rfl) 40 rfl
            obtain ⟨g40, e40, o40⟩ := e40
            have hrd := lit_reads (cs := [.string key]) (size := 1) o40 rfl (by decide)
            obtain ⟨v', w', hr, ho, hg, hb, _⟩ := run_append_owns (P := Try.prog) (w := wx) w.heap.size 26 26 26 9 i0 _ 1 16 Try.underlying26 hi hz0 hz1 hz2 rfl _ at' _ e38 _ 1 [.string key] (hrd.src Try.underlying26 (by simp [Value.oneCell'])) (by unfold maxLen; omega) (by omega) hbx.size
            rw [show scells (l.take at') ++ [Value.string key] = scells (l.take at' ++ [key]) from (scells_append (l.take at') [key]).symm] at ho
            refine u_new ?_ ho hb
            simp only [execOp, resolve, invoke, builtin, Sem.run_bind, Sem.run_pure, Result.andThen_ok, List.map_toArray, List.map_cons, List.map_nil, e40, hr]
          · intro ρ wx hρ hbx hl
            have e0 : ρ (.tmp 0) = .slice a n cap := hρ.tmp 0 (by decide +kernel)
            refine u_val (v := .slice a n cap) ?_ rfl
            simp [execOp, go_sem, e0]
          · intro ρ wx hρ hbx hl
            have e6 : ρ (.tmp 6) = .int .i64 (at' : Int) := hρ.tmp 6 (by decide +kernel)
            refine u_val (v := .int .i64 (at' : Int)) ?_ rfl
            simp [execOp, go_sem, e6]
          · intro ρ wx hρ hbx hl
            have e42 : ρ (.tmp 42) = .slice a n cap := hl 8 (by decide +kernel) (.inl rfl) 42 rfl
            have e43 : ρ (.tmp 43) = .int .i64 (at' : Int) := hl 9 (by decide +kernel) (.inl rfl) 43 rfl
            refine u_val (v := .slice (behind a at' cap) (n - at') (cap - at')) ?_ rfl
            simp [execOp, go_sem, e42, e43, behind, hat]
          · intro ρ wx hρ hbx hl
            have e41 : (ownsF w.heap.size 9 1 (at' + 1) (scells (l.take at' ++ [key]))).p (ρ (.tmp 41)) wx := hl 7 (by decide +kernel) (.inr rfl) 41 rfl
            have e44 : ρ (.tmp 44) = .slice (behind a at' cap) (n - at') (cap - at') := hl 10 (by decide +kernel) (.inl rfl) 44 rfl
            obtain ⟨v', w', hr, ho, hg, hb, _⟩ := run_append_owns (P := Try.prog) (w := wx) w.heap.size 26 26 26 9 i0 _ 1 16 Try.underlying26 hi hz0 hz1 hz2 rfl _ (at' + 1) _ e41 (.slice (behind a at' cap) (n - at') (cap - at')) (n - at') (scells (l.drop at')) (((HR.out.below' hbx).sdrop at' hat).src Try.underlying26 (scells_one _)) (by unfold maxLen; omega) (by omega) hbx.size
            rw [← scells_append, List.append_assoc, List.singleton_append, show at' + 1 + (n - at') = n + 1 by omega] at ho
            refine u_new ?_ ho hb
            simp only [execOp, resolve, invoke, builtin, Sem.run_bind, Sem.run_pure, Result.andThen_ok, List.map_toArray, List.map_cons, List.map_nil, e44, hr]
          · intro ρ wx hρ hbx hl
            have e45 : (ownsF w.heap.size 9 1 (n + 1) (scells (l.take at' ++ key :: l.drop at'))).p (ρ (.tmp 45)) wx := hl 11 (by decide +kernel) (.inl rfl) 45 rfl
            refine u_val (v := ρ (.tmp 45)) ?_ e45
            simp [execOp, go_sem]
          · intro ρ wx hρ hbx hl
            refine u_val (v := .bool true) ?_ rfl
            simp [execOp, hρ.const, go_sem]
          intro aa wz hdef hsz hlk hbz hf
          have ha := act_of_like hdef hsz hlk [34, 35, 36, 37, 38, 39, 40, 41, 42, 43, 44, 45, 4, 5] 46 rfl (by decide +kernel)
          have e35 : aa.tmps.getD 35 undef = .slice a n cap := hf 1 _ 35 rfl rfl rfl
          have e36 : aa.tmps.getD 36 undef = .int .i64 (at' : Int) := hf 2 _ 36 rfl rfl rfl
          have e37 : aa.tmps.getD 37 undef = .slice a at' cap := hf 3 _ 37 rfl rfl rfl
          have e39 : aa.tmps.getD 39 undef = .string key := hf 5 _ 39 rfl rfl rfl
          have e42 : aa.tmps.getD 42 undef = .slice a n cap := hf 8 _ 42 rfl rfl rfl
          have e43 : aa.tmps.getD 43 undef = .int .i64 (at' : Int) := hf 9 _ 43 rfl rfl rfl
          have e44 : aa.tmps.getD 44 undef = .slice (behind a at' cap) (n - at') (cap - at') := hf 10 _ 44 rfl rfl rfl
          have e45 : (ownsF w.heap.size 9 1 (n + 1) (scells (l.take at' ++ key :: l.drop at'))).p (aa.tmps.getD 45 undef) wz := hf 11 _ 45 rfl rfl rfl
          generalize hv45 : aa.tmps.getD 45 undef = v45 at e45
          have e4 : (ownsF w.heap.size 9 1 (n + 1) (scells (l.take at' ++ key :: l.drop at'))).p (aa.tmps.getD 4 undef) wz := hf 12 _ 4 rfl rfl rfl
          generalize hv4 : aa.tmps.getD 4 undef = v4 at e4
          have e5 : aa.tmps.getD 5 undef = .bool true := hf 13 _ 5 rfl rfl rfl
          simp only [putAll, List.foldl_cons, List.foldl_nil, e35, e36, e37, e39, e42, e43, e44, hv45, hv4, e5] at ha
          generalize aa.tmps.getD 34 undef = v34 at ha
          generalize aa.tmps.getD 38 undef = v38 at ha
          generalize aa.tmps.getD 40 undef = v40 at ha
          generalize aa.tmps.getD 41 undef = v41 at ha
          simp [Act.put] at ha
          subst ha
          clear hdef hsz hlk hf e35 e36 e37 e39 e42 e43 e44 hv45 hv4 e5
          have HB := Lib.hid hbz
          have hlen : (l.take at' ++ key :: l.drop at').length = n + 1 := by
            have := HLL.out
            simp
            omega
          obtain ⟨a9, c9, hv9, _, _⟩ := (ownsRow.reads e4).le
          subst hv9
          have HW := Lib.hid (owns_lower e4 hB)
          clear e45 e4 hbz
          go_wp2
          go_ret2
          exact ⟨_, _, rfl, by rw [HP.out, hlen]; exact HW.out, HB.out⟩
    · have hinI : ¬ ((i : Int) < n) := by omega
      have hnone : l[i]? = none := List.getElem?_eq_none (by rw [HLL.out]; omega)
      have hpa : putAt l key = i := putAt_eq HLt.out (by rw [HLL.out]; omega) (fun x hx => by rw [hnone] at hx; cases hx)
      have hpk : putK l key = l.take i ++ key :: l.drop i := by
        unfold putK
        rw [hpa, hnone, if_neg (by simp)]
      have HP := Lib.hid hpk
      have hat : i ≤ n := hil
      clear hpk HLt hil hpa hnone
      go_wp2_with fail
      obtain ⟨at', rfl⟩ : ∃ at', at' = i := ⟨_, rfl⟩
      refine wp_region_until (by kernel_rfl) [onU (zeroF w.heap.size 9 1) (some 4), eqU (.slice a n cap), eqU (.int .i64 (at' : Int)), eqU (.slice a at' cap), onU (ownsF w.heap.size 9 1 at' (scells (l.take at'))) (some 7), eqU (.string key), onU (litF 9 #[.string key] 1) (some 7), onU (ownsF w.heap.size 9 1 (at' + 1) (scells (l.take at' ++ [key]))) (some 11), eqU (.slice a n cap), eqU (.int .i64 (at' : Int)), eqU (.slice (behind a at' cap) (n - at') (cap - at')), onU (ownsF w.heap.size 9 1 (n + 1) (scells (l.take at' ++ key :: l.drop at'))) none, onU (ownsF w.heap.size 9 1 (n + 1) (scells (l.take at' ++ key :: l.drop at'))) none, eqU (.bool true)] [7, 11] (by kernel_rfl) (by kernel_rfl) (by kernel_rfl) ⟨?_, ?_, ?_, ?_, ?_, ?_, ?_, ?_, ?_, ?_, ?_, ?_, ?_, ?_, trivial⟩ ?_
      · intro ρ wx hρ hbx hl
        refine u_new (v := .slice (some ⟨wx.heap.size, 0, none⟩) 0 0) (w' := wx.alloc (.cells #[] 9)) ?_ ⟨_, rfl, owns_less (owns_zero wx _ 1) hbx.size⟩ ((Below.refl _ _).alloc (Nat.le_refl _) _)
        simp [execOp, go_sem]
      · intro ρ wx hρ hbx hl
        have e0 : ρ (.tmp 0) = .slice a n cap := hρ.tmp 0 (by decide +kernel)
        refine u_val (v := .slice a n cap) ?_ rfl
        simp [execOp, go_sem, e0]
      · intro ρ wx hρ hbx hl
        have e6 : ρ (.tmp 6) = .int .i64 (at' : Int) := hρ.tmp 6 (by decide +kernel)
        refine u_val (v := .int .i64 (at' : Int)) ?_ rfl
        simp [execOp, go_sem, e6]
      · intro ρ wx hρ hbx hl
        have e35 : ρ (.tmp 35) = .slice a n cap := hl 1 (by decide +kernel) (.inl rfl) 35 rfl
        have e36 : ρ (.tmp 36) = .int .i64 (at' : Int) := hl 2 (by decide +kernel) (.inl rfl) 36 rfl
        refine u_val (v := .slice a at' cap) ?_ rfl
        simp [execOp, go_sem, e35, e36]
        first | done | omega
      · intro ρ wx hρ hbx hl
        have e34 : (zeroF w.heap.size 9 1).p (ρ (.tmp 34)) wx := hl 0 (by decide +kernel) (.inr rfl) 34 rfl
        have e37 : ρ (.tmp 37) = .slice a at' cap := hl 3 (by decide +kernel) (.inl rfl) 37 rfl
        obtain ⟨g34, e34, o34⟩ := e34
        rw [e34] at o34
        obtain ⟨v', w', hr, ho, hb⟩ := run_append_zero (P := Try.prog) (w := wx) w.heap.size 26 26 26 9 i0 _ 16 Try.underlying26 hi hz0 hz1 hz2 rfl g34 o34 (.slice a at' cap) at' (scells (l.take at')) (((HR.out.below' hbx).stake at' hat).src Try.underlying26 (scells_one _)) (by unfold maxLen; omega) (by omega) hbx.size
        refine u_new ?_ ho hb
        simp only [execOp, resolve, invoke, builtin, Sem.run_bind, Sem.run_pure, Result.andThen_ok, List.map_toArray, List.map_cons, List.map_nil, e34, e37, hr]
      · intro ρ wx hρ hbx hl
        have e1 : ρ (.tmp 1) = .string key := hρ.tmp 1 (by decide +kernel)
        refine u_val (v := .string key) ?_ rfl
        simp [execOp, go_sem, e1]
      · intro ρ wx hρ hbx hl
        have e39 : ρ (.tmp 39) = .string key := hl 5 (by decide +kernel) (.inl rfl) 39 rfl
        refine u_new (v := .slice (some ⟨wx.heap.size, 0, none⟩) 1 1) (w' := wx.alloc (.cells #[.string key] 9)) ?_ ⟨_, rfl, heap_alloc_new wx _⟩ ((Below.refl _ _).alloc (Nat.le_refl _) _)
        simp [execOp, go_sem, e39]
      · intro ρ wx hρ hbx hl
        have e38 : (ownsF w.heap.size 9 1 at' (scells (l.take at'))).p (ρ (.tmp 38)) wx := hl 4 (by decide +kernel) (.inr rfl) 38 rfl
        have e40 : (litF 9 #[.string key] 1).p (ρ (.tmp 40)) wx := hl 6 (by decide +kernel) (.inr rfl) 40 rfl
        obtain ⟨g40, e40, o40⟩ := e40
        have hrd := lit_reads (cs := [.string key]) (size := 1) o40 rfl (by decide)
        obtain ⟨v', w', hr, ho, hg, hb, _⟩ := run_append_owns (P := Try.prog) (w := wx) w.heap.size 26 26 26 9 i0 _ 1 16 Try.underlying26 hi hz0 hz1 hz2 rfl _ at' _ e38 _ 1 [.string key] (hrd.src Try.underlying26 (by simp [Value.oneCell'])) (by unfold maxLen; omega) (by omega) hbx.size
        rw [show scells (l.take at') ++ [Value.string key] = scells (l.take at' ++ [key]) from (scells_append (l.take at') [key]).symm] at ho
        refine u_new ?_ ho hb
        simp only [execOp, resolve, invoke, builtin, Sem.run_bind, Sem.run_pure, Result.andThen_ok, List.map_toArray, List.map_cons, List.map_nil, e40, hr]
      · intro ρ wx hρ hbx hl
        have e0 : ρ (.tmp 0) = .slice a n cap := hρ.tmp 0 (by decide +kernel)
        refine u_val (v := .slice a n cap) ?_ rfl
        simp [execOp, go_sem, e0]
      · intro ρ wx hρ hbx hl
        have e6 : ρ (.tmp 6) = .int .i64 (at' : Int) := hρ.tmp 6 (by decide +kernel)
        refine u_val (v := .int .i64 (at' : Int)) ?_ rfl
        simp [execOp, go_sem, e6]
      · intro ρ wx hρ hbx hl
        have e42 : ρ (.tmp 42) = .slice a n cap := hl 8 (by decide +kernel) (.inl rfl) 42 rfl
        have e43 : ρ (.tmp 43) = .int .i64 (at' : Int) := hl 9 (by decide +kernel) (.inl rfl) 43 rfl
        refine u_val (v := .slice (behind a at' cap) (n - at') (cap - at')) ?_ rfl
        simp [execOp, go_sem, e42, e43, behind, hat]
      · intro ρ wx hρ hbx hl
        have e41 : (ownsF w.heap.size 9 1 (at' + 1) (scells (l.take at' ++ [key]))).p (ρ (.tmp 41)) wx := hl 7 (by decide +kernel) (.inr rfl) 41 rfl
        have e44 : ρ (.tmp 44) = .slice (behind a at' cap) (n - at') (cap - at') := hl 10 (by decide +kernel) (.inl rfl) 44 rfl
        obtain ⟨v', w', hr, ho, hg, hb, _⟩ := run_append_owns (P := Try.prog) (w := wx) w.heap.size 26 26 26 9 i0 _ 1 16 Try.underlying26 hi hz0 hz1 hz2 rfl _ (at' + 1) _ e41 (.slice (behind a at' cap) (n - at') (cap - at')) (n - at') (scells (l.drop at')) (((HR.out.below' hbx).sdrop at' hat).src Try.underlying26 (scells_one _)) (by unfold maxLen; omega) (by omega) hbx.size
        rw [← scells_append, List.append_assoc, List.singleton_append, show at' + 1 + (n - at') = n + 1 by omega] at ho
        refine u_new ?_ ho hb
        simp only [execOp, resolve, invoke, builtin, Sem.run_bind, Sem.run_pure, Result.andThen_ok, List.map_toArray, List.map_cons, List.map_nil, e44, hr]
      · intro ρ wx hρ hbx hl
        have e45 : (ownsF w.heap.size 9 1 (n + 1) (scells (l.take at' ++ key :: l.drop at'))).p (ρ (.tmp 45)) wx := hl 11 (by decide +kernel) (.inl rfl) 45 rfl
        refine u_val (v := ρ (.tmp 45)) ?_ e45
        simp [execOp, go_sem]
      · intro ρ wx hρ hbx hl
        refine u_val (v := .bool true) ?_ rfl
        simp [execOp, hρ.const, go_sem]
      intro aa wz hdef hsz hlk hbz hf
      have ha := act_of_like hdef hsz hlk [34, 35, 36, 37, 38, 39, 40, 41, 42, 43, 44, 45, 4, 5] 46 rfl (by decide +kernel)
      have e35 : aa.tmps.getD 35 undef = .slice a n cap := hf 1 _ 35 rfl rfl rfl
      have e36 : aa.tmps.getD 36 undef = .int .i64 (at' : Int) := hf 2 _ 36 rfl rfl rfl
      have e37 : aa.tmps.getD 37 undef = .slice a at' cap := hf 3 _ 37 rfl rfl rfl
      have e39 : aa.tmps.getD 39 undef = .string key := hf 5 _ 39 rfl rfl rfl
      have e42 : aa.tmps.getD 42 undef = .slice a n cap := hf 8 _ 42 rfl rfl rfl
      have e43 : aa.tmps.getD 43 undef = .int .i64 (at' : Int) := hf 9 _ 43 rfl rfl rfl
      have e44 : aa.tmps.getD 44 undef = .slice (behind a at' cap) (n - at') (cap - at') := hf 10 _ 44 rfl rfl rfl
      have e45 : (ownsF w.heap.size 9 1 (n + 1) (scells (l.take at' ++ key :: l.drop at'))).p (aa.tmps.getD 45 undef) wz := hf 11 _ 45 rfl rfl rfl
      generalize hv45 : aa.tmps.getD 45 undef = v45 at e45
      have e4 : (ownsF w.heap.size 9 1 (n + 1) (scells (l.take at' ++ key :: l.drop at'))).p (aa.tmps.getD 4 undef) wz := hf 12 _ 4 rfl rfl rfl
      generalize hv4 : aa.tmps.getD 4 undef = v4 at e4
      have e5 : aa.tmps.getD 5 undef = .bool true := hf 13 _ 5 rfl rfl rfl
      simp only [putAll, List.foldl_cons, List.foldl_nil, e35, e36, e37, e39, e42, e43, e44, hv45, hv4, e5] at ha
      generalize aa.tmps.getD 34 undef = v34 at ha
      generalize aa.tmps.getD 38 undef = v38 at ha
      generalize aa.tmps.getD 40 undef = v40 at ha
      generalize aa.tmps.getD 41 undef = v41 at ha
      simp [Act.put] at ha
      subst ha
      clear hdef hsz hlk hf e35 e36 e37 e39 e42 e43 e44 hv45 hv4 e5
      have HB := Lib.hid hbz
      have hlen : (l.take at' ++ key :: l.drop at').length = n + 1 := by
        have := HLL.out
        simp
        omega
      obtain ⟨a9, c9, hv9, _, _⟩ := (ownsRow.reads e4).le
      subst hv9
      have HW := Lib.hid (owns_lower e4 hB)
      clear e45 e4 hbz
      go_wp2
      go_ret2
      exact ⟨_, _, rfl, by rw [HP.out, hlen]; exact HW.out, HB.out⟩
end Go.Proofs.Ytekdcjbjjakhcaa

namespace Go.Proofs.Ytekdcjbjjakhcaa
open Go.RowKit

def RefRel1 (w : World) (key : ByteArray) (rev : Nat) (del : Bool) (v c : Value) (wr : World) : Prop :=
  ∃ k : Nat, c = .int .i64 (k : Int) ∧ k ≤ key.size ∧ Fresh (w.heap.size + 1) wr 5 1 v (esc (key.data.toList.take k)).length (bcells (esc (key.data.toList.take k))) ∧
    Below (w.heap.size + 1) (w.alloc (box key rev del)) wr

/-- the second loop: k bytes of the revision are written, the counter falls -/
def RefRel2 (w : World) (key : ByteArray) (rev : Nat) (del : Bool) (v c : Value) (wr : World) : Prop :=
  ∃ k : Nat, c = .int .i64 (7 - (k : Int)) ∧ k ≤ 8 ∧ Fresh (w.heap.size + 1) wr 5 1 v (innTo key.data.toList rev k).length (bcells (innTo key.data.toList rev k)) ∧
    Below (w.heap.size + 1) (w.alloc (box key rev del)) wr

theorem revByte_down (rev k : Nat) : (255 - ((rev : Int) / 2 ^ (8 * (7 - k))).tmod 256 % 256) = ((revByte rev (7 - k)).toNat : Int) := by
  rw [revByte, pow256]
  have h : rev / 2 ^ (8 * (7 - k)) % 256 < 256 := Nat.mod_lt _ (by omega)
  have e : ((rev / 2 ^ (8 * (7 - k)) : Nat) : Int) = (rev : Int) / 2 ^ (8 * (7 - k)) := by simp
  rw [← e, Int.tmod_eq_emod_of_nonneg (Int.natCast_nonneg _)]
  clear e
  generalize rev / 2 ^ (8 * (7 - k)) = q at *
  simp
  omega

theorem fresh_nil (B : Nat) (w : World) (e : TypeId) (size : Nat) : Fresh B w e size (.slice none 0 0) 0 [] :=
  ⟨⟨by simp, none, 0, rfl, Nat.le_refl _, Nat.zero_le _, fun j u h => by simp at h⟩, .inl ⟨_, rfl⟩⟩

set_option maxRecDepth 100000 in
set_option maxHeartbeats 1000000 in
theorem refinner_any (w : World) (key : ByteArray) (rev : Nat) (del : Bool) (hn : key.size ≤ 1000000000) (hR : rev < 18446744073709551616) :
    Calls Try.prog 34 #[.agg #[.string key, .int .u64 rev, .bool del]] w (GivesText w (inner key.data.toList rev del)) := by
  obtain ⟨i0, hi, hz0, hz1, hz2⟩ := info_parts info5
  have HR := Lib.hid hR
  clear hR
  have f2 : Fresh (w.heap.size + 1) (w.alloc (box key rev del)) 5 1 (.slice none 0 0) (esc (key.data.toList.take 0)).length (bcells (esc (key.data.toList.take 0))) := fresh_nil _ _ _ _
  have b4 : Below (w.heap.size + 1) (w.alloc (box key rev del)) (w.alloc (box key rev del)) := Below.refl _ _
  have hl2 : key.data.toList.length = key.size := Array.length_toList
  have Hl2 := Lib.hid hl2
  clear hl2
  go_enter Try.func34, Try.ntmps34
  go_wp2
  go_loopw [3, 4] (fun v c wr => RefRel1 w key rev del v c wr) (fun _ c _ => key.size - (intOf c).toNat)
  case atStart => exact ⟨0, rfl, Nat.zero_le _, f2, b4⟩
  case round =>
    obtain ⟨k, rfl, hk, f3, b5⟩ := hrel
    clear f2 b4
    have hl := esc_length (key.data.toList.take k)
    have hkl : (key.data.toList.take k).length ≤ k := List.length_take_le _ _
    have hbs := b5.size
    simp at hbs
    have c0 := (b5.cell (p := ⟨w.heap.size, 0, none⟩) (by simp)).trans (World.cell?_alloc_new w _ _ 0)
    have c1 := (b5.cell (p := ⟨w.heap.size, 1, none⟩) (by simp)).trans (World.cell?_alloc_new w _ _ 1)
    have c2 := (b5.cell (p := ⟨w.heap.size, 2, none⟩) (by simp)).trans (World.cell?_alloc_new w _ _ 2)
    simp at c0 c1 c2
    by_cases hlt : k < key.size
    · have htk : key.data.toList.take (k + 1) = key.data.toList.take k ++ [key[k]] := by
        have hlt' : k < key.data.toList.length := by rw [Array.length_toList]; exact hlt
        rw [List.take_succ_eq_append_getElem hlt']
        rfl
      have Htk := Lib.hid htk
      clear htk
      by_cases hz : key[k].toNat = 0
      · have hz' : ((key[k].toNat : Int) == 0) = true := by simp; omega
        have HZ := Lib.hid hz
        clear hz
        go_wp2_with (at_builtin; go_must (refine wpList_append_one (w0 := wr) rfl _ _ 82 rfl (w.heap.size + 1) 5 i0 (.int .u8 0) 1 Try.underlying82 hi hz0 hz1 hz2 rfl f3 rfl rfl rfl ?_ ?_ hbs ?_))
        · unfold maxLen; omega
        · omega
        intro v1 w4 f4 g4 b6 m4
        rw [bcells_snoc _ key[k] rfl] at f4
        have b7 := b5.trans b6
        have hbs4 : w.heap.size + 1 ≤ w4.heap.size := Nat.le_trans hbs g4.size
        have d0 := (b7.cell (p := ⟨w.heap.size, 0, none⟩) (by simp)).trans (World.cell?_alloc_new w _ _ 0)
        simp at d0
        clear f3 g4 b6 m4 b5 hbs c0 c1 c2
        go_wp2_with (at_builtin; go_must (refine wpList_append_one (w0 := w4) rfl _ _ 82 rfl (w.heap.size + 1) 5 i0 (.int .u8 0) 1 Try.underlying82 hi hz0 hz1 hz2 rfl f4 rfl rfl rfl ?_ ?_ hbs4 ?_))
        · unfold maxLen; omega
        · omega
        intro v2 w5 f5 g5 b8 m5
        rw [bcells_snoc (z := 255) _ (255 : UInt8) rfl] at f5
        have b9 := b7.trans b8
        go_wp2
        refine ⟨⟨k + 1, by go_num, by omega, ?_, b9⟩, by simp [intOf]; omega⟩
        rw [Htk.out, esc_snoc0 _ _ (UInt8.toNat_inj.1 (by simpa using HZ.out))]
        simpa [List.append_assoc] using f5
      · have hz' : ((key[k].toNat : Int) == 0) = false := by simp; omega
        have HZ := Lib.hid hz
        clear hz
        go_wp2_with (at_builtin; go_must (refine wpList_append_one (w0 := wr) rfl _ _ 82 rfl (w.heap.size + 1) 5 i0 (.int .u8 0) 1 Try.underlying82 hi hz0 hz1 hz2 rfl f3 rfl rfl rfl ?_ ?_ hbs ?_))
        · unfold maxLen; omega
        · omega
        intro v1 w4 f4 g4 b6 m4
        rw [bcells_snoc _ key[k] rfl] at f4
        have b7 := b5.trans b6
        have d0 := (b7.cell (p := ⟨w.heap.size, 0, none⟩) (by simp)).trans (World.cell?_alloc_new w _ _ 0)
        simp at d0
        clear f3 g4 b6 m4 b5 hbs c0 c1 c2
        go_wp2
        refine ⟨⟨k + 1, by go_num, by omega, ?_, b7⟩, by simp [intOf]; omega⟩
        rw [Htk.out, esc_snoc1 _ _ (fun e => HZ.out (by rw [e]; rfl))]
        simpa [List.append_assoc] using f4
    · have hge : ¬ ((k : Int) < key.size) := by omega
      obtain rfl : k = key.size := by omega
      have hfull : key.data.toList.take key.size = key.data.toList := List.take_of_length_le (by rw [Array.length_toList]; exact Nat.le_refl _)
      rw [hfull] at f3 hl hkl
      clear hfull
      go_wp2_with (at_builtin; go_must (refine wpList_append_lits (w0 := wr) rfl _ _ 82 rfl (w.heap.size + 1) 5 i0 (.int .u8 0) 1 Try.underlying82 hi hz0 hz1 hz2 rfl [.int .u8 0, .int .u8 1] 2 rfl f3 rfl rfl (fun u hu => by simp at hu; rcases hu with rfl | rfl <;> rfl) ?_ ?_ hbs ?_))
      · unfold maxLen; omega
      · omega
      intro v1 w4 f4 g4 b6 m4
      have b7 := b5.trans b6
      have f5 : Fresh (w.heap.size + 1) w4 5 1 v1 (innTo key.data.toList rev 0).length (bcells (innTo key.data.toList rev 0)) := by
        have e : innTo key.data.toList rev 0 = esc key.data.toList ++ [0, 1] := by simp [innTo, revBytes]
        rw [e, List.length_append, bcells_append]
        exact f4
      clear f3 g4 b6 m4 b5 hbs f4 c0 c1 c2
      go_wp2
      go_loopw [3, 5] (fun v c wr => RefRel2 w key rev del v c wr) (fun _ c _ => (intOf c + 1).toNat)
      case atStart => exact ⟨0, rfl, by omega, f5, b7⟩
      case round =>
        obtain ⟨k, rfl, hk, f6, b8⟩ := hrel
        clear f5 b7
        have hbs := b8.size
        simp at hbs
        have c1 := (b8.cell (p := ⟨w.heap.size, 1, none⟩) (by simp)).trans (World.cell?_alloc_new w _ _ 1)
        have c2 := (b8.cell (p := ⟨w.heap.size, 2, none⟩) (by simp)).trans (World.cell?_alloc_new w _ _ 2)
        simp at c1 c2
        have hl3 : (innTo key.data.toList rev k).length ≤ 2000000100 := by rw [innTo_length]; omega
        by_cases hlt : k < 8
        · have hp : (0 : Int) ≤ 7 - (k : Int) := by omega
          go_wp2_with (at_builtin; go_must (refine wpList_append_one (w0 := wr) rfl _ _ 82 rfl (w.heap.size + 1) 5 i0 (.int .u8 0) 1 Try.underlying82 hi hz0 hz1 hz2 rfl f6 rfl rfl rfl ?_ ?_ hbs ?_))
          · unfold maxLen; omega
          · omega
          intro v2 w5 f7 g7 b9 m7
          rw [bcells_snoc _ _ (revByte_down rev k)] at f7
          have b10 := b8.trans b9
          go_wp2
          refine ⟨⟨k + 1, by go_num, by omega, ?_, b10⟩, by simp [intOf]; omega⟩
          rw [innTo_succ, List.length_append]
          exact f7
        · have hge8 : ¬ ((0 : Int) ≤ 7 - (k : Int)) := by omega
          obtain rfl : k = 8 := by omega
          cases del
          · go_wp2_with (at_builtin; go_must (refine wpList_append_one (w0 := wr) rfl _ _ 82 rfl (w.heap.size + 1) 5 i0 (.int .u8 0) 1 Try.underlying82 hi hz0 hz1 hz2 rfl f6 rfl rfl rfl ?_ ?_ hbs ?_))
            · unfold maxLen; omega
            · omega
            intro v2 w5 f7 g7 b9 m7
            have b10 := b8.trans b9
            have f8 := bcells_snoc (innTo key.data.toList rev 8) (1 : UInt8) (z := 1) rfl
            rw [f8] at f7
            have hcv2 := Reads.conv (P := Try.prog) (src := 82) (e := 5) (dst := 9) Try.underlying82 Try.underlying5 Try.underlying9 f7.1
            clear f8
            go_wp2
            go_ret
            exact ⟨by simp [inner], ((Below.refl _ _).alloc (Nat.le_refl _) _).trans (b10.mono (by omega))⟩
          · go_wp2_with (at_builtin; go_must (refine wpList_append_one (w0 := wr) rfl _ _ 82 rfl (w.heap.size + 1) 5 i0 (.int .u8 0) 1 Try.underlying82 hi hz0 hz1 hz2 rfl f6 rfl rfl rfl ?_ ?_ hbs ?_))
            · unfold maxLen; omega
            · omega
            intro v2 w5 f7 g7 b9 m7
            have b10 := b8.trans b9
            have f8 := bcells_snoc (innTo key.data.toList rev 8) (0 : UInt8) (z := 0) rfl
            rw [f8] at f7
            have hcv2 := Reads.conv (P := Try.prog) (src := 82) (e := 5) (dst := 9) Try.underlying82 Try.underlying5 Try.underlying9 f7.1
            clear f8
            go_wp2
            go_ret
            exact ⟨by simp [inner], ((Below.refl _ _).alloc (Nat.le_refl _) _).trans (b10.mono (by omega))⟩
end Go.Proofs.Ytekdcjbjjakhcaa

/- Entries' inner keys, in order; whether they are few. -/
namespace Go.Proofs.Ytekdcjbjjakhcaa
open Go Go.RowKit

def low18 (x : Ent) : Bool := decide (x.key.size ≤ 100)
def few18 (l : List Ent) : Bool := l.all low18 && decide (l.length ≤ 100)

theorem few18_bad {l : List Ent} {k : Nat} {x : Ent} (h : l[k]? = some x) (hx : low18 x = false) : few18 l = false := by
  unfold few18
  have : l.all low18 = false := by
    rw [List.all_eq_false]
    exact ⟨x, List.mem_of_getElem? h, by rw [hx]; decide⟩
  rw [this]
  rfl

theorem few18_good {l : List Ent} {k : Nat} {x : Ent} (h : l[k]? = some x) (hx : low18 x = true) (ha : (l.take k).all low18 = true) : (l.take (k + 1)).all low18 = true := by
  rw [List.take_add_one, List.all_append, ha, h]
  simp [hx]

def Few18Rel (w : World) (l : List Ent) (i : Value) (wr : World) : Prop := ∃ k : Nat, i = .int .i64 (k : Int) ∧ k ≤ l.length ∧ (l.take k).all low18 = true ∧ Below w.heap.size w wr

set_option maxRecDepth 100000 in
set_option maxHeartbeats 2000000 in
theorem few18_any (w : World) (a : Option Addr) (n cap : Nat) (l : List Ent) (h : Reads w 3 (.slice a n cap) n (ecells l)) (hl : l.length = n) (hks : ∀ x ∈ l, x.key.size ≤ maxLen) :
    Calls Try.prog 12 #[.slice a n cap] w (GivesBool w (few18 l)) := by
  obtain ⟨_, _, hv, hc1, hc2⟩ := h.le
  cases hv
  unfold maxLen at hc2
  have HR := Lib.hid h
  have HL := Lib.hid hl
  have HK := Lib.hid hks
  clear h hl hks
  go_enter Try.func12, Try.ntmps12
  go_wp2
  go_loopw [7] (fun v wr => Few18Rel w l v wr) (fun v _ => n - (intOf v).toNat)
  case atStart => exact ⟨0, rfl, Nat.zero_le _, rfl, Below.refl _ _⟩
  case round =>
    obtain ⟨i, rfl, hil, hal, hb⟩ := hrel
    rw [HL.out] at hil
    have HB := Lib.hid hb
    have HA := Lib.hid hal
    clear hb hal
    by_cases hin : i < n
    · have hinI : (i : Int) < n := by omega
      obtain ⟨y, hy⟩ : ∃ y, l[i]? = some y := ⟨l[i]'(by rw [HL.out]; exact hin), List.getElem?_eq_getElem _⟩
      obtain ⟨g2, off2, rfl, hgl2, c0, c1, c2⟩ := ent_cells (HR.out.below' HB.out) hy
      have hkm := HK.out y (List.mem_of_getElem? hy)
      unfold maxLen at hkm
      have hgood := few18_good hy
      have hbad := few18_bad hy
      have hlow : low18 y = decide (y.key.size ≤ 100) := rfl
      obtain ⟨key, rev, del⟩ := y
      dsimp only at c0 c1 c2 hkm hlow
      have HG := Lib.hid hgood
      have HBd := Lib.hid hbad
      clear hgood hbad hy
      have HB2 := Lib.hid (HB.out.trans (((Below.refl _ wr).alloc (Nat.le_refl _) (.cells #[.string key, .int .u64 (rev : Int), .bool del] 48)).mono HB.out.size))
      by_cases hk : key.size ≤ 100
      · have hkI : ¬ ((100 : Int) < key.size) := by omega
        rw [decide_eq_true hk] at hlow
        have HLo := Lib.hid hlow
        clear hlow
        go_wp2
        exact ⟨⟨i + 1, by go_num, by rw [HL.out]; omega, HG.out HLo.out HA.out, HB2.out⟩, by simp [intOf]; omega⟩
      · have hkI : (100 : Int) < key.size := by omega
        rw [decide_eq_false hk] at hlow
        have HLo := Lib.hid hlow
        clear hlow
        go_wp2
        go_ret
        rw [HBd.out HLo.out]
        exact ⟨rfl, HB2.out⟩
    · have hinI : ¬ ((i : Int) < n) := by omega
      have hf : few18 l = decide (n ≤ 100) := by
        have h1 := HA.out
        rw [List.take_of_length_le (by rw [HL.out]; omega)] at h1
        unfold few18
        rw [h1, HL.out]
        rfl
      have HF := Lib.hid hf
      clear hf
      by_cases hn : n ≤ 100
      · have hnI : (n : Int) ≤ 100 := by omega
        go_wp2
        go_ret
        rw [HF.out, decide_eq_true hn]
        exact ⟨by simp, HB.out⟩
      · have hnI : ¬ ((n : Int) ≤ 100) := by omega
        go_wp2
        go_ret
        rw [HF.out, decide_eq_false hn]
        exact ⟨by simp, HB.out⟩

def SGives (w : World) (l : List ByteArray) (e : Ending) (w' : World) : Prop :=
  ∃ a cap, e = .returned (.slice a l.length cap) ∧ Reads w' 1 (.slice a l.length cap) l.length (scells l) ∧ Below w.heap.size w w'

def Rows18Rel (w : World) (es : List Ent) (o i : Value) (wr : World) : Prop :=
  ∃ (k : Nat) (a : Option Addr) (cap : Nat), i = .int .i64 (k : Int) ∧ k ≤ es.length ∧ o = .slice a (rowsL (es.take k)).length cap ∧ Reads wr 1 (.slice a (rowsL (es.take k)).length cap) (rowsL (es.take k)).length (scells (rowsL (es.take k))) ∧ Below w.heap.size w wr

theorem sreads_nil (w : World) : Reads w 1 (.slice none 0 0) 0 (scells []) := ⟨rfl, none, 0, rfl, Nat.le_refl _, Nat.zero_le _, fun j u hj => by simp [scells] at hj⟩

theorem rowsL_take {es : List Ent} {k : Nat} {y : Ent} (h : es[k]? = some y) : rowsL (es.take (k + 1)) = putK (rowsL (es.take k)) (innB y) := by
  rw [List.take_add_one, h, Option.toList_some, rowsL_snoc]

set_option maxRecDepth 100000 in
set_option maxHeartbeats 2000000 in
theorem rows18_any (w : World) (a : Option Addr) (n cap : Nat) (es : List Ent) (h : Reads w 3 (.slice a n cap) n (ecells es)) (hl : es.length = n) (hn : n ≤ 1000) (hks : ∀ x ∈ es, x.key.size ≤ 100 ∧ x.rev < 18446744073709551616) :
    Calls Try.prog 13 #[.slice a n cap] w (SGives w (rowsL es)) := by
  obtain ⟨_, _, hv, hc1, hc2⟩ := h.le
  cases hv
  unfold maxLen at hc2
  have HR := Lib.hid h
  have HL := Lib.hid hl
  have HK := Lib.hid hks
  clear h hl hks
  go_enter Try.func13, Try.ntmps13
  go_wp2
  go_loopw [3, 8] (fun o v wr => Rows18Rel w es o v wr) (fun _ v _ => n - (intOf v).toNat)
  case atStart => exact ⟨0, none, 0, rfl, Nat.zero_le _, rfl, sreads_nil w, Below.refl _ _⟩
  case round =>
    obtain ⟨i, oa, ocap, rfl, hil, rfl, hrd, hb⟩ := hrel
    rw [HL.out] at hil
    have HB := Lib.hid hb
    have HO := Lib.hid hrd
    have hol : (rowsL (es.take i)).length ≤ 1000 := by
      have := (rowsL_all (es.take i)).2.1
      rw [List.length_take] at this
      omega
    clear hb hrd
    by_cases hin : i < n
    · have hinI : (i : Int) < n := by omega
      obtain ⟨y, hy⟩ : ∃ y, es[i]? = some y := ⟨es[i]'(by rw [HL.out]; exact hin), List.getElem?_eq_getElem _⟩
      obtain ⟨g2, off2, rfl, hgl2, c0, c1, c2⟩ := ent_cells (HR.out.below' HB.out) hy
      obtain ⟨hk1, hk2⟩ := HK.out y (List.mem_of_getElem? hy)
      have hnext := rowsL_take hy
      generalize rowsL (es.take i) = R at *
      obtain ⟨key, rev, del⟩ := y
      dsimp only at c0 c1 c2 hk1 hk2
      have HN := Lib.hid hnext
      have hin2 := fun w' => refinner_any w' key rev del (by omega) hk2
      have HI := Lib.hid hin2
      have hal := (Below.refl _ wr).alloc (Nat.le_refl _) (.cells #[.string key, .int .u64 (rev : Int), .bool del] 48)
      have HAl := Lib.hid hal
      clear hnext hy hin2 hal
      go_wp2_with (go_at_call 34; go_must (refine (HI.out _).mono ?_))
      rintro e w1 ⟨rfl, b1⟩
      have hb1 : Below wr.heap.size wr w1 := HAl.out.trans (b1.mono (by simp))
      have HB1 := Lib.hid (HB.out.trans (hb1.mono HB.out.size))
      have hpk := putk_any w1 _ _ _ R (innB ⟨key, rev, del⟩) (HO.out.below' hb1) (by omega)
      have HP := Lib.hid hpk
      clear b1 hb1 hpk HI HAl c0 c1 c2
      have hinn : (⟨(inner key.data.toList rev del).toArray⟩ : ByteArray) = innB ⟨key, rev, del⟩ := rfl
      rw [hinn]
      clear hinn
      go_wp2_with (go_at_call 30; go_must (refine HP.out.mono ?_))
      rintro e w2 ⟨a2, cap2, b, rfl, r2, b2⟩
      have HB2 := Lib.hid (HB1.out.trans (b2.mono HB1.out.size))
      have HR2 := Lib.hid r2
      clear r2 b2 HP
      go_wp2
      refine ⟨⟨i + 1, a2, cap2, by go_num, by rw [HL.out]; omega, ?_, ?_, HB2.out⟩, by simp [intOf]; omega⟩
      · rw [HN.out]
      · rw [HN.out]; exact HR2.out
    · have hinI : ¬ ((i : Int) < n) := by omega
      have htk : es.take i = es := List.take_of_length_le (by rw [HL.out]; omega)
      rw [htk] at HO ⊢
      go_wp2
      go_ret
      exact ⟨_, _, rfl, HO.out, HB.out⟩
end Go.Proofs.Ytekdcjbjjakhcaa

/- sentrylaw19.rows. -/
namespace Go.Proofs.Ytekdcjbjjakhcaa
open Go Go.RowKit

theorem owns_two {w : World} {B n m s t : Nat} {e f : TypeId} {v u : Value} {xs ys : List Value} (h : w.ownsRow B e s v n xs) (k : w.ownsRow B f t u m ys) (hef : f ≠ e) : u.ownBlock = none ∨ u.ownBlock ≠ v.ownBlock := by
  rcases k.2 with ⟨rfl, _⟩ | ⟨g, cap, cur, rfl, _, hg, _⟩
  · left; rfl
  · right
    intro hh
    exact owns_other h hg hef hh.symm

/-- Rows of texts, in rows of one's own. -/
def SOwn (B : Nat) (w : World) (v : Value) (ls : List (List ByteArray)) : Prop :=
  ∃ svs : List Value, svs.length = ls.length ∧ w.ownsRow B 26 1 v ls.length svs ∧
    ∀ (i : Nat) (l : List ByteArray) (sv : Value), ls[i]? = some l → svs[i]? = some sv → w.ownsRow B 9 1 sv l.length (scells l)

theorem SOwn.nil (B : Nat) (w : World) : SOwn B w (.slice none 0 0) [] := ⟨[], rfl, owns_nil _ _ _ _, fun i c sv h => by simp at h⟩

theorem SOwn.below {B : Nat} {w w' : World} {v : Value} {ls : List (List ByteArray)} (h : SOwn B w v ls) (hb : Below w.heap.size w w') : SOwn B w' v ls := by
  obtain ⟨svs, h1, h2, h3⟩ := h
  exact ⟨svs, h1, owns_below h2 hb, fun i c sv hi hs => owns_below (h3 i c sv hi hs) hb⟩

theorem SOwn.push {B : Nat} {w w' : World} {v v' sv : Value} {ls : List (List ByteArray)} {l : List ByteArray} {svs : List Value} (h1 : svs.length = ls.length)
    (h2 : w.ownsRow B 26 1 v ls.length svs)
    (h3 : ∀ (i : Nat) (c : List ByteArray) (sv : Value), ls[i]? = some c → svs[i]? = some sv → w.ownsRow B 9 1 sv c.length (scells c))
    (hl : w.ownsRow B 9 1 sv l.length (scells l)) (hg : w.grownBy w' v.ownBlock)
    (hown : w'.ownsRow B 26 1 v' (ls.length + 1) (svs ++ [sv])) : SOwn B w' v' (ls ++ [l]) := by
  refine ⟨svs ++ [sv], by simp [h1], by rw [List.length_append]; exact hown, fun i c sv' hi hs => ?_⟩
  by_cases hlt : i < ls.length
  · rw [List.getElem?_append_left hlt] at hi
    rw [List.getElem?_append_left (by omega)] at hs
    have ho := h3 i c sv' hi hs
    exact ho.kept hg (owns_two h2 ho (by decide))
  · have hi' : i = ls.length := by
      have := (List.getElem?_eq_some_iff.1 hi).1
      simp at this
      omega
    subst hi'
    simp at hi
    rw [List.getElem?_append_right (by omega)] at hs
    simp [h1] at hs
    subst hi
    subst hs
    exact hl.kept hg (owns_two h2 hl (by decide))

theorem SOwn.see {B : Nat} {w : World} {v : Value} {ls : List (List ByteArray)} (h : SOwn B w v ls) : SRows w v ls.length ls := by
  obtain ⟨svs, h1, h2, h3⟩ := h
  obtain ⟨a, cap, rfl, k1, k2⟩ := (ownsRow.reads h2).le
  refine ⟨a, cap, rfl, k1, k2, rfl, fun i l hi => ?_⟩
  obtain ⟨sv, hsv⟩ : ∃ sv, svs[i]? = some sv := ⟨svs[i]'(by rw [h1]; exact (List.getElem?_eq_some_iff.1 hi).1), List.getElem?_eq_getElem _⟩
  have ho := ownsRow.reads (h3 i l sv hi hsv)
  obtain ⟨sa, scap, rfl, _, _⟩ := ho.le
  obtain ⟨g, off, ha, hg, hc⟩ := (ownsRow.reads h2).at hsv
  exact ⟨g, off, sa, scap, ha, hg, hc, ho⟩
end Go.Proofs.Ytekdcjbjjakhcaa

/- sentrylaw19.rows: the walk. -/
namespace Go.Proofs.Ytekdcjbjjakhcaa
open Go Go.RowKit

theorem info_srow : (Try.prog.info? 26).map (fun i => (i.zero, i.size, i.bytes)) = some (some (.slice none 0 0), 1, 24) := by kernel_rfl

def LowE (ls : List (List Ent)) : Prop := ∀ l ∈ ls, l.length ≤ 150 ∧ ∀ x ∈ l, x.key.size ≤ 100 ∧ x.rev < 18446744073709551616

def Rows19Rel (w : World) (ls : List (List Ent)) (n : Nat) (ov iv : Value) (wr : World) : Prop :=
  ∃ k : Nat, iv = .int .i64 (k : Int) ∧ k ≤ n ∧ SOwn w.heap.size wr ov ((ls.take k).map rowsL) ∧ Below w.heap.size w wr

def Row19Rel (B : Nat) (wo : World) (x : List Ent) (rv jv : Value) (wi : World) : Prop :=
  ∃ j : Nat, jv = .int .i64 (j : Int) ∧ j ≤ x.length ∧ wi.ownsRow B 9 1 rv (rowsL (x.take j)).length (scells (rowsL (x.take j))) ∧ Below wo.heap.size wo wi

def Rows19Post (w : World) (ls : List (List Ent)) (e : Ending) (w' : World) : Prop :=
  ∃ v, e = .returned v ∧ SOwn w.heap.size w' v (ls.map rowsL) ∧ Below w.heap.size w w'

theorem maprows_snoc {ls : List (List Ent)} {k : Nat} {x : List Ent} (h : ls[k]? = some x) : (ls.take (k + 1)).map rowsL = (ls.take k).map rowsL ++ [rowsL x] := by
  rw [List.take_add_one, h]
  simp

set_option maxRecDepth 100000 in
set_option maxHeartbeats 4000000 in
theorem rows19_any (w : World) (v : Value) (n : Nat) (ls : List (List Ent)) (h : ERows w v n ls) (hn : n ≤ 20) (hlow : LowE ls) :
    Calls Try.prog 24 #[v] w (Rows19Post w ls) := by
  obtain ⟨i0, hi, hz0, hz1, hz2⟩ := info_parts info_srow
  have HE := Lib.hid h
  obtain ⟨a, cap, rfl, hc1, hc2, hll, hx0⟩ := h
  clear hx0
  unfold maxLen at hc2
  have HLL := Lib.hid hll
  have HLow := Lib.hid hlow
  clear hll hlow
  go_enter Try.func24, Try.ntmps24
  go_wp2
  go_loopw [3, 11] (fun ov iv wr => Rows19Rel w ls n ov iv wr) (fun _ iv _ => n - (intOf iv).toNat)
  case atStart => exact ⟨0, rfl, Nat.zero_le _, SOwn.nil _ _, Below.refl _ _⟩
  case round =>
    obtain ⟨k, rfl, hk, hso, hb⟩ := hrel
    have hbs := hb.size
    by_cases hlt : k < n
    · have hkI : (k : Int) < n := by omega
      obtain ⟨x, hx⟩ : ∃ x, ls[k]? = some x := ⟨ls[k]'(by rw [HLL.out]; exact hlt), List.getElem?_eq_getElem _⟩
      obtain ⟨_, _, hv, _, _, _, hrow⟩ := HE.out.below hb
      cases hv
      obtain ⟨hsz, hks, g, off, sa, scap, rfl, hg, hcell, hrd⟩ := hrow k x hx
      obtain ⟨hxl, hxe⟩ := HLow.out x (List.mem_of_getElem? hx)
      have hsn := maprows_snoc hx
      have hol : ((ls.take k).map rowsL).length ≤ 20 := by
        rw [List.length_map, List.length_take]
        omega
      have HSn := Lib.hid hsn
      have HR := Lib.hid hrd
      have HSo := Lib.hid hso
      have HB := Lib.hid hb
      have HXe := Lib.hid hxe
      obtain ⟨_, _, hv2, hs1, hs2⟩ := hrd.le
      cases hv2
      unfold maxLen at hs2
      clear hrow hx hks hsn hrd hso hb hxe hsz
      generalize (ls.take k).map rowsL = out at *
      obtain ⟨wo, rfl⟩ : ∃ wo : World, wo = wr := ⟨_, rfl⟩
      go_wp2
      go_loopw [6, 17] (fun rv jv wi => Row19Rel w.heap.size wo x rv jv wi) (fun _ jv _ => x.length - (intOf jv).toNat)
      case atStart => exact ⟨0, rfl, Nat.zero_le _, owns_nil _ _ _ _, Below.refl _ _⟩
      case round =>
        obtain ⟨j, rfl, hj, hown, hbi⟩ := hrel
        have hbis := hbi.size
        obtain ⟨la, lcap, rfl, hl1, hl2⟩ := (ownsRow.reads hown).le
        unfold maxLen at hl2
        have hrl : (rowsL (x.take j)).length ≤ 150 := by
          have := (rowsL_all (x.take j)).2.1
          rw [List.length_take] at this
          omega
        have HO := Lib.hid hown
        have HI := Lib.hid hbi
        clear hown hbi
        by_cases hjl : j < x.length
        · have hjI : (j : Int) < x.length := by omega
          obtain ⟨y, hy⟩ : ∃ y, x[j]? = some y := ⟨x[j]'hjl, List.getElem?_eq_getElem _⟩
          obtain ⟨g2, off2, rfl, hgl2, c0, c1, c2⟩ := ent_cells (HR.out.below' HI.out) hy
          obtain ⟨hk1, hk2⟩ := HXe.out y (List.mem_of_getElem? hy)
          have hnext := rowsL_take hy
          generalize rowsL (x.take j) = R at *
          obtain ⟨key, rev, del⟩ := y
          dsimp only at c0 c1 c2 hk1 hk2
          have HN := Lib.hid hnext
          have hin2 := fun w' => refinner_any w' key rev del (by omega) hk2
          have HIn := Lib.hid hin2
          have hal := (Below.refl _ wr).alloc (Nat.le_refl _) (.cells #[.string key, .int .u64 (rev : Int), .bool del] 48)
          have HAl := Lib.hid hal
          clear hnext hy hin2 hal
          go_wp2_with (go_at_call 34; go_must (refine (HIn.out _).mono ?_))
          rintro e w1 ⟨rfl, b1⟩
          have hb1 : Below wr.heap.size wr w1 := HAl.out.trans (b1.mono (by simp))
          have HB1 := Lib.hid (HI.out.trans (hb1.mono HI.out.size))
          have hpk := puto_any w1 w.heap.size _ _ _ R (innB ⟨key, rev, del⟩) (owns_below HO.out hb1) (Nat.le_trans hbs HB1.out.size) (by omega)
          have HP := Lib.hid hpk
          clear b1 hb1 hpk HIn HAl c0 c1 c2
          have hinn : (⟨(inner key.data.toList rev del).toArray⟩ : ByteArray) = innB ⟨key, rev, del⟩ := rfl
          rw [hinn]
          clear hinn
          go_wp2_with (go_at_call 30; go_must (refine HP.out.mono ?_))
          rintro e w2 ⟨v2, b, rfl, r2, b2⟩
          have HB2 := Lib.hid (HB1.out.trans (b2.mono HB1.out.size))
          have HR2 := Lib.hid r2
          clear r2 b2 HP
          go_wp2
          refine ⟨⟨j + 1, by go_num, by omega, ?_, HB2.out⟩, by simp [intOf]; omega⟩
          rw [HN.out]
          exact HR2.out
        · have hjI : ¬ (j : Int) < x.length := by omega
          have htk : x.take j = x := List.take_of_length_le (by omega)
          rw [htk] at HO hrl hl1 ⊢
          have hb2 := HB.out.trans (HI.out.mono HB.out.size)
          obtain ⟨svs, h1, h2, h3⟩ := HSo.out.below HI.out
          obtain ⟨oa, ocap, rfl, ho1, ho2⟩ := (ownsRow.reads h2).le
          unfold maxLen at ho2
          have H1 := Lib.hid h1
          have H2 := Lib.hid h2
          have H3 := Lib.hid h3
          have HB2 := Lib.hid hb2
          clear htk hb2 h1 h2 h3 HI HB
          go_wp2_with (at_builtin; go_must (refine wpList_append_rows_at (w0 := wr) rfl _ _ 45 rfl w.heap.size 26 i0 _ 1 24 Try.underlying45 hi hz0 hz1 hz2 rfl [.slice la (rowsL x).length lcap] 1 rfl rfl H2.out rfl rfl ?_ ?_ ?_ HB2.out.size ?_))
          · rfl
          · unfold maxLen; omega
          · omega
          intro v6 w6 o6 g6 b6 _
          have HP := Lib.hid (SOwn.push H1.out H2.out H3.out HO.out g6 o6)
          have HB6 := Lib.hid (HB2.out.trans b6)
          clear o6 g6 b6
          go_wp2
          refine ⟨⟨k + 1, by go_num, by omega, ?_, HB6.out⟩, by simp [intOf]; omega⟩
          rw [HSn.out]
          exact HP.out
    · obtain rfl : k = n := by omega
      have hkI : ¬ (k : Int) < k := by omega
      have htk : ls.take k = ls := by rw [← HLL.out]; exact List.take_length
      rw [htk] at hso
      have HSo := Lib.hid hso
      have HB := Lib.hid hb
      clear hso hb
      go_wp2
      go_ret
      exact ⟨_, rfl, HSo.out, HB.out⟩
end Go.Proofs.Ytekdcjbjjakhcaa

/- sentrylaw19.few. -/
namespace Go.Proofs.Ytekdcjbjjakhcaa
open Go Go.RowKit

def sumL (ls : List (List Ent)) : Nat := (ls.map List.length).sum
def few19 (ls : List (List Ent)) : Bool := decide (sumL ls ≤ 150) && ls.all (fun l => l.all low18) && decide (ls.length ≤ 12)

theorem sumL_snoc {ls : List (List Ent)} {k : Nat} {x : List Ent} (h : ls[k]? = some x) : sumL (ls.take (k + 1)) = sumL (ls.take k) + x.length := by
  rw [List.take_add_one, h]
  simp [sumL]

theorem sumL_take : ∀ (ls : List (List Ent)) (k : Nat), sumL (ls.take k) ≤ sumL ls
  | [], k => by simp
  | x :: t, 0 => by simp [sumL]
  | x :: t, k + 1 => by
    have := sumL_take t k
    simp only [sumL, List.take_succ_cons, List.map_cons, List.sum_cons] at this ⊢
    omega

theorem sumL_mem : ∀ {ls : List (List Ent)} {l : List Ent}, l ∈ ls → l.length ≤ sumL ls
  | x :: t, l, h => by
    simp only [sumL, List.map_cons, List.sum_cons]
    rcases List.mem_cons.1 h with rfl | h
    · omega
    · have := sumL_mem h
      simp only [sumL] at this
      omega

theorem few19_sum {ls : List (List Ent)} {k : Nat} (h : ¬ sumL (ls.take k) ≤ 150) : few19 ls = false := by
  unfold few19
  have := sumL_take ls k
  rw [decide_eq_false (by omega)]
  rfl

theorem few19_bad {ls : List (List Ent)} {k j : Nat} {l : List Ent} {x : Ent} (h : ls[k]? = some l) (hj : l[j]? = some x) (hx : low18 x = false) : few19 ls = false := by
  unfold few19
  have : ls.all (fun l => l.all low18) = false := by
    rw [List.all_eq_false]
    refine ⟨l, List.mem_of_getElem? h, ?_⟩
    simp only [Bool.not_eq_true]
    rw [List.all_eq_false]
    exact ⟨x, List.mem_of_getElem? hj, by rw [hx]; decide⟩
  rw [this, Bool.and_false, Bool.false_and]

theorem all_snoc {α : Type} {p : α → Bool} {l : List α} {k : Nat} {x : α} (h : l[k]? = some x) (hx : p x = true) (ha : (l.take k).all p = true) : (l.take (k + 1)).all p = true := by
  rw [List.take_add_one, List.all_append, ha, h]
  simp [hx]

theorem few19_low {ls : List (List Ent)} (h : few19 ls = true) : ls.length ≤ 12 ∧ ∀ l ∈ ls, l.length ≤ 150 ∧ ∀ x ∈ l, x.key.size ≤ 100 := by
  unfold few19 at h
  simp only [Bool.and_eq_true, decide_eq_true_eq, List.all_eq_true] at h
  refine ⟨h.2, fun l hl => ⟨?_, fun x hx => ?_⟩⟩
  · have h1 := sumL_mem hl
    omega
  · have := h.1.2 l hl x hx
    unfold low18 at this
    simpa using this

def Few19Rel (w : World) (ls : List (List Ent)) (n : Nat) (nv iv : Value) (wr : World) : Prop :=
  ∃ k : Nat, iv = .int .i64 (k : Int) ∧ k ≤ n ∧ nv = .int .i64 (sumL (ls.take k) : Int) ∧ sumL (ls.take k) ≤ 150 ∧ (ls.take k).all (fun l => l.all low18) = true ∧ Below w.heap.size w wr

def Few19In (wo : World) (x : List Ent) (jv : Value) (wi : World) : Prop :=
  ∃ j : Nat, jv = .int .i64 (j : Int) ∧ j ≤ x.length ∧ (x.take j).all low18 = true ∧ Below wo.heap.size wo wi

set_option maxRecDepth 100000 in
set_option maxHeartbeats 4000000 in
theorem few19_any (w : World) (v : Value) (n : Nat) (ls : List (List Ent)) (h : ERows w v n ls) :
    Calls Try.prog 23 #[v] w (GivesVal w (.bool (few19 ls))) := by
  have HE := Lib.hid h
  obtain ⟨a, cap, rfl, hc1, hc2, hll, hx0⟩ := h
  clear hx0
  unfold maxLen at hc2
  have HLL := Lib.hid hll
  clear hll
  go_enter Try.func23, Try.ntmps23
  go_wp2
  go_loopw [3, 10] (fun nv iv wr => Few19Rel w ls n nv iv wr) (fun _ iv _ => n - (intOf iv).toNat)
  case atStart => exact ⟨0, rfl, Nat.zero_le _, rfl, Nat.zero_le _, rfl, Below.refl _ _⟩
  case round =>
    obtain ⟨k, rfl, hk, rfl, hsm, hal, hb⟩ := hrel
    have hbs := hb.size
    by_cases hlt : k < n
    · have hkI : (k : Int) < n := by omega
      obtain ⟨x, hx⟩ : ∃ x, ls[k]? = some x := ⟨ls[k]'(by rw [HLL.out]; exact hlt), List.getElem?_eq_getElem _⟩
      obtain ⟨_, _, hv, _, _, _, hrow⟩ := HE.out.below hb
      cases hv
      obtain ⟨hsz, hks, g, off, sa, scap, rfl, hg, hcell, hrd⟩ := hrow k x hx
      have hsn := sumL_snoc hx
      have hs1 := fun h => few19_sum (ls := ls) (k := k + 1) h
      rw [hsn] at hs1
      have HSn := Lib.hid hsn
      have HS1 := Lib.hid hs1
      have HR := Lib.hid hrd
      have HB := Lib.hid hb
      have HX := Lib.hid hx
      have HK := Lib.hid hks
      have HAl := Lib.hid hal
      obtain ⟨_, _, hv2, hsc1, hsc2⟩ := hrd.le
      cases hv2
      unfold maxLen at hsc2
      clear hrow hx hks hsn hs1 hrd hb hal
      generalize sumL (ls.take k) = s at *
      by_cases hbig : s + x.length ≤ 150
      · have hbI : ¬ (150 : Int) < (s : Int) + x.length := by omega
        obtain ⟨wo, rfl⟩ : ∃ wo : World, wo = wr := ⟨_, rfl⟩
        go_wp2
        go_loopw [22] (fun jv wi => Few19In wo x jv wi) (fun jv _ => x.length - (intOf jv).toNat)
        case atStart => exact ⟨0, rfl, Nat.zero_le _, rfl, Below.refl _ _⟩
        case round =>
          obtain ⟨j, rfl, hj, hall, hbi⟩ := hrel
          have hbis := hbi.size
          have HA := Lib.hid hall
          have HI := Lib.hid hbi
          clear hall hbi
          by_cases hjl : j < x.length
          · have hjI : (j : Int) < x.length := by omega
            obtain ⟨y, hy⟩ : ∃ y, x[j]? = some y := ⟨x[j]'hjl, List.getElem?_eq_getElem _⟩
            obtain ⟨g2, off2, rfl, hgl2, c0, c1, c2⟩ := ent_cells (HR.out.below' HI.out) hy
            have hsy := HK.out y (List.mem_of_getElem? hy)
            unfold maxLen at hsy
            have hbad := fun h => few19_bad HX.out hy h
            have hgood := fun h => all_snoc (p := low18) hy h HA.out
            unfold low18 at hbad hgood
            obtain ⟨key, r, d⟩ := y
            dsimp only at c0 c1 c2 hsy hbad hgood
            have HBa := Lib.hid hbad
            have HGo := Lib.hid hgood
            clear hbad hgood hy
            by_cases hz : key.size ≤ 100
            · have hzI : ¬ (100 : Int) < key.size := by omega
              have HGG := Lib.hid (HGo.out (by rw [decide_eq_true hz]))
              go_wp2
              exact ⟨⟨j + 1, by go_num, by omega, HGG.out, HI.out.alloc hbis _⟩, by simp [intOf]; omega⟩
            · have hzI : (100 : Int) < key.size := by omega
              have HBB := Lib.hid (HBa.out (by rw [decide_eq_false hz]))
              have HBx := Lib.hid (HB.out.trans (HI.out.mono HB.out.size))
              go_wp2
              go_ret
              rw [HBB.out]
              exact ⟨rfl, HBx.out.alloc HBx.out.size _⟩
          · have hjI : ¬ (j : Int) < x.length := by omega
            have htk : x.take j = x := List.take_of_length_le (by omega)
            rw [htk] at HA
            have HAA := Lib.hid (all_snoc (p := fun l : List Ent => l.all low18) HX.out HA.out HAl.out)
            have HBx := Lib.hid (HB.out.trans (HI.out.mono HB.out.size))
            go_wp2
            exact ⟨⟨k + 1, by go_num, by omega, by rw [HSn.out]; go_num, by rw [HSn.out]; exact hbig, HAA.out, HBx.out⟩, by simp [intOf]; omega⟩
      · have hbI : (150 : Int) < (s : Int) + x.length := by omega
        have HF := Lib.hid (HS1.out hbig)
        go_wp2
        go_ret
        rw [HF.out]
        exact ⟨rfl, HB.out⟩
    · obtain rfl : k = n := by omega
      have hkI : ¬ (k : Int) < k := by omega
      have htk : ls.take k = ls := by rw [← HLL.out]; exact List.take_length
      rw [htk] at hsm hal ⊢
      have hf : few19 ls = decide (k ≤ 12) := by unfold few19; rw [decide_eq_true hsm, hal, HLL.out]; rfl
      have HF := Lib.hid hf
      have HB := Lib.hid hb
      clear hf hb hal
      by_cases h4 : k ≤ 12
      · have h4I : (k : Int) ≤ 12 := by omega
        have HF4 := Lib.hid (HF.out.trans (decide_eq_true h4))
        go_wp2
        go_ret
        rw [HF4.out]
        exact ⟨rfl, HB.out⟩
      · have h4I : ¬ (k : Int) ≤ 12 := by omega
        have HF4 := Lib.hid (HF.out.trans (decide_eq_false h4))
        go_wp2
        go_ret
        rw [HF4.out]
        exact ⟨rfl, HB.out⟩
end Go.Proofs.Ytekdcjbjjakhcaa
