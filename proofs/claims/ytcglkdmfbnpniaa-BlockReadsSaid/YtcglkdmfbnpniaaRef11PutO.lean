/- sentryref11.Put: of a row of one's own. -/
import Derived.Test.YtcglkdmfbnpniaaRef11Put
namespace Go.Proofs.Ytcglkdmfbnpniaa
open Go Go.RowKit

theorem owns_lower {w : World} {B C n s : Nat} {e : TypeId} {v : Value} {xs : List Value} (h : w.ownsRow B e s v n xs) (hc : C ≤ B) : w.ownsRow C e s v n xs := by
  refine ⟨h.1, ?_⟩
  rcases h.2 with h0 | ⟨g, cap, cur, hv, hB, h3⟩
  · exact .inl h0
  · exact .inr ⟨g, cap, cur, hv, by omega, h3⟩

def PutOPost (w : World) (B : Nat) (l : List ByteArray) (key : ByteArray) (e : Ending) (w' : World) : Prop :=
  ∃ v b, e = .returned (.tuple #[v, .bool b]) ∧ w'.ownsRow B 9 1 v (putK l key).length (scells (putK l key)) ∧ Below w.heap.size w w'

set_option maxRecDepth 100000 in
set_option maxHeartbeats 2000000 in
theorem puto_any (w : World) (B : Nat) (a : Option Addr) (n cap : Nat) (l : List ByteArray) (key : ByteArray) (ho : w.ownsRow B 9 1 (.slice a n cap) n (scells l)) (hB : B ≤ w.heap.size) (hn : n ≤ 100000) :
    Calls Try.prog 20 #[.slice a n cap, .string key] w (PutOPost w B l key) := by
  have h := ownsRow.reads ho
  have HOw := Lib.hid ho
  clear ho
  obtain ⟨i0, hi, hz0, hz1, hz2⟩ := info_parts info9
  have HR := Lib.hid h
  have hll : l.length = n := by have := h.1; rw [scells_length] at this; omega
  have HLL := Lib.hid hll
  obtain ⟨_, _, hv, hc1, hc2⟩ := h.le
  cases hv
  have hc3 := hc2
  unfold maxLen at hc2
  clear h hll
  go_enter Try.func20, Try.ntmps20
  go_wp2
  go_loop [6] (fun v => PutARel l key v) (fun v => n - (intOf v).toNat)
  case atStart => exact ⟨0, rfl, Nat.zero_le _, fun j x hj => by omega⟩
  case round =>
    obtain ⟨i, rfl, hil, hlt⟩ := hrel
    rw [HLL.out] at hil
    have HLt := Lib.hid hlt
    clear hlt
    by_cases hin : i < n
    · have hinI : (i : Int) < n := by omega
      obtain ⟨b, off, x, rfl, hx, hb, hc⟩ := HR.out.scell i hin
      cases hbl : bl x key with
      | true =>
        have hbI : Op.bytesLess x.toList key.toList = true := by rw [bl_spell]; exact hbl
        have HX := Lib.hid hx
        have HBl := Lib.hid hbl
        clear hx hbl
        go_wp2
        refine ⟨⟨i + 1, by go_num, by rw [HLL.out]; omega, fun j y hj hy => ?_⟩, by simp [intOf]; omega⟩
        by_cases hji : j < i
        · exact HLt.out j y hji hy
        · obtain rfl : j = i := by omega
          rw [HX.out] at hy
          cases hy
          exact HBl.out
      | false =>
        have hbI : Op.bytesLess x.toList key.toList = false := by rw [bl_spell]; exact hbl
        have hpa : putAt l key = i := putAt_eq HLt.out (by rw [HLL.out]; omega) (fun y hy => by rw [hx] at hy; cases hy; exact hbl)
        by_cases hxk : x = key
        · subst hxk
          have hpk : putK l x = l := by unfold putK; rw [hpa, hx, if_pos rfl]
          have HP := Lib.hid hpk
          clear hx hpa hpk hbl
          go_wp2
          go_ret2
          exact ⟨_, _, rfl, by rw [HP.out, HLL.out]; exact HOw.out, Below.refl _ _⟩
        · have hpk : putK l key = l.take i ++ key :: l.drop i := by
            unfold putK
            rw [hpa, hx, if_neg (fun e => hxk (Option.some.inj e))]
          have hxkI : (x.toList == key.toList) = false := by
            rw [beq_eq_false_iff_ne, Go.ByteArray.toList_eq, Go.ByteArray.toList_eq]
            exact fun e => hxk (Go.WideShapes.bytes_inj e)
          have hat : i ≤ n := by omega
          have HP := Lib.hid hpk
          clear hx hpk hbl HLt hxk hil hpa
          go_wp2_with fail
          generalize (some ({ block := b, off := off } : Addr)) = a at *
          clear hb hc
          obtain ⟨at', rfl⟩ : ∃ at', at' = i := ⟨_, rfl⟩
          refine wp_region_until (by kernel_rfl) [onU (zeroF w.heap.size 9 1) (some 4), eqU (.slice a n cap), eqU (.int .i64 (at' : Int)), eqU (.slice a at' cap), onU (ownsF w.heap.size 9 1 at' (scells (l.take at'))) (some 7), eqU (.string key), onU (litF 9 #[.string key] 1) (some 7), onU (ownsF w.heap.size 9 1 (at' + 1) (scells (l.take at' ++ [key]))) (some 11), eqU (.slice a n cap), eqU (.int .i64 (at' : Int)), eqU (.slice (behind a at' cap) (n - at') (cap - at')), onU (ownsF w.heap.size 9 1 (n + 1) (scells (l.take at' ++ key :: l.drop at'))) none, onU (ownsF w.heap.size 9 1 (n + 1) (scells (l.take at' ++ key :: l.drop at'))) none, eqU (.bool true)] [7, 11] (by kernel_rfl) (by kernel_rfl) (by kernel_rfl) ⟨?_, ?_, ?_, ?_, ?_, ?_, ?_, ?_, ?_, ?_, ?_, ?_, ?_, ?_, trivial⟩ ?_
          · intro ρ wx hρ hbx hl
            refine u_new (v := .slice (some ⟨wx.heap.size, 0, none⟩) 0 0) (w' := wx.alloc (.cells #[] 9)) ?_ ⟨_, rfl, owns_less (owns_zero wx _ 1) hbx.size⟩ ((Below.refl _ _).alloc (Nat.le_refl _) _)
            simp [execOp, go_sem]
          · intro ρ wx hρ hbx hl
            have e0 : ρ (.tmp 0) = .slice a n cap := hρ.tmp 0 (by decide +kernel)
            refine u_val (v := .slice a n cap) ?_ rfl
            simp [execOp, go_sem, e0]
          · intro ρ wx hρ hbx hl
            have e6 : ρ (.tmp 6) = .int .i64 (at' : Int) := hρ.tmp 6 (by decide +kernel)
            refine u_val (v := .int .i64 (at' : Int)) ?_ rfl
            simp [execOp, go_sem, e6]
          · intro ρ wx hρ hbx hl
            have e35 : ρ (.tmp 35) = .slice a n cap := hl 1 (by decide +kernel) (.inl rfl) 35 rfl
            have e36 : ρ (.tmp 36) = .int .i64 (at' : Int) := hl 2 (by decide +kernel) (.inl rfl) 36 rfl
            refine u_val (v := .slice a at' cap) ?_ rfl
            simp [execOp, go_sem, e35, e36]
            first | done | omega
          · intro ρ wx hρ hbx hl
            have e34 : (zeroF w.heap.size 9 1).p (ρ (.tmp 34)) wx := hl 0 (by decide +kernel) (.inr rfl) 34 rfl
            have e37 : ρ (.tmp 37) = .slice a at' cap := hl 3 (by decide +kernel) (.inl rfl) 37 rfl
            obtain ⟨g34, e34, o34⟩ := e34
            rw [e34] at o34
            obtain ⟨v', w', hr, ho, hb⟩ := run_append_zero (P := Try.prog) (w := wx) w.heap.size 22 22 22 9 i0 _ 16 Try.underlying22 hi hz0 hz1 hz2 rfl g34 o34 (.slice a at' cap) at' (scells (l.take at')) (((HR.out.below' hbx).stake at' hat).src Try.underlying22 (scells_one _)) (by unfold maxLen; omega) (by omega) hbx.size
            refine u_new ?_ ho hb
            simp only [execOp, resolve, invoke, builtin, Sem.run_bind, Sem.run_pure, Result.andThen_ok, List.map_toArray, List.map_cons, List.map_nil, e34, e37, hr]
          · intro ρ wx hρ hbx hl
            have e1 : ρ (.tmp 1) = .string key := hρ.tmp 1 (by decide +kernel)
            refine u_val (v := .string key) ?_ rfl
            simp [execOp, go_sem, e1]
          · intro ρ wx hρ hbx hl
            have e39 : ρ (.tmp 39) = .string key := hl 5 (by decide +kernel) (.inl rfl) 39 rfl
            refine u_new (v := .slice (some ⟨wx.heap.size, 0, none⟩) 1 1) (w' := wx.alloc (.cells #[.string key] 9)) ?_ ⟨_, rfl, heap_alloc_new wx _⟩ ((Below.refl _ _).alloc (Nat.le_refl _) _)
            simp [execOp, go_sem, e39]
          · intro ρ wx hρ hbx hl
            have e38 : (ownsF w.heap.size 9 1 at' (scells (l.take at'))).p (ρ (.tmp 38)) wx := hl 4 (by decide +kernel) (.inr rfl) 38 rfl
            have e40 : (litF 9 #[.string key] 1).p (ρ (.tmp 40)) wx := hl 6 (by decide +kernel) (.inr rfl) 40 rfl
            obtain ⟨g40, e40, o40⟩ := e40
            have hrd := lit_reads (cs := [.string key]) (size := 1) o40 rfl (by decide)
            obtain ⟨v', w', hr, ho, hg, hb, _⟩ := run_append_owns (P := Try.prog) (w := wx) w.heap.size 22 22 22 9 i0 _ 1 16 Try.underlying22 hi hz0 hz1 hz2 rfl _ at' _ e38 _ 1 [.string key] (hrd.src Try.underlying22 (by simp [Value.oneCell'])) (by unfold maxLen; omega) (by omega) hbx.size
            rw [show scells (l.take at') ++ [Value.string key] = scells (l.take at' ++ [key]) from (scells_append (l.take at') [key]).symm] at ho
            refine u_new ?_ ho hb
            simp only [execOp, resolve, invoke, builtin, Sem.run_bind, Sem.run_pure, Result.andThen_ok, List.map_toArray, List.map_cons, List.map_nil, e40, hr]
          · intro ρ wx hρ hbx hl
            have e0 : ρ (.tmp 0) = .slice a n cap := hρ.tmp 0 (by decide +kernel)
            refine u_val (v := .slice a n cap) ?_ rfl
            simp [execOp, go_sem, e0]
          · intro ρ wx hρ hbx hl
            have e6 : ρ (.tmp 6) = .int .i64 (at' : Int) := hρ.tmp 6 (by decide +kernel)
            refine u_val (v := .int .i64 (at' : Int)) ?_ rfl
            simp [execOp, go_sem, e6]
          · intro ρ wx hρ hbx hl
            have e42 : ρ (.tmp 42) = .slice a n cap := hl 8 (by decide +kernel) (.inl rfl) 42 rfl
            have e43 : ρ (.tmp 43) = .int .i64 (at' : Int) := hl 9 (by decide +kernel) (.inl rfl) 43 rfl
            refine u_val (v := .slice (behind a at' cap) (n - at') (cap - at')) ?_ rfl
            simp [execOp, go_sem, e42, e43, behind, hat]
          · intro ρ wx hρ hbx hl
            have e41 : (ownsF w.heap.size 9 1 (at' + 1) (scells (l.take at' ++ [key]))).p (ρ (.tmp 41)) wx := hl 7 (by decide +kernel) (.inr rfl) 41 rfl
            have e44 : ρ (.tmp 44) = .slice (behind a at' cap) (n - at') (cap - at') := hl 10 (by decide +kernel) (.inl rfl) 44 rfl
            obtain ⟨v', w', hr, ho, hg, hb, _⟩ := run_append_owns (P := Try.prog) (w := wx) w.heap.size 22 22 22 9 i0 _ 1 16 Try.underlying22 hi hz0 hz1 hz2 rfl _ (at' + 1) _ e41 (.slice (behind a at' cap) (n - at') (cap - at')) (n - at') (scells (l.drop at')) (((HR.out.below' hbx).sdrop at' hat).src Try.underlying22 (scells_one _)) (by unfold maxLen; omega) (by omega) hbx.size
            rw [← scells_append, List.append_assoc, List.singleton_append, show at' + 1 + (n - at') = n + 1 by omega] at ho
            refine u_new ?_ ho hb
            simp only [execOp, resolve, invoke, builtin, Sem.run_bind, Sem.run_pure, Result.andThen_ok, List.map_toArray, List.map_cons, List.map_nil, e44, hr]
          · intro ρ wx hρ hbx hl
            have e45 : (ownsF w.heap.size 9 1 (n + 1) (scells (l.take at' ++ key :: l.drop at'))).p (ρ (.tmp 45)) wx := hl 11 (by decide +kernel) (.inl rfl) 45 rfl
            refine u_val (v := ρ (.tmp 45)) ?_ e45
            simp [execOp, go_sem]
          · intro ρ wx hρ hbx hl
            refine u_val (v := .bool true) ?_ rfl
            simp [execOp, hρ.const, go_sem]
          intro aa wz hdef hsz hlk hbz hf
          have ha := act_of_like hdef hsz hlk [34, 35, 36, 37, 38, 39, 40, 41, 42, 43, 44, 45, 4, 5] 46 rfl (by decide +kernel)
          have e35 : aa.tmps.getD 35 undef = .slice a n cap := hf 1 _ 35 rfl rfl rfl
          have e36 : aa.tmps.getD 36 undef = .int .i64 (at' : Int) := hf 2 _ 36 rfl rfl rfl
          have e37 : aa.tmps.getD 37 undef = .slice a at' cap := hf 3 _ 37 rfl rfl rfl
          have e39 : aa.tmps.getD 39 undef = .string key := hf 5 _ 39 rfl rfl rfl
          have e42 : aa.tmps.getD 42 undef = .slice a n cap := hf 8 _ 42 rfl rfl rfl
          have e43 : aa.tmps.getD 43 undef = .int .i64 (at' : Int) := hf 9 _ 43 rfl rfl rfl
          have e44 : aa.tmps.getD 44 undef = .slice (behind a at' cap) (n - at') (cap - at') := hf 10 _ 44 rfl rfl rfl
          have e45 : (ownsF w.heap.size 9 1 (n + 1) (scells (l.take at' ++ key :: l.drop at'))).p (aa.tmps.getD 45 undef) wz := hf 11 _ 45 rfl rfl rfl
          generalize hv45 : aa.tmps.getD 45 undef = v45 at e45
          have e4 : (ownsF w.heap.size 9 1 (n + 1) (scells (l.take at' ++ key :: l.drop at'))).p (aa.tmps.getD 4 undef) wz := hf 12 _ 4 rfl rfl rfl
          generalize hv4 : aa.tmps.getD 4 undef = v4 at e4
          have e5 : aa.tmps.getD 5 undef = .bool true := hf 13 _ 5 rfl rfl rfl
          simp only [putAll, List.foldl_cons, List.foldl_nil, e35, e36, e37, e39, e42, e43, e44, hv45, hv4, e5] at ha
          generalize aa.tmps.getD 34 undef = v34 at ha
          generalize aa.tmps.getD 38 undef = v38 at ha
          generalize aa.tmps.getD 40 undef = v40 at ha
          generalize aa.tmps.getD 41 undef = v41 at ha
          simp [Act.put] at ha
          subst ha
          clear hdef hsz hlk hf e35 e36 e37 e39 e42 e43 e44 hv45 hv4 e5
          have HB := Lib.hid hbz
          have hlen : (l.take at' ++ key :: l.drop at').length = n + 1 := by
            have := HLL.out
            simp
            omega
          obtain ⟨a9, c9, hv9, _, _⟩ := (ownsRow.reads e4).le
          subst hv9
          have HW := Lib.hid (owns_lower e4 hB)
          clear e45 e4 hbz
          go_wp2
          go_ret2
          exact ⟨_, _, rfl, by rw [HP.out, hlen]; exact HW.out, HB.out⟩
    · have hinI : ¬ ((i : Int) < n) := by omega
      have hnone : l[i]? = none := List.getElem?_eq_none (by rw [HLL.out]; omega)
      have hpa : putAt l key = i := putAt_eq HLt.out (by rw [HLL.out]; omega) (fun x hx => by rw [hnone] at hx; cases hx)
      have hpk : putK l key = l.take i ++ key :: l.drop i := by
        unfold putK
        rw [hpa, hnone, if_neg (by simp)]
      have HP := Lib.hid hpk
      have hat : i ≤ n := hil
      clear hpk HLt hil hpa hnone
      go_wp2_with fail
      obtain ⟨at', rfl⟩ : ∃ at', at' = i := ⟨_, rfl⟩
      refine wp_region_until (by kernel_rfl) [onU (zeroF w.heap.size 9 1) (some 4), eqU (.slice a n cap), eqU (.int .i64 (at' : Int)), eqU (.slice a at' cap), onU (ownsF w.heap.size 9 1 at' (scells (l.take at'))) (some 7), eqU (.string key), onU (litF 9 #[.string key] 1) (some 7), onU (ownsF w.heap.size 9 1 (at' + 1) (scells (l.take at' ++ [key]))) (some 11), eqU (.slice a n cap), eqU (.int .i64 (at' : Int)), eqU (.slice (behind a at' cap) (n - at') (cap - at')), onU (ownsF w.heap.size 9 1 (n + 1) (scells (l.take at' ++ key :: l.drop at'))) none, onU (ownsF w.heap.size 9 1 (n + 1) (scells (l.take at' ++ key :: l.drop at'))) none, eqU (.bool true)] [7, 11] (by kernel_rfl) (by kernel_rfl) (by kernel_rfl) ⟨?_, ?_, ?_, ?_, ?_, ?_, ?_, ?_, ?_, ?_, ?_, ?_, ?_, ?_, trivial⟩ ?_
      · intro ρ wx hρ hbx hl
        refine u_new (v := .slice (some ⟨wx.heap.size, 0, none⟩) 0 0) (w' := wx.alloc (.cells #[] 9)) ?_ ⟨_, rfl, owns_less (owns_zero wx _ 1) hbx.size⟩ ((Below.refl _ _).alloc (Nat.le_refl _) _)
        simp [execOp, go_sem]
      · intro ρ wx hρ hbx hl
        have e0 : ρ (.tmp 0) = .slice a n cap := hρ.tmp 0 (by decide +kernel)
        refine u_val (v := .slice a n cap) ?_ rfl
        simp [execOp, go_sem, e0]
      · intro ρ wx hρ hbx hl
        have e6 : ρ (.tmp 6) = .int .i64 (at' : Int) := hρ.tmp 6 (by decide +kernel)
        refine u_val (v := .int .i64 (at' : Int)) ?_ rfl
        simp [execOp, go_sem, e6]
      · intro ρ wx hρ hbx hl
        have e35 : ρ (.tmp 35) = .slice a n cap := hl 1 (by decide +kernel) (.inl rfl) 35 rfl
        have e36 : ρ (.tmp 36) = .int .i64 (at' : Int) := hl 2 (by decide +kernel) (.inl rfl) 36 rfl
        refine u_val (v := .slice a at' cap) ?_ rfl
        simp [execOp, go_sem, e35, e36]
        first | done | omega
      · intro ρ wx hρ hbx hl
        have e34 : (zeroF w.heap.size 9 1).p (ρ (.tmp 34)) wx := hl 0 (by decide +kernel) (.inr rfl) 34 rfl
        have e37 : ρ (.tmp 37) = .slice a at' cap := hl 3 (by decide +kernel) (.inl rfl) 37 rfl
        obtain ⟨g34, e34, o34⟩ := e34
        rw [e34] at o34
        obtain ⟨v', w', hr, ho, hb⟩ := run_append_zero (P := Try.prog) (w := wx) w.heap.size 22 22 22 9 i0 _ 16 Try.underlying22 hi hz0 hz1 hz2 rfl g34 o34 (.slice a at' cap) at' (scells (l.take at')) (((HR.out.below' hbx).stake at' hat).src Try.underlying22 (scells_one _)) (by unfold maxLen; omega) (by omega) hbx.size
        refine u_new ?_ ho hb
        simp only [execOp, resolve, invoke, builtin, Sem.run_bind, Sem.run_pure, Result.andThen_ok, List.map_toArray, List.map_cons, List.map_nil, e34, e37, hr]
      · intro ρ wx hρ hbx hl
        have e1 : ρ (.tmp 1) = .string key := hρ.tmp 1 (by decide +kernel)
        refine u_val (v := .string key) ?_ rfl
        simp [execOp, go_sem, e1]
      · intro ρ wx hρ hbx hl
        have e39 : ρ (.tmp 39) = .string key := hl 5 (by decide +kernel) (.inl rfl) 39 rfl
        refine u_new (v := .slice (some ⟨wx.heap.size, 0, none⟩) 1 1) (w' := wx.alloc (.cells #[.string key] 9)) ?_ ⟨_, rfl, heap_alloc_new wx _⟩ ((Below.refl _ _).alloc (Nat.le_refl _) _)
        simp [execOp, go_sem, e39]
      · intro ρ wx hρ hbx hl
        have e38 : (ownsF w.heap.size 9 1 at' (scells (l.take at'))).p (ρ (.tmp 38)) wx := hl 4 (by decide +kernel) (.inr rfl) 38 rfl
        have e40 : (litF 9 #[.string key] 1).p (ρ (.tmp 40)) wx := hl 6 (by decide +kernel) (.inr rfl) 40 rfl
        obtain ⟨g40, e40, o40⟩ := e40
        have hrd := lit_reads (cs := [.string key]) (size := 1) o40 rfl (by decide)
        obtain ⟨v', w', hr, ho, hg, hb, _⟩ := run_append_owns (P := Try.prog) (w := wx) w.heap.size 22 22 22 9 i0 _ 1 16 Try.underlying22 hi hz0 hz1 hz2 rfl _ at' _ e38 _ 1 [.string key] (hrd.src Try.underlying22 (by simp [Value.oneCell'])) (by unfold maxLen; omega) (by omega) hbx.size
        rw [show scells (l.take at') ++ [Value.string key] = scells (l.take at' ++ [key]) from (scells_append (l.take at') [key]).symm] at ho
        refine u_new ?_ ho hb
        simp only [execOp, resolve, invoke, builtin, Sem.run_bind, Sem.run_pure, Result.andThen_ok, List.map_toArray, List.map_cons, List.map_nil, e40, hr]
      · intro ρ wx hρ hbx hl
        have e0 : ρ (.tmp 0) = .slice a n cap := hρ.tmp 0 (by decide +kernel)
        refine u_val (v := .slice a n cap) ?_ rfl
        simp [execOp, go_sem, e0]
      · intro ρ wx hρ hbx hl
        have e6 : ρ (.tmp 6) = .int .i64 (at' : Int) := hρ.tmp 6 (by decide +kernel)
        refine u_val (v := .int .i64 (at' : Int)) ?_ rfl
        simp [execOp, go_sem, e6]
      · intro ρ wx hρ hbx hl
        have e42 : ρ (.tmp 42) = .slice a n cap := hl 8 (by decide +kernel) (.inl rfl) 42 rfl
        have e43 : ρ (.tmp 43) = .int .i64 (at' : Int) := hl 9 (by decide +kernel) (.inl rfl) 43 rfl
        refine u_val (v := .slice (behind a at' cap) (n - at') (cap - at')) ?_ rfl
        simp [execOp, go_sem, e42, e43, behind, hat]
      · intro ρ wx hρ hbx hl
        have e41 : (ownsF w.heap.size 9 1 (at' + 1) (scells (l.take at' ++ [key]))).p (ρ (.tmp 41)) wx := hl 7 (by decide +kernel) (.inr rfl) 41 rfl
        have e44 : ρ (.tmp 44) = .slice (behind a at' cap) (n - at') (cap - at') := hl 10 (by decide +kernel) (.inl rfl) 44 rfl
        obtain ⟨v', w', hr, ho, hg, hb, _⟩ := run_append_owns (P := Try.prog) (w := wx) w.heap.size 22 22 22 9 i0 _ 1 16 Try.underlying22 hi hz0 hz1 hz2 rfl _ (at' + 1) _ e41 (.slice (behind a at' cap) (n - at') (cap - at')) (n - at') (scells (l.drop at')) (((HR.out.below' hbx).sdrop at' hat).src Try.underlying22 (scells_one _)) (by unfold maxLen; omega) (by omega) hbx.size
        rw [← scells_append, List.append_assoc, List.singleton_append, show at' + 1 + (n - at') = n + 1 by omega] at ho
        refine u_new ?_ ho hb
        simp only [execOp, resolve, invoke, builtin, Sem.run_bind, Sem.run_pure, Result.andThen_ok, List.map_toArray, List.map_cons, List.map_nil, e44, hr]
      · intro ρ wx hρ hbx hl
        have e45 : (ownsF w.heap.size 9 1 (n + 1) (scells (l.take at' ++ key :: l.drop at'))).p (ρ (.tmp 45)) wx := hl 11 (by decide +kernel) (.inl rfl) 45 rfl
        refine u_val (v := ρ (.tmp 45)) ?_ e45
        simp [execOp, go_sem]
      · intro ρ wx hρ hbx hl
        refine u_val (v := .bool true) ?_ rfl
        simp [execOp, hρ.const, go_sem]
      intro aa wz hdef hsz hlk hbz hf
      have ha := act_of_like hdef hsz hlk [34, 35, 36, 37, 38, 39, 40, 41, 42, 43, 44, 45, 4, 5] 46 rfl (by decide +kernel)
      have e35 : aa.tmps.getD 35 undef = .slice a n cap := hf 1 _ 35 rfl rfl rfl
      have e36 : aa.tmps.getD 36 undef = .int .i64 (at' : Int) := hf 2 _ 36 rfl rfl rfl
      have e37 : aa.tmps.getD 37 undef = .slice a at' cap := hf 3 _ 37 rfl rfl rfl
      have e39 : aa.tmps.getD 39 undef = .string key := hf 5 _ 39 rfl rfl rfl
      have e42 : aa.tmps.getD 42 undef = .slice a n cap := hf 8 _ 42 rfl rfl rfl
      have e43 : aa.tmps.getD 43 undef = .int .i64 (at' : Int) := hf 9 _ 43 rfl rfl rfl
      have e44 : aa.tmps.getD 44 undef = .slice (behind a at' cap) (n - at') (cap - at') := hf 10 _ 44 rfl rfl rfl
      have e45 : (ownsF w.heap.size 9 1 (n + 1) (scells (l.take at' ++ key :: l.drop at'))).p (aa.tmps.getD 45 undef) wz := hf 11 _ 45 rfl rfl rfl
      generalize hv45 : aa.tmps.getD 45 undef = v45 at e45
      have e4 : (ownsF w.heap.size 9 1 (n + 1) (scells (l.take at' ++ key :: l.drop at'))).p (aa.tmps.getD 4 undef) wz := hf 12 _ 4 rfl rfl rfl
      generalize hv4 : aa.tmps.getD 4 undef = v4 at e4
      have e5 : aa.tmps.getD 5 undef = .bool true := hf 13 _ 5 rfl rfl rfl
      simp only [putAll, List.foldl_cons, List.foldl_nil, e35, e36, e37, e39, e42, e43, e44, hv45, hv4, e5] at ha
      generalize aa.tmps.getD 34 undef = v34 at ha
      generalize aa.tmps.getD 38 undef = v38 at ha
      generalize aa.tmps.getD 40 undef = v40 at ha
      generalize aa.tmps.getD 41 undef = v41 at ha
      simp [Act.put] at ha
      subst ha
      clear hdef hsz hlk hf e35 e36 e37 e39 e42 e43 e44 hv45 hv4 e5
      have HB := Lib.hid hbz
      have hlen : (l.take at' ++ key :: l.drop at').length = n + 1 := by
        have := HLL.out
        simp
        omega
      obtain ⟨a9, c9, hv9, _, _⟩ := (ownsRow.reads e4).le
      subst hv9
      have HW := Lib.hid (owns_lower e4 hB)
      clear e45 e4 hbz
      go_wp2
      go_ret2
      exact ⟨_, _, rfl, by rw [HP.out, hlen]; exact HW.out, HB.out⟩
end Go.Proofs.Ytcglkdmfbnpniaa
