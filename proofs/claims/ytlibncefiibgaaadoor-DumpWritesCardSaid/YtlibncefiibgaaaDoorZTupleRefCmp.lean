import Derived.Test.YtlibncefiibgaaaDoorZTupleCmp2
namespace Go.Proofs.YtlibncefiibgaaaDoor
open Go Go.RowKit

/-- the slot holds a slice of the strings l -/
def strsF (l : List ByteArray) : SlotFact := ⟨fun v w => ∃ b, v = .slice (some ⟨b, 0, none⟩) 6 6 ∧ Reads w 1 (.slice (some ⟨b, 0, none⟩) 6 6) 6 (scells l), fun _ _ _ ⟨b, e, h⟩ hb => ⟨b, e, h.below' hb⟩⟩

def RcmpRel (p q : List ByteArray) (i : Value) : Prop := ∃ k : Nat, i = .int .i64 (k : Int) ∧ k ≤ 6 ∧ cmpBs p q = cmpBs (p.drop k) (q.drop k)

set_option maxRecDepth 100000 in
set_option maxHeartbeats 1000000 in
theorem refcmp_any (w : World) (p q : Six) : Calls Tryd.prog 30 #[p.val, q.val] w (GivesInt w (cmpBs p.list q.list)) := by
  unfold Six.val
  go_enter Tryd.func30, Tryd.ntmps30
  go_wp2_with fail
  have hbx : (w.alloc (.cells #[.string p.a, .string p.b, .string p.c, .string p.d, .string p.e, .string p.f] 37)).heap[w.heap.size]? = some (.cells (scells p.list).toArray 37 (0, 0)) := heap_alloc_new w _
  have hbp := (Below.heap_alloc (w.alloc (.cells #[.string p.a, .string p.b, .string p.c, .string p.d, .string p.e, .string p.f] 37)) (.cells #[.string q.a, .string q.b, .string q.c, .string q.d, .string q.e, .string q.f] 37) w.heap.size (by simp)).trans hbx
  have hbq : ((w.alloc (.cells #[.string p.a, .string p.b, .string p.c, .string p.d, .string p.e, .string p.f] 37)).alloc (.cells #[.string q.a, .string q.b, .string q.c, .string q.d, .string q.e, .string q.f] 37)).heap[w.heap.size + 1]? = some (.cells (scells q.list).toArray 37 (0, 0)) := by
    have := heap_alloc_new (w.alloc (.cells #[.string p.a, .string p.b, .string p.c, .string p.d, .string p.e, .string p.f] 37)) (.cells #[.string q.a, .string q.b, .string q.c, .string q.d, .string q.e, .string q.f] 37)
    simpa [scells, Six.list] using this
  have hb0 : Below w.heap.size w ((w.alloc (.cells #[.string p.a, .string p.b, .string p.c, .string p.d, .string p.e, .string p.f] 37)).alloc (.cells #[.string q.a, .string q.b, .string q.c, .string q.d, .string q.e, .string q.f] 37)) := ((Below.refl _ _).alloc (Nat.le_refl _) _).alloc (by simp) _
  generalize ((w.alloc (.cells #[.string p.a, .string p.b, .string p.c, .string p.d, .string p.e, .string p.f] 37)).alloc (.cells #[.string q.a, .string q.b, .string q.c, .string q.d, .string q.e, .string q.f] 37)) = w0 at *
  have hp0 : w.heap.size < w0.heap.size := (Array.getElem?_eq_some_iff.1 hbp).1
  have hq0 : w.heap.size + 1 < w0.heap.size := (Array.getElem?_eq_some_iff.1 hbq).1
  refine wp_region_all (by kernel_rfl) [eqF p.val, strsF p.list, eqF q.val, strsF q.list, strsF p.list, strsF q.list] (by kernel_rfl) ⟨?_, ?_, ?_, ?_, ?_, ?_, trivial⟩ ⟨trivial, trivial, trivial, trivial, trivial, trivial, trivial⟩ ?_
  · intro ρ wx hρ hbx hl
    have e2 : ρ (.tmp 2) = .pointer (some ⟨w.heap.size, 0, none⟩) := hρ.tmp 2 (by decide +kernel)
    obtain ⟨k0, k1, k2, k3, k4, k5⟩ := six_cells' (below_block hbx hbp hp0)
    refine y_val (v := p.val) ?_ rfl
    simp [execOp, go_sem, e2, k0, k1, k2, k3, k4, k5, Six.val]
  · intro ρ wx hρ hbx hl
    have e8 : ρ (.tmp 8) = p.val := hl 0 (by decide +kernel) 8 rfl
    refine y_call (f := 13) (args := #[p.val]) (by simp [execOp, resolve, invoke, hρ.func, go_sem, e8]) ?_
    refine (refparts_any wx p).mono ?_
    rintro e w6 ⟨b, rfl, r, b6⟩
    exact ⟨_, rfl, ⟨b, rfl, r⟩, b6⟩
  · intro ρ wx hρ hbx hl
    have e3 : ρ (.tmp 3) = .pointer (some ⟨w.heap.size + 1, 0, none⟩) := hρ.tmp 3 (by decide +kernel)
    obtain ⟨k0, k1, k2, k3, k4, k5⟩ := six_cells' (below_block hbx hbq hq0)
    refine y_val (v := q.val) ?_ rfl
    simp [execOp, go_sem, e3, k0, k1, k2, k3, k4, k5, Six.val]
  · intro ρ wx hρ hbx hl
    have e10 : ρ (.tmp 10) = q.val := hl 2 (by decide +kernel) 10 rfl
    refine y_call (f := 13) (args := #[q.val]) (by simp [execOp, resolve, invoke, hρ.func, go_sem, e10]) ?_
    refine (refparts_any wx q).mono ?_
    rintro e w6 ⟨b, rfl, r, b6⟩
    exact ⟨_, rfl, ⟨b, rfl, r⟩, b6⟩
  · intro ρ wx hρ hbx hl
    obtain ⟨b, e9, r⟩ : (strsF p.list).p (ρ (.tmp 9)) wx := hl 1 (by decide +kernel) 9 rfl
    refine y_val (v := .slice (some ⟨b, 0, none⟩) 6 6) ?_ ⟨b, rfl, r⟩
    simp [execOp, go_sem, e9]
  · intro ρ wx hρ hbx hl
    obtain ⟨b, e11, r⟩ : (strsF q.list).p (ρ (.tmp 11)) wx := hl 3 (by decide +kernel) 11 rfl
    refine y_val (v := .slice (some ⟨b, 0, none⟩) 6 6) ?_ ⟨b, rfl, r⟩
    simp [execOp, go_sem, e11]
  · intro aa wz hdef hsz hlk hbz hf
    have ha := act_of_like hdef hsz hlk [5, 6, 8, 9, 10, 11] 36 rfl (by decide +kernel)
    have e8 : aa.tmps.getD 8 undef = p.val := hf 0 _ 8 rfl rfl
    have e10 : aa.tmps.getD 10 undef = q.val := hf 2 _ 10 rfl rfl
    obtain ⟨b9, e9, _⟩ : (strsF p.list).p (aa.tmps.getD 9 undef) wz := hf 1 _ 9 rfl rfl
    obtain ⟨b11, e11, _⟩ : (strsF q.list).p (aa.tmps.getD 11 undef) wz := hf 3 _ 11 rfl rfl
    obtain ⟨b5, e5, r5⟩ : (strsF p.list).p (aa.tmps.getD 5 undef) wz := hf 4 _ 5 rfl rfl
    obtain ⟨b6, e6, r6⟩ : (strsF q.list).p (aa.tmps.getD 6 undef) wz := hf 5 _ 6 rfl rfl
    simp only [putAll, List.foldl_cons, List.foldl_nil, e5, e6, e8, e9, e10, e11] at ha
    have hb := hb0.trans (hbz.mono hb0.size)
    have HB := Lib.hid hb
    have HP := Lib.hid r5
    have HQ := Lib.hid r6
    simp [Act.put] at ha
    subst ha
    clear hdef hsz hlk hf hb r5 r6 e5 e6 e8 e9 e10 e11 hbx hbp hbq hb0 hp0 hq0 hbz
    have hlp : p.list.length = 6 := rfl
    have hlq : q.list.length = 6 := rfl
    generalize p.list = P at *
    generalize q.list = Q at *
    have HLp := Lib.hid hlp
    have HLq := Lib.hid hlq
    clear hlp hlq
    unfold Six.val
    go_wp2
    go_loopw [7, 14] (fun _ i wr => RcmpRel P Q i ∧ ∃ m, wr = wz.drewN m) (fun _ i _ => 6 - (intOf i).toNat)
    case atStart => exact ⟨⟨0, rfl, by decide, by simp⟩, 0, rfl⟩
    case round =>
      obtain ⟨⟨k, rfl, hk, heq⟩, m, hm⟩ := hrel
      have HBr := Lib.hid (HB.out.trans ((below_drewN wz m).mono HB.out.size))
      have HPr := Lib.hid (HP.out.below' (below_drewN wz m))
      have HQr := Lib.hid (HQ.out.below' (below_drewN wz m))
      rw [← hm] at HBr HPr HQr
      have HM := Lib.hid hm
      clear hm
      by_cases hlt : k < 6
      · obtain ⟨c1, o1, x, q1, hx, _, cx⟩ := HPr.out.scell k hlt
        obtain ⟨c2, o2, y, q2, hy, _, cy⟩ := HQr.out.scell k hlt
        cases q1
        cases q2
        rw [Nat.zero_add] at cx cy
        have hstep : cmpBs (P.drop k) (Q.drop k) = if Op.bytesLess x.toList y.toList then -1 else if x.toList == y.toList then cmpBs (P.drop (k + 1)) (Q.drop (k + 1)) else 1 := by
          have kp : k < P.length := (List.getElem?_eq_some_iff.1 hx).1
          have kq : k < Q.length := (List.getElem?_eq_some_iff.1 hy).1
          rw [List.drop_eq_getElem_cons kp, List.drop_eq_getElem_cons kq, cmpBs]
          rw [List.getElem?_eq_getElem kp] at hx
          rw [List.getElem?_eq_getElem kq] at hy
          cases hx
          cases hy
          unfold cmpB
          split
          · rfl
          · split <;> simp
        rw [hstep] at heq
        clear hstep hx hy
        cases hl : Op.bytesLess x.toList y.toList with
        | true =>
          rw [hl, if_pos rfl] at heq
          have HEq := Lib.hid heq
          clear heq
          go_wp2_with fail
          go_quiet (fail)
          go_wp2
          go_ret
          rw [HEq.out]
          exact ⟨rfl, HBr.out.trans ((below_drewN wr nq).mono HBr.out.size)⟩
        | false =>
          cases he : (x.toList == y.toList) with
          | true =>
            rw [hl, he, if_neg (by decide), if_pos rfl] at heq
            have HEq := Lib.hid heq
            clear heq
            go_wp2_with fail
            go_quiet (fail)
            go_wp2_with fail
            have cx7 : (wr.drewN nq).cell? ⟨b5, k, none⟩ = some (.string x) := cx
            have cy7 : (wr.drewN nq).cell? ⟨b6, k, none⟩ = some (.string y) := cy
            have hs7 : ∃ m, wr.drewN nq = wz.drewN m := ⟨m + nq, by rw [HM.out, World.drewN_drewN]⟩
            generalize wr.drewN nq = w7 at *
            have HS7 := Lib.hid hs7
            clear hs7 cx cy
            go_quiet (fail)
            go_wp2
            obtain ⟨m7, hm7⟩ := HS7.out
            exact ⟨⟨⟨k + 1, by go_num, by omega, HEq.out⟩, m7 + nq, by rw [hm7, World.drewN_drewN]⟩, by simp [intOf]; omega⟩
          | false =>
            rw [hl, he, if_neg (by decide), if_neg (by decide)] at heq
            have HEq := Lib.hid heq
            clear heq
            go_wp2_with fail
            go_quiet (fail)
            go_wp2_with fail
            have cx7 : (wr.drewN nq).cell? ⟨b5, k, none⟩ = some (.string x) := cx
            have cy7 : (wr.drewN nq).cell? ⟨b6, k, none⟩ = some (.string y) := cy
            have hs7 : ∃ m, wr.drewN nq = wz.drewN m := ⟨m + nq, by rw [HM.out, World.drewN_drewN]⟩
            generalize wr.drewN nq = w7 at *
            have HS7 := Lib.hid hs7
            clear hs7 cx cy
            go_quiet (fail)
            go_wp2
            go_ret
            rw [HEq.out]
            obtain ⟨m7, hm7⟩ := HS7.out
            rw [hm7, World.drewN_drewN]
            exact ⟨rfl, HB.out.trans ((below_drewN wz _).mono HB.out.size)⟩
      · obtain rfl : k = 6 := by omega
        have h0 : cmpBs P Q = 0 := by
          rw [heq, List.drop_of_length_le (by rw [HLp.out]; exact Nat.le_refl _)]
          simp [cmpBs]
        have H0 := Lib.hid h0
        clear heq h0
        go_wp2
        go_ret
        rw [H0.out]
        exact ⟨rfl, HBr.out⟩
end Go.Proofs.YtlibncefiibgaaaDoor
