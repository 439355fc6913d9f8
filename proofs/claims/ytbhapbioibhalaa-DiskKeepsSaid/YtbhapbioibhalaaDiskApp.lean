/- Append. -/
import Derived.Test.YtbhapbioibhalaaDiskIo2
namespace Go.Proofs.Ytbhapbioibhalaa
open Go Go.RowKit Go.Maps

variable {W : World} {B d : Nat} {S : Dk}

def appendE (S : Dk) (s : ByteArray) (n : Nat) : Int := if (findR S s).2 ≠ 0 then (findR S s).2 else if S.room < usedE S + n then 5 else S.burnE

theorem sumD_mem {fl : Nat → Fl} : ∀ {l : Dir} {p : ByteArray × Nat}, p ∈ l → (fl p.2).data.length ≤ sumD fl l
  | q :: l, p, h => by
    have h3 : sumD fl (q :: l) = (fl q.2).data.length + sumD fl l := by simp [sumD]
    rw [h3]
    rcases List.mem_cons.1 h with e | e
    · rw [e]; omega
    · have := sumD_mem (fl := fl) e
      omega
theorem find_up {S : Dk} {s : ByteArray} {g : Nat} (h : findR S s = (some g, 0)) : S.down = false := by
  have := find_ok (S := S) (s := s) (by rw [h])
  exact this.2.1

set_option maxRecDepth 100000 in
set_option maxHeartbeats 2000000 in
theorem append_any (h : DAt W B d S) (s : ByteArray) (hs : s.size ≤ 1000000000) (hn : S.dir.length ≤ 1000000) (v : Value) (l : List UInt8) (hr : Reads W 1 v l.length (bcells l)) (hl : l.length ≤ 1000000000) (hv : l ≠ [] → ∀ x, v.ownBlock = some x → x ∉ S.mine d) :
    Calls Try.prog 21 #[.pointer (some ⟨d, 0, none⟩), .string s, v] W (Ends W B d S (appendE S s l.length) (FileS S s (appendE S s l.length) fun f => ⟨f.data ++ l, f.safe⟩)) := by
  obtain ⟨i0, hi, hz0, hz1, hz2⟩ := info_parts info8
  obtain ⟨ba, bc, hve, hb1, hb2⟩ := hr.le
  subst hve
  obtain ⟨m, hm⟩ : ∃ m, l.length = m := ⟨_, rfl⟩
  rw [hm] at hr hl hb1 hv ⊢
  have HM := Lib.hid hm
  have HFi := Lib.hid (find_any h s hs)
  have HH := Lib.hid h
  have HR := Lib.hid hr
  have HV := Lib.hid hv
  have hdW : d < W.heap.size := (h.lt d (Dk.mine_d d S)).1
  clear h hr hm hv
  go_enter Try.func21, Try.ntmps21
  go_wp2_with (go_at_call 39; go_must (refine HFi.out.mono ?_))
  rintro e w1 ⟨rfl, b1⟩
  have h1 := HH.out.below b1
  rcases find_ways S s with ⟨g, hfr, hf⟩ | ⟨z, hz, hfr⟩
  · have HFr := Lib.hid hfr
    have HF := Lib.hid hf
    have HB := Lib.hid b1
    have HUs := Lib.hid (fun (w : World) (hb : Below w1.heap.size w1 w) => used_any (h1.below hb) hn)
    have HBu := Lib.hid (fun (w : World) (hb : Below w1.heap.size w1 w) => burn_any (h1.below hb))
    have c3 := Lib.cell_of_heap h1.cell 3
    simp [Dk.cells] at c3
    have hdlt : d < w1.heap.size := Nat.lt_of_lt_of_le hdW b1.size
    have hU := find_up hfr
    have hue : usedE S = sumD S.fl S.dir := by unfold usedE; rw [hU]; rfl
    have hub : usedE S ≤ 1000000 * 16777216 := by
      rw [hue]
      have h2 := sumD_le (fl := S.fl) (l := S.dir) fun p hp => (HH.out.fs _ (HH.out.dirmem p hp)).2.2.2
      have h3 : S.dir.length * 16777216 ≤ 1000000 * 16777216 := Nat.mul_le_mul_right _ hn
      exact Nat.le_trans h2 h3
    have hrm := HH.out.room
    have hmem : (S.fl g).data.length ≤ usedE S := by rw [hue]; exact sumD_mem (fileOf_mem hf)
    obtain ⟨U, hUe⟩ : ∃ U, usedE S = U := ⟨_, rfl⟩
    obtain ⟨R, hRe⟩ : ∃ R, S.room = R := ⟨_, rfl⟩
    rw [hUe] at HUs hub hmem
    rw [hRe] at c3 hrm
    have HUe := Lib.hid hUe
    have HRe := Lib.hid hRe
    have hsum : IntKind.i64.wrap ((U : Int) + (m : Int)) = (U : Int) + (m : Int) := by rw [IntKind.wrap_i64]; omega
    obtain ⟨bb, hbb⟩ : ∃ bb, decide ((R : Int) < (U : Int) + (m : Int)) = bb := ⟨_, rfl⟩
    rw [hfr]
    clear hfr hf b1 h1 hU hue hUe hRe
    simp only [fileV]
    go_upto_region 4 with fail
    refine wp_region_all (by kernel_rfl) [eqF (.pointer (some ⟨d, 0, none⟩)), eqF (.int .i64 (U : Int)), eqF (.slice ba m bc), eqF (.int .i64 (m : Int)), eqF (.int .i64 ((U : Int) + (m : Int))), eqF (.pointer (some ⟨d, 0, none⟩)), eqF (.pointer (some ⟨d, 0, none⟩)), eqF (.pointer (some ⟨d, 3, none⟩)), eqF (.int .i64 (R : Int)), eqF (.bool bb)] (by kernel_rfl) ⟨?_, ?_, ?_, ?_, ?_, ?_, ?_, ?_, ?_, ?_, trivial⟩ ⟨trivial, trivial, trivial, trivial, trivial, trivial, trivial, trivial, trivial, trivial, trivial⟩ ?_
    · intro ρ wx hρ hbx hl
      have e0 : ρ (.tmp 0) = .pointer (some ⟨d, 0, none⟩) := hρ.tmp 0 (by decide +kernel)
      refine y_val (v := .pointer (some ⟨d, 0, none⟩)) ?_ rfl
      simp [execOp, go_sem, e0]
    · intro ρ wx hρ hbx hl
      have e19 : ρ (.tmp 19) = .pointer (some ⟨d, 0, none⟩) := hl 0 (by decide +kernel) 19 rfl
      refine y_call (f := 13) (args := #[.pointer (some ⟨d, 0, none⟩)]) (by simp [execOp, resolve, invoke, hρ.func, go_sem, e19]) ?_
      refine (HUs.out wx hbx).mono ?_
      rintro e w6 ⟨rfl, b7⟩
      exact ⟨_, rfl, rfl, b7⟩
    · intro ρ wx hρ hbx hl
      have e2 : ρ (.tmp 2) = .slice ba m bc := hρ.tmp 2 (by decide +kernel)
      refine y_val (v := .slice ba m bc) ?_ rfl
      simp [execOp, go_sem, e2]
    · intro ρ wx hρ hbx hl
      have e21 : ρ (.tmp 21) = .slice ba m bc := hl 2 (by decide +kernel) 21 rfl
      refine y_val (v := .int .i64 (m : Int)) ?_ rfl
      simp [go_sem, e21]
    · intro ρ wx hρ hbx hl
      have e20 : ρ (.tmp 20) = .int .i64 (U : Int) := hl 1 (by decide +kernel) 20 rfl
      have e22 : ρ (.tmp 22) = .int .i64 (m : Int) := hl 3 (by decide +kernel) 22 rfl
      refine y_val (v := .int .i64 ((U : Int) + (m : Int))) ?_ rfl
      simp [execOp, go_sem, e20, e22, hsum]
    · intro ρ wx hρ hbx hl
      have e0 : ρ (.tmp 0) = .pointer (some ⟨d, 0, none⟩) := hρ.tmp 0 (by decide +kernel)
      refine y_val (v := .pointer (some ⟨d, 0, none⟩)) ?_ rfl
      simp [execOp, go_sem, e0]
    · intro ρ wx hρ hbx hl
      have e24 : ρ (.tmp 24) = .pointer (some ⟨d, 0, none⟩) := hl 5 (by decide +kernel) 24 rfl
      refine y_val (v := .pointer (some ⟨d, 0, none⟩)) ?_ rfl
      simp [execOp, go_sem, e24]
    · intro ρ wx hρ hbx hl
      have e25 : ρ (.tmp 25) = .pointer (some ⟨d, 0, none⟩) := hl 6 (by decide +kernel) 25 rfl
      refine y_val (v := .pointer (some ⟨d, 3, none⟩)) ?_ rfl
      simp [execOp, go_sem, e25]
    · intro ρ wx hρ hbx hl
      have e26 : ρ (.tmp 26) = .pointer (some ⟨d, 3, none⟩) := hl 7 (by decide +kernel) 26 rfl
      have kk := (hbx.cell (hdlt)).trans c3
      refine y_val (v := .int .i64 (R : Int)) ?_ rfl
      simp [execOp, go_sem, e26, kk]
    · intro ρ wx hρ hbx hl
      have e23 : ρ (.tmp 23) = .int .i64 ((U : Int) + (m : Int)) := hl 4 (by decide +kernel) 23 rfl
      have e27 : ρ (.tmp 27) = .int .i64 (R : Int) := hl 8 (by decide +kernel) 27 rfl
      refine y_val (v := .bool bb) ?_ rfl
      simp [execOp, go_sem, e23, e27, hbb]
    intro aa w3 hdef hsz hlk hbz hf
    have ha := act_of_like hdef hsz hlk [19, 20, 21, 22, 23, 24, 25, 26, 27, 28] 43 rfl (by decide +kernel)
    have e19 : aa.tmps.getD 19 undef = .pointer (some ⟨d, 0, none⟩) := hf 0 _ 19 rfl rfl
    have e20 : aa.tmps.getD 20 undef = .int .i64 (U : Int) := hf 1 _ 20 rfl rfl
    have e21 : aa.tmps.getD 21 undef = .slice ba m bc := hf 2 _ 21 rfl rfl
    have e22 : aa.tmps.getD 22 undef = .int .i64 (m : Int) := hf 3 _ 22 rfl rfl
    have e23 : aa.tmps.getD 23 undef = .int .i64 ((U : Int) + (m : Int)) := hf 4 _ 23 rfl rfl
    have e24 : aa.tmps.getD 24 undef = .pointer (some ⟨d, 0, none⟩) := hf 5 _ 24 rfl rfl
    have e25 : aa.tmps.getD 25 undef = .pointer (some ⟨d, 0, none⟩) := hf 6 _ 25 rfl rfl
    have e26 : aa.tmps.getD 26 undef = .pointer (some ⟨d, 3, none⟩) := hf 7 _ 26 rfl rfl
    have e27 : aa.tmps.getD 27 undef = .int .i64 (R : Int) := hf 8 _ 27 rfl rfl
    have e28 : aa.tmps.getD 28 undef = .bool bb := hf 9 _ 28 rfl rfl
    simp only [putAll, List.foldl_cons, List.foldl_nil, e19, e20, e21, e22, e23, e24, e25, e26, e27, e28] at ha
    simp [Act.put] at ha
    subst ha
    clear hdef hsz hlk hf e19 e20 e21 e22 e23 e24 e25 e26 e27 e28
    have HB3 := Lib.hid (HB.out.trans (hbz.mono HB.out.size))
    have HBu3 := Lib.hid (HBu.out w3 hbz)
    have HD3 := Lib.hid ((HH.out.below HB.out).below hbz)
    clear hbz c3 hsum HUs HBu
    cases bb with
    | true =>
      have he : appendE S s m = 5 := by unfold appendE; rw [HFr.out, if_neg (by simp), if_pos (by rw [HUe.out, HRe.out]; have := of_decide_eq_true hbb; omega)]
      have HE := Lib.hid he
      clear he hbb
      go_wp2
      go_ret
      exact ⟨by rw [HE.out]; rfl, Touch.of_below HB3.out _, S, .inl ⟨rfl, by rw [HE.out]; decide, .inr HE.out⟩, HD3.out⟩
    | false =>
      have hle := of_decide_eq_false hbb
      have he : appendE S s m = S.burnE := by unfold appendE; rw [HFr.out, if_neg (by simp), if_neg (by rw [HUe.out, HRe.out]; omega)]
      have HE := Lib.hid he
      clear he hbb
      go_wp2_with (go_at_call 44; go_must (refine HBu3.out.mono ?_))
      rintro e w4 ⟨rfl, hd4, t4⟩
      obtain ⟨e1, e2, e3, e4, e5, e6, e7, e8, e9, e10⟩ := burn_eqs S
      have hgin := HH.out.fileIn HF.out
      have hf4 := hd4.fs g (by rw [e7]; exact hgin)
      rw [e8, e9] at hf4
      have f0 := Lib.cell_of_heap hf4.1 0
      have ff := Lib.frozen_of_heap hf4.1
      obtain ⟨fa, fc, hfv, hfl, _⟩ := hf4.2.1.reads.le
      simp [hfv] at f0
      have hlt : g < w4.heap.size := (Array.getElem?_eq_some_iff.1 hf4.1).1
      have tt : Touch W w4 (S.mine d) := (Touch.of_below HB3.out _).same (t4.mono (by simp [Dk.mine]))
      have hsrc := Reads.src (P := Try.prog) (tx := 29) Try.underlying29 (touch_reads0 tt HR.out HV.out) (bcells_one l)
      have hBw : B ≤ w4.heap.size := Nat.le_trans (HH.out.lt d (Dk.mine_d d S)).2 (Nat.le_trans (Nat.le_of_lt hdW) tt.size)
      have hoa := hf4.2.1
      rw [hfv] at hoa
      have HD4 := Lib.hid hd4
      have HF4 := Lib.hid hf4
      have HT4 := Lib.hid tt
      have HEq := Lib.hid (And.intro e7 (And.intro e8 e9))
      have HG := Lib.hid hgin
      have HFv := Lib.hid hfv
      clear hd4 hf4 hfv tt t4 e1 e2 e3 e4 e5 e6 e7 e8 e9 e10 hgin
      rcases burnE_ways S with hbe | hbe
      · rw [hbe]
        have HBe := Lib.hid hbe
        clear hbe
        go_wp2_with (at_builtin; go_must (refine wpList_append_at_src rfl _ _ 29 29 rfl i0 (.int .u8 0) 1 Try.underlying29 hi hz0 hz1 hz2 rfl rfl hoa (.slice ba m bc) m (bcells l) rfl hsrc (by unfold maxLen; omega) (by omega) hBw ?_))
        intro v5 w5 o5 g5 b5 n5
        obtain ⟨a5, c5, hv5, _, _⟩ := o5.reads.le
        subst hv5
        have hgn : (Value.slice fa (S.fl g).data.length fc).ownBlock ≠ some g := fun e => (HH.out.apt.sm g HG.out g (by rw [HFv.out]; exact e)).2.2.2.1 HG.out
        have hg5 := (g5.block g hlt (fun e => hgn e.symm)).trans HF4.out.1
        have y0 := Lib.cell_of_heap hg5 0
        have yf := Lib.frozen_of_heap hg5
        simp at y0
        have hlt5 : g < w5.heap.size := (Array.getElem?_eq_some_iff.1 hg5).1
        have t5 : Touch w4 w5 (S.sl g).ownBlock.toList := by
          refine ⟨g5.os, g5.tape, g5.output, g5.size, fun k hk hn => g5.block k hk (fun e => hn ?_)⟩
          rw [HFv.out]
          exact Option.mem_toList.2 e.symm
        have t6 : Touch w4 (w5.setCell ⟨g, 0, none⟩ (.slice a5 ((S.fl g).data.length + m) c5)) (g :: (S.sl g).ownBlock.toList) := (t5.mono (fun x hx => List.mem_cons_of_mem _ hx)).setCell (.inl List.mem_cons_self) _
        have hlen : ((S.fl g).data ++ l).length = (S.fl g).data.length + m := by rw [List.length_append, HM.out]
        have hfin : DAt (w5.setCell ⟨g, 0, none⟩ (.slice a5 ((S.fl g).data.length + m) c5)) B d { S.burn with sl := updF S.burn.sl g (.slice a5 ((S.fl g).data.length + m) c5), fl := updF S.burn.fl g ⟨(S.fl g).data ++ l, (S.fl g).safe⟩ } := by
          refine HD4.out.setF (by rw [HEq.out.1]; exact HG.out) (by rw [HEq.out.2.1]; exact t6) ⟨by rw [heap_setCell_same _ g 0 _ _ _ hg5]; rfl, ?_, ?_, ?_⟩ ?_
          · rw [hlen, bcells_append]
            exact o5.keep (fun k cs hk => (Below.heap_setCell _ _ _ _ (ne_cells_cells hk hg5 (by decide))).trans hk)
          · show (S.fl g).safe ≤ ((S.fl g).data ++ l).length
            rw [hlen]
            have := HF4.out.2.2.1
            omega
          · show ((S.fl g).data ++ l).length ≤ 16777216
            rw [hlen]
            omega
          · rw [HEq.out.2.1, HFv.out]
            rcases n5 with e | e
            · exact .inl e
            · refine .inr fun x hx => ?_
              rw [e] at hx
              cases hx
              exact Nat.le_refl _
        rw [HEq.out.2.1, HEq.out.2.2] at hfin
        have HFin := Lib.hid hfin
        have HT6 := Lib.hid (HT4.out.same (t6.mono (fun x hx => by
          simp only [List.mem_cons, Option.mem_toList] at hx
          rcases hx with e | e
          · rw [e]; exact Dk.mine_g HG.out
          · exact Dk.mine_sl HG.out e)))
        clear hfin t5 t6 hlen hg5 o5 g5 b5 n5 hgn hsrc hoa
        go_wp2
        go_ret
        exact ⟨by rw [HE.out, HBe.out]; rfl, HT6.out, _, .inr ⟨g, HFr.out, HE.out, .inr ⟨HBe.out, _, rfl⟩⟩, HFin.out⟩
      · rw [hbe]
        have HBe := Lib.hid hbe
        clear hbe hsrc hoa
        go_wp2
        go_ret
        exact ⟨by rw [HE.out, HBe.out]; rfl, HT4.out, _, .inr ⟨g, HFr.out, HE.out, .inl ⟨by rw [HBe.out]; decide, rfl⟩⟩, HD4.out⟩
  · have he : appendE S s m = z := by unfold appendE; rw [hfr]; exact if_pos hz
    have HE := Lib.hid he
    have HB := Lib.hid b1
    have HZ := Lib.hid hz
    have H1 := Lib.hid h1
    have HFr := Lib.hid hfr
    rw [hfr]
    clear hfr b1 he h1
    simp only [fileV]
    go_wp2
    go_ret
    exact ⟨by rw [HE.out]; rfl, Touch.of_below HB.out _, S, .inl ⟨rfl, by rw [HE.out]; exact HZ.out, .inl (by rw [HE.out, HFr.out])⟩, H1.out⟩
end Go.Proofs.Ytbhapbioibhalaa
