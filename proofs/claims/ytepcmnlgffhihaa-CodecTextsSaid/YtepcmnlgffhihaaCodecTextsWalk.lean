import Derived.Test.YtepcmnlgffhihaaCodecFixed
import Derived.Test.YtepcmnlgffhihaaTextsGet
import Derived.Test.YtepcmnlgffhihaaDrawnAct
namespace Go.Proofs.Ytepcmnlgffhihaa
open Go.RowKit

set_option maxRecDepth 100000 in
set_option maxHeartbeats 2000000 in
theorem codecTexts_walk (w : World) (a : Option Addr) (n cap : Nat) (l : List UInt8) (s : ByteArray) (a2 : Option Addr) (n2 cap2 : Nat) (l2 : List UInt8) (h : Reads w 1 (.slice a n cap) n (bcells l)) (h2 : Reads w 1 (.slice a2 n2 cap2) n2 (bcells l2)) :
    Calls Try.prog 10 #[.slice a n cap, .string s, .slice a2 n2 cap2] w (SaysTrue w) := by
  obtain ⟨i0, hi, hz0, hz1, hz2⟩ := info_parts info5
  obtain ⟨_, _, hv, h11, h12⟩ := h.le
  cases hv
  obtain ⟨_, _, hv, h21, h22⟩ := h2.le
  cases hv
  unfold maxLen at h12 h22
  have hll : l.length = n := by simpa [bcells_length] using h.1
  have hll2 : l2.length = n2 := by simpa [bcells_length] using h2.1
  have Hll := Lib.hid hll
  have Hll2 := Lib.hid hll2
  clear hll hll2
  by_cases hbig : 2000 < n
  · have hb' : (2000 : Int) < n := by omega
    go_enter Try.func10, Try.ntmps10
    go_wp2_with (go_at_call 55; go_must (refine (codec_fixed w).mono ?_))
    rintro e w1 ⟨rfl, b1⟩
    go_wp2
    go_ret
    exact ⟨rfl, b1⟩
  have hb' : ¬ (2000 : Int) < n := by omega
  by_cases hbigs : 2000 < s.size
  · have hbs' : (2000 : Int) < s.size := by omega
    go_enter Try.func10, Try.ntmps10
    go_wp2_with (go_at_call 55; go_must (refine (codec_fixed w).mono ?_))
    rintro e w1 ⟨rfl, b1⟩
    go_wp2
    go_ret
    exact ⟨rfl, b1⟩
  have hbs' : ¬ (2000 : Int) < s.size := by omega
  by_cases hbig2 : 2000 < n2
  · have hb2' : (2000 : Int) < n2 := by omega
    go_enter Try.func10, Try.ntmps10
    go_wp2_with (go_at_call 55; go_must (refine (codec_fixed w).mono ?_))
    rintro e w1 ⟨rfl, b1⟩
    go_wp2
    go_ret
    exact ⟨rfl, b1⟩
  have hb2' : ¬ (2000 : Int) < n2 := by omega
  go_enter Try.func10, Try.ntmps10
  go_wp2_with (go_at_call 55; go_must (refine (codec_fixed w).mono ?_))
  rintro e w1 ⟨rfl, b1⟩
  have r1 := h.below' b1
  have m1 := h2.below' b1
  have hsrc := Reads.src (P := Try.prog) (tx := 22) Try.underlying22 (r1.alloc (.cells #[] 5)) (bcells_one l)
  have hf0 := fresh_empty w1 5 1
  have bs1 := b1.size
  go_wp2_with (at_builtin; go_must (refine wpList_append_fresh rfl _ _ 22 22 rfl w1.heap.size 5 i0 (.int .u8 0) 1 1 Try.underlying22 hi hz0 hz1 hz2 rfl _ _ _ rfl hf0 _ _ _ rfl hsrc ?_ ?_ ?_ ?_))
  · unfold maxLen; omega
  · omega
  · simp
  intro v2 w2 f2 g2 b2 _
  have b3 : Below w1.heap.size w1 w2 := ((Below.refl _ _).alloc (Nat.le_refl _) _).trans b2
  have bs2 := b3.size
  have r2 := r1.below' b3
  have m2 := m1.below' b3
  have F2 : Reads w2 1 v2 n (bcells l) := by simpa using f2.1
  clear hsrc hf0 g2 b2 f2 h h2 r1 m1
  go_wp2_with (go_at_call 59; go_must (refine (puttext_any w2 v2 l s (by rw [Hll.out]; exact F2) (by rw [Hll.out]; omega) (by omega)).mono ?_))
  rintro e w3 ⟨v3, rfl, f3, b4⟩
  have hep := enc_pos s.size
  have hel := enc_length_le 9 s.size (by omega)
  have hsl : s.data.toList.length = s.size := Array.length_toList
  have hm : (l ++ enc s.size ++ s.data.toList).length = n + (enc s.size).length + s.size := by rw [List.length_append, List.length_append, Hll.out, hsl]
  have hdrop : (l ++ enc s.size ++ s.data.toList).drop n = enc s.size ++ s.data.toList := by rw [List.append_assoc, ← Hll.out, List.drop_left]
  generalize hL : l ++ enc s.size ++ s.data.toList = L at f3 hm hdrop
  have HL := Lib.hid hL
  have Hsl := Lib.hid hsl
  have Hdrop := Lib.hid hdrop
  clear hL hsl hdrop
  generalize hM : L.length = M at f3 hm
  have HM := Lib.hid hM
  clear hM
  have hM1 : n < M := by omega
  have hM2 : M ≤ 5000 := by omega
  generalize hk : (enc s.size).length = k at *
  have Hk := Lib.hid hk
  clear hk
  have Hm := Lib.hid hm
  clear hm
  obtain ⟨bb, off, cap3, rfl, h31, h32, _, _⟩ := f3.1.head (by omega)
  unfold maxLen at h32
  have r3 := r2.below' b4
  have m3 := m2.below' b4
  have F3 := Lib.hid f3
  have R3 := Lib.hid r3
  have b5 := b3.trans (b4.mono bs2)
  have bs5 := b5.size
  clear r2 m2 r3 f3 F2 b3 b4
  go_wp2_with fail
  refine wp_region_all (by kernel_rfl) [eqF (.slice (some ⟨bb, off, none⟩) M cap3), eqF (.string ⟨L.toArray⟩), eqF (.slice a n cap), eqF (.string s), bytesF L, eqF (.string ⟨L.toArray⟩), eqF (.bool false)] (by kernel_rfl) ⟨?_, ?_, ?_, ?_, ?_, ?_, ?_, trivial⟩ ⟨trivial, trivial, trivial, trivial, trivial, trivial, trivial, trivial⟩ ?_
  · intro ρ wx hρ hbx hl
    have e7 : ρ (.tmp 7) = .slice (some ⟨bb, off, none⟩) M cap3 := hρ.tmp 7 (by decide +kernel)
    refine y_val (v := .slice (some ⟨bb, off, none⟩) M cap3) ?_ rfl
    simp [execOp, go_sem, e7]
  · intro ρ wx hρ hbx hl
    have e31 : ρ (.tmp 31) = .slice (some ⟨bb, off, none⟩) M cap3 := hl 0 (by decide +kernel) 31 rfl
    have hc := Reads.conv (P := Try.prog) (src := 22) (e := 5) (dst := 9) Try.underlying22 Try.underlying5 Try.underlying9 (F3.out.1.below' hbx)
    refine y_val (v := .string ⟨L.toArray⟩) ?_ rfl
    simp [execOp, e31, hc]
  · intro ρ wx hρ hbx hl
    have e0 : ρ (.tmp 0) = .slice a n cap := hρ.tmp 0 (by decide +kernel)
    refine y_val (v := .slice a n cap) ?_ rfl
    simp [execOp, go_sem, e0]
  · intro ρ wx hρ hbx hl
    have e1 : ρ (.tmp 1) = .string s := hρ.tmp 1 (by decide +kernel)
    refine y_val (v := .string s) ?_ rfl
    simp [execOp, go_sem, e1]
  · intro ρ wx hρ hbx hl
    have e33 : ρ (.tmp 33) = .slice a n cap := hl 2 (by decide +kernel) 33 rfl
    have e34 : ρ (.tmp 34) = .string s := hl 3 (by decide +kernel) 34 rfl
    refine y_call (f := 60) (args := #[.slice a n cap, .string s]) (by simp [execOp, resolve, invoke, hρ.func, go_sem, e33, e34]) ?_
    refine (refputtext_any wx _ l s (by rw [Hll.out]; exact R3.out.below' hbx) (by rw [Hll.out]; omega) (by omega)).mono ?_
    rintro e w6 ⟨v6, rfl, f6, b6⟩
    exact ⟨v6, rfl, ⟨_, by rw [← HL.out]; exact f6.1⟩, b6⟩
  · intro ρ wx hρ hbx hl
    have e35 := hl 4 (by decide +kernel) 35 rfl
    obtain ⟨k, hk⟩ := e35
    have hc := Reads.conv (P := Try.prog) (src := 22) (e := 5) (dst := 9) Try.underlying22 Try.underlying5 Try.underlying9 (hk)
    refine y_val (v := .string ⟨L.toArray⟩) ?_ rfl
    simp [execOp, hc]
  · intro ρ wx hρ hbx hl
    have e32 : ρ (.tmp 32) = .string ⟨L.toArray⟩ := hl 1 (by decide +kernel) 32 rfl
    have e36 : ρ (.tmp 36) = .string ⟨L.toArray⟩ := hl 5 (by decide +kernel) 36 rfl
    refine y_val (v := .bool false) ?_ rfl
    simp [execOp, go_sem, e32, e36]
  · intro aa wz hdef hsz hlk hbz hf
    have ha := act_of_like hdef hsz hlk [31, 32, 33, 34, 35, 36, 37] 67 rfl (by decide +kernel)
    have e31 : aa.tmps.getD 31 undef = .slice (some ⟨bb, off, none⟩) M cap3 := hf 0 _ 31 rfl rfl
    have e32 : aa.tmps.getD 32 undef = .string ⟨L.toArray⟩ := hf 1 _ 32 rfl rfl
    have e33 : aa.tmps.getD 33 undef = .slice a n cap := hf 2 _ 33 rfl rfl
    have e34 : aa.tmps.getD 34 undef = .string s := hf 3 _ 34 rfl rfl
    have e36 : aa.tmps.getD 36 undef = .string ⟨L.toArray⟩ := hf 5 _ 36 rfl rfl
    have e37 : aa.tmps.getD 37 undef = .bool false := hf 6 _ 37 rfl rfl
    simp only [putAll, List.foldl_cons, List.foldl_nil, e31, e32, e33, e34, e36, e37] at ha
    generalize aa.tmps.getD 35 undef = v35 at ha
    simp [Act.put] at ha
    subst ha
    clear hdef hsz hlk hf e31 e32 e33 e34 e36 e37
    have f4 := F3.out.1.below' hbz
    have m4 := m3.below' hbz
    have r5 := (f4.skip n (by omega)).alloc (.cells #[] 5)
    rw [Hdrop.out] at r5
    have bsz := hbz.size
    have b6 : Below w.heap.size w wz := (b1.trans (b5.mono bs1)).trans (hbz.mono (by omega))
    have hsrc := Reads.src (P := Try.prog) (tx := 22) Try.underlying22 r5 (bcells_one _)
    have hf0 := fresh_empty wz 5 1
    have hcn : ¬ ((cap3 : Int) = n) := by omega
    have hnM : (n : Int) ≤ M := by omega
    go_wp2_with (at_builtin; go_must (refine wpList_append_fresh rfl _ _ 22 22 rfl wz.heap.size 5 i0 (.int .u8 0) 1 1 Try.underlying22 hi hz0 hz1 hz2 rfl _ _ _ rfl hf0 _ _ _ rfl hsrc ?_ ?_ ?_ ?_))
    · unfold maxLen; omega
    · omega
    · simp
    intro v5 w5 f5 g5 b7 _
    have b8 : Below wz.heap.size wz w5 := ((Below.refl _ _).alloc (Nat.le_refl _) _).trans b7
    have m5 := m4.below' b8
    have f5' : Fresh wz.heap.size w5 5 1 v5 (M - n) (bcells (enc s.size ++ s.data.toList)) := by simpa using f5
    have hsrc2 := Reads.src (P := Try.prog) (tx := 22) Try.underlying22 m5 (bcells_one _)
    have bs8 := b8.size
    clear hsrc hf0 g5 b7 f5 f4 m4 r5
    go_wp2_with (at_builtin; go_must (refine wpList_append_fresh rfl _ _ 22 22 rfl wz.heap.size 5 i0 (.int .u8 0) 1 1 Try.underlying22 hi hz0 hz1 hz2 rfl _ _ _ rfl f5' _ _ _ rfl hsrc2 ?_ ?_ ?_ ?_))
    · unfold maxLen; omega
    · omega
    · exact bs8
    intro v6 w6 f6 g6 b9 _
    rw [← bcells_append] at f6
    have hb : Below w.heap.size w w6 := b6.trans ((b8.trans b9).mono b6.size)
    have Hb := Lib.hid hb
    have hg := gettext_good w6 v6 (M - n + n2) s.data.toList l2 (by rw [Hsl.out]; exact f6.1) (by rw [Hsl.out]; omega)
    rw [Hsl.out, Hk.out] at hg
    have Hg := Lib.hid hg
    have hmm : (k : Int) + s.size = (M : Int) - n := by have := Hm.out; omega
    clear hg hb f6 g6 b9 b8 f5' m5 hsrc2 b6
    go_wp2_with (go_at_call 61; go_must (refine Hg.out.mono ?_))
    rintro e w7 ⟨rfl, rfl⟩
    rw [show (⟨s.data.toList.toArray⟩ : ByteArray) = s from by cases s; simp, Hsl.out, show ((k + s.size : Nat) : Int) = (M : Int) - n from by omega]
    go_wp2
    go_ret
    exact ⟨by simp, Hb.out⟩
end Go.Proofs.Ytepcmnlgffhihaa
