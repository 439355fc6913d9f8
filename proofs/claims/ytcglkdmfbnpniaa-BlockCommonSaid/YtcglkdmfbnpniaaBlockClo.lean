/- Seek's closure. -/
import Derived.Test.YtcglkdmfbnpniaaBlockSearch
import Derived.Test.YtcglkdmfbnpniaaDrawnGuard
namespace Go.Proofs.Ytcglkdmfbnpniaa
open Go Go.RowKit

def cloB (data places want : List UInt8) (i : Nat) : Bool :=
  if (fromL data places i).1 = [] then true
  else match stepB (fromL data places i).1 [] with
    | none => true
    | some (_, k, _) => decide (0 < Lib.compareBytes k want)

theorem CurAt.fresh {B : Nat} {w w' : World} {g : Nat} {rest key : List UInt8} {sh : Nat} {bad : Bool} (h : CurAt B w g rest key sh bad) (b : Below w.heap.size w w') (hB : B ≤ w.heap.size) : CurAt B w' g rest key sh bad := by
  obtain ⟨rv, kv, h1, h2, h3, h4⟩ := h
  exact ⟨rv, kv, (b.block g (Array.getElem?_eq_some_iff.1 h1).1).trans h1, h2.below (b.mono hB), owns_below h3 b, h4⟩

/-- What stands in Seek's boxes. -/
structure Boxes (w : World) (d p k : Nat) (data places want : List UInt8) : Prop where
  data : ∃ a cap, w.heap[d]? = some (.cells #[.slice a data.length cap] 26 (0, 0)) ∧ Sl w.heap.size w (.slice a data.length cap) data
  places : ∃ a cap, w.heap[p]? = some (.cells #[.slice a places.length cap] 26 (0, 0)) ∧ Sl w.heap.size w (.slice a places.length cap) places
  want : ∃ a cap, w.heap[k]? = some (.cells #[.slice a want.length cap] 26 (0, 0)) ∧ Reads w 1 (.slice a want.length cap) want.length (bcells want)

theorem Sl.up {B B' : Nat} {w : World} {v : Value} {l : List UInt8} (h : Sl B w v l) (hB : B ≤ B') : Sl B' w v l :=
  h.imp id fun ⟨b, off, cap, h1, h2, h3⟩ => ⟨b, off, cap, h1, fun hl => Nat.lt_of_lt_of_le (h2 hl) hB, h3⟩

theorem Boxes.below {w w' : World} {d p k : Nat} {data places want : List UInt8} (h : Boxes w d p k data places want) (b : Below w.heap.size w w') : Boxes w' d p k data places want := by
  obtain ⟨⟨a1, c1, h1, s1⟩, ⟨a2, c2, h2, s2⟩, ⟨a3, c3, h3, s3⟩⟩ := h
  exact ⟨⟨a1, c1, (b.block d (Array.getElem?_eq_some_iff.1 h1).1).trans h1, (s1.below b).up b.size⟩, ⟨a2, c2, (b.block p (Array.getElem?_eq_some_iff.1 h2).1).trans h2, (s2.below b).up b.size⟩,
    ⟨a3, c3, (b.block k (Array.getElem?_eq_some_iff.1 h3).1).trans h3, s3.below' b⟩⟩

def GivesOver (B : Nat) (w : World) (v : Value) (e : Ending) (w' : World) : Prop := e = .returned v ∧ Below B w w'
def YesPost (B : Nat) (w : World) (g : Nat) (r k : List UInt8) (s : Nat) (bad : Bool) (e : Ending) (w' : World) : Prop := e = .returned (.bool true) ∧ CurAt B w' g r k s bad ∧ Below B w w'

set_option maxRecDepth 100000 in
set_option maxHeartbeats 2000000 in
theorem clo_any (w : World) (d p k : Nat) (data places want : List UInt8) (i : Nat) (h : Boxes w d p k data places want) (hi : 4 * i + 4 ≤ places.length) (hpl : places.length ≤ 100000000) (hdl : data.length ≤ 100000000) :
    Calls Try.prog 33 #[.int .i64 (i : Int), .pointer (some ⟨d, 0, none⟩), .pointer (some ⟨p, 0, none⟩), .pointer (some ⟨k, 0, none⟩)] w (GivesBool w (cloB data places want i)) := by
  obtain ⟨⟨a1, cap1, h1, s1⟩, ⟨a2, cap2, h2, s2⟩, ⟨a3, cap3, h3, s3⟩⟩ := h
  have b1 := Lib.cell_of_heap h1 0
  have b2 := Lib.cell_of_heap h2 0
  simp at b1 b2
  have hlt1 : d < w.heap.size := (Array.getElem?_eq_some_iff.1 h1).1
  have hlt2 : p < w.heap.size := (Array.getElem?_eq_some_iff.1 h2).1
  have hlt3 : k < w.heap.size := (Array.getElem?_eq_some_iff.1 h3).1
  have HFr := Lib.hid (from_any w _ _ data places i s1 s2 hi hpl)
  have H3 := Lib.hid h3
  have S3 := Lib.hid s3
  have hc : cloB data places want i = _ := rfl
  conv at hc => rhs; unfold cloB
  have hfl : (fromL data places i).1.length ≤ 100000000 := by
    unfold fromL
    split
    · simp
    · simp
      omega
  generalize fromL data places i = F at *
  obtain ⟨rest, bad⟩ := F
  simp only at hc hfl
  have HCl := Lib.hid hc
  clear h1 h2 h3 s1 s2 s3 hc
  go_enter Try.func33, Try.ntmps33
  go_wp2_with (go_at_call 34; go_must (refine HFr.out.mono ?_))
  rintro e w1 ⟨g, rfl, hcur, b4⟩
  have hsz := b4.size
  have HN := Lib.hid fun (W' : World) (hb : Below w1.heap.size w1 W') => next_any w.heap.size W' g rest [] 0 bad (hcur.fresh hb hsz) hfl (by simp)
  have HB4 := Lib.hid b4
  have hq3 := (b4.block k hlt3).trans H3.out
  have HQ3 := Lib.hid hq3
  have HS3 := Lib.hid (S3.out.below' b4)
  clear hcur b4 hq3 b1 b2 HFr
  by_cases hno : rest = [] ∨ stepB rest [] = none
  · have hcl : cloB data places want i = true := by
      rw [HCl.out]
      rcases hno with h | h
      · rw [if_pos h]
      · rw [h]
        split <;> rfl
    have HCl2 := Lib.hid hcl
    have HNo : Hid (∀ W', Below w1.heap.size w1 W' → Calls Try.prog 28 #[.pointer (some ⟨g, 0, none⟩)] W' (GivesOver w.heap.size W' (.bool false))) := Lib.hid fun W' hb => (HN.out W' hb).mono fun e w' hp => by
      rcases hp with ⟨_, h2, _, h4⟩ | ⟨_, _, h2, _, h4⟩ | ⟨r, k2, s2, h0, h1, _⟩
      · exact ⟨h2, h4.low⟩
      · exact ⟨h2, h4.low⟩
      · rcases hno with h | h
        · exact absurd h h0
        · rw [h] at h1
          cases h1
    clear hno hcl HCl HN
    go_upto_region 2 with fail
    refine wp_region_gstate (by kernel_rfl) [.pointer (some ⟨g, 0, none⟩), .bool false, .bool true, .bool true, undef, undef, undef, undef, undef, undef, undef, .bool true, .bool true] (fun i => decide (i < 4) || decide (10 < i)) (by kernel_rfl) (fun L W' => (L 1 = false → Below w1.heap.size w1 W') ∧ Below w.heap.size w1 W') ?_ ⟨?_, ?_, ?_, ?_, ?_, ?_, ?_, ?_, ?_, ?_, ?_, ?_, ?_, trivial⟩ ?_
    · intro L hL
      exact ⟨fun _ => below_quiet (Below.refl _ w1) 1, below_quiet (Below.refl _ w1) 1⟩
    · refine ⟨rfl, fun ρ wx L hρ hL hd hl hI => ?_⟩
      rw [if_pos (by decide)]
      have e6 : ρ (.tmp 6) = .pointer (some ⟨g, 0, none⟩) := hρ.tmp 6 (by decide +kernel)
      refine s_val (v := .pointer (some ⟨g, 0, none⟩)) ?_ rfl ?_
      · simp [execOp, go_sem, e6]
      · exact ⟨fun h => hI.1 (by simpa [setL] using h), hI.2⟩
    · refine ⟨rfl, fun ρ wx L hρ hL hd hl hI => ?_⟩
      rw [if_pos (by decide)]
      have e11 : ρ (.tmp 11) = .pointer (some ⟨g, 0, none⟩) := hl 0 (by decide +kernel) 11 rfl
      refine s_call (f := 28) (args := #[.pointer (some ⟨g, 0, none⟩)]) (by simp [execOp, resolve, invoke, hρ.func, go_sem, e11]) ?_
      refine (HNo.out wx (hI.1 hL)).mono ?_
      rintro e w6 ⟨rfl, b6⟩
      exact ⟨rfl, fun h => by simp [setL] at h, hI.2.trans b6⟩
    · refine ⟨rfl, fun ρ wx L hρ hL hd hl hI => ?_⟩
      rw [if_pos (by decide)]
      have e12 : ρ (.tmp 12) = .bool false := hl 1 (by decide +kernel) 12 rfl
      refine s_val (v := .bool true) ?_ rfl ?_
      · simp [execOp, go_sem, e12]
      · exact ⟨fun h => hI.1 (by simpa [setL] using h), hI.2⟩
    · refine ⟨rfl, fun ρ wx L hρ hL hd hl hI => ?_⟩
      rw [if_pos (by decide)]
      have e13 : ρ (.tmp 13) = .bool true := hl 2 (by decide +kernel) 13 rfl
      refine s_val (v := .bool true) ?_ rfl ?_
      · simp [execOp, go_sem, e13]
      · exact ⟨fun h => hI.1 (by simpa [setL] using h), hI.2⟩
    · refine ⟨⟨true, rfl, rfl⟩, fun ρ wx L hρ hL hd hl hI => ?_⟩
      rw [if_neg (by decide)]
      exact ⟨rfl, ⟨fun h => hI.1 (by simpa [setL] using h), hI.2⟩⟩
    · refine ⟨⟨true, rfl, rfl⟩, fun ρ wx L hρ hL hd hl hI => ?_⟩
      rw [if_neg (by decide)]
      exact ⟨rfl, ⟨fun h => hI.1 (by simpa [setL] using h), hI.2⟩⟩
    · refine ⟨⟨true, rfl, rfl⟩, fun ρ wx L hρ hL hd hl hI => ?_⟩
      rw [if_neg (by decide)]
      exact ⟨rfl, ⟨fun h => hI.1 (by simpa [setL] using h), hI.2⟩⟩
    · refine ⟨⟨true, rfl, rfl⟩, fun ρ wx L hρ hL hd hl hI => ?_⟩
      rw [if_neg (by decide)]
      exact ⟨rfl, ⟨fun h => hI.1 (by simpa [setL] using h), hI.2⟩⟩
    · refine ⟨⟨true, rfl, rfl⟩, fun ρ wx L hρ hL hd hl hI => ?_⟩
      rw [if_neg (by decide)]
      exact ⟨rfl, ⟨fun h => hI.1 (by simpa [setL] using h), hI.2⟩⟩
    · refine ⟨⟨true, rfl, rfl⟩, fun ρ wx L hρ hL hd hl hI => ?_⟩
      rw [if_neg (by decide)]
      exact ⟨rfl, ⟨fun h => hI.1 (by simpa [setL] using h), hI.2⟩⟩
    · refine ⟨⟨true, rfl, rfl⟩, fun ρ wx L hρ hL hd hl hI => ?_⟩
      rw [if_neg (by decide)]
      exact ⟨rfl, ⟨fun h => hI.1 (by simpa [setL] using h), hI.2⟩⟩
    · refine ⟨rfl, fun ρ wx L hρ hL hd hl hI => ?_⟩
      rw [if_pos (by decide)]
      have e14 : ρ (.tmp 14) = .bool true := hl 3 (by decide +kernel) 14 rfl
      have e21 : ρ (.tmp 21) = undef := hl 10 (by decide +kernel) 21 rfl
      refine s_val (v := .bool true) ?_ rfl ?_
      · simp [execOp, go_sem, e14, hρ.const]
      · exact ⟨fun h => hI.1 (by simpa [setL] using h), hI.2⟩
    · refine ⟨rfl, fun ρ wx L hρ hL hd hl hI => ?_⟩
      rw [if_pos (by decide)]
      have e22 : ρ (.tmp 22) = .bool true := hl 11 (by decide +kernel) 22 rfl
      refine s_val (v := .bool true) ?_ rfl ?_
      · simp [execOp, go_sem, e22]
      · exact ⟨fun h => hI.1 (by simpa [setL] using h), hI.2⟩
    · intro aa wz L hdef hsz hlk hL hI hf
      have ha := act_of_like hdef hsz hlk [11, 12, 13, 14, 15, 16, 17, 18, 19, 20, 21, 22, 5] 23 rfl (by decide +kernel)
      have e11 : aa.tmps.getD 11 undef = .pointer (some ⟨g, 0, none⟩) := hf 0 _ 11 rfl rfl
      have e12 : aa.tmps.getD 12 undef = .bool false := hf 1 _ 12 rfl rfl
      have e13 : aa.tmps.getD 13 undef = .bool true := hf 2 _ 13 rfl rfl
      have e14 : aa.tmps.getD 14 undef = .bool true := hf 3 _ 14 rfl rfl
      have e15 : aa.tmps.getD 15 undef = undef := hf 4 _ 15 rfl rfl
      have e16 : aa.tmps.getD 16 undef = undef := hf 5 _ 16 rfl rfl
      have e17 : aa.tmps.getD 17 undef = undef := hf 6 _ 17 rfl rfl
      have e18 : aa.tmps.getD 18 undef = undef := hf 7 _ 18 rfl rfl
      have e19 : aa.tmps.getD 19 undef = undef := hf 8 _ 19 rfl rfl
      have e20 : aa.tmps.getD 20 undef = undef := hf 9 _ 20 rfl rfl
      have e21 : aa.tmps.getD 21 undef = undef := hf 10 _ 21 rfl rfl
      have e22 : aa.tmps.getD 22 undef = .bool true := hf 11 _ 22 rfl rfl
      have e5 : aa.tmps.getD 5 undef = .bool true := hf 12 _ 5 rfl rfl
      simp only [putAll, List.foldl_cons, List.foldl_nil, e11, e12, e13, e14, e15, e16, e17, e18, e19, e20, e21, e22, e5] at ha
      simp [Act.put] at ha
      subst ha
      clear hdef hsz hlk hf hL
      have hB9 := hI.2
      go_wp2
      go_ret
      exact ⟨by rw [HCl2.out]; rfl, HB4.out.trans hB9⟩
  · have hr0 : rest ≠ [] := fun h => hno (.inl h)
    cases hst : stepB rest [] with
    | none => exact absurd (.inr hst) hno
    | some t =>
      obtain ⟨r2, k2, s2⟩ := t
      rw [if_neg hr0, hst] at HCl
      have HYes : Hid (∀ W', Below w1.heap.size w1 W' → Calls Try.prog 28 #[.pointer (some ⟨g, 0, none⟩)] W' (YesPost w.heap.size W' g r2 k2 s2 bad)) := Lib.hid fun W' hb => (HN.out W' hb).mono fun e w' hp => by
        rcases hp with ⟨h0, _⟩ | ⟨_, h1, _⟩ | ⟨r, k3, s3, _, h1, h2, h3, h4⟩
        · exact absurd h0 hr0
        · rw [hst] at h1
          cases h1
        · rw [hst] at h1
          cases h1
          exact ⟨h2, h3, h4.low⟩
      have HCl2 := HCl
      clear hno hst HCl HN
      obtain ⟨z, hz⟩ : ∃ z, z = Lib.compareBytes k2 want := ⟨_, rfl⟩
      have hcl3 : cloB data places want i = decide (0 < z) := by rw [HCl2.out, hz]
      obtain ⟨q, hq⟩ : ∃ q : Bool, decide (0 < z) = q := ⟨_, rfl⟩
      rw [hq] at hcl3
      have HCl3 := Lib.hid hcl3
      have HZ := Lib.hid hz
      clear hz hcl3 HCl2
      go_upto_region 2 with fail
      cases q with
      | true =>
        have hzI : (0 : Int) < z := of_decide_eq_true hq
        clear hq
        go_region_law (first
          | (go_simp; go_at_call 28; refine (HYes.out _ ?_).mono ?_; exact below_quiet (Below.refl _ _) 1; rintro e w2 ⟨rfl, hc2, hb2⟩; obtain ⟨rv, kv, hcc, _, hkk, _⟩ := hc2; obtain ⟨ka, kcap, rfl, _, _⟩ := (ownsRow.reads hkk).le; have c1 := Lib.cell_of_heap hcc 1; simp at c1; have hglt := (Array.getElem?_eq_some_iff.1 hcc).1; have hbw := HB4.out.trans ((below_quiet (Below.refl w.heap.size w1) 1).trans hb2); have hqq := (hbw.block k hlt3).trans H3.out; have q0 := Lib.cell_of_heap hqq 0; simp at q0; have hklt := (Array.getElem?_eq_some_iff.1 hqq).1; have HCm := Lib.hid (cmp_any w2 _ _ k2 want (ownsRow.reads hkk) (S3.out.below' hbw)); have HBw := Lib.hid hbw; clear hqq hkk hcc hbw hb2; rw [← HZ.out] at HCm)
          | (go_simp; go_at_call 35; refine HCm.out.mono ?_; rintro e w3 ⟨rfl, rfl⟩))
        all_goals
          go_wp2
          go_ret
          exact ⟨by rw [HCl3.out]; rfl, HBw.out⟩
      | false =>
        have hzI : ¬ (0 : Int) < z := of_decide_eq_false hq
        clear hq
        go_region_law (first
          | (go_simp; go_at_call 28; refine (HYes.out _ ?_).mono ?_; exact below_quiet (Below.refl _ _) 1; rintro e w2 ⟨rfl, hc2, hb2⟩; obtain ⟨rv, kv, hcc, _, hkk, _⟩ := hc2; obtain ⟨ka, kcap, rfl, _, _⟩ := (ownsRow.reads hkk).le; have c1 := Lib.cell_of_heap hcc 1; simp at c1; have hglt := (Array.getElem?_eq_some_iff.1 hcc).1; have hbw := HB4.out.trans ((below_quiet (Below.refl w.heap.size w1) 1).trans hb2); have hqq := (hbw.block k hlt3).trans H3.out; have q0 := Lib.cell_of_heap hqq 0; simp at q0; have hklt := (Array.getElem?_eq_some_iff.1 hqq).1; have HCm := Lib.hid (cmp_any w2 _ _ k2 want (ownsRow.reads hkk) (S3.out.below' hbw)); have HBw := Lib.hid hbw; clear hqq hkk hcc hbw hb2; rw [← HZ.out] at HCm)
          | (go_simp; go_at_call 35; refine HCm.out.mono ?_; rintro e w3 ⟨rfl, rfl⟩))
        all_goals
          go_wp2
          go_ret
          exact ⟨by rw [HCl3.out]; rfl, HBw.out⟩
end Go.Proofs.Ytcglkdmfbnpniaa
