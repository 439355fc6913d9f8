/- sentryref05.Few of a schema that came in: where it says yes, its parts are few. -/
import Derived.Test.YtopnldebekhelaaDoorZSchOpen
import Derived.Test.YtopnldebekhelaaDoorZSchSame
namespace Go.Proofs.YtopnldebekhelaaDoor
open Go Go.RowKit

mutual
def Tr.cnt : Tr RuH → Nat
  | .mk _ ps => 1 + cntL ps
def cntL : List (Tr RuH) → Nat
  | [] => 0
  | p :: ps => p.cnt + cntL ps
end
theorem cnt_mk (h : RuH) (ps : List (Tr RuH)) : (Tr.mk h ps).cnt = 1 + cntL ps := by rw [Tr.cnt]
theorem cntL_nil : cntL [] = 0 := by rw [cntL]
theorem cntL_append (a b : List (Tr RuH)) : cntL (a ++ b) = cntL a + cntL b := by
  induction a with
  | nil => simp [cntL_nil]
  | cons p a ih => rw [List.cons_append, cntL, cntL, ih]; omega
theorem cntL_snoc (ps : List (Tr RuH)) {i : Nat} {p : Tr RuH} (h : ps[i]? = some p) : cntL (ps.take (i + 1)) = cntL (ps.take i) + p.cnt := by
  rw [List.take_add_one, h, Option.toList_some, cntL_append]
  simp [cntL]

/-- What Small tells: not less than its parts' weight lets it, and where something is left all parts have been counted. -/
def GivesSm (w : World) (left : Int) (t : Tr RuH) (e : Ending) (w' : World) : Prop := ∃ k : Int, e = .returned (.int .i64 k) ∧ left - t.wt ≤ k ∧ k ≤ left ∧ (0 ≤ k → k + t.cnt ≤ left) ∧ Below w.heap.size w w'
def SmRel (B : Nat) (w : World) (n : Nat) (left : Int) (own : Nat) (ps : List (Tr RuH)) (dv iv : Value) (wr : World) : Prop := ∃ (i : Nat) (k : Int), iv = .int .i64 (i : Int) ∧ dv = .int .i64 k ∧ i ≤ n ∧ Below B w wr ∧ left - own - wtL (ps.take i) ≤ k ∧ k ≤ left ∧ (0 ≤ k → k + 1 + cntL (ps.take i) ≤ left)

theorem sm_start (left : Int) (a b : Nat) {own : Nat} (h : a + b + 8 = own) (ps : List (Tr RuH)) : left - own - wtL (ps.take 0) ≤ left - 1 - (a : Int) / 100 - (b : Int) / 100 ∧ left - 1 - (a : Int) / 100 - (b : Int) / 100 ≤ left ∧ (0 ≤ left - 1 - (a : Int) / 100 - (b : Int) / 100 → left - 1 - (a : Int) / 100 - (b : Int) / 100 + 1 + cntL (ps.take 0) ≤ left) := by
  rw [List.take_zero, wtL_nil, cntL_nil]
  refine ⟨?_, ?_, ?_⟩ <;> omega
theorem sm_next {left k k2 : Int} {own W C v c : Nat} (h1 : left - own - W ≤ k) (h2 : k ≤ left) (h3 : 0 ≤ k → k + 1 + C ≤ left) (h0 : ¬ k < 0) (q1 : k - v ≤ k2) (q2 : k2 ≤ k) (q3 : 0 ≤ k2 → k2 + c ≤ k) : left - own - ((W + v : Nat) : Int) ≤ k2 ∧ k2 ≤ left ∧ (0 ≤ k2 → k2 + 1 + ((C + c : Nat) : Int) ≤ left) := by
  refine ⟨?_, ?_, ?_⟩ <;> omega
theorem sm_call {left k : Int} {own W v T : Nat} (h1 : left - own - W ≤ k) (h2 : k ≤ left) (hT : W + v ≤ T) (hl : -4000000000000000000 ≤ left - ((own + T : Nat) : Int)) (hr : left ≤ 4000000000000000000) : -4000000000000000000 ≤ k - v ∧ k ≤ 4000000000000000000 := by
  refine ⟨?_, ?_⟩ <;> omega
theorem sm_end {left k : Int} {own W T C : Nat} (h1 : left - own - W ≤ k) (h2 : k ≤ left) (hT : W ≤ T) (h3 : 0 ≤ k → k + 1 + C ≤ left) : left - ((own + T : Nat) : Int) ≤ k ∧ k ≤ left ∧ (0 ≤ k → k + ((1 + C : Nat) : Int) ≤ left) := by
  refine ⟨?_, ?_, ?_⟩ <;> omega
theorem sm_neg {left k : Int} {own W T C : Nat} (h1 : left - own - W ≤ k) (h2 : k ≤ left) (hT : W ≤ T) (h3 : k < 0) : left - ((own + T : Nat) : Int) ≤ k ∧ k ≤ left ∧ (0 ≤ k → k + ((1 + C : Nat) : Int) ≤ left) := by
  refine ⟨?_, ?_, ?_⟩ <;> omega

def small05Ok (n : Nat) : Prop := ∀ (h : RuH) (ps : List (Tr RuH)), (Tr.mk h ps).depth ≤ n → (Tr.mk h ps).wt ≤ 1000000000 → ∀ (w : World) (a : Option Addr) (cap : Nat)  (left : Int), ps.length ≤ cap → cap ≤ maxLen → TrsAt ruHd (· < w.heap.size) 4 w a 0 ps → -4000000000000000000 ≤ left - (Tr.mk h ps).wt → left ≤ 4000000000000000000 →
  Calls Tryd.prog 24 #[.agg #[.int .i64 h.kind, .string h.a, .string h.b, .slice a ps.length cap], .int .i64 left] w (GivesSm w left (.mk h ps))

set_option maxRecDepth 100000 in
set_option maxHeartbeats 4000000 in
theorem small05_ok : ∀ n : Nat, small05Ok n
  | 0 => fun h ps hd => by rw [Tr.depth_mk] at hd; omega
  | n + 1 => by
    have ih := small05_ok n
    intro h ps hdep hwt w a cap  left hcap hmax hr hle1 hle2
    rw [wt_mk] at hwt hle1
    obtain ⟨own, hown⟩ : ∃ own, h.a.size + h.b.size + 8 = own := ⟨_, rfl⟩
    obtain ⟨T, hT⟩ : ∃ T, wtL ps = T := ⟨_, rfl⟩
    have HT := Lib.hid hT
    have HOwn := Lib.hid hown
    have HWt := Lib.hid hwt
    have HLe := Lib.hid (show -4000000000000000000 ≤ left - ((own + T : Nat) : Int) by rw [← hown, ← hT]; exact hle1)
    have HLe2 := Lib.hid hle2
    have hE : (Tr.mk h ps).wt = own + T := by rw [wt_mk, hown, hT]
    have hE2 : (Tr.mk h ps).cnt = 1 + cntL ps := cnt_mk h ps
    have HE := Lib.hid hE
    have HE2 := Lib.hid hE2
    have ha9 : h.a.size ≤ 1000000000 := by omega
    have hb9 : h.b.size ≤ 1000000000 := by omega
    have hl9 : -4000000000000000000 ≤ left := by omega
    clear hT hown hE hE2 hwt
    rw [Tr.depth_mk] at hdep
    have hps : ∀ p ∈ ps, p.depth ≤ n := (Tr.depthL_le ps).1 (by omega)
    obtain ⟨m, hm⟩ : ∃ m, ps.length = m := ⟨_, rfl⟩
    have HL := Lib.hid hm
    have HR := Lib.hid hr
    have HIh := Lib.hid ih
    have HPs := Lib.hid hps
    unfold maxLen at hmax
    rw [hm] at hcap
    rw [hm]
    have HB := Lib.hid (show Below w.heap.size w (w.alloc (.cells #[.int .i64 h.kind, .string h.a, .string h.b, .slice a m cap] 42)) from (Below.refl _ _).alloc (Nat.le_refl _) _)
    clear hr ih hps hm
    go_enter Tryd.func24, Tryd.ntmps24
    go_wp2
    go_loopw [1, 22] (fun dv iv wr => SmRel w.heap.size w m left own ps dv iv wr) (fun _ iv _ => m - (intOf iv).toNat)
    case atStart => exact ⟨0, _, rfl, rfl, Nat.zero_le _, HB.out, sm_start left _ _ HOwn.out ps⟩
    case round =>
      obtain ⟨i, lf, rfl, rfl, hin, hb, hr1, hr2, hr3⟩ := hrel
      have HR1 := Lib.hid hr1; have HR2 := Lib.hid hr2; have HR3 := Lib.hid hr3
      clear hr1 hr2 hr3
      clear HB
      by_cases hlt : i < m
      · have hltI : (i : Int) < m := by omega
        obtain ⟨x, hx⟩ : ∃ x, ps[i]? = some x := ⟨ps[i]'(by rw [HL.out]; exact hlt), List.getElem?_eq_getElem _⟩
        obtain ⟨b, off, cs, rfl, hbB, hbl, hcl, hcs, htr⟩ := (TrsAt.keep (Keeps.of_below hb) (ruHd_keep (Keeps.of_below hb)) ps HR.out).get hx
        have hxm := List.mem_of_getElem? hx
        have HWs := Lib.hid (wtL_snoc ps hx)
        have HCs := Lib.hid (cntL_snoc ps hx)
        have HWk := Lib.hid (wtL_take ps (i + 1))
        have HWi := Lib.hid (wtL_take ps i)
        obtain ⟨xh, xp⟩ := x
        obtain ⟨xa, xcap, rfl, hxc1, hxc2, hxt⟩ := trRu_open htr
        clear hcl htr
        have k0 := hcs 0 _ rfl
        have k1 := hcs 1 _ rfl
        have k2 := hcs 2 _ rfl
        have k3 := hcs 3 _ rfl
        simp only [Nat.zero_add, Nat.add_zero] at k0 k1 k2 k3
        have hba : Below wr.heap.size wr (wr.alloc (.cells #[.int .i64 xh.kind, .string xh.a, .string xh.b, .slice xa xp.length xcap] 42)) := (Below.refl _ _).alloc (Nat.le_refl _) _
        have HBx := Lib.hid (heap_alloc_new wr (.cells #[.int .i64 xh.kind, .string xh.a, .string xh.b, .slice xa xp.length xcap] 42))
        have HB2 := Lib.hid (hb.trans (hba.mono hb.size))
        have hbaB := hba.mono hb.size
        have HXt := Lib.hid (TrsAt.mono (ok' := (· < (wr.alloc (.cells #[.int .i64 xh.kind, .string xh.a, .string xh.b, .slice xa xp.length xcap] 42)).heap.size)) (fun x hx _ => hx) (ruHd_mono (fun x hx _ => hx)) xp (TrsAt.keep (Keeps.of_below hbaB) (ruHd_keep (Keeps.of_below hbaB)) xp hxt))
        have hbs := hb.size
        clear hb hba hbaB hx hcs hxt 
        by_cases hneg : lf < 0
        · go_wp2
          go_ret
          refine ⟨lf, rfl, ?_⟩
          rw [HE.out, HE2.out]
          have hq := sm_neg (C := cntL ps) HR1.out HR2.out (show wtL (ps.take i) ≤ T by rw [← HT.out]; exact HWi.out) hneg
          exact ⟨hq.1, hq.2.1, hq.2.2, HB2.out⟩
        · go_upto_region 5 with fail
          generalize wr.alloc (.cells #[.int .i64 xh.kind, .string xh.a, .string xh.b, .slice xa xp.length xcap] 42) = w2 at *
          have x0 := Lib.cell_of_heap HBx.out 0; have x1 := Lib.cell_of_heap HBx.out 1; have x2 := Lib.cell_of_heap HBx.out 2; have x3 := Lib.cell_of_heap HBx.out 3
          simp at x0 x1 x2 x3
          have hbl2 : wr.heap.size < w2.heap.size := (Array.getElem?_eq_some_iff.1 HBx.out).1
          have hcl := sm_call (v := (Tr.mk xh xp).wt) HR1.out HR2.out (show _ ≤ T by rw [← HT.out]; have h1 := HWs.out; have h2 := HWk.out; omega) HLe.out HLe2.out
          have hw9 : (Tr.mk xh xp).wt ≤ 1000000000 := by have h1 := HWs.out; have h2 := HWk.out; have h3 := HT.out; have h4 := HWt.out; omega
          have HIt := Lib.hid (HIh.out xh xp (HPs.out _ hxm) hw9 w2 xa xcap lf hxc1 hxc2 HXt.out hcl.1 hcl.2)
          clear hcl hw9
          go_wp2_with (go_at_call 24; go_must (refine HIt.out.mono ?_))
          rintro e w3 ⟨lf2, rfl, p1, p2, p3, b3⟩
          have HNx := Lib.hid (sm_next HR1.out HR2.out HR3.out (Int.not_lt.2 hneg) p1 p2 p3)
          rw [← HWs.out, ← HCs.out] at HNx
          clear p1 p2 p3
          have HB3 := Lib.hid (HB2.out.trans (b3.mono (by omega)))
          clear b3 HIt HB2 HBx HXt x0 x1 x2 x3 k0 k1 k2 k3
          go_wp2
          exact ⟨⟨i + 1, lf2, by go_num, rfl, by omega, HB3.out, HNx.out⟩, by simp [intOf]; omega⟩
      · obtain rfl : i = m := by omega
        have hltI : ¬ (i : Int) < i := by omega
        have HB3 := Lib.hid hb
        clear hb
        go_wp2
        go_ret
        refine ⟨lf, rfl, ?_⟩
        rw [HE.out, HE2.out]
        have hti : ps.take i = ps := by rw [← HL.out]; exact List.take_length
        have hr1 := HR1.out
        have hr3 := HR3.out
        rw [hti, HT.out] at hr1
        rw [hti] at hr3
        have hq := sm_end hr1 HR2.out (Nat.le_refl _) hr3
        exact ⟨hq.1, hq.2.1, hq.2.2, HB3.out⟩

def fewR (r : Rl) : Nat := r.rule.cnt
def fewRs (rs : List Rl) : Nat := (rs.map fewR).sum
def fewY (t : Ty) : Nat := 1 + fewRs t.rels
def fewS (S : List Ty) : Nat := (S.map fewY).sum
theorem fewRs_snoc {rs : List Rl} {j : Nat} {r : Rl} (h : rs[j]? = some r) : fewRs (rs.take (j + 1)) = fewRs (rs.take j) + fewR r := by
  rw [List.take_add_one, h, Option.toList_some]
  simp [fewRs]
theorem fewS_snoc {S : List Ty} {j : Nat} {t : Ty} (h : S[j]? = some t) : fewS (S.take (j + 1)) = fewS (S.take j) + fewY t := by
  rw [List.take_add_one, h, Option.toList_some]
  simp [fewS]

def FwRel (B : Nat) (w : World) (n : Nat) (S : List Ty) (dv iv : Value) (wr : World) : Prop := ∃ (i : Nat) (k : Int), iv = .int .i64 (i : Int) ∧ dv = .int .i64 k ∧ i ≤ n ∧ Below B w wr ∧ 200 - (wS (S.take i) : Int) ≤ k ∧ k ≤ 200 ∧ (0 ≤ k → k + fewS (S.take i) ≤ 200)
def FjRel (B : Nat) (w : World) (m C W : Nat) (rels : List Rl) (dv iv : Value) (wr : World) : Prop := ∃ (j : Nat) (k : Int), iv = .int .i64 (j : Int) ∧ dv = .int .i64 k ∧ j ≤ m ∧ Below B w wr ∧ 200 - ((W + wRs (rels.take j) : Nat) : Int) ≤ k ∧ k ≤ 200 ∧ (0 ≤ k → k + ((C + fewRs (rels.take j) : Nat) : Int) ≤ 200)

theorem fw_in {k : Int} {W C s : Nat} (rels : List Rl) (h1 : 200 - (W : Int) ≤ k) (h2 : k ≤ 200) (h3 : 0 ≤ k → k + C ≤ 200) : 200 - ((W + s + 6 + wRs (rels.take 0) : Nat) : Int) ≤ k - 1 - (s : Int) / 100 ∧ k - 1 - (s : Int) / 100 ≤ 200 ∧ (0 ≤ k - 1 - (s : Int) / 100 → k - 1 - (s : Int) / 100 + ((C + 1 + fewRs (rels.take 0) : Nat) : Int) ≤ 200) := by
  rw [List.take_zero]
  have e1 : wRs [] = 0 := rfl
  have e2 : fewRs [] = 0 := rfl
  rw [e1, e2]
  refine ⟨?_, ?_, ?_⟩ <;> omega
theorem fj_call {k : Int} {W v s T : Nat} (h1 : 200 - (W : Int) ≤ k) (h2 : k ≤ 200) (hT : W + s + v ≤ T) (hb : T ≤ 700000000) : -4000000000000000000 ≤ k - (s : Int) / 100 - v ∧ k - (s : Int) / 100 ≤ 4000000000000000000 := by
  refine ⟨?_, ?_⟩ <;> omega
theorem fj_next {k k2 : Int} {W C v c s W2 C2 : Nat} (e1 : W2 = W + (s + v + 4)) (e2 : C2 = C + c) (h1 : 200 - (W : Int) ≤ k) (h2 : k ≤ 200) (h3 : 0 ≤ k → k + C ≤ 200) (h0 : 0 ≤ k) (q1 : k - (s : Int) / 100 - v ≤ k2) (q2 : k2 ≤ k - (s : Int) / 100) (q3 : 0 ≤ k2 → k2 + c ≤ k - (s : Int) / 100) : 200 - (W2 : Int) ≤ k2 ∧ k2 ≤ 200 ∧ (0 ≤ k2 → k2 + (C2 : Int) ≤ 200) := by
  subst e1 e2
  refine ⟨?_, ?_, ?_⟩ <;> omega

def FewPost (w : World) (S : List Ty) (e : Ending) (w' : World) : Prop := ∃ b : Bool, e = .returned (.bool b) ∧ (b = true → fewS S ≤ 200) ∧ Below w.heap.size w w'

set_option maxRecDepth 100000 in
set_option maxHeartbeats 8000000 in
theorem few_any (w : World) (tv : Value) (S : List Ty) (h : SchAt (· < w.heap.size) w tv S) (hS : wS S ≤ 700000000) :
    Calls Tryd.prog 11 #[.agg #[tv]] w (FewPost w S) := by
  obtain ⟨n, hn⟩ : ∃ n, S.length = n := ⟨_, rfl⟩
  obtain ⟨ta, tcap, rfl, htc1, htc2⟩ := h.shape hn
  obtain ⟨N, hN⟩ : ∃ N, w.heap.size = N := ⟨_, rfl⟩
  obtain ⟨W0, hW0⟩ : ∃ W, W = w.alloc (.cells #[.slice ta n tcap] 25) := ⟨_, rfl⟩
  have b0 : Below w.heap.size w W0 := by rw [hW0]; exact (Below.refl _ _).alloc (Nat.le_refl _) _
  have s0 : W0.heap.size = N + 1 := by rw [hW0, ← hN]; simp
  have e0 : W0.heap[N]? = some (.cells #[.slice ta n tcap] 25 (0, 0)) := by rw [hW0, ← hN]; exact heap_alloc_new w _
  have HSch := Lib.hid (h.keep (Keeps.of_below b0))
  have HX := Lib.hid e0
  have HB := Lib.hid b0
  have HW := Lib.hid hW0
  have HN := Lib.hid hN
  have HL := Lib.hid hn
  have HWt := Lib.hid hS
  unfold maxLen at htc2
  clear h b0 e0 hW0 hN hn hS
  go_enter Tryd.func11, Tryd.ntmps11
  go_upto_region 1 with fail
  rw [← HW.out]
  try rw [HN.out]
  clear HW
  have x0 := Lib.cell_of_heap HX.out 0
  simp at x0
  have hl1 : N < W0.heap.size := by omega
  go_wp2
  clear x0
  go_loopw [3, 11] (fun dv iv wr => FwRel W0.heap.size W0 n S dv iv wr) (fun _ iv _ => n - (intOf iv).toNat)
  case atStart => exact ⟨0, _, rfl, rfl, Nat.zero_le _, Below.refl _ _, by simp [wS], by decide, by simp [fewS]⟩
  case round =>
    obtain ⟨i, lf, rfl, rfl, hin, hb, hr1, hr2, hr3⟩ := hrel
    have HR1 := Lib.hid hr1; have HR2 := Lib.hid hr2; have HR3 := Lib.hid hr3
    have hlf1 : -1000000000 ≤ lf := by
      have h1 := HWt.out
      have h2 := wS_take S i
      omega
    clear hr1 hr3
    by_cases hlt : i < n
    · have hltI : (i : Int) < n := by omega
      have h0I : (0 : Int) ≤ i := by omega
      obtain ⟨t, hti⟩ : ∃ t, S[i]? = some t := ⟨S[i]'(by rw [HL.out]; exact hlt), List.getElem?_eq_getElem _⟩
      obtain ⟨tn, rels⟩ := t
      have hsz := hb.size
      obtain ⟨b, off, ra, rcap, ⟨vc, hvc⟩, _, hbl, k0, k1, hrels⟩ := ty_get (HSch.out.keep (Keeps.of_below (hb.mono (by rw [HN.out]; omega)))) hti
      dsimp only at k0 k1 hrels
      obtain ⟨m, hm⟩ : ∃ m, rels.length = m := ⟨_, rfl⟩
      rw [hm] at k1
      rw [HL.out] at hvc
      cases hvc
      have hwY := wS_snoc hti
      have hwY2 := wS_take S (i + 1)
      unfold wY at hwY
      dsimp only at hwY
      have hwt := HWt.out
      have HMx := Lib.hid (show wRs rels ≤ 700000000 by omega)
      have hmB := wRs_len rels
      have hmm : m ≤ 700000000 := by omega
      have htn : tn.size ≤ 700000000 := by omega
      have HIn := Lib.hid (fw_in (s := tn.size) rels HR1.out HR2.out HR3.out)
      obtain ⟨C, hC⟩ : ∃ C, fewS (S.take i) + 1 = C := ⟨_, rfl⟩
      obtain ⟨Wt, hWt⟩ : ∃ Wt, wS (S.take i) + tn.size + 6 = Wt := ⟨_, rfl⟩
      have HTot := Lib.hid (show Wt + wRs rels ≤ 700000000 by omega)
      rw [hC, hWt] at HIn
      have HYs := Lib.hid hwY
      have HYc := Lib.hid (fewS_snoc hti)
      have HC := Lib.hid hC
      have HWq := Lib.hid hWt
      clear hC hWt
      obtain ⟨wk, hwk⟩ : ∃ W, W = wr.alloc (.cells #[.string tn, .slice ra m rcap] 39) := ⟨_, rfl⟩
      have hbk : Below wr.heap.size wr wk := by rw [hwk]; exact (Below.refl _ _).alloc (Nat.le_refl _) _
      have hsk : wk.heap.size = wr.heap.size + 1 := by rw [hwk]; simp
      have HYk := Lib.hid (show wk.heap[wr.heap.size]? = some (.cells #[.string tn, .slice ra m rcap] 39 (0, 0)) by rw [hwk]; exact heap_alloc_new wr _)
      have HBk := Lib.hid (hb.trans (hbk.mono hsz))
      have HRels := Lib.hid (hrels.keep (Keeps.of_below (hbk.mono (by rw [HN.out]; omega))))
      have HRl := Lib.hid hm
      have HAk := Lib.hid hwk
      clear hwk hb hti hrels hm hwY hwY2 hwt hmB hbk
      go_upto_region 5 with fail
      rw [← HAk.out]
      clear k0 k1 HAk
      have v0 := Lib.cell_of_heap HYk.out 0
      have v1 := Lib.cell_of_heap HYk.out 1
      simp at v0 v1
      have hlk : wr.heap.size < wk.heap.size := by omega
      go_wp2
      clear v0 v1
      go_loopw [3, 25] (fun dv iv wj => FjRel wk.heap.size wk m C Wt rels dv iv wj) (fun _ iv _ => m - (intOf iv).toNat)
      case atStart => exact ⟨0, _, rfl, rfl, Nat.zero_le _, Below.refl _ _, HIn.out⟩
      case round =>
        rename World => wj
        obtain ⟨j, lg, rfl, rfl, hjn, hbj, hj1, hj2, hj3⟩ := hrel
        have HJ1 := Lib.hid hj1; have HJ2 := Lib.hid hj2; have HJ3 := Lib.hid hj3
        have hlg1 : -1000000000 ≤ lg := by
          have h1 := HTot.out
          have h2 := wRs_take rels j
          omega
        clear hj1 hj3
        by_cases hltj : j < m
        · have hltJ : (j : Int) < m := by omega
          obtain ⟨rl, hrj⟩ : ∃ rl, rels[j]? = some rl := ⟨rels[j]'(by rw [HRl.out]; exact hltj), List.getElem?_eq_getElem _⟩
          obtain ⟨nm, ⟨xh, xp⟩⟩ := rl
          obtain ⟨gb, goff, xa, xcap, hra, hgl, k0, k1, k2, k3, k4, x1, x2, xt⟩ := rel_get (HRels.out.keep (Keeps.of_below (hbj.mono (by rw [HN.out]; omega)))) hrj
          subst hra
          have hwr2 := wRs_take rels (j + 1)
          have hwr' := wRs_snoc hrj
          unfold wR at hwr'
          dsimp only at hwr'
          have hmx := HMx.out
          have hnm : nm.size ≤ 700000000 := by omega
          have hcl := fj_call (v := (Tr.mk xh xp).wt) (s := nm.size) HJ1.out HJ2.out (show Wt + wRs (rels.take j) + nm.size + (Tr.mk xh xp).wt ≤ 700000000 by have h1 := HTot.out; omega) (Nat.le_refl _)
          have HRw := Lib.hid (show wRs (rels.take (j + 1)) = wRs (rels.take j) + (nm.size + (Tr.mk xh xp).wt + 4) from wRs_snoc hrj)
          have HRc := Lib.hid (show fewRs (rels.take (j + 1)) = fewRs (rels.take j) + (Tr.mk xh xp).cnt from fewRs_snoc hrj)
          have hdep := depth_wt _ (.mk xh xp) (show (Tr.mk xh xp).wt ≤ 1000000000 by omega)
          obtain ⟨wl, hwl⟩ : ∃ W, W = wj.alloc (.cells #[.string nm, .int .i64 xh.kind, .string xh.a, .string xh.b, .slice xa xp.length xcap] 44) := ⟨_, rfl⟩
          have hbl2 : Below wj.heap.size wj wl := by rw [hwl]; exact (Below.refl _ _).alloc (Nat.le_refl _) _
          have hsl : wl.heap.size = wj.heap.size + 1 := by rw [hwl]; simp
          have HYl := Lib.hid (show wl.heap[wj.heap.size]? = some (.cells #[.string nm, .int .i64 xh.kind, .string xh.a, .string xh.b, .slice xa xp.length xcap] 44 (0, 0)) by rw [hwl]; exact heap_alloc_new wj _)
          have HBl := Lib.hid (hbj.trans (hbl2.mono hbj.size))
          have HSm := Lib.hid (small05_ok _ xh xp hdep (by omega) wl xa xcap (lg - (nm.size : Int) / 100) x1 x2 (trs_later xt hbl2) hcl.1 hcl.2)
          have HAl := Lib.hid hwl
          have hjs := hbj.size
          clear hwl hbl2 hbj hrj xt hwr2 hwr' hmx hdep hcl
          go_upto_region 9 with fail
          rw [← HAl.out]
          clear k0 k1 k2 k3 k4 HAl
          have y0 := Lib.cell_of_heap HYl.out 0; have y1 := Lib.cell_of_heap HYl.out 1; have y2 := Lib.cell_of_heap HYl.out 2; have y3 := Lib.cell_of_heap HYl.out 3; have y4 := Lib.cell_of_heap HYl.out 4
          simp at y0 y1 y2 y3 y4
          have hll : wj.heap.size < wl.heap.size := by omega
          by_cases hneg : lg < 0
          · have HBz := Lib.hid (HB.out.trans ((HBk.out.trans (HBl.out.mono (by omega))).mono HB.out.size))
            go_wp2
            go_ret
            exact ⟨false, rfl, (fun h => by cases h), HBz.out⟩
          · go_wp2_with (go_at_call 24; go_must (refine HSm.out.mono ?_))
            rintro e w7 ⟨lf2, rfl, p1, p2, p3, b7⟩
            have HNx := Lib.hid (fj_next (show Wt + wRs (rels.take (j + 1)) = Wt + wRs (rels.take j) + (nm.size + (Tr.mk xh xp).wt + 4) by rw [HRw.out]; omega) (show C + fewRs (rels.take (j + 1)) = C + fewRs (rels.take j) + (Tr.mk xh xp).cnt by rw [HRc.out]; omega) HJ1.out HJ2.out HJ3.out (by omega) p1 p2 p3)
            clear p1 p2 p3
            have HB7 := Lib.hid (HBl.out.trans (b7.mono (by omega)))
            clear b7 HSm HBl y0 y1 y2 y3 y4
            go_wp2
            exact ⟨⟨j + 1, lf2, by go_num, rfl, by omega, HB7.out, HNx.out⟩, by simp [intOf]; omega⟩
        · obtain rfl : j = m := by omega
          have hltJ : ¬ (j : Int) < j := by omega
          have HBy := Lib.hid (HBk.out.trans (hbj.mono (by omega)))
          have HFin := Lib.hid (show 200 - (wS (S.take (i + 1)) : Int) ≤ lg ∧ lg ≤ 200 ∧ (0 ≤ lg → lg + fewS (S.take (i + 1)) ≤ 200) by
            have htj : rels.take j = rels := by rw [← HRl.out]; exact List.take_length
            have a1 := HJ1.out
            have a2 := HJ2.out
            have a3 := HJ3.out
            rw [htj] at a1 a3
            have y1 := HYs.out
            have y2 := HYc.out
            unfold fewY at y2
            dsimp only at y2
            have c1 := HC.out
            have c2 := HWq.out
            refine ⟨?_, ?_, ?_⟩ <;> omega)
          clear hbj
          go_wp2
          exact ⟨⟨i + 1, lg, by go_num, rfl, by omega, HBy.out, HFin.out⟩, by simp [intOf]; omega⟩
    · obtain rfl : i = n := by omega
      have hltI : ¬ (i : Int) < i := by omega
      have HBz := Lib.hid (HB.out.trans (hb.mono HB.out.size))
      have hti : S.take i = S := by rw [← HL.out]; exact List.take_length
      have hf := HR3.out
      rw [hti] at hf
      have HF := Lib.hid hf
      clear hb hf
      go_wp2
      go_ret
      exact ⟨_, rfl, (fun h => by have h1 := HF.out (by simpa using h); have h2 := of_decide_eq_true h; omega), HBz.out⟩

end Go.Proofs.YtopnldebekhelaaDoor
