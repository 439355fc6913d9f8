/- sentryref05.Text: a rule's text as the writer has it (written by gen_schrftext.py). -/
import Derived.Test.YtopnldebekhelaaDoorZSchRfM
import Derived.Test.YtopnldebekhelaaDoorZSchRfName
import Derived.BigQuiet
namespace Go.Proofs.YtopnldebekhelaaDoor
open Go Go.RowKit

def refTextOk (n0 : Nat) : Prop := ∀ (h : RuH) (ps : List (Tr RuH)), (Tr.mk h ps).depth ≤ n0 → (Tr.mk h ps).wt ≤ 1000000000 → ∀ (w : World) (a : Option Addr) (cap d : Nat), ps.length ≤ cap → cap ≤ maxLen → TrsAt ruHd (· < w.heap.size) 4 w a 0 ps → d ≤ 8 →
  Calls Tryd.prog 31 #[.agg #[.int .i64 h.kind, .string h.a, .string h.b, .slice a ps.length cap], .int .i64 (d : Int)] w (TxPost w (.mk h ps) d)

set_option maxRecDepth 100000 in
set_option maxHeartbeats 8000000 in
theorem refText_k1 (n0 : Nat) (ih : refTextOk n0) (ha hb : ByteArray) (ps : List (Tr RuH)) (hdep : (Tr.mk (⟨1, ha, hb⟩ : RuH) ps).depth ≤ n0 + 1) (hwt : (Tr.mk (⟨1, ha, hb⟩ : RuH) ps).wt ≤ 1000000000) (w : World) (a : Option Addr) (cap d : Nat) (hcap : ps.length ≤ cap) (_ : cap ≤ maxLen) (hr : TrsAt ruHd (· < w.heap.size) 4 w a 0 ps) (_ : d ≤ 8) :
    Calls Tryd.prog 31 #[.agg #[.int .i64 1, .string ha, .string hb, .slice a ps.length cap], .int .i64 (d : Int)] w (TxPost w (.mk ⟨1, ha, hb⟩ ps) d) := by
  rw [Tr.depth_mk] at hdep
  rw [wt_mk] at hwt
  have hps : ∀ p ∈ ps, p.depth ≤ n0 := (Tr.depthL_le ps).1 (by omega)
  dsimp only at hwt
  have ha9 : ha.size ≤ 1000000000 := by omega
  have hb9 : hb.size ≤ 1000000000 := by omega
  have hs9 : ha.size + 2 + hb.size ≤ 1000000000 := by omega
  have HWt := Lib.hid (show wtL ps ≤ 1000000000 by omega)
  obtain ⟨n, hn⟩ : ∃ n, ps.length = n := ⟨_, rfl⟩
  obtain ⟨N, hN⟩ : ∃ N, w.heap.size = N := ⟨_, rfl⟩
  have HL := Lib.hid hn
  have HR := Lib.hid hr
  have HIh := Lib.hid ih
  have HPs := Lib.hid hps
  rw [hn] at hcap
  rw [hn]
  obtain ⟨W0, hW0⟩ : ∃ W, W = w.alloc (.cells #[.int .i64 1, .string ha, .string hb, .slice a n cap] 42) := ⟨_, rfl⟩
  have b0 : Below w.heap.size w W0 := by rw [hW0]; exact (Below.refl _ _).alloc (Nat.le_refl _) _
  have s0 : W0.heap.size = N + 1 := by rw [hW0, ← hN]; simp
  have e0 : W0.heap[N]? = some (.cells #[.int .i64 1, .string ha, .string hb, .slice a n cap] 42 (0, 0)) := by rw [hW0, ← hN]; exact heap_alloc_new w _
  have hl1 : N < W0.heap.size := by omega
  have HX := Lib.hid e0
  have HB := Lib.hid b0
  have HW := Lib.hid hW0
  have HN := Lib.hid hN
  have HEA := Lib.hid (stremp ha)
  have HEB := Lib.hid (stremp hb)
  have HD := Lib.hid (fun (e : okR 0 ⟨1, ha, hb⟩ ps.length = false) => tx_off (d := d) e)
  have x0 := Lib.cell_of_heap e0 0; have x1 := Lib.cell_of_heap e0 1; have x2 := Lib.cell_of_heap e0 2; have x3 := Lib.cell_of_heap e0 3
  simp at x0 x1 x2 x3
  clear hr ih hps hn b0 e0 hW0 hN hwt hdep s0
  go_enter Tryd.func31, Tryd.ntmps31
  go_upto_region 1 with fail
  rw [HN.out, ← HW.out]
  clear HW
  have hok : okR 0 ⟨1, ha, hb⟩ ps.length = (decide (ha = cNone) && decide (hb = cNone) && decide (n = 0)) := by rw [HL.out]; rfl
  rw [hok] at HD
  by_cases hA : ha = cNone
  · have qA : ha.toList.isEmpty = true := by rw [HEA.out, decide_eq_true hA]
    have HA := Lib.hid hA
    clear hA
    by_cases hB : hb = cNone
    · have qB : hb.toList.isEmpty = true := by rw [HEB.out, decide_eq_true hB]
      have HB2 := Lib.hid hB
      clear hB
      by_cases h0 : n = 0
      · subst h0
        have HYes := Lib.hid (show textF 0 d (.mk ⟨1, ha, hb⟩ ps) = some (thisS) by
          rw [textF_mk, hok, decide_eq_true HA.out, decide_eq_true HB2.out]; rfl)
        clear hok
        go_upto_region 3 with fail
        go_quiet (fail)
        go_wp2
        go_ret2
        exact tx_yes (s := thisS) HYes.out (below_quietS HB.out _)
      · have q0 : ((n : Int) == 0) = false := by simp; omega
        have HNo := Lib.hid (HD.out (by rw [decide_eq_false h0, Bool.and_false]))
        clear hok
        go_upto_region 3 with fail
        go_quiet (fail)
        go_wp2
        go_ret2
        exact tx_no HNo.out (below_quietS HB.out _)
    · have qB : hb.toList.isEmpty = false := by rw [HEB.out, decide_eq_false hB]
      have HNo := Lib.hid (HD.out (by rw [decide_eq_false hB, Bool.and_false]; rfl))
      clear hok
      go_upto_region 3 with fail
      go_quiet (fail)
      go_wp2
      go_ret2
      exact tx_no HNo.out (below_quietS HB.out _)
  · have qA : ha.toList.isEmpty = false := by rw [HEA.out, decide_eq_false hA]
    have HNo := Lib.hid (HD.out (by rw [decide_eq_false hA]; rfl))
    clear hok
    go_upto_region 3 with fail
    go_quiet (fail)
    go_wp2
    go_ret2
    exact tx_no HNo.out (below_quietS HB.out _)

set_option maxRecDepth 100000 in
set_option maxHeartbeats 8000000 in
theorem refText_k2 (n0 : Nat) (ih : refTextOk n0) (ha hb : ByteArray) (ps : List (Tr RuH)) (hdep : (Tr.mk (⟨2, ha, hb⟩ : RuH) ps).depth ≤ n0 + 1) (hwt : (Tr.mk (⟨2, ha, hb⟩ : RuH) ps).wt ≤ 1000000000) (w : World) (a : Option Addr) (cap d : Nat) (hcap : ps.length ≤ cap) (_ : cap ≤ maxLen) (hr : TrsAt ruHd (· < w.heap.size) 4 w a 0 ps) (_ : d ≤ 8) :
    Calls Tryd.prog 31 #[.agg #[.int .i64 2, .string ha, .string hb, .slice a ps.length cap], .int .i64 (d : Int)] w (TxPost w (.mk ⟨2, ha, hb⟩ ps) d) := by
  rw [Tr.depth_mk] at hdep
  rw [wt_mk] at hwt
  have hps : ∀ p ∈ ps, p.depth ≤ n0 := (Tr.depthL_le ps).1 (by omega)
  dsimp only at hwt
  have ha9 : ha.size ≤ 1000000000 := by omega
  have hb9 : hb.size ≤ 1000000000 := by omega
  have hs9 : ha.size + 2 + hb.size ≤ 1000000000 := by omega
  have HWt := Lib.hid (show wtL ps ≤ 1000000000 by omega)
  obtain ⟨n, hn⟩ : ∃ n, ps.length = n := ⟨_, rfl⟩
  obtain ⟨N, hN⟩ : ∃ N, w.heap.size = N := ⟨_, rfl⟩
  have HL := Lib.hid hn
  have HR := Lib.hid hr
  have HIh := Lib.hid ih
  have HPs := Lib.hid hps
  rw [hn] at hcap
  rw [hn]
  obtain ⟨W0, hW0⟩ : ∃ W, W = w.alloc (.cells #[.int .i64 2, .string ha, .string hb, .slice a n cap] 42) := ⟨_, rfl⟩
  have b0 : Below w.heap.size w W0 := by rw [hW0]; exact (Below.refl _ _).alloc (Nat.le_refl _) _
  have s0 : W0.heap.size = N + 1 := by rw [hW0, ← hN]; simp
  have e0 : W0.heap[N]? = some (.cells #[.int .i64 2, .string ha, .string hb, .slice a n cap] 42 (0, 0)) := by rw [hW0, ← hN]; exact heap_alloc_new w _
  have hl1 : N < W0.heap.size := by omega
  have HX := Lib.hid e0
  have HB := Lib.hid b0
  have HW := Lib.hid hW0
  have HN := Lib.hid hN
  have HEA := Lib.hid (stremp ha)
  have HEB := Lib.hid (stremp hb)
  have HD := Lib.hid (fun (e : okR 0 ⟨2, ha, hb⟩ ps.length = false) => tx_off (d := d) e)
  have x0 := Lib.cell_of_heap e0 0; have x1 := Lib.cell_of_heap e0 1; have x2 := Lib.cell_of_heap e0 2; have x3 := Lib.cell_of_heap e0 3
  simp at x0 x1 x2 x3
  clear hr ih hps hn b0 e0 hW0 hN hwt hdep s0
  go_enter Tryd.func31, Tryd.ntmps31
  go_upto_region 1 with fail
  rw [HN.out, ← HW.out]
  clear HW
  have hok : okR 0 ⟨2, ha, hb⟩ ps.length = (isRefB ha && decide (hb = cNone) && decide (n = 0)) := by rw [HL.out]; rfl
  rw [hok] at HD
  cases hA : isRefB ha with
  | true =>
    by_cases hB : hb = cNone
    · have qB : hb.toList.isEmpty = true := by rw [HEB.out, decide_eq_true hB]
      have HB2 := Lib.hid hB
      clear hB
      by_cases h0 : n = 0
      · subst h0
        have HYes := Lib.hid (show textF 0 d (.mk ⟨2, ha, hb⟩ ps) = some (ha.data.toList) by
          rw [textF_mk, hok, hA, decide_eq_true HB2.out]; rfl)
        clear hok
        go_upto_region 5 with fail
        go_quiet (first | (go_at_call 30; exact own_quiet ha9) | (go_at_call 30; exact own_quiet hb9))
        go_wp2
        go_ret2
        have h := tx_yes HYes.out (below_quietS HB.out nq)
        rw [tk_of] at h
        exact h
      · have q0 : ((n : Int) == 0) = false := by simp; omega
        have HNo := Lib.hid (HD.out (by rw [decide_eq_false h0, Bool.and_false]))
        clear hok
        go_upto_region 5 with fail
        go_quiet (first | (go_at_call 30; exact own_quiet ha9) | (go_at_call 30; exact own_quiet hb9))
        go_wp2
        go_ret2
        exact tx_no HNo.out (below_quietS HB.out _)
    · have qB : hb.toList.isEmpty = false := by rw [HEB.out, decide_eq_false hB]
      have HNo := Lib.hid (HD.out (by rw [decide_eq_false hB, Bool.and_false]; rfl))
      clear hok
      go_upto_region 5 with fail
      go_quiet (first | (go_at_call 30; exact own_quiet ha9) | (go_at_call 30; exact own_quiet hb9))
      go_wp2
      go_ret2
      exact tx_no HNo.out (below_quietS HB.out _)
  | false =>
    have HNo := Lib.hid (HD.out (by rw [hA]; rfl))
    clear hok
    go_upto_region 5 with fail
    go_quiet (first | (go_at_call 30; exact own_quiet ha9) | (go_at_call 30; exact own_quiet hb9))
    go_wp2
    go_ret2
    exact tx_no HNo.out (below_quietS HB.out _)

set_option maxRecDepth 100000 in
set_option maxHeartbeats 8000000 in
theorem refText_k3 (n0 : Nat) (ih : refTextOk n0) (ha hb : ByteArray) (ps : List (Tr RuH)) (hdep : (Tr.mk (⟨3, ha, hb⟩ : RuH) ps).depth ≤ n0 + 1) (hwt : (Tr.mk (⟨3, ha, hb⟩ : RuH) ps).wt ≤ 1000000000) (w : World) (a : Option Addr) (cap d : Nat) (hcap : ps.length ≤ cap) (_ : cap ≤ maxLen) (hr : TrsAt ruHd (· < w.heap.size) 4 w a 0 ps) (_ : d ≤ 8) :
    Calls Tryd.prog 31 #[.agg #[.int .i64 3, .string ha, .string hb, .slice a ps.length cap], .int .i64 (d : Int)] w (TxPost w (.mk ⟨3, ha, hb⟩ ps) d) := by
  rw [Tr.depth_mk] at hdep
  rw [wt_mk] at hwt
  have hps : ∀ p ∈ ps, p.depth ≤ n0 := (Tr.depthL_le ps).1 (by omega)
  dsimp only at hwt
  have ha9 : ha.size ≤ 1000000000 := by omega
  have hb9 : hb.size ≤ 1000000000 := by omega
  have hs9 : ha.size + 2 + hb.size ≤ 1000000000 := by omega
  have HWt := Lib.hid (show wtL ps ≤ 1000000000 by omega)
  obtain ⟨n, hn⟩ : ∃ n, ps.length = n := ⟨_, rfl⟩
  obtain ⟨N, hN⟩ : ∃ N, w.heap.size = N := ⟨_, rfl⟩
  have HL := Lib.hid hn
  have HR := Lib.hid hr
  have HIh := Lib.hid ih
  have HPs := Lib.hid hps
  rw [hn] at hcap
  rw [hn]
  obtain ⟨W0, hW0⟩ : ∃ W, W = w.alloc (.cells #[.int .i64 3, .string ha, .string hb, .slice a n cap] 42) := ⟨_, rfl⟩
  have b0 : Below w.heap.size w W0 := by rw [hW0]; exact (Below.refl _ _).alloc (Nat.le_refl _) _
  have s0 : W0.heap.size = N + 1 := by rw [hW0, ← hN]; simp
  have e0 : W0.heap[N]? = some (.cells #[.int .i64 3, .string ha, .string hb, .slice a n cap] 42 (0, 0)) := by rw [hW0, ← hN]; exact heap_alloc_new w _
  have hl1 : N < W0.heap.size := by omega
  have HX := Lib.hid e0
  have HB := Lib.hid b0
  have HW := Lib.hid hW0
  have HN := Lib.hid hN
  have HEA := Lib.hid (stremp ha)
  have HEB := Lib.hid (stremp hb)
  have HD := Lib.hid (fun (e : okR 0 ⟨3, ha, hb⟩ ps.length = false) => tx_off (d := d) e)
  have x0 := Lib.cell_of_heap e0 0; have x1 := Lib.cell_of_heap e0 1; have x2 := Lib.cell_of_heap e0 2; have x3 := Lib.cell_of_heap e0 3
  simp at x0 x1 x2 x3
  clear hr ih hps hn b0 e0 hW0 hN hwt hdep s0
  go_enter Tryd.func31, Tryd.ntmps31
  go_upto_region 1 with fail
  rw [HN.out, ← HW.out]
  clear HW
  have hok : okR 0 ⟨3, ha, hb⟩ ps.length = (isRefB ha && isRefB hb && decide (n = 0)) := by rw [HL.out]; rfl
  rw [hok] at HD
  have sa1 : ∀ W, (Op.stringOp .add ha ⟨#[45, 62]⟩).run Tryd.prog W = .ok (.string (ha ++ ⟨#[45, 62]⟩)) W := fun W => run_string_add_sum W _ _ (by show ha.size + 2 ≤ _; omega)
  have sa2 : ∀ W, (Op.stringOp .add (ha ++ ⟨#[45, 62]⟩) hb).run Tryd.prog W = .ok (.string (ha ++ ⟨#[45, 62]⟩ ++ hb)) W := fun W => run_string_add_sum W _ _ (by rw [ByteArray.size_append]; show ha.size + 2 + hb.size ≤ _; omega)
  cases hA : isRefB ha with
  | true =>
    cases hB : isRefB hb with
    | true =>
      by_cases h0 : n = 0
      · subst h0
        have HYes := Lib.hid (show textF 0 d (.mk ⟨3, ha, hb⟩ ps) = some (ha.data.toList ++ arrowS ++ hb.data.toList) by
          rw [textF_mk, hok, hA, hB]; rfl)
        clear hok
        go_upto_region 7 with fail
        go_quiet (first | (go_at_call 30; exact own_quiet ha9) | (go_at_call 30; exact own_quiet hb9))
        go_wp2
        go_ret2
        have h := tx_yes HYes.out (below_quietS HB.out nq)
        rw [← cat3, tk_of] at h
        exact h
      · have q0 : ((n : Int) == 0) = false := by simp; omega
        have HNo := Lib.hid (HD.out (by rw [decide_eq_false h0, Bool.and_false]))
        clear hok
        go_upto_region 7 with fail
        go_quiet (first | (go_at_call 30; exact own_quiet ha9) | (go_at_call 30; exact own_quiet hb9))
        go_wp2
        go_ret2
        exact tx_no HNo.out (below_quietS HB.out _)
    | false =>
      have HNo := Lib.hid (HD.out (by rw [hB, Bool.and_false]; rfl))
      clear hok
      go_upto_region 7 with fail
      go_quiet (first | (go_at_call 30; exact own_quiet ha9) | (go_at_call 30; exact own_quiet hb9))
      go_wp2
      go_ret2
      exact tx_no HNo.out (below_quietS HB.out _)
  | false =>
    have HNo := Lib.hid (HD.out (by rw [hA]; rfl))
    clear hok
    go_upto_region 7 with fail
    go_quiet (first | (go_at_call 30; exact own_quiet ha9) | (go_at_call 30; exact own_quiet hb9))
    go_wp2
    go_ret2
    exact tx_no HNo.out (below_quietS HB.out _)

set_option maxRecDepth 100000 in
set_option maxHeartbeats 8000000 in
theorem refText_k4 (n0 : Nat) (ih : refTextOk n0) (ha hb : ByteArray) (ps : List (Tr RuH)) (hdep : (Tr.mk (⟨4, ha, hb⟩ : RuH) ps).depth ≤ n0 + 1) (hwt : (Tr.mk (⟨4, ha, hb⟩ : RuH) ps).wt ≤ 1000000000) (w : World) (a : Option Addr) (cap d : Nat) (hcap : ps.length ≤ cap) (hmax : cap ≤ maxLen) (hr : TrsAt ruHd (· < w.heap.size) 4 w a 0 ps) (hd8 : d ≤ 8) :
    Calls Tryd.prog 31 #[.agg #[.int .i64 4, .string ha, .string hb, .slice a ps.length cap], .int .i64 (d : Int)] w (TxPost w (.mk ⟨4, ha, hb⟩ ps) d) := by
  rw [Tr.depth_mk] at hdep
  rw [wt_mk] at hwt
  have hps : ∀ p ∈ ps, p.depth ≤ n0 := (Tr.depthL_le ps).1 (by omega)
  dsimp only at hwt
  have ha9 : ha.size ≤ 1000000000 := by omega
  have hb9 : hb.size ≤ 1000000000 := by omega
  have hs9 : ha.size + 2 + hb.size ≤ 1000000000 := by omega
  have HWt := Lib.hid (show wtL ps ≤ 1000000000 by omega)
  obtain ⟨n, hn⟩ : ∃ n, ps.length = n := ⟨_, rfl⟩
  obtain ⟨N, hN⟩ : ∃ N, w.heap.size = N := ⟨_, rfl⟩
  have HL := Lib.hid hn
  have HR := Lib.hid hr
  have HIh := Lib.hid ih
  have HPs := Lib.hid hps
  unfold maxLen at hmax
  rw [hn] at hcap
  rw [hn]
  obtain ⟨W0, hW0⟩ : ∃ W, W = w.alloc (.cells #[.int .i64 4, .string ha, .string hb, .slice a n cap] 42) := ⟨_, rfl⟩
  have b0 : Below w.heap.size w W0 := by rw [hW0]; exact (Below.refl _ _).alloc (Nat.le_refl _) _
  have s0 : W0.heap.size = N + 1 := by rw [hW0, ← hN]; simp
  have e0 : W0.heap[N]? = some (.cells #[.int .i64 4, .string ha, .string hb, .slice a n cap] 42 (0, 0)) := by rw [hW0, ← hN]; exact heap_alloc_new w _
  have hl1 : N < W0.heap.size := by omega
  have HX := Lib.hid e0
  have HB := Lib.hid b0
  have HW := Lib.hid hW0
  have HN := Lib.hid hN
  have HEA := Lib.hid (stremp ha)
  have HEB := Lib.hid (stremp hb)
  have HD := Lib.hid (fun (e : okR 0 ⟨4, ha, hb⟩ ps.length = false) => tx_off (d := d) e)
  have x0 := Lib.cell_of_heap e0 0; have x1 := Lib.cell_of_heap e0 1; have x2 := Lib.cell_of_heap e0 2; have x3 := Lib.cell_of_heap e0 3
  simp at x0 x1 x2 x3
  clear hr ih hps hn b0 e0 hW0 hN hwt hdep s0
  go_enter Tryd.func31, Tryd.ntmps31
  go_upto_region 1 with fail
  rw [HN.out, ← HW.out]
  clear HW
  have hok : okR 0 ⟨4, ha, hb⟩ ps.length = (decide (ha = cNone) && decide (hb = cNone) && decide ((4 : Int) ≠ 0) && decide (2 ≤ n)) := by rw [HL.out]; rfl
  rw [hok] at HD
  by_cases hA : ha = cNone
  · have qA : ha.toList.isEmpty = true := by rw [HEA.out, decide_eq_true hA]
    have HA := Lib.hid hA
    clear hA
    by_cases hB : hb = cNone
    · have qB : hb.toList.isEmpty = true := by rw [HEB.out, decide_eq_true hB]
      have HB2 := Lib.hid hB
      clear hB
      by_cases h2 : 2 ≤ n
      · have h2I : (2 : Int) ≤ n := by omega
        have HGo := Lib.hid (show textF 0 d (.mk ⟨4, ha, hb⟩ ps) = goT 4 d barS true ps by
          rw [textF_mk, hok, decide_eq_true HA.out, decide_eq_true HB2.out, decide_eq_true h2]; rfl)
        clear hok HA HB2 HD HEA HEB
        go_wp2
        go_loopw [6, 91] (fun ov iv wr => TxRel W0 4 d barS ps n ov iv wr) (fun _ iv _ => n - (intOf iv).toNat)
        case atStart => exact ⟨0, [], rfl, rfl, Nat.zero_le _, paSt_start _ _ _ _, Below.refl _ _⟩
        case round =>
          obtain ⟨i, acc, rfl, rfl, hin, hst, hbr⟩ := hrel
          have HSt := Lib.hid hst
          have HBr := Lib.hid hbr
          clear hst hbr x0 x1 x2 x3
          by_cases hlt : i < n
          · have hltI : (i : Int) < n := by omega
            have h0I : (0 : Int) ≤ i := by omega
            have hbw := HB.out.trans (HBr.out.mono HB.out.size)
            obtain ⟨x, hx⟩ : ∃ x, ps[i]? = some x := ⟨ps[i]'(by rw [HL.out]; exact hlt), List.getElem?_eq_getElem _⟩
            obtain ⟨b, off, cs, rfl, hbB, hbl, hcl, hcs, htr⟩ := (TrsAt.keep (Keeps.of_below hbw) (ruHd_keep (Keeps.of_below hbw)) ps HR.out).get hx
            have hxm := List.mem_of_getElem? hx
            have hwi : acc.length + (4 + x.wt) ≤ 1000000000 + 4 := by
              have h1 := HSt.out.1
              have h2 := wtL_snoc ps hx
              have h3 := wtL_take ps (i + 1)
              have h4 := HWt.out
              omega
            obtain ⟨⟨xk, xa', xb'⟩, xp⟩ := x
            obtain ⟨xa, xcap, rfl, x1, x2, xt⟩ := trRu_open htr
            have k0 := hcs 0 _ rfl; have k1 := hcs 1 _ rfl; have k2 := hcs 2 _ rfl; have k3 := hcs 3 _ rfl
            simp only [Nat.zero_add, Nat.add_zero] at k0 k1 k2 k3
            obtain ⟨wk, hwk⟩ : ∃ W, W = wr.alloc (.cells #[.int .i64 xk, .string xa', .string xb', .slice xa xp.length xcap] 42) := ⟨_, rfl⟩
            have hbk : Below wr.heap.size wr wk := by rw [hwk]; exact (Below.refl _ _).alloc (Nat.le_refl _) _
            have hyk : wk.heap[wr.heap.size]? = some (.cells #[.int .i64 xk, .string xa', .string xb', .slice xa xp.length xcap] 42 (0, 0)) := by rw [hwk]; exact heap_alloc_new wr _
            have hbs := HBr.out.size
            have HBk := Lib.hid (HBr.out.trans (hbk.mono hbs))
            have hzk := (HBk.out.block N hl1).trans HX.out
            have hlk : wr.heap.size < wk.heap.size := (Array.getElem?_eq_some_iff.1 hyk).1
            have hlN : N < wk.heap.size := by omega
            have y0 := Lib.cell_of_heap hyk 0; have y1 := Lib.cell_of_heap hyk 1; have y2 := Lib.cell_of_heap hyk 2; have y3 := Lib.cell_of_heap hyk 3
            have z0 := Lib.cell_of_heap hzk 0
            simp at y0 y1 y2 y3 z0
            have HZk := Lib.hid hzk
            have HXt := Lib.hid (TrsAt.mono (ok' := (· < wk.heap.size)) (fun x hx _ => hx) (ruHd_mono (fun x hx _ => hx)) xp (TrsAt.keep (Keeps.of_below (hbk.mono (show w.heap.size ≤ wr.heap.size from hbw.size))) (ruHd_keep (Keeps.of_below (hbk.mono (show w.heap.size ≤ wr.heap.size from hbw.size)))) xp xt))
            have HAk := Lib.hid hwk
            have HXi := Lib.hid hx
            have hxw : (Tr.mk (⟨xk, xa', xb'⟩ : RuH) xp).wt ≤ 1000000000 := by omega
            have HIt := Lib.hid (fun D hD => HIh.out ⟨xk, xa', xb'⟩ xp (HPs.out _ hxm) hxw wk xa xcap D x1 x2 HXt.out hD)
            clear hcl hcs htr hx hbw hbk hyk hzk hwk xt
            go_upto_region 16 with fail
            rw [← HAk.out]
            clear k0 k1 k2 k3 HAk
            by_cases kx : xk = 4
            · subst kx
              have HNo := Lib.hid (HGo.out.trans (paSt_none HSt.out HXi.out (part_kind (.inl rfl) rfl)))
              go_wp2
              go_ret2
              exact tx_no HNo.out (HB.out.trans (HBk.out.mono HB.out.size))
            · have nx : (xk != 4) = true := by simp [kx]
              have hdI : (d : Int) ≤ 8 := by omega
              have hdB : decide ((d : Int) ≤ 8) = true := decide_eq_true hdI
              have HC := Lib.hid (HIt.out d (hd8))
              have HEq := Lib.hid (part_same (d := d) (ps := xp) (h := ⟨xk, xa', xb'⟩) (k := 4) kx (fun e => by have := e.1; omega))
              go_wp2_with (go_at_call 31; go_must (refine HC.out.mono ?_))
              rintro e w3 ⟨s, bb, rfl, hyes, hno, hb3⟩
              have HB3 := Lib.hid (HBk.out.trans (hb3.mono HBk.out.size))
              have z0' := Lib.cell_of_heap ((hb3.block N hlN).trans HZk.out) 0
              simp at z0'
              clear hb3 y0 y1 y2 y3 z0 HC
              cases bb with
              | false =>
                have HNo := Lib.hid (HGo.out.trans (paSt_none HSt.out HXi.out (HEq.out.trans (hno rfl))))
                clear hyes hno
                go_wp2
                go_ret2
                exact tx_no HNo.out (HB.out.trans (HB3.out.mono HB.out.size))
              | true =>
                have hsl := textF_wt _ _ _ _ (hyes rfl)
                have HNx := Lib.hid (paSt_next (sep := barS) rfl HSt.out HXi.out (HEq.out.trans (hyes rfl)))
                clear hyes hno
                by_cases hi0 : i = 0
                · subst hi0
                  have hg : ∀ W, (Op.stringOp .add (tk acc) (tk s)).run Tryd.prog W = .ok (.string (tk (acc ++ ([] ++ s)))) W := fun W => by
                    rw [run_string_add_sum W _ _ (by rw [tk_size, tk_size]; omega), tk_cat, List.nil_append]
                  go_wp2
                  exact ⟨⟨1, _, rfl, rfl, by omega, HNx.out, HB3.out⟩, by simp [intOf]; omega⟩
                · have hi0I : (0 : Int) < i := by omega
                  have hg1 : ∀ W, (Op.stringOp .add (tk acc) ⟨#[32, 124, 32]⟩).run Tryd.prog W = .ok (.string (tk (acc ++ barS))) W := fun W => by
                    have h := run_string_add_sum (P := Tryd.prog) W (tk acc) (tk barS) (by rw [tk_size, tk_size, show barS.length = 3 from rfl]; omega)
                    rw [tk_cat] at h
                    exact h
                  have hg : ∀ W, (Op.stringOp .add (tk (acc ++ barS)) (tk s)).run Tryd.prog W = .ok (.string (tk (acc ++ (barS ++ s)))) W := fun W => by
                    rw [run_string_add_sum W _ _ (by rw [tk_size, tk_size, List.length_append, show barS.length = 3 from rfl]; omega), tk_cat, List.append_assoc]
                  rw [if_neg hi0] at HNx
                  go_wp2
                  exact ⟨⟨i + 1, _, by go_num, rfl, by omega, HNx.out, HB3.out⟩, by simp [intOf]; omega⟩
          · obtain rfl : i = n := by omega
            have hltI : ¬ (i : Int) < i := by omega
            have HBz := Lib.hid (HB.out.trans (HBr.out.mono HB.out.size))
            have HYes := Lib.hid (HGo.out.trans (paSt_end HSt.out HL.out))
            go_wp2
            go_ret2
            exact tx_yes HYes.out HBz.out
      · have h2I : ¬ (2 : Int) ≤ n := by omega
        have HNo := Lib.hid (HD.out (by rw [decide_eq_false h2, Bool.and_false]))
        clear hok
        go_wp2
        go_ret2
        exact tx_no HNo.out HB.out
    · have qB : hb.toList.isEmpty = false := by rw [HEB.out, decide_eq_false hB]
      have HNo := Lib.hid (HD.out (by rw [decide_eq_false hB, Bool.and_false]; rfl))
      clear hok
      go_wp2
      go_ret2
      exact tx_no HNo.out HB.out
  · have qA : ha.toList.isEmpty = false := by rw [HEA.out, decide_eq_false hA]
    have HNo := Lib.hid (HD.out (by rw [decide_eq_false hA]; rfl))
    clear hok
    go_wp2
    go_ret2
    exact tx_no HNo.out HB.out

set_option maxRecDepth 100000 in
set_option maxHeartbeats 8000000 in
theorem refText_k5 (n0 : Nat) (ih : refTextOk n0) (ha hb : ByteArray) (ps : List (Tr RuH)) (hdep : (Tr.mk (⟨5, ha, hb⟩ : RuH) ps).depth ≤ n0 + 1) (hwt : (Tr.mk (⟨5, ha, hb⟩ : RuH) ps).wt ≤ 1000000000) (w : World) (a : Option Addr) (cap d : Nat) (hcap : ps.length ≤ cap) (hmax : cap ≤ maxLen) (hr : TrsAt ruHd (· < w.heap.size) 4 w a 0 ps) (hd8 : d ≤ 8) :
    Calls Tryd.prog 31 #[.agg #[.int .i64 5, .string ha, .string hb, .slice a ps.length cap], .int .i64 (d : Int)] w (TxPost w (.mk ⟨5, ha, hb⟩ ps) d) := by
  rw [Tr.depth_mk] at hdep
  rw [wt_mk] at hwt
  have hps : ∀ p ∈ ps, p.depth ≤ n0 := (Tr.depthL_le ps).1 (by omega)
  dsimp only at hwt
  have ha9 : ha.size ≤ 1000000000 := by omega
  have hb9 : hb.size ≤ 1000000000 := by omega
  have hs9 : ha.size + 2 + hb.size ≤ 1000000000 := by omega
  have HWt := Lib.hid (show wtL ps ≤ 1000000000 by omega)
  obtain ⟨n, hn⟩ : ∃ n, ps.length = n := ⟨_, rfl⟩
  obtain ⟨N, hN⟩ : ∃ N, w.heap.size = N := ⟨_, rfl⟩
  have HL := Lib.hid hn
  have HR := Lib.hid hr
  have HIh := Lib.hid ih
  have HPs := Lib.hid hps
  unfold maxLen at hmax
  rw [hn] at hcap
  rw [hn]
  obtain ⟨W0, hW0⟩ : ∃ W, W = w.alloc (.cells #[.int .i64 5, .string ha, .string hb, .slice a n cap] 42) := ⟨_, rfl⟩
  have b0 : Below w.heap.size w W0 := by rw [hW0]; exact (Below.refl _ _).alloc (Nat.le_refl _) _
  have s0 : W0.heap.size = N + 1 := by rw [hW0, ← hN]; simp
  have e0 : W0.heap[N]? = some (.cells #[.int .i64 5, .string ha, .string hb, .slice a n cap] 42 (0, 0)) := by rw [hW0, ← hN]; exact heap_alloc_new w _
  have hl1 : N < W0.heap.size := by omega
  have HX := Lib.hid e0
  have HB := Lib.hid b0
  have HW := Lib.hid hW0
  have HN := Lib.hid hN
  have HEA := Lib.hid (stremp ha)
  have HEB := Lib.hid (stremp hb)
  have HD := Lib.hid (fun (e : okR 0 ⟨5, ha, hb⟩ ps.length = false) => tx_off (d := d) e)
  have x0 := Lib.cell_of_heap e0 0; have x1 := Lib.cell_of_heap e0 1; have x2 := Lib.cell_of_heap e0 2; have x3 := Lib.cell_of_heap e0 3
  simp at x0 x1 x2 x3
  clear hr ih hps hn b0 e0 hW0 hN hwt hdep s0
  go_enter Tryd.func31, Tryd.ntmps31
  go_upto_region 1 with fail
  rw [HN.out, ← HW.out]
  clear HW
  have hok : okR 0 ⟨5, ha, hb⟩ ps.length = (decide (ha = cNone) && decide (hb = cNone) && decide ((5 : Int) ≠ 0) && decide (2 ≤ n)) := by rw [HL.out]; rfl
  rw [hok] at HD
  by_cases hA : ha = cNone
  · have qA : ha.toList.isEmpty = true := by rw [HEA.out, decide_eq_true hA]
    have HA := Lib.hid hA
    clear hA
    by_cases hB : hb = cNone
    · have qB : hb.toList.isEmpty = true := by rw [HEB.out, decide_eq_true hB]
      have HB2 := Lib.hid hB
      clear hB
      by_cases h2 : 2 ≤ n
      · have h2I : (2 : Int) ≤ n := by omega
        have HGo := Lib.hid (show textF 0 d (.mk ⟨5, ha, hb⟩ ps) = goT 5 d ampS true ps by
          rw [textF_mk, hok, decide_eq_true HA.out, decide_eq_true HB2.out, decide_eq_true h2]; rfl)
        clear hok HA HB2 HD HEA HEB
        go_wp2
        go_loopw [6, 91] (fun ov iv wr => TxRel W0 5 d ampS ps n ov iv wr) (fun _ iv _ => n - (intOf iv).toNat)
        case atStart => exact ⟨0, [], rfl, rfl, Nat.zero_le _, paSt_start _ _ _ _, Below.refl _ _⟩
        case round =>
          obtain ⟨i, acc, rfl, rfl, hin, hst, hbr⟩ := hrel
          have HSt := Lib.hid hst
          have HBr := Lib.hid hbr
          clear hst hbr x0 x1 x2 x3
          by_cases hlt : i < n
          · have hltI : (i : Int) < n := by omega
            have h0I : (0 : Int) ≤ i := by omega
            have hbw := HB.out.trans (HBr.out.mono HB.out.size)
            obtain ⟨x, hx⟩ : ∃ x, ps[i]? = some x := ⟨ps[i]'(by rw [HL.out]; exact hlt), List.getElem?_eq_getElem _⟩
            obtain ⟨b, off, cs, rfl, hbB, hbl, hcl, hcs, htr⟩ := (TrsAt.keep (Keeps.of_below hbw) (ruHd_keep (Keeps.of_below hbw)) ps HR.out).get hx
            have hxm := List.mem_of_getElem? hx
            have hwi : acc.length + (4 + x.wt) ≤ 1000000000 + 4 := by
              have h1 := HSt.out.1
              have h2 := wtL_snoc ps hx
              have h3 := wtL_take ps (i + 1)
              have h4 := HWt.out
              omega
            obtain ⟨⟨xk, xa', xb'⟩, xp⟩ := x
            obtain ⟨xa, xcap, rfl, x1, x2, xt⟩ := trRu_open htr
            have k0 := hcs 0 _ rfl; have k1 := hcs 1 _ rfl; have k2 := hcs 2 _ rfl; have k3 := hcs 3 _ rfl
            simp only [Nat.zero_add, Nat.add_zero] at k0 k1 k2 k3
            obtain ⟨wk, hwk⟩ : ∃ W, W = wr.alloc (.cells #[.int .i64 xk, .string xa', .string xb', .slice xa xp.length xcap] 42) := ⟨_, rfl⟩
            have hbk : Below wr.heap.size wr wk := by rw [hwk]; exact (Below.refl _ _).alloc (Nat.le_refl _) _
            have hyk : wk.heap[wr.heap.size]? = some (.cells #[.int .i64 xk, .string xa', .string xb', .slice xa xp.length xcap] 42 (0, 0)) := by rw [hwk]; exact heap_alloc_new wr _
            have hbs := HBr.out.size
            have HBk := Lib.hid (HBr.out.trans (hbk.mono hbs))
            have hzk := (HBk.out.block N hl1).trans HX.out
            have hlk : wr.heap.size < wk.heap.size := (Array.getElem?_eq_some_iff.1 hyk).1
            have hlN : N < wk.heap.size := by omega
            have y0 := Lib.cell_of_heap hyk 0; have y1 := Lib.cell_of_heap hyk 1; have y2 := Lib.cell_of_heap hyk 2; have y3 := Lib.cell_of_heap hyk 3
            have z0 := Lib.cell_of_heap hzk 0
            simp at y0 y1 y2 y3 z0
            have HZk := Lib.hid hzk
            have HXt := Lib.hid (TrsAt.mono (ok' := (· < wk.heap.size)) (fun x hx _ => hx) (ruHd_mono (fun x hx _ => hx)) xp (TrsAt.keep (Keeps.of_below (hbk.mono (show w.heap.size ≤ wr.heap.size from hbw.size))) (ruHd_keep (Keeps.of_below (hbk.mono (show w.heap.size ≤ wr.heap.size from hbw.size)))) xp xt))
            have HAk := Lib.hid hwk
            have HXi := Lib.hid hx
            have hxw : (Tr.mk (⟨xk, xa', xb'⟩ : RuH) xp).wt ≤ 1000000000 := by omega
            have HIt := Lib.hid (fun D hD => HIh.out ⟨xk, xa', xb'⟩ xp (HPs.out _ hxm) hxw wk xa xcap D x1 x2 HXt.out hD)
            clear hcl hcs htr hx hbw hbk hyk hzk hwk xt
            go_upto_region 16 with fail
            rw [← HAk.out]
            clear k0 k1 k2 k3 HAk
            by_cases kx : xk = 5
            · subst kx
              have HNo := Lib.hid (HGo.out.trans (paSt_none HSt.out HXi.out (part_kind (.inr rfl) rfl)))
              go_wp2
              go_ret2
              exact tx_no HNo.out (HB.out.trans (HBk.out.mono HB.out.size))
            · have nx : (xk != 5) = true := by simp [kx]
              by_cases kx4 : xk = 4
              · subst kx4
                clear kx nx
                by_cases hdl : d < 8
                · have hdI : (d : Int) + 1 ≤ 8 := by omega
                  have hdB : decide ((d : Int) + 1 ≤ 8) = true := decide_eq_true hdI
                  have HC := Lib.hid (HIt.out (d + 1) (by omega))
                  have HEq := Lib.hid (part_bracket (d := d) (ps := xp) (h := ⟨4, xa', xb'⟩) rfl hdl)
                  go_wp2_with (go_at_call 31; go_must (refine HC.out.mono ?_))
                  rintro e w3 ⟨s, bb, rfl, hyes, hno, hb3⟩
                  have HB3 := Lib.hid (HBk.out.trans (hb3.mono HBk.out.size))
                  have z0' := Lib.cell_of_heap ((hb3.block N hlN).trans HZk.out) 0
                  simp at z0'
                  clear hb3 y0 y1 y2 y3 z0 HC
                  cases bb with
                  | false =>
                    have HNo := Lib.hid (HGo.out.trans (paSt_none HSt.out HXi.out (HEq.out.trans (by rw [hno rfl]; rfl))))
                    clear hyes hno
                    go_wp2
                    go_ret2
                    exact tx_no HNo.out (HB.out.trans (HB3.out.mono HB.out.size))
                  | true =>
                    have hsl := textF_wt _ _ _ _ (hyes rfl)
                    have HNx := Lib.hid (paSt_next (sep := ampS) rfl HSt.out HXi.out (HEq.out.trans (by rw [hyes rfl]; rfl)))
                    clear hyes hno
                    have p1 : ∀ W, (Op.stringOp .add ⟨#[40]⟩ (tk s)).run Tryd.prog W = .ok (.string (tk (40 :: s))) W := fun W => by
                      have h := run_string_add_sum (P := Tryd.prog) W (tk [40]) (tk s) (by rw [tk_size, tk_size, List.length_singleton]; omega)
                      rw [tk_cat] at h
                      exact h
                    have p2 : ∀ W, (Op.stringOp .add (tk (40 :: s)) ⟨#[41]⟩).run Tryd.prog W = .ok (.string (tk (40 :: (s ++ [41])))) W := fun W => by
                      have h := run_string_add_sum (P := Tryd.prog) W (tk (40 :: s)) (tk [41]) (by rw [tk_size, tk_size, List.length_singleton, List.length_cons]; omega)
                      rw [tk_cat] at h
                      exact h
                    by_cases hi0 : i = 0
                    · subst hi0
                      have hg : ∀ W, (Op.stringOp .add (tk acc) (tk (40 :: (s ++ [41])))).run Tryd.prog W = .ok (.string (tk (acc ++ ([] ++ (40 :: (s ++ [41])))))) W := fun W => by
                        rw [run_string_add_sum W _ _ (by rw [tk_size, tk_size, List.length_cons, List.length_append, List.length_singleton]; omega), tk_cat, List.nil_append]
                      go_wp2
                      exact ⟨⟨1, _, rfl, rfl, by omega, HNx.out, HB3.out⟩, by simp [intOf]; omega⟩
                    · have hi0I : (0 : Int) < i := by omega
                      have hg1 : ∀ W, (Op.stringOp .add (tk acc) ⟨#[32, 38, 32]⟩).run Tryd.prog W = .ok (.string (tk (acc ++ ampS))) W := fun W => by
                        have h := run_string_add_sum (P := Tryd.prog) W (tk acc) (tk ampS) (by rw [tk_size, tk_size, show ampS.length = 3 from rfl]; omega)
                        rw [tk_cat] at h
                        exact h
                      have hg : ∀ W, (Op.stringOp .add (tk (acc ++ ampS)) (tk (40 :: (s ++ [41])))).run Tryd.prog W = .ok (.string (tk (acc ++ (ampS ++ (40 :: (s ++ [41])))))) W := fun W => by
                        rw [run_string_add_sum W _ _ (by rw [tk_size, tk_size, List.length_append, show ampS.length = 3 from rfl, List.length_cons, List.length_append, List.length_singleton]; omega), tk_cat, List.append_assoc]
                      rw [if_neg hi0] at HNx
                      go_wp2
                      exact ⟨⟨i + 1, _, by go_num, rfl, by omega, HNx.out, HB3.out⟩, by simp [intOf]; omega⟩
                · have hdI : ¬ (d : Int) + 1 ≤ 8 := by omega
                  have hdB : decide ((d : Int) + 1 ≤ 8) = false := decide_eq_false hdI
                  have HNo := Lib.hid (HGo.out.trans (paSt_none HSt.out HXi.out (part_deep rfl hdl)))
                  go_wp2
                  go_ret2
                  exact tx_no HNo.out (HB.out.trans (HBk.out.mono HB.out.size))
              · have nx4 : (xk == 4) = false := by simp [kx4]
                have hdI : (d : Int) ≤ 8 := by omega
                have hdB : decide ((d : Int) ≤ 8) = true := decide_eq_true hdI
                have HC := Lib.hid (HIt.out d (hd8))
                have HEq := Lib.hid (part_same (d := d) (ps := xp) (h := ⟨xk, xa', xb'⟩) (k := 5) kx (fun e => kx4 e.2))
                go_wp2_with (go_at_call 31; go_must (refine HC.out.mono ?_))
                rintro e w3 ⟨s, bb, rfl, hyes, hno, hb3⟩
                have HB3 := Lib.hid (HBk.out.trans (hb3.mono HBk.out.size))
                have z0' := Lib.cell_of_heap ((hb3.block N hlN).trans HZk.out) 0
                simp at z0'
                clear hb3 y0 y1 y2 y3 z0 HC
                cases bb with
                | false =>
                  have HNo := Lib.hid (HGo.out.trans (paSt_none HSt.out HXi.out (HEq.out.trans (hno rfl))))
                  clear hyes hno
                  go_wp2
                  go_ret2
                  exact tx_no HNo.out (HB.out.trans (HB3.out.mono HB.out.size))
                | true =>
                  have hsl := textF_wt _ _ _ _ (hyes rfl)
                  have HNx := Lib.hid (paSt_next (sep := ampS) rfl HSt.out HXi.out (HEq.out.trans (hyes rfl)))
                  clear hyes hno
                  by_cases hi0 : i = 0
                  · subst hi0
                    have hg : ∀ W, (Op.stringOp .add (tk acc) (tk s)).run Tryd.prog W = .ok (.string (tk (acc ++ ([] ++ s)))) W := fun W => by
                      rw [run_string_add_sum W _ _ (by rw [tk_size, tk_size]; omega), tk_cat, List.nil_append]
                    go_wp2
                    exact ⟨⟨1, _, rfl, rfl, by omega, HNx.out, HB3.out⟩, by simp [intOf]; omega⟩
                  · have hi0I : (0 : Int) < i := by omega
                    have hg1 : ∀ W, (Op.stringOp .add (tk acc) ⟨#[32, 38, 32]⟩).run Tryd.prog W = .ok (.string (tk (acc ++ ampS))) W := fun W => by
                      have h := run_string_add_sum (P := Tryd.prog) W (tk acc) (tk ampS) (by rw [tk_size, tk_size, show ampS.length = 3 from rfl]; omega)
                      rw [tk_cat] at h
                      exact h
                    have hg : ∀ W, (Op.stringOp .add (tk (acc ++ ampS)) (tk s)).run Tryd.prog W = .ok (.string (tk (acc ++ (ampS ++ s)))) W := fun W => by
                      rw [run_string_add_sum W _ _ (by rw [tk_size, tk_size, List.length_append, show ampS.length = 3 from rfl]; omega), tk_cat, List.append_assoc]
                    rw [if_neg hi0] at HNx
                    go_wp2
                    exact ⟨⟨i + 1, _, by go_num, rfl, by omega, HNx.out, HB3.out⟩, by simp [intOf]; omega⟩
          · obtain rfl : i = n := by omega
            have hltI : ¬ (i : Int) < i := by omega
            have HBz := Lib.hid (HB.out.trans (HBr.out.mono HB.out.size))
            have HYes := Lib.hid (HGo.out.trans (paSt_end HSt.out HL.out))
            go_wp2
            go_ret2
            exact tx_yes HYes.out HBz.out
      · have h2I : ¬ (2 : Int) ≤ n := by omega
        have HNo := Lib.hid (HD.out (by rw [decide_eq_false h2, Bool.and_false]))
        clear hok
        go_wp2
        go_ret2
        exact tx_no HNo.out HB.out
    · have qB : hb.toList.isEmpty = false := by rw [HEB.out, decide_eq_false hB]
      have HNo := Lib.hid (HD.out (by rw [decide_eq_false hB, Bool.and_false]; rfl))
      clear hok
      go_wp2
      go_ret2
      exact tx_no HNo.out HB.out
  · have qA : ha.toList.isEmpty = false := by rw [HEA.out, decide_eq_false hA]
    have HNo := Lib.hid (HD.out (by rw [decide_eq_false hA]; rfl))
    clear hok
    go_wp2
    go_ret2
    exact tx_no HNo.out HB.out

set_option maxRecDepth 100000 in
set_option maxHeartbeats 8000000 in
theorem refText_ko (n0 : Nat) (ih : refTextOk n0) (k : Int) (k1 : k ≠ 1) (k2 : k ≠ 2) (k3 : k ≠ 3) (k4 : k ≠ 4) (k5 : k ≠ 5) (ha hb : ByteArray) (ps : List (Tr RuH)) (hdep : (Tr.mk (⟨k, ha, hb⟩ : RuH) ps).depth ≤ n0 + 1) (hwt : (Tr.mk (⟨k, ha, hb⟩ : RuH) ps).wt ≤ 1000000000) (w : World) (a : Option Addr) (cap d : Nat) (_ : ps.length ≤ cap) (_ : cap ≤ maxLen) (hr : TrsAt ruHd (· < w.heap.size) 4 w a 0 ps) (_ : d ≤ 8) :
    Calls Tryd.prog 31 #[.agg #[.int .i64 k, .string ha, .string hb, .slice a ps.length cap], .int .i64 (d : Int)] w (TxPost w (.mk ⟨k, ha, hb⟩ ps) d) := by
  rw [Tr.depth_mk] at hdep
  rw [wt_mk] at hwt
  have hps : ∀ p ∈ ps, p.depth ≤ n0 := (Tr.depthL_le ps).1 (by omega)
  dsimp only at hwt
  have ha9 : ha.size ≤ 1000000000 := by omega
  have hb9 : hb.size ≤ 1000000000 := by omega
  have hs9 : ha.size + 2 + hb.size ≤ 1000000000 := by omega
  have HWt := Lib.hid (show wtL ps ≤ 1000000000 by omega)
  obtain ⟨n, hn⟩ : ∃ n, ps.length = n := ⟨_, rfl⟩
  obtain ⟨N, hN⟩ : ∃ N, w.heap.size = N := ⟨_, rfl⟩
  have HL := Lib.hid hn
  have HR := Lib.hid hr
  have HIh := Lib.hid ih
  have HPs := Lib.hid hps
  rw [hn]
  obtain ⟨W0, hW0⟩ : ∃ W, W = w.alloc (.cells #[.int .i64 k, .string ha, .string hb, .slice a n cap] 42) := ⟨_, rfl⟩
  have b0 : Below w.heap.size w W0 := by rw [hW0]; exact (Below.refl _ _).alloc (Nat.le_refl _) _
  have s0 : W0.heap.size = N + 1 := by rw [hW0, ← hN]; simp
  have e0 : W0.heap[N]? = some (.cells #[.int .i64 k, .string ha, .string hb, .slice a n cap] 42 (0, 0)) := by rw [hW0, ← hN]; exact heap_alloc_new w _
  have hl1 : N < W0.heap.size := by omega
  have HX := Lib.hid e0
  have HB := Lib.hid b0
  have HW := Lib.hid hW0
  have HN := Lib.hid hN
  have HEA := Lib.hid (stremp ha)
  have HEB := Lib.hid (stremp hb)
  have HD := Lib.hid (fun (e : okR 0 ⟨k, ha, hb⟩ ps.length = false) => tx_off (d := d) e)
  have x0 := Lib.cell_of_heap e0 0; have x1 := Lib.cell_of_heap e0 1; have x2 := Lib.cell_of_heap e0 2; have x3 := Lib.cell_of_heap e0 3
  simp at x0 x1 x2 x3
  clear hr ih hps hn b0 e0 hW0 hN hwt hdep s0
  go_enter Tryd.func31, Tryd.ntmps31
  go_upto_region 1 with fail
  rw [HN.out, ← HW.out]
  clear HW
  have n1 : (k == 1) = false := by simp [k1]
  have n2 : (k == 2) = false := by simp [k2]
  have n3 : (k == 3) = false := by simp [k3]
  have n4 : (k == 4) = false := by simp [k4]
  have n5 : (k == 5) = false := by simp [k5]
  have hok : okR 0 ⟨k, ha, hb⟩ ps.length = false := by
    unfold okR
    rw [if_neg k1, if_neg k2, if_neg k3, if_neg (by rintro (h | h); exact k4 h; exact k5 h)]
  have HNo := Lib.hid (HD.out hok)
  clear hok
  go_wp2
  go_ret2
  exact tx_no HNo.out HB.out

theorem refText_ok : ∀ n : Nat, refTextOk n
  | 0 => fun h ps hd => by rw [Tr.depth_mk] at hd; omega
  | n0 + 1 => by
    have ih := refText_ok n0
    intro h ps hdep hwt w a cap d hcap hmax hr hd8
    obtain ⟨k, ha, hb⟩ := h
    by_cases k1 : k = 1
    · subst k1; exact refText_k1 n0 ih ha hb ps hdep hwt w a cap d hcap hmax hr hd8
    by_cases k2 : k = 2
    · subst k2; exact refText_k2 n0 ih ha hb ps hdep hwt w a cap d hcap hmax hr hd8
    by_cases k3 : k = 3
    · subst k3; exact refText_k3 n0 ih ha hb ps hdep hwt w a cap d hcap hmax hr hd8
    by_cases k4 : k = 4
    · subst k4; exact refText_k4 n0 ih ha hb ps hdep hwt w a cap d hcap hmax hr hd8
    by_cases k5 : k = 5
    · subst k5; exact refText_k5 n0 ih ha hb ps hdep hwt w a cap d hcap hmax hr hd8
    exact refText_ko n0 ih k k1 k2 k3 k4 k5 ha hb ps hdep hwt w a cap d hcap hmax hr hd8
end Go.Proofs.YtopnldebekhelaaDoor
