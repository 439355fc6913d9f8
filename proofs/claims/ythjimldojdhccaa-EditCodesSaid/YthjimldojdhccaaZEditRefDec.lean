/- sentryref16.Decode of any bytes (written by gen_editrefdec.py). -/
import Derived.Test.YthjimldojdhccaaZEditDec
import Derived.Deep.DeepCutAuto
import Derived.Deep.CutBlock
namespace Go.Proofs.Ythjimldojdhccaa
open Go Go.RowKit

theorem etouch_ownsL {w w' : World} {B n s : Nat} {l : List Nat} {e : TypeId} {v : Value} {xs : List Value} (h : w.ownsRow B e s v n xs) (ht : Touch w w' l) (hl : ∀ g, g ∈ l → g < B) : w'.ownsRow B e s v n xs :=
  ⟨h.1, h.2.imp_right fun ⟨g', cap, cur, q1, q2, q3, q4⟩ => ⟨g', cap, cur, q1, q2, ht.keep q3 (fun hm => by have := hl _ hm; omega), q4⟩⟩

/-- On the way of a loop of the reference's Decode: the row grows in the struct in block x. -/
def FRel {α : Type} (f : List UInt8 → Nat → α × List UInt8 × Nat) (cells : α → List Value) (rt ty : TypeId) (k B : Nat) (w : World) (g x : Nat) (F : Value → Array Value) (T : TypeId) (L : Nat) (res : List α × List UInt8 × Nat) (c : Value) (wr : World) : Prop :=
  ∃ (xs : List α) (m : Nat) (li : List UInt8) (bi : Nat) (v : Value), c = .int .u64 (m : Int) ∧ m < 18446744073709551616 ∧ wr.ownsRow w.heap.size ty k v xs.length (xs.flatMap cells) ∧ wr.heap[x]? = some (.cells (F v) T (0, 0)) ∧ ERAt rt B wr g li bi ∧ Touch w wr [g, x] ∧
    res = (xs ++ (emany f m li bi).1, (emany f m li bi).2) ∧ (bi = 0 → xs.length + li.length ≤ L) ∧ xs.length ≤ L + 1
def FPost {α : Type} (cells : α → List Value) (rt ty : TypeId) (k B : Nat) (w : World) (g x : Nat) (F : Value → Array Value) (T : TypeId) (res : List α × List UInt8 × Nat) (w' : World) : Prop :=
  ∃ v, w'.ownsRow w.heap.size ty k v res.1.length (res.1.flatMap cells) ∧ w'.heap[x]? = some (.cells (F v) T (0, 0)) ∧ ERAt rt B w' g res.2.1 res.2.2 ∧ Touch w w' [g, x]
def F1 (v : Value) : Array Value := #[v, .slice none 0 0, .int .u64 0, .int .u64 0, .int .i64 0, .int .i64 0]
def F2 (a v : Value) : Array Value := #[a, v, .int .u64 0, .int .u64 0, .int .i64 0, .int .i64 0]

theorem infoG_frefdec : (Try.prog.info? 45).map (fun i => (i.zero, i.size, i.bytes)) = some (some (tv ⟨0, 0, 0, ⟨#[]⟩, ⟨#[]⟩⟩), 5, 56) := by kernel_rfl
theorem infoI_frefdec : (Try.prog.info? 3).map (fun i => (i.zero, i.size, i.bytes)) = some (some (.int .i64 0), 1, 8) := by kernel_rfl
set_option maxRecDepth 100000 in
set_option maxHeartbeats 4000000 in
theorem refdecode_any (w : World) (v : Value) (l0 : List UInt8) (h : Sl w.heap.size w v l0) (hl : l0.length ≤ 1000000) :
    Calls Try.prog 12 #[v] w (DecPost w (readE l0)) := by
  obtain ⟨jt, hjt, hyt0, hyt1, hyt2⟩ := info_parts infoG_frefdec
  obtain ⟨ji, hji, hyi0, hyi1, hyi2⟩ := info_parts infoI_frefdec
  obtain ⟨av, cv, rfl, hcv1, hcv2⟩ := h.reads.le
  obtain ⟨W0, hW0⟩ : ∃ W, W = w.alloc (.cells #[.slice none 0 0, .slice none 0 0, .int .u64 0, .int .u64 0, .int .i64 0, .int .i64 0] 26) := ⟨_, rfl⟩
  obtain ⟨W1, hW1⟩ : ∃ W, W = W0.alloc (.cells #[.slice av l0.length cv, .int .i64 0] 67) := ⟨_, rfl⟩
  obtain ⟨W2, hW2⟩ : ∃ W, W = W1.alloc (.cells #[.slice none 0 0, .slice none 0 0, .int .u64 0, .int .u64 0, .int .i64 0, .int .i64 0] 26) := ⟨_, rfl⟩
  have s0 : W0.heap.size = w.heap.size + 1 := by rw [hW0]; simp
  have s1 : W1.heap.size = w.heap.size + 2 := by rw [hW1]; simp [s0]
  have s2 : W2.heap.size = w.heap.size + 3 := by rw [hW2]; simp [s1]
  have b01 : Below W0.heap.size W0 W1 := by rw [hW1]; exact (Below.refl _ _).alloc (Nat.le_refl _) _
  have b12 : Below W1.heap.size W1 W2 := by rw [hW2]; exact (Below.refl _ _).alloc (Nat.le_refl _) _
  have b0 : Below w.heap.size w W0 := by rw [hW0]; exact (Below.refl _ _).alloc (Nat.le_refl _) _
  have bx0 : W0.heap[w.heap.size]? = some (.cells #[.slice none 0 0, .slice none 0 0, .int .u64 0, .int .u64 0, .int .i64 0, .int .i64 0] 26 (0, 0)) := by rw [hW0]; exact heap_alloc_new w _
  have bx1 : W1.heap[w.heap.size + 1]? = some (.cells #[.slice av l0.length cv, .int .i64 0] 67 (0, 0)) := by
    have := heap_alloc_new W0 (.cells #[.slice av l0.length cv, .int .i64 0] 67)
    rw [← hW1, s0] at this
    exact this
  have bx2 : W2.heap[w.heap.size + 2]? = some (.cells #[.slice none 0 0, .slice none 0 0, .int .u64 0, .int .u64 0, .int .i64 0, .int .i64 0] 26 (0, 0)) := by
    have := heap_alloc_new W1 (.cells #[.slice none 0 0, .slice none 0 0, .int .u64 0, .int .u64 0, .int .i64 0, .int .i64 0] 26)
    rw [← hW2, s1] at this
    exact this
  have hx0 : W2.heap[w.heap.size]? = some (.cells #[.slice none 0 0, .slice none 0 0, .int .u64 0, .int .u64 0, .int .i64 0, .int .i64 0] 26 (0, 0)) := (b12.block _ (by omega)).trans ((b01.block _ (by omega)).trans bx0)
  have hx1 : W2.heap[w.heap.size + 1]? = some (.cells #[.slice av l0.length cv, .int .i64 0] 67 (0, 0)) := (b12.block _ (by omega)).trans bx1
  have hb : Below w.heap.size w W2 := b0.trans ((b01.mono (by omega)).trans (b12.mono (by omega)))
  have HR := Lib.hid (show ERAt 67 w.heap.size W2 (w.heap.size + 1) l0 0 from ⟨_, hx1, h.below hb, Nat.le_succ _⟩)
  have HX := Lib.hid bx2
  have HZ := Lib.hid hx0
  have HB := Lib.hid hb
  have HS := Lib.hid s2
  have hr0 : readE l0 = endE (decR l0) := rfl
  rw [hr0]
  unfold decR
  have hl1 := Nat.le_trans (eats_list eats_tab l0 0) hl
  have C0 := fun W (h : ERAt 67 w.heap.size W (w.heap.size + 1) l0 0) => fnumber_any w.heap.size W (w.heap.size + 1) l0 0 h
  have hm0 := ernum_lt l0 0
  have hn0 := Nat.le_trans (eats_num.1 l0 0) hl
  dsimp only at hn0
  unfold elist at hl1 ⊢
  generalize ernum l0 0 = r0 at *
  obtain ⟨n0, m0, b0'⟩ := r0
  dsimp only at *
  obtain ⟨r1, hr1⟩ : ∃ r, emany ertab n0 m0 b0' = r := ⟨_, rfl⟩
  rw [hr1] at hl1 ⊢
  obtain ⟨x1, l1, e1⟩ := r1
  dsimp only at *
  have C1 := fun W (h : ERAt 67 w.heap.size W (w.heap.size + 1) l1 e1) => fnumber_any w.heap.size W (w.heap.size + 1) l1 e1 h
  have hm1 := ernum_lt l1 e1
  have hn1 := Nat.le_trans (eats_num.1 l1 e1) hl1
  dsimp only at hn1
  generalize ernum l1 e1 = r1 at *
  obtain ⟨n1, m1, b1'⟩ := r1
  dsimp only at *
  obtain ⟨r2, hr2⟩ : ∃ r, emany erwh n1 m1 b1' = r := ⟨_, rfl⟩
  rw [hr2]
  obtain ⟨x2, l2, e2⟩ := r2
  dsimp only at *
  have C3 := fun W (h : ERAt 67 w.heap.size W (w.heap.size + 1) l2 e2) => fnumber_any w.heap.size W (w.heap.size + 1) l2 e2 h
  generalize ernum l2 e2 = r3 at *
  obtain ⟨x3, l3, e3⟩ := r3
  dsimp only at *
  have C4 := fun W (h : ERAt 67 w.heap.size W (w.heap.size + 1) l3 e3) => fnumber_any w.heap.size W (w.heap.size + 1) l3 e3 h
  generalize ernum l3 e3 = r4 at *
  obtain ⟨x4, l4, e4⟩ := r4
  dsimp only at *
  have C5 := fun W (h : ERAt 67 w.heap.size W (w.heap.size + 1) l4 e4) => fsmall_any w.heap.size W (w.heap.size + 1) l4 e4 h
  generalize erwh l4 e4 = r5 at *
  obtain ⟨x5, l5, e5⟩ := r5
  dsimp only at *
  have C6 := fun W (h : ERAt 67 w.heap.size W (w.heap.size + 1) l5 e5) => fsmall_any w.heap.size W (w.heap.size + 1) l5 e5 h
  generalize erwh l5 e5 = r6 at *
  obtain ⟨x6, l6, e6⟩ := r6
  dsimp only at *
  have HC0 := Lib.hid C0
  have HC1 := Lib.hid C1
  have HC3 := Lib.hid C3
  have HC4 := Lib.hid C4
  have HC5 := Lib.hid C5
  have HC6 := Lib.hid C6
  have HR1 := Lib.hid hr1
  have HR2 := Lib.hid hr2
  have Hm0 := Lib.hid hm0
  have Hm1 := Lib.hid hm1
  have Hn0 := Lib.hid hn0
  have Hn1 := Lib.hid hn1
  clear h hx0 hx1 hb hr0 C0 C1 C3 C4 C5 C6 hl1 hl s0 s1 s2 b01 b12 b0 bx0 bx1 bx2 hr1 hr2 hm0 hm1 hn0 hn1
  go_enter Try.func12, Try.ntmps12
  go_upto_region 3 with fail
  rw [← hW0, ← hW1, ← hW2, show w.heap.size + 1 + 1 = w.heap.size + 2 from rfl]
  clear hW0 hW1 hW2

  have Hg := Lib.hid (show w.heap.size + 1 < W2.heap.size by have := HS.out; omega)
  have hnz : w.heap.size ∉ [w.heap.size + 1] := by simp
  have hnx : w.heap.size + 2 ∉ [w.heap.size + 1] := by simp
  go_wp2_with (go_at_call 30; go_must (refine (HC0.out _ HR.out).mono ?_))
  rintro e w1 ⟨rfl, hr, ht⟩
  have HR := Lib.hid hr
  have HX := Lib.hid (ht.keep HX.out hnx)
  have HZ := Lib.hid (ht.keep HZ.out hnz)
  have HB := Lib.hid (HB.out.trans (ht.below (B := w.heap.size) (by have := HS.out; omega) (by simp)))
  have Hw1 := Lib.hid (show w.heap.size + 3 ≤ w1.heap.size by have := HS.out; have := ht.size; omega)
  clear hr ht HC0
  go_upto_block 0 with fail
  go_cut [6] (fun s6 wx => FPost Tb.cells 67 45 5 w.heap.size w1 (w.heap.size + 1) (w.heap.size + 2) F1 26 (x1, l1, e1) wx)
  case first =>
    go_wp2_with fail
    go_loopw [6] (fun c wr => FRel ertab Tb.cells 67 45 5 w.heap.size w1 (w.heap.size + 1) (w.heap.size + 2) F1 26 m0.length (x1, l1, e1) c wr) (fun c _ => (intOf c).toNat)
    case atStart => exact ⟨[], n0, m0, b0', .slice none 0 0, rfl, Hm0.out, owns_nil _ _ _ _, HX.out, HR.out, Touch.refl _ _, by rw [HR1.out]; rfl, fun _ => by simp, Nat.zero_le _⟩
    case round =>
      obtain ⟨xs, m, li, bi, rv, rfl, hmm, hown, hxx, hr, ht, hrs, hlt, hxl⟩ := hrel
      clear HR HX
      have hwr : w.heap.size + 3 ≤ wr.heap.size := Nat.le_trans Hw1.out ht.size
      have hbad : wr.cell? ⟨w.heap.size + 1, 1, none⟩ = some (.int .i64 (bi : Int)) := by
        obtain ⟨_, q1, _, _⟩ := hr
        have := Lib.cell_of_heap q1 1
        simpa using this
      have hltg : w.heap.size + 1 < wr.heap.size := by omega
      by_cases hm0 : 0 < m
      · have hm0I : (0 : Int) < (m : Int) := by omega
        by_cases hbi : bi = 0
        · subst hbi
          obtain ⟨m', rfl⟩ : ∃ m', m = m' + 1 := ⟨m - 1, by omega⟩
          rw [emany_next] at hrs
          have hlt' := hlt rfl
          have hea : (ertab li 0).2.2 = 0 → (ertab li 0).2.1.length < li.length := eats_tab.2.2 li
          have hwm : IntKind.u64.wrap (((m' + 1 : Nat) : Int) - 1) = (m' : Int) := by rw [IntKind.wrap_u64]; omega
          obtain ⟨la, lcap, rfl, hlc1, hlc2⟩ := (ownsRow.reads hown).le
          unfold maxLen at hlc2
          have hn1 := Hn0.out
          have ht0 := heap_alloc_new wr (.cells #[.int .i64 0, .int .i64 0, .int .i64 0, .string ⟨#[]⟩, .string ⟨#[]⟩] 45)
          have hba : Below wr.heap.size wr (wr.alloc (.cells #[.int .i64 0, .int .i64 0, .int .i64 0, .string ⟨#[]⟩, .string ⟨#[]⟩] 45)) := (Below.refl _ _).alloc (Nat.le_refl _) _
          have HR := Lib.hid (hr.below hba (by omega))
          have HX := Lib.hid hxx
          have HO := Lib.hid hown
          have HT := Lib.hid ht
          have HTt := Lib.hid ((Touch.refl wr [w.heap.size + 1]).alloc (.cells #[.int .i64 0, .int .i64 0, .int .i64 0, .string ⟨#[]⟩, .string ⟨#[]⟩] 45))
          have HTb := Lib.hid ht0
          have HRs := Lib.hid hrs
          have hts : wr.heap.size < (wr.alloc (.cells #[.int .i64 0, .int .i64 0, .int .i64 0, .string ⟨#[]⟩, .string ⟨#[]⟩] 45)).heap.size := by simp
          clear hown hxx hr ht hrs ht0 hba
          obtain ⟨tb, htb⟩ : ∃ n, wr.heap.size = n := ⟨_, rfl⟩
          have hwt : w.heap.size + 3 ≤ tb := by omega
          rw [htb] at HTb hts
          simp only [ertab, er5, eseq] at HRs hea
          have D1 := fun W (h : ERAt 67 w.heap.size W (w.heap.size + 1) li 0) => fsmall_any w.heap.size W (w.heap.size + 1) li 0 h
          generalize erwh li 0 = q1 at *
          obtain ⟨y1, p1, f1⟩ := q1
          dsimp only at *
          have HD1 := Lib.hid D1
          clear D1
          have D2 := fun W (h : ERAt 67 w.heap.size W (w.heap.size + 1) p1 f1) => fsmall_any w.heap.size W (w.heap.size + 1) p1 f1 h
          generalize erwh p1 f1 = q2 at *
          obtain ⟨y2, p2, f2⟩ := q2
          dsimp only at *
          have HD2 := Lib.hid D2
          clear D2
          have D3 := fun W (h : ERAt 67 w.heap.size W (w.heap.size + 1) p2 f2) => fsmall_any w.heap.size W (w.heap.size + 1) p2 f2 h
          generalize erwh p2 f2 = q3 at *
          obtain ⟨y3, p3, f3⟩ := q3
          dsimp only at *
          have HD3 := Lib.hid D3
          clear D3
          have D4 := fun W (h : ERAt 67 w.heap.size W (w.heap.size + 1) p3 f3) => ftext_any w.heap.size W (w.heap.size + 1) p3 f3 h
          generalize ertxt p3 f3 = q4 at *
          obtain ⟨y4, p4, f4⟩ := q4
          dsimp only at *
          have HD4 := Lib.hid D4
          clear D4
          have D5 := fun W (h : ERAt 67 w.heap.size W (w.heap.size + 1) p4 f4) => ftext_any w.heap.size W (w.heap.size + 1) p4 f4 h
          generalize ertxt p4 f4 = q5 at *
          obtain ⟨y5, p5, f5⟩ := q5
          dsimp only at *
          have HD5 := Lib.hid D5
          clear D5
          have Hea := Lib.hid hea
          clear hea
          go_upto_region 7 with fail
          generalize wr.alloc (.cells #[.int .i64 0, .int .i64 0, .int .i64 0, .string ⟨#[]⟩, .string ⟨#[]⟩] 45) = u0 at *
          have hnt : tb ∉ [w.heap.size + 1] := by simp; omega
          have hnt2 : tb ≠ w.heap.size + 1 := by omega
          have Hnt := Lib.hid hnt
          have Hnt2 := Lib.hid hnt2
          clear hnt hnt2
          go_wp2_with (go_at_call 31; go_must (refine (HD1.out _ HR.out).mono ?_))
          rintro e u1a ⟨rfl, hr, ht⟩
          have hsz : tb < u1a.heap.size := Nat.lt_of_lt_of_le hts ht.size
          have hbx := ht.keep HTb.out Hnt.out
          have kk0 := Lib.frozen_of_heap hbx
          have kc0 := Lib.cell_of_heap hbx 0
          simp at kc0
          have hst := heap_setCell_same _ _ 0 _ _ (.int .i64 y1) hbx
          simp at hst
          have HTb := Lib.hid hst
          have HTt := Lib.hid ((HTt.out.same ht).setCell (p := ⟨tb, 0, none⟩) (.inr (Nat.le_of_eq htb)) (.int .i64 y1))
          have HR := Lib.hid (ERAt.set hr Hnt2.out (by omega) 0 (.int .i64 y1))
          have hts : tb < (u1a.setCell ⟨tb, 0, none⟩ (.int .i64 y1)).heap.size := by simpa using hsz
          clear hr ht hbx hst HD1
          go_upto_region 8 with fail
          clear kk0 kc0 hsz
          generalize u1a.setCell ⟨tb, 0, none⟩ (.int .i64 y1) = u1 at *
          go_wp2_with (go_at_call 31; go_must (refine (HD2.out _ HR.out).mono ?_))
          rintro e u2a ⟨rfl, hr, ht⟩
          have hsz : tb < u2a.heap.size := Nat.lt_of_lt_of_le hts ht.size
          have hbx := ht.keep HTb.out Hnt.out
          have kk0 := Lib.frozen_of_heap hbx
          have kc1 := Lib.cell_of_heap hbx 1
          simp at kc1
          have hst := heap_setCell_same _ _ 1 _ _ (.int .i64 y2) hbx
          simp at hst
          have HTb := Lib.hid hst
          have HTt := Lib.hid ((HTt.out.same ht).setCell (p := ⟨tb, 1, none⟩) (.inr (Nat.le_of_eq htb)) (.int .i64 y2))
          have HR := Lib.hid (ERAt.set hr Hnt2.out (by omega) 1 (.int .i64 y2))
          have hts : tb < (u2a.setCell ⟨tb, 1, none⟩ (.int .i64 y2)).heap.size := by simpa using hsz
          clear hr ht hbx hst HD2
          go_upto_region 9 with fail
          clear kk0 kc1 hsz
          generalize u2a.setCell ⟨tb, 1, none⟩ (.int .i64 y2) = u2 at *
          go_wp2_with (go_at_call 31; go_must (refine (HD3.out _ HR.out).mono ?_))
          rintro e u3a ⟨rfl, hr, ht⟩
          have hsz : tb < u3a.heap.size := Nat.lt_of_lt_of_le hts ht.size
          have hbx := ht.keep HTb.out Hnt.out
          have kk0 := Lib.frozen_of_heap hbx
          have kc2 := Lib.cell_of_heap hbx 2
          simp at kc2
          have hst := heap_setCell_same _ _ 2 _ _ (.int .i64 y3) hbx
          simp at hst
          have HTb := Lib.hid hst
          have HTt := Lib.hid ((HTt.out.same ht).setCell (p := ⟨tb, 2, none⟩) (.inr (Nat.le_of_eq htb)) (.int .i64 y3))
          have HR := Lib.hid (ERAt.set hr Hnt2.out (by omega) 2 (.int .i64 y3))
          have hts : tb < (u3a.setCell ⟨tb, 2, none⟩ (.int .i64 y3)).heap.size := by simpa using hsz
          clear hr ht hbx hst HD3
          go_upto_region 10 with fail
          clear kk0 kc2 hsz
          generalize u3a.setCell ⟨tb, 2, none⟩ (.int .i64 y3) = u3 at *
          go_wp2_with (go_at_call 32; go_must (refine (HD4.out _ HR.out).mono ?_))
          rintro e u4a ⟨rfl, hr, ht⟩
          have hsz : tb < u4a.heap.size := Nat.lt_of_lt_of_le hts ht.size
          have hbx := ht.keep HTb.out Hnt.out
          have kk0 := Lib.frozen_of_heap hbx
          have kc3 := Lib.cell_of_heap hbx 3
          simp at kc3
          have hst := heap_setCell_same _ _ 3 _ _ (.string y4) hbx
          simp at hst
          have HTb := Lib.hid hst
          have HTt := Lib.hid ((HTt.out.same ht).setCell (p := ⟨tb, 3, none⟩) (.inr (Nat.le_of_eq htb)) (.string y4))
          have HR := Lib.hid (ERAt.set hr Hnt2.out (by omega) 3 (.string y4))
          have hts : tb < (u4a.setCell ⟨tb, 3, none⟩ (.string y4)).heap.size := by simpa using hsz
          clear hr ht hbx hst HD4
          go_upto_region 11 with fail
          clear kk0 kc3 hsz
          generalize u4a.setCell ⟨tb, 3, none⟩ (.string y4) = u4 at *
          go_wp2_with (go_at_call 32; go_must (refine (HD5.out _ HR.out).mono ?_))
          rintro e u5a ⟨rfl, hr, ht⟩
          have hsz : tb < u5a.heap.size := Nat.lt_of_lt_of_le hts ht.size
          have hbx := ht.keep HTb.out Hnt.out
          have kk0 := Lib.frozen_of_heap hbx
          have kc4 := Lib.cell_of_heap hbx 4
          simp at kc4
          have hst := heap_setCell_same _ _ 4 _ _ (.string y5) hbx
          simp at hst
          have HTb := Lib.hid hst
          have HTt := Lib.hid ((HTt.out.same ht).setCell (p := ⟨tb, 4, none⟩) (.inr (Nat.le_of_eq htb)) (.string y5))
          have HR := Lib.hid (ERAt.set hr Hnt2.out (by omega) 4 (.string y5))
          have hts : tb < (u5a.setCell ⟨tb, 4, none⟩ (.string y5)).heap.size := by simpa using hsz
          clear hr ht hbx hst HD5
          go_upto_region 12 with fail
          clear kk0 kc4 hsz
          generalize u5a.setCell ⟨tb, 4, none⟩ (.string y5) = u5 at *
          have hxw := HTt.out.keep HX.out hnx
          have hxs := (Array.getElem?_eq_some_iff.1 hxw).1
          unfold F1 at hxw
          have z0 := Lib.cell_of_heap hxw 0
          have z1 := Lib.cell_of_heap hxw 1
          have z2 := Lib.cell_of_heap hxw 2
          have z3 := Lib.cell_of_heap hxw 3
          have z4 := Lib.cell_of_heap hxw 4
          have z5 := Lib.cell_of_heap hxw 5
          simp at z0 z1 z2 z3 z4 z5
          have zf := Lib.frozen_of_heap hxw
          have t0 := Lib.cell_of_heap HTb.out 0
          have t1 := Lib.cell_of_heap HTb.out 1
          have t2 := Lib.cell_of_heap HTb.out 2
          have t3 := Lib.cell_of_heap HTb.out 3
          have t4 := Lib.cell_of_heap HTb.out 4
          simp at t0 t1 t2 t3 t4
          have hgw : w.heap.size + 1 < w1.heap.size := by have := Hw1.out; omega
          have hown := etouch_owns HO.out HTt.out (by have := Hw1.out; omega)
          have HO := Lib.hid hown
          have hws : w1.heap.size ≤ u5.heap.size := Nat.le_trans HT.out.size HTt.out.size
          have HXw := Lib.hid hxw
          clear hown hxw
          go_wp2_with (at_builtin; go_must (refine wpList_append_rows_own (w0 := u5) rfl _ _ 22 rfl w1.heap.size 45 jt _ 5 56 Try.underlying22 hjt hyt0 hyt1 hyt2 rfl (Tb.cells (⟨y1, y2, y3, y4, y5⟩ : Tb)) 1 rfl HO.out rfl rfl ?_ ?_ ?_ hws ?_))
          · intro u hu
            simp [Tb.cells] at hu
            rcases hu with rfl | rfl | rfl | rfl | rfl <;> rfl
          · unfold maxLen; omega
          · omega
          intro v6 w6 o6 g6 b6 _
          have hbb : Below w1.heap.size u5 w6 := b6
          obtain ⟨a6, c6, hv6, _, _⟩ := (ownsRow.reads o6).le
          subst hv6
          have hx6 := (hbb.block _ (by have := Hw1.out; omega)).trans HXw.out
          have hx6s : w.heap.size + 2 < w6.heap.size := (Array.getElem?_eq_some_iff.1 hx6).1
          have hr5 := HR.out
          have hg5 := hr5.lt
          obtain ⟨rv5, rh5, rs5, rb5⟩ := hr5
          have hr6 : ERAt 67 w.heap.size w6 (w.heap.size + 1) p5 f5 := ⟨rv5, (hbb.block _ hgw).trans rh5, rs5.below (hbb.mono (by have := Hw1.out; omega)), rb5⟩
          have ht4 := HT.out.same (HTt.out.mono (m := [w.heap.size + 1, w.heap.size + 2]) (by simp))
          have ht6 : Touch w1 w6 [w.heap.size + 1, w.heap.size + 2] := ⟨hbb.os.trans ht4.os, hbb.tape.trans ht4.tape, hbb.output.trans ht4.output, Nat.le_trans ht4.size hbb.size, fun i hi hn => (hbb.block i hi).trans (ht4.block i hi hn)⟩
          have hst := heap_setCell_same _ _ 0 _ _ (.slice a6 (xs.length + 1) c6) hx6
          simp at hst
          have HXn := Lib.hid hst
          have HRn := Lib.hid (ERAt.set hr6 (c := w.heap.size + 2) (by omega) (by omega) 0 (.slice a6 (xs.length + 1) c6))
          have HTn := Lib.hid (ht6.setCell (p := ⟨w.heap.size + 2, 0, none⟩) (.inl (by simp)) (.slice a6 (xs.length + 1) c6))
          have ho6 : w6.ownsRow w1.heap.size 45 5 (.slice a6 (xs.length + 1) c6) (xs ++ [(⟨y1, y2, y3, y4, y5⟩ : Tb)]).length ((xs ++ [(⟨y1, y2, y3, y4, y5⟩ : Tb)]).flatMap Tb.cells) := by
            rw [List.length_append, List.flatMap_append, List.flatMap_cons, List.flatMap_nil, List.append_nil]
            exact o6
          have HOn := Lib.hid (etouch_owns ho6 ((Touch.refl w6 [w.heap.size + 2]).setCell (p := ⟨w.heap.size + 2, 0, none⟩) (.inl (by simp)) (.slice a6 (xs.length + 1) c6)) (by have := Hw1.out; omega))
          have zg := Lib.frozen_of_heap hx6
          have g0 := Lib.cell_of_heap hx6 0
          have g1 := Lib.cell_of_heap hx6 1
          have g2 := Lib.cell_of_heap hx6 2
          have g3 := Lib.cell_of_heap hx6 3
          have g4 := Lib.cell_of_heap hx6 4
          have g5 := Lib.cell_of_heap hx6 5
          simp at g0 g1 g2 g3 g4 g5
          clear o6 ho6 hr6 ht6 ht4 hst rh5 rs5 rb5 hbb g6 b6
          clear z0 z1 z2 z3 z4 z5 zf HR HX HO HT HTt HXw HTb t0 t1 t2 t3 t4
          go_wp2
          refine ⟨⟨xs ++ [(⟨y1, y2, y3, y4, y5⟩ : Tb)], m', p5, f5, .slice a6 (xs.length + 1) c6, rfl, by omega, HOn.out, HXn.out, HRn.out, HTn.out, by rw [HRs.out]; simp, fun hb => ?_, ?_⟩, by simp [intOf]⟩
          · have := Hea.out hb
            rw [List.length_append, List.length_singleton]
            omega
          · rw [List.length_append, List.length_singleton]
            omega
        · rw [emany_bad _ _ _ hbi, List.append_nil] at hrs
          have hbiI : ((bi : Int) == 0) = false := by simp [hbi]
          cases hrs
          have HO := Lib.hid hown
          have HXX := Lib.hid hxx
          have HR := Lib.hid hr
          have HT := Lib.hid ht
          clear hown hr ht hbi hxx
          go_wp2
          go_meet
          exact ⟨rv, HO.out, HXX.out, HR.out, HT.out⟩
      · obtain rfl : m = 0 := by omega
        have hrs' : (x1, l1, e1) = (xs, li, bi) := by rw [hrs]; simp [emany]
        cases hrs'
        have HO := Lib.hid hown
        have HXX := Lib.hid hxx
        have HR := Lib.hid hr
        have HT := Lib.hid ht
        clear hown hr ht hrs hxx
        go_wp2
        go_meet
        exact ⟨rv, HO.out, HXX.out, HR.out, HT.out⟩
  case rest =>
    obtain ⟨va, ho1, hx, hr, ht⟩ := hcut
    obtain ⟨a1, k1, rfl, _, _⟩ := (ownsRow.reads ho1).le
    have HR := Lib.hid hr
    have HX := Lib.hid hx
    have HO1 := Lib.hid ho1
    have HZ := Lib.hid (ht.keep HZ.out (by simp))
    have HB := Lib.hid (HB.out.trans (ht.below (B := w.heap.size) (by have := Hw1.out; omega) (by simp)))
    have Hwc := Lib.hid (show w1.heap.size ≤ wc.heap.size from ht.size)
    clear hr hx ho1 ht
    dsimp only at HR HX HO1
    go_wp2_with (go_at_call 30; go_must (refine (HC1.out _ HR.out).mono ?_))
    rintro e w2 ⟨rfl, hr, ht⟩
    have HR := Lib.hid hr
    have HX := Lib.hid (ht.keep HX.out hnx)
    have HZ := Lib.hid (ht.keep HZ.out hnz)
    have HO1 := Lib.hid (etouch_owns HO1.out ht (by have := Hw1.out; omega))
    have HB := Lib.hid (HB.out.trans (ht.below (B := w.heap.size) (by have := Hw1.out; have := Hwc.out; omega) (by simp)))
    have Hwz := Lib.hid (show w1.heap.size ≤ w2.heap.size by have := Hwc.out; have := ht.size; omega)
    have Hv1 := Lib.hid Hw1.out
    have Hw1 := Lib.hid (show w.heap.size + 3 ≤ w2.heap.size by have := Hwz.out; have := Hw1.out; omega)
    clear hr ht HC1 Hwc
    go_upto_block 2 with fail
    go_cut [8, 9] (fun s8 s9 wx => FPost numL 67 3 1 w.heap.size w2 (w.heap.size + 1) (w.heap.size + 2) (F2 (.slice a1 x1.length k1)) 26 (x2, l2, e2) wx)
    case first =>
      go_wp2_with fail
      go_loopw [8, 9] (fun c _ wr => FRel erwh numL 67 3 1 w.heap.size w2 (w.heap.size + 1) (w.heap.size + 2) (F2 (.slice a1 x1.length k1)) 26 m1.length (x2, l2, e2) c wr) (fun c _ _ => (intOf c).toNat)
      case atStart => exact ⟨[], n1, m1, b1', .slice none 0 0, rfl, Hm1.out, owns_nil _ _ _ _, HX.out, HR.out, Touch.refl _ _, by rw [HR2.out]; rfl, fun _ => by simp, Nat.zero_le _⟩
      case round =>
        obtain ⟨xs, m, li, bi, rv, rfl, hmm, hown, hxx, hr, ht, hrs, hlt, hxl⟩ := hrel
        clear HR HX
        have hwr : w.heap.size + 3 ≤ wr.heap.size := Nat.le_trans Hw1.out ht.size
        have hbad : wr.cell? ⟨w.heap.size + 1, 1, none⟩ = some (.int .i64 (bi : Int)) := by
          obtain ⟨_, q1, _, _⟩ := hr
          have := Lib.cell_of_heap q1 1
          simpa using this
        have hltg : w.heap.size + 1 < wr.heap.size := by omega
        by_cases hm0 : 0 < m
        · have hm0I : (0 : Int) < (m : Int) := by omega
          by_cases hbi : bi = 0
          · subst hbi
            obtain ⟨m', rfl⟩ : ∃ m', m = m' + 1 := ⟨m - 1, by omega⟩
            rw [emany_next] at hrs
            have hlt' := hlt rfl
            have hea : (erwh li 0).2.2 = 0 → (erwh li 0).2.1.length < li.length := eats_wh.2.2 li
            have hwm : IntKind.u64.wrap (((m' + 1 : Nat) : Int) - 1) = (m' : Int) := by rw [IntKind.wrap_u64]; omega
            obtain ⟨la, lcap, rfl, hlc1, hlc2⟩ := (ownsRow.reads hown).le
            unfold maxLen at hlc2
            have hn1 := Hn1.out
            have HR := Lib.hid hr
            have HX := Lib.hid hxx
            have HO := Lib.hid hown
            have HT := Lib.hid ht
            have HRs := Lib.hid hrs
            clear hown hxx hr ht hrs
            have D1 := fun W (h : ERAt 67 w.heap.size W (w.heap.size + 1) li 0) => fsmall_any w.heap.size W (w.heap.size + 1) li 0 h
            generalize erwh li 0 = q1 at *
            obtain ⟨y1, p1, f1⟩ := q1
            dsimp only at *
            have HD1 := Lib.hid D1
            have Hea := Lib.hid hea
            clear D1 hea
            go_wp2_with (go_at_call 31; go_must (refine (HD1.out _ HR.out).mono ?_))
            rintro e u1 ⟨rfl, hr, ht⟩
            have HTt := Lib.hid ht
            have HR := Lib.hid hr
            clear hr ht HD1
            go_upto_region 17 with fail
            have hxw := HTt.out.keep HX.out hnx
            have hxs := (Array.getElem?_eq_some_iff.1 hxw).1
            unfold F2 at hxw
            have z0 := Lib.cell_of_heap hxw 0
            have z1 := Lib.cell_of_heap hxw 1
            have z2 := Lib.cell_of_heap hxw 2
            have z3 := Lib.cell_of_heap hxw 3
            have z4 := Lib.cell_of_heap hxw 4
            have z5 := Lib.cell_of_heap hxw 5
            simp at z0 z1 z2 z3 z4 z5
            have zf := Lib.frozen_of_heap hxw
            have hgw : w.heap.size + 1 < w2.heap.size := by have := Hw1.out; omega
            have hown := etouch_owns HO.out HTt.out (by have := Hw1.out; omega)
            have HO := Lib.hid hown
            have hws : w2.heap.size ≤ u1.heap.size := Nat.le_trans HT.out.size HTt.out.size
            have HXw := Lib.hid hxw
            clear hown hxw
            go_wp2_with (at_builtin; go_must (refine wpList_append_rows_own (w0 := u1) rfl _ _ 23 rfl w2.heap.size 3 ji _ 1 8 Try.underlying23 hji hyi0 hyi1 hyi2 rfl (numL y1) 1 rfl HO.out rfl rfl ?_ ?_ ?_ hws ?_))
            · intro u hu
              simp [numL] at hu
              subst hu; rfl
            · unfold maxLen; omega
            · omega
            intro v6 w6 o6 g6 b6 _
            have hbb : Below w2.heap.size u1 w6 := b6
            obtain ⟨a6, c6, hv6, _, _⟩ := (ownsRow.reads o6).le
            subst hv6
            have hx6 := (hbb.block _ (by have := Hw1.out; omega)).trans HXw.out
            have hx6s : w.heap.size + 2 < w6.heap.size := (Array.getElem?_eq_some_iff.1 hx6).1
            have hr5 := HR.out
            have hg5 := hr5.lt
            obtain ⟨rv5, rh5, rs5, rb5⟩ := hr5
            have hr6 : ERAt 67 w.heap.size w6 (w.heap.size + 1) p1 f1 := ⟨rv5, (hbb.block _ hgw).trans rh5, rs5.below (hbb.mono (by have := Hw1.out; omega)), rb5⟩
            have ht4 := HT.out.same (HTt.out.mono (m := [w.heap.size + 1, w.heap.size + 2]) (by simp))
            have ht6 : Touch w2 w6 [w.heap.size + 1, w.heap.size + 2] := ⟨hbb.os.trans ht4.os, hbb.tape.trans ht4.tape, hbb.output.trans ht4.output, Nat.le_trans ht4.size hbb.size, fun i hi hn => (hbb.block i hi).trans (ht4.block i hi hn)⟩
            have hst := heap_setCell_same _ _ 1 _ _ (.slice a6 (xs.length + 1) c6) hx6
            simp at hst
            have HXn := Lib.hid hst
            have HRn := Lib.hid (ERAt.set hr6 (c := w.heap.size + 2) (by omega) (by omega) 1 (.slice a6 (xs.length + 1) c6))
            have HTn := Lib.hid (ht6.setCell (p := ⟨w.heap.size + 2, 1, none⟩) (.inl (by simp)) (.slice a6 (xs.length + 1) c6))
            have ho6 : w6.ownsRow w2.heap.size 3 1 (.slice a6 (xs.length + 1) c6) (xs ++ [y1]).length ((xs ++ [y1]).flatMap numL) := by
              rw [List.length_append, List.flatMap_append, List.flatMap_cons, List.flatMap_nil, List.append_nil]
              exact o6
            have HOn := Lib.hid (etouch_owns ho6 ((Touch.refl w6 [w.heap.size + 2]).setCell (p := ⟨w.heap.size + 2, 1, none⟩) (.inl (by simp)) (.slice a6 (xs.length + 1) c6)) (by have := Hw1.out; omega))
            have zg := Lib.frozen_of_heap hx6
            have g0 := Lib.cell_of_heap hx6 0
            have g1 := Lib.cell_of_heap hx6 1
            have g2 := Lib.cell_of_heap hx6 2
            have g3 := Lib.cell_of_heap hx6 3
            have g4 := Lib.cell_of_heap hx6 4
            have g5 := Lib.cell_of_heap hx6 5
            simp at g0 g1 g2 g3 g4 g5
            clear o6 ho6 hr6 ht6 ht4 hst rh5 rs5 rb5 hbb g6 b6
            clear z0 z1 z2 z3 z4 z5 zf HR HX HO HT HTt HXw 
            go_wp2
            refine ⟨⟨xs ++ [y1], m', p1, f1, .slice a6 (xs.length + 1) c6, rfl, by omega, HOn.out, HXn.out, HRn.out, HTn.out, by rw [HRs.out]; simp, fun hb => ?_, ?_⟩, by simp [intOf]⟩
            · have := Hea.out hb
              rw [List.length_append, List.length_singleton]
              omega
            · rw [List.length_append, List.length_singleton]
              omega
          · rw [emany_bad _ _ _ hbi, List.append_nil] at hrs
            have hbiI : ((bi : Int) == 0) = false := by simp [hbi]
            cases hrs
            have HO := Lib.hid hown
            have HXX := Lib.hid hxx
            have HR := Lib.hid hr
            have HT := Lib.hid ht
            clear hown hr ht hbi hxx
            go_wp2
            go_meet
            exact ⟨rv, HO.out, HXX.out, HR.out, HT.out⟩
        · obtain rfl : m = 0 := by omega
          have hrs' : (x2, l2, e2) = (xs, li, bi) := by rw [hrs]; simp [emany]
          cases hrs'
          have HO := Lib.hid hown
          have HXX := Lib.hid hxx
          have HR := Lib.hid hr
          have HT := Lib.hid ht
          clear hown hr ht hrs hxx
          go_wp2
          go_meet
          exact ⟨rv, HO.out, HXX.out, HR.out, HT.out⟩
    case rest =>
      obtain ⟨vb, ho2, hx, hr, ht⟩ := hcut
      obtain ⟨a2, k2, rfl, _, _⟩ := (ownsRow.reads ho2).le
      dsimp only at ho2 hx hr
      have HR := Lib.hid hr
      have HOa := Lib.hid (etouch_ownsL HO1.out ht (by have := Hv1.out; simp; omega))
      have HOb := Lib.hid ho2
      have HZ := Lib.hid (ht.keep HZ.out (by simp))
      have HB := Lib.hid (HB.out.trans (ht.below (B := w.heap.size) (by have := Hw1.out; omega) (by simp)))
      unfold F2 at hx
      have Hsz := Lib.hid (show w2.heap.size ≤ wc.heap.size from ht.size)
      have HX := Lib.hid hx
      have HT := Lib.hid (Touch.refl wc [w.heap.size + 1, w.heap.size + 2])
      clear hr hx ho2 ht HO1
      go_wp2_with (go_at_call 30; go_must (refine (HC3.out _ HR.out).mono ?_))
      rintro e v3a ⟨rfl, hr, ht⟩
      have hbx := ht.keep HX.out hnx
      have hsx := (Array.getElem?_eq_some_iff.1 hbx).1
      have kk0 := Lib.frozen_of_heap hbx
      have kc := Lib.cell_of_heap hbx 2
      simp at kc
      have hst := heap_setCell_same _ _ 2 _ _ (.int .u64 (x3 : Int)) hbx
      simp at hst
      have HX := Lib.hid hst
      have HT := Lib.hid ((HT.out.same (ht.mono (by simp))).setCell (p := ⟨w.heap.size + 2, 2, none⟩) (.inl (by simp)) (.int .u64 (x3 : Int)))
      have HR := Lib.hid (ERAt.set hr (c := w.heap.size + 2) (by omega) (by omega) 2 (.int .u64 (x3 : Int)))
      clear hr ht hbx hst HC3
      go_upto_region 19 with fail
      clear kk0 kc hsx
      generalize v3a.setCell ⟨w.heap.size + 2, 2, none⟩ (.int .u64 (x3 : Int)) = v3 at *
      go_wp2_with (go_at_call 30; go_must (refine (HC4.out _ HR.out).mono ?_))
      rintro e v4a ⟨rfl, hr, ht⟩
      have hbx := ht.keep HX.out hnx
      have hsx := (Array.getElem?_eq_some_iff.1 hbx).1
      have kk0 := Lib.frozen_of_heap hbx
      have kc := Lib.cell_of_heap hbx 3
      simp at kc
      have hst := heap_setCell_same _ _ 3 _ _ (.int .u64 (x4 : Int)) hbx
      simp at hst
      have HX := Lib.hid hst
      have HT := Lib.hid ((HT.out.same (ht.mono (by simp))).setCell (p := ⟨w.heap.size + 2, 3, none⟩) (.inl (by simp)) (.int .u64 (x4 : Int)))
      have HR := Lib.hid (ERAt.set hr (c := w.heap.size + 2) (by omega) (by omega) 3 (.int .u64 (x4 : Int)))
      clear hr ht hbx hst HC4
      go_upto_region 20 with fail
      clear kk0 kc hsx
      generalize v4a.setCell ⟨w.heap.size + 2, 3, none⟩ (.int .u64 (x4 : Int)) = v4 at *
      go_wp2_with (go_at_call 31; go_must (refine (HC5.out _ HR.out).mono ?_))
      rintro e v5a ⟨rfl, hr, ht⟩
      have hbx := ht.keep HX.out hnx
      have hsx := (Array.getElem?_eq_some_iff.1 hbx).1
      have kk0 := Lib.frozen_of_heap hbx
      have kc := Lib.cell_of_heap hbx 4
      simp at kc
      have hst := heap_setCell_same _ _ 4 _ _ (.int .i64 x5) hbx
      simp at hst
      have HX := Lib.hid hst
      have HT := Lib.hid ((HT.out.same (ht.mono (by simp))).setCell (p := ⟨w.heap.size + 2, 4, none⟩) (.inl (by simp)) (.int .i64 x5))
      have HR := Lib.hid (ERAt.set hr (c := w.heap.size + 2) (by omega) (by omega) 4 (.int .i64 x5))
      clear hr ht hbx hst HC5
      go_upto_region 21 with fail
      clear kk0 kc hsx
      generalize v5a.setCell ⟨w.heap.size + 2, 4, none⟩ (.int .i64 x5) = v5 at *
      go_wp2_with (go_at_call 31; go_must (refine (HC6.out _ HR.out).mono ?_))
      rintro e v6a ⟨rfl, hr, ht⟩
      have hbx := ht.keep HX.out hnx
      have hsx := (Array.getElem?_eq_some_iff.1 hbx).1
      have kk0 := Lib.frozen_of_heap hbx
      have kc := Lib.cell_of_heap hbx 5
      simp at kc
      have hst := heap_setCell_same _ _ 5 _ _ (.int .i64 x6) hbx
      simp at hst
      have HX := Lib.hid hst
      have HT := Lib.hid ((HT.out.same (ht.mono (by simp))).setCell (p := ⟨w.heap.size + 2, 5, none⟩) (.inl (by simp)) (.int .i64 x6))
      have HR := Lib.hid (ERAt.set hr (c := w.heap.size + 2) (by omega) (by omega) 5 (.int .i64 x6))
      clear hr ht hbx hst HC6
      go_upto_region 22 with fail
      clear kk0 kc hsx
      generalize v6a.setCell ⟨w.heap.size + 2, 5, none⟩ (.int .i64 x6) = v6 at *
      have hsz7 := HT.out.size
      have HTr := Lib.hid (etouch_ownsL HOa.out HT.out (by have := Hv1.out; simp; omega))
      have HNr := Lib.hid (etouch_ownsL HOb.out HT.out (by have := Hw1.out; simp; omega))
      have HZ := Lib.hid (HT.out.keep HZ.out (by simp))
      have HB7 := Lib.hid (HB.out.trans (HT.out.below (B := w.heap.size) (by have := Hw1.out; have := Hsz.out; omega) (by simp)))
      have lt0 : w.heap.size < v6.heap.size := by have := Hw1.out; have := Hsz.out; omega
      have lt1 : w.heap.size + 1 < v6.heap.size := by have := Hw1.out; have := Hsz.out; omega
      have lt5 : w.heap.size + 2 < v6.heap.size := by have := Hw1.out; have := Hsz.out; omega
      clear hsz7 HOa HOb HB HT
      have Hl0 := Lib.hid (show w.heap.size < w1.heap.size by have := Hv1.out; omega)
      have Hl1 := Lib.hid (show w.heap.size < w2.heap.size by have := Hw1.out; omega)
      obtain ⟨rv, hrv, hrs, hrB⟩ := HR.out
      obtain ⟨ar, cr, rfl, hcr1, hcr2⟩ := hrs.reads.le
      unfold maxLen at hcr2
      have rf := Lib.frozen_of_heap hrv
      have HRv := Lib.hid hrv
      have r0 := Lib.cell_of_heap hrv 0
      have r1 := Lib.cell_of_heap hrv 1
      simp at r0 r1
      have y0 := Lib.cell_of_heap HX.out 0
      have y1 := Lib.cell_of_heap HX.out 1
      have y2 := Lib.cell_of_heap HX.out 2
      have y3 := Lib.cell_of_heap HX.out 3
      have y4 := Lib.cell_of_heap HX.out 4
      have y5 := Lib.cell_of_heap HX.out 5
      simp at y0 y1 y2 y3 y4 y5
      have z0 := Lib.cell_of_heap HZ.out 0
      have z1 := Lib.cell_of_heap HZ.out 1
      have z2 := Lib.cell_of_heap HZ.out 2
      have z3 := Lib.cell_of_heap HZ.out 3
      have z4 := Lib.cell_of_heap HZ.out 4
      have z5 := Lib.cell_of_heap HZ.out 5
      simp at z0 z1 z2 z3 z4 z5
      have zf := Lib.frozen_of_heap HZ.out
      clear hrv HR
      by_cases he : e6 = 0
      · subst he
        cases l6 with
        | nil =>
          go_wp2
          have hst := set6e HZ.out (.slice a1 x1.length k1) (.slice a2 x2.length k2) (.int .u64 (x3 : Int)) (.int .u64 (x4 : Int)) (.int .i64 x5) (.int .i64 x6)
          have htc := set6t v6 w.heap.size (.slice a1 x1.length k1) (.slice a2 x2.length k2) (.int .u64 (x3 : Int)) (.int .u64 (x4 : Int)) (.int .i64 x5) (.int .i64 x6)
          have hb9 := HB7.out.trans (htc.below (B := w.heap.size) HB7.out.size (by simp))
          clear z0 z1 z2 z3 z4 z5 zf y0 y1 y2 y3 y4 y5
          have htr := etouch_owns HTr.out htc Hl0.out
          have hnr := etouch_owns HNr.out htc Hl1.out
          clear htc
          generalize ((((((v6).setCell ⟨w.heap.size, 0, none⟩ (.slice a1 x1.length k1)).setCell ⟨w.heap.size, 1, none⟩ (.slice a2 x2.length k2)).setCell ⟨w.heap.size, 2, none⟩ (.int .u64 (x3 : Int))).setCell ⟨w.heap.size, 3, none⟩ (.int .u64 (x4 : Int))).setCell ⟨w.heap.size, 4, none⟩ (.int .i64 x5)).setCell ⟨w.heap.size, 5, none⟩ (.int .i64 x6) = w9 at *
          have q0 := Lib.cell_of_heap hst 0
          have q1 := Lib.cell_of_heap hst 1
          have q2 := Lib.cell_of_heap hst 2
          have q3 := Lib.cell_of_heap hst 3
          have q4 := Lib.cell_of_heap hst 4
          have q5 := Lib.cell_of_heap hst 5
          simp at q0 q1 q2 q3 q4 q5
          refine bodyPost_ret (v := .tuple #[.agg #[.slice a1 x1.length k1, .slice a2 x2.length k2, .int .u64 (x3 : Int), .int .u64 (x4 : Int), .int .i64 x5, .int .i64 x6], .int .i64 0]) ?_ rfl ?_
          · simp [results, Try.results12, go_sem, q0, q1, q2, q3, q4, q5]
          · rw [endE_ok]
            refine ⟨a1, x1.length, k1, a2, x2.length, k2, rfl, ?_, ?_, hb9⟩
            · exact ownsRow.reads htr
            · have := ownsRow.reads hnr
              rwa [numL_flat] at this
        | cons c r =>
          have hclen : ((c :: r).length : Int) > 0 := by simp
          have hst0 := heap_setCell_same v6 (w.heap.size + 1) 1 _ _ (.int .i64 9) HRv.out
          have htc0 : Touch v6 (v6.setCell ⟨w.heap.size + 1, 1, none⟩ (.int .i64 9)) [w.heap.size + 1] := (Touch.refl v6 _).setCell (.inl (by simp)) _
          have HXa := Lib.hid (htc0.keep HZ.out (by simp))
          have HBa := Lib.hid (HB7.out.trans (htc0.below (B := w.heap.size) HB7.out.size (by simp)))
          have s1 := Lib.cell_of_heap hst0 1
          simp at s1
          have hz8 := htc0.size
          clear hst0 htc0 z0 z1 z2 z3 z4 z5 zf y0 y1 y2 y3 y4 y5
          go_upto_region 24 with fail
          generalize v6.setCell ⟨w.heap.size + 1, 1, none⟩ (.int .i64 9) = w8 at *
          have lt0 : w.heap.size < w8.heap.size := by omega
          have lt1 : w.heap.size + 1 < w8.heap.size := by omega
          go_upto_region 25 with fail
          refine wp_region_until_last (l := [_, _, _, _, _, _]) (by kernel_rfl) [eqU (.agg #[.slice none 0 0, .slice none 0 0, .int .u64 0, .int .u64 0, .int .i64 0, .int .i64 0]), eqU (.pointer (some ⟨w.heap.size + 1, 0, none⟩)), eqU (.pointer (some ⟨w.heap.size + 1, 0, none⟩)), eqU (.pointer (some ⟨w.heap.size + 1, 1, none⟩)), eqU (.int .i64 9), anyU] [] (by kernel_rfl) (by kernel_rfl) (by kernel_rfl) (by kernel_rfl) (by kernel_rfl) ⟨?_, ?_, ?_, ?_, ?_, ?_, trivial⟩ ?_
          · intro ρ wx hρ hbx hl
            refine u_val (v := .agg #[.slice none 0 0, .slice none 0 0, .int .u64 0, .int .u64 0, .int .i64 0, .int .i64 0]) ?_ rfl
            simp [execOp, go_sem]
          · intro ρ wx hρ hbx hl
            have e4 : ρ (.tmp 4) = .pointer (some ⟨w.heap.size + 1, 0, none⟩) := hρ.tmp 4 (by decide +kernel)
            refine u_val (v := .pointer (some ⟨w.heap.size + 1, 0, none⟩)) ?_ rfl
            simp [execOp, go_sem, e4]
          · intro ρ wx hρ hbx hl
            have e102 : ρ (.tmp 102) = .pointer (some ⟨w.heap.size + 1, 0, none⟩) := hl 1 (by decide +kernel) (.inl rfl) 102 rfl
            refine u_val (v := .pointer (some ⟨w.heap.size + 1, 0, none⟩)) ?_ rfl
            simp [execOp, go_sem, e102]
          · intro ρ wx hρ hbx hl
            have e103 : ρ (.tmp 103) = .pointer (some ⟨w.heap.size + 1, 0, none⟩) := hl 2 (by decide +kernel) (.inl rfl) 103 rfl
            refine u_val (v := .pointer (some ⟨w.heap.size + 1, 1, none⟩)) ?_ rfl
            simp [execOp, go_sem, e103]
          · intro ρ wx hρ hbx hl
            have e104 : ρ (.tmp 104) = .pointer (some ⟨w.heap.size + 1, 1, none⟩) := hl 3 (by decide +kernel) (.inl rfl) 104 rfl
            have kk := (hbx.cell (lt1)).trans s1
            refine u_val (v := .int .i64 9) ?_ rfl
            simp [execOp, go_sem, e104, kk]
          · intro ρ wx hρ hbx hl
            have e2 : ρ (.tmp 2) = .pointer (some ⟨w.heap.size, 0, none⟩) := hρ.tmp 2 (by decide +kernel)
            have e101 : ρ (.tmp 101) = .agg #[.slice none 0 0, .slice none 0 0, .int .u64 0, .int .u64 0, .int .i64 0, .int .i64 0] := hl 0 (by decide +kernel) (.inl rfl) 101 rfl
            have hzz := (hbx.block _ lt0).trans HXa.out
            have z0 := Lib.cell_of_heap hzz 0
            have z1 := Lib.cell_of_heap hzz 1
            have z2 := Lib.cell_of_heap hzz 2
            have z3 := Lib.cell_of_heap hzz 3
            have z4 := Lib.cell_of_heap hzz 4
            have z5 := Lib.cell_of_heap hzz 5
            simp at z0 z1 z2 z3 z4 z5
            have zf := Lib.frozen_of_heap hzz
            have ltx := (Array.getElem?_eq_some_iff.1 hzz).1
            unfold YieldsP
            simp [execOp, go_sem, e2, e101, z0, z1, z2, z3, z4, z5, zf]
            rw [setCell_id (i := 0) (v := (.slice none 0 0)) hzz rfl, setCell_id (i := 1) (v := (.slice none 0 0)) hzz rfl, setCell_id (i := 2) (v := (.int .u64 0)) hzz rfl, setCell_id (i := 3) (v := (.int .u64 0)) hzz rfl, setCell_id (i := 4) (v := (.int .i64 0)) hzz rfl, setCell_id (i := 5) (v := (.int .i64 0)) hzz rfl]
            exact ⟨trivial, Below.refl _ _⟩
          intro aa wa hdef hsz hlk hbz hf
          have ha := act_of_like hdef hsz hlk [101, 102, 103, 104, 105] 107 rfl (by decide +kernel)
          have e101 : aa.tmps.getD 101 undef = .agg #[.slice none 0 0, .slice none 0 0, .int .u64 0, .int .u64 0, .int .i64 0, .int .i64 0] := hf 0 _ 101 rfl rfl rfl
          have e102 : aa.tmps.getD 102 undef = .pointer (some ⟨w.heap.size + 1, 0, none⟩) := hf 1 _ 102 rfl rfl rfl
          have e103 : aa.tmps.getD 103 undef = .pointer (some ⟨w.heap.size + 1, 0, none⟩) := hf 2 _ 103 rfl rfl rfl
          have e104 : aa.tmps.getD 104 undef = .pointer (some ⟨w.heap.size + 1, 1, none⟩) := hf 3 _ 104 rfl rfl rfl
          have e105 : aa.tmps.getD 105 undef = .int .i64 9 := hf 4 _ 105 rfl rfl rfl
          simp only [putAll, List.foldl_cons, List.foldl_nil, e101, e102, e103, e104, e105] at ha
          simp [Act.put] at ha
          subst ha
          clear hdef hsz hlk hf e101 e102 e103 e104 e105
          have HXb := Lib.hid ((hbz.block _ lt0).trans HXa.out)
          have hba' := HBa.out.trans (hbz.mono HBa.out.size)
          clear hbz
          go_wp2
          have hb9 := hba'
          have q0 := Lib.cell_of_heap HXb.out 0
          have q1 := Lib.cell_of_heap HXb.out 1
          have q2 := Lib.cell_of_heap HXb.out 2
          have q3 := Lib.cell_of_heap HXb.out 3
          have q4 := Lib.cell_of_heap HXb.out 4
          have q5 := Lib.cell_of_heap HXb.out 5
          simp at q0 q1 q2 q3 q4 q5
          refine bodyPost_ret (v := .tuple #[.agg #[.slice none 0 0, .slice none 0 0, .int .u64 0, .int .u64 0, .int .i64 0, .int .i64 0], .int .i64 9]) ?_ rfl ?_
          · simp [results, Try.results12, go_sem, q0, q1, q2, q3, q4, q5]
          · rw [endE_long (by simp)]
            exact ⟨none, 0, 0, none, 0, 0, rfl, reads_nil5 _, reads_nil1 _, hb9⟩
      · have heb : ((e6 : Int) == 0) = false := by simp [he]
        have hec : ((e6 : Int) != 0) = true := by simp [he]
        have HXa := HZ
        have HBa := HB7
        have s1 := r1
        clear z0 z1 z2 z3 z4 z5 zf y0 y1 y2 y3 y4 y5
        go_upto_region 25 with fail
        refine wp_region_until_last (l := [_, _, _, _, _, _]) (by kernel_rfl) [eqU (.agg #[.slice none 0 0, .slice none 0 0, .int .u64 0, .int .u64 0, .int .i64 0, .int .i64 0]), eqU (.pointer (some ⟨w.heap.size + 1, 0, none⟩)), eqU (.pointer (some ⟨w.heap.size + 1, 0, none⟩)), eqU (.pointer (some ⟨w.heap.size + 1, 1, none⟩)), eqU (.int .i64 (e6 : Int)), anyU] [] (by kernel_rfl) (by kernel_rfl) (by kernel_rfl) (by kernel_rfl) (by kernel_rfl) ⟨?_, ?_, ?_, ?_, ?_, ?_, trivial⟩ ?_
        · intro ρ wx hρ hbx hl
          refine u_val (v := .agg #[.slice none 0 0, .slice none 0 0, .int .u64 0, .int .u64 0, .int .i64 0, .int .i64 0]) ?_ rfl
          simp [execOp, go_sem]
        · intro ρ wx hρ hbx hl
          have e4 : ρ (.tmp 4) = .pointer (some ⟨w.heap.size + 1, 0, none⟩) := hρ.tmp 4 (by decide +kernel)
          refine u_val (v := .pointer (some ⟨w.heap.size + 1, 0, none⟩)) ?_ rfl
          simp [execOp, go_sem, e4]
        · intro ρ wx hρ hbx hl
          have e102 : ρ (.tmp 102) = .pointer (some ⟨w.heap.size + 1, 0, none⟩) := hl 1 (by decide +kernel) (.inl rfl) 102 rfl
          refine u_val (v := .pointer (some ⟨w.heap.size + 1, 0, none⟩)) ?_ rfl
          simp [execOp, go_sem, e102]
        · intro ρ wx hρ hbx hl
          have e103 : ρ (.tmp 103) = .pointer (some ⟨w.heap.size + 1, 0, none⟩) := hl 2 (by decide +kernel) (.inl rfl) 103 rfl
          refine u_val (v := .pointer (some ⟨w.heap.size + 1, 1, none⟩)) ?_ rfl
          simp [execOp, go_sem, e103]
        · intro ρ wx hρ hbx hl
          have e104 : ρ (.tmp 104) = .pointer (some ⟨w.heap.size + 1, 1, none⟩) := hl 3 (by decide +kernel) (.inl rfl) 104 rfl
          have kk := (hbx.cell (lt1)).trans s1
          refine u_val (v := .int .i64 (e6 : Int)) ?_ rfl
          simp [execOp, go_sem, e104, kk]
        · intro ρ wx hρ hbx hl
          have e2 : ρ (.tmp 2) = .pointer (some ⟨w.heap.size, 0, none⟩) := hρ.tmp 2 (by decide +kernel)
          have e101 : ρ (.tmp 101) = .agg #[.slice none 0 0, .slice none 0 0, .int .u64 0, .int .u64 0, .int .i64 0, .int .i64 0] := hl 0 (by decide +kernel) (.inl rfl) 101 rfl
          have hzz := (hbx.block _ lt0).trans HXa.out
          have z0 := Lib.cell_of_heap hzz 0
          have z1 := Lib.cell_of_heap hzz 1
          have z2 := Lib.cell_of_heap hzz 2
          have z3 := Lib.cell_of_heap hzz 3
          have z4 := Lib.cell_of_heap hzz 4
          have z5 := Lib.cell_of_heap hzz 5
          simp at z0 z1 z2 z3 z4 z5
          have zf := Lib.frozen_of_heap hzz
          have ltx := (Array.getElem?_eq_some_iff.1 hzz).1
          unfold YieldsP
          simp [execOp, go_sem, e2, e101, z0, z1, z2, z3, z4, z5, zf]
          rw [setCell_id (i := 0) (v := (.slice none 0 0)) hzz rfl, setCell_id (i := 1) (v := (.slice none 0 0)) hzz rfl, setCell_id (i := 2) (v := (.int .u64 0)) hzz rfl, setCell_id (i := 3) (v := (.int .u64 0)) hzz rfl, setCell_id (i := 4) (v := (.int .i64 0)) hzz rfl, setCell_id (i := 5) (v := (.int .i64 0)) hzz rfl]
          exact ⟨trivial, Below.refl _ _⟩
        intro aa wa hdef hsz hlk hbz hf
        have ha := act_of_like hdef hsz hlk [101, 102, 103, 104, 105] 107 rfl (by decide +kernel)
        have e101 : aa.tmps.getD 101 undef = .agg #[.slice none 0 0, .slice none 0 0, .int .u64 0, .int .u64 0, .int .i64 0, .int .i64 0] := hf 0 _ 101 rfl rfl rfl
        have e102 : aa.tmps.getD 102 undef = .pointer (some ⟨w.heap.size + 1, 0, none⟩) := hf 1 _ 102 rfl rfl rfl
        have e103 : aa.tmps.getD 103 undef = .pointer (some ⟨w.heap.size + 1, 0, none⟩) := hf 2 _ 103 rfl rfl rfl
        have e104 : aa.tmps.getD 104 undef = .pointer (some ⟨w.heap.size + 1, 1, none⟩) := hf 3 _ 104 rfl rfl rfl
        have e105 : aa.tmps.getD 105 undef = .int .i64 (e6 : Int) := hf 4 _ 105 rfl rfl rfl
        simp only [putAll, List.foldl_cons, List.foldl_nil, e101, e102, e103, e104, e105] at ha
        simp [Act.put] at ha
        subst ha
        clear hdef hsz hlk hf e101 e102 e103 e104 e105
        have HXb := Lib.hid ((hbz.block _ lt0).trans HXa.out)
        have hba' := HBa.out.trans (hbz.mono HBa.out.size)
        clear hbz
        go_wp2
        have hb9 := hba'
        have q0 := Lib.cell_of_heap HXb.out 0
        have q1 := Lib.cell_of_heap HXb.out 1
        have q2 := Lib.cell_of_heap HXb.out 2
        have q3 := Lib.cell_of_heap HXb.out 3
        have q4 := Lib.cell_of_heap HXb.out 4
        have q5 := Lib.cell_of_heap HXb.out 5
        simp at q0 q1 q2 q3 q4 q5
        refine bodyPost_ret (v := .tuple #[.agg #[.slice none 0 0, .slice none 0 0, .int .u64 0, .int .u64 0, .int .i64 0, .int .i64 0], .int .i64 (e6 : Int)]) ?_ rfl ?_
        · simp [results, Try.results12, go_sem, q0, q1, q2, q3, q4, q5]
        · rw [endE_bad he]
          exact ⟨none, 0, 0, none, 0, 0, rfl, reads_nil5 _, reads_nil1 _, hb9⟩
end Go.Proofs.Ythjimldojdhccaa
