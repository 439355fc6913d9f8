/- What the proof stands on, part 12. -/
import Derived.Test.YtfhdonidgegebaaDoorMg11
import Derived.Lib.MinMax
import Derived.Deep.QuietTactic
import Derived.BigQuiet
/- Block. -/
namespace Go.Proofs.YtfhdonidgegebaaDoor
open Go Go.RowKit

theorem reads_zero (w : World) (a : Option Addr) (C : Nat) (hC : C ≤ maxLen) : Reads w 1 (.slice a 0 C) 0 (bcells []) := ⟨by simp [bcells], a, C, rfl, Nat.zero_le _, hC, fun j u hj => by simp [bcells] at hj⟩

theorem mid_nil (l : List UInt8) (i : Nat) : mid l i i = [] := by
  unfold mid
  rw [Nat.sub_self, List.take_zero]

theorem own_from {B B' n s : Nat} {w : World} {e : TypeId} {v : Value} {xs : List Value} (h : w.ownsRow B e s v n xs) (hB : B' ≤ B) : w.ownsRow B' e s v n xs :=
  ⟨h.1, h.2.imp id fun ⟨g, cap, cur, h1, h3, h2⟩ => ⟨g, cap, cur, h1, Nat.le_trans hB h3, h2⟩⟩

def NxPost (w : World) (er nn : Nat) (pl : List UInt8) (e : Ending) (w' : World) : Prop :=
  ∃ v', e = .returned (.tuple #[v', .int .i64 (nn : Int), .int .i64 (er : Int)]) ∧ w'.ownsRow w.heap.size 5 1 v' pl.length (bcells pl) ∧ Below w.heap.size w w'

theorem nx_of {fr pl : List UInt8} {er nn : Nat} (her : (nextL fr).1 = er) (hpl : (nextL fr).2 = pl) (hnn : nextN fr = nn) {W W' : World} {e : Ending} (h : FNext W fr e W') : NxPost W er nn pl e W' := by
  subst her
  subst hpl
  subst hnn
  exact h

theorem pl_small {fr : List UInt8} {n : Nat} (hl : fr.length = n) (h : (nextL fr).1 = 0) : (nextL fr).2.length ≤ n := by
  have h1 := nextL_ok h
  omega

def ownF (B : Nat) (l : List UInt8) : SlotFact := ⟨fun v w => w.ownsRow B 5 1 v l.length (bcells l), fun _ _ _ h b => owns_below h b⟩
def tupF (B er nn : Nat) (l : List UInt8) : SlotFact := ⟨fun v w => ∃ v', v = .tuple #[v', .int .i64 (nn : Int), .int .i64 (er : Int)] ∧ w.ownsRow B 5 1 v' l.length (bcells l), fun _ _ _ ⟨v', h, k⟩ b => ⟨v', h, owns_below k b⟩⟩

set_option maxRecDepth 100000 in
set_option maxHeartbeats 4000000 in
theorem block_at (w : World) (g : Nat) (T : Tab) (i : Int) (h : TabAt w g T) (hf : Fits T) (hst : Steps w) :
    Calls Tryd.prog 16 #[.pointer (some ⟨g, 0, none⟩), .int .i64 i] w (BlkPost w T i) := by
  have HBl := Lib.hid (blocks_any w g T h)
  have HSt := Lib.hid hst
  obtain ⟨hf1, hf2, hf3⟩ := hf
  obtain ⟨gx, bv, fv, h1, ⟨xa, xcap, h2, h3⟩, h4, h5⟩ := h
  have c0 := Lib.cell_of_heap h1 0
  have c1 := Lib.cell_of_heap h1 1
  have x0 := Lib.cell_of_heap h2 0
  simp at c0 c1 x0
  have l1 := (Array.getElem?_eq_some_iff.1 h1).1
  have l2 := (Array.getElem?_eq_some_iff.1 h2).1
  have H1 := Lib.hid h1
  have H3 := Lib.hid h3
  have H4 := Lib.hid h4
  have HF3 := Lib.hid hf3
  obtain ⟨L, hL⟩ : ∃ L, T.sp.length = L := ⟨_, rfl⟩
  rw [hL] at HBl x0 H3 hf2
  have HL := Lib.hid hL
  have hone : (i < 0 ∨ (L : Int) ≤ i) → BlkPost w T i (.returned (.tuple #[.slice none 0 0, .int .i64 1])) w := fun hi => by
    refine ⟨Below.refl _ _, .error 1, .inl ⟨rfl, by rw [HL.out]; exact hi⟩, rfl⟩
  have HOne := Lib.hid hone
  clear hone h1 h2 h3 h4 h5 hf3 hst hL
  by_cases hi0 : i < 0
  · have hi0d : decide (i < 0) = true := by simpa using hi0
    go_enter Tryd.func16, Tryd.ntmps16
    go_wp2
    go_ret2
    exact HOne.out (.inl hi0)
  · obtain ⟨k, rfl⟩ : ∃ k : Nat, i = (k : Int) := ⟨i.toNat, by omega⟩
    by_cases hkL : L ≤ k
    · go_enter Tryd.func16, Tryd.ntmps16
      go_wp2_with (go_at_call 15; go_must (refine HBl.out.mono ?_))
      rintro e w1 ⟨rfl, rfl⟩
      go_wp2
      go_ret2
      exact HOne.out (.inr (by omega))
    · have hkI : (k : Int) < L := by omega
      obtain ⟨s, hs⟩ : ∃ s, T.sp[k]? = some s := ⟨_, List.getElem?_eq_getElem (by rw [HL.out]; omega)⟩
      obtain ⟨sb, so, rfl, hsb, s0, s1, s2⟩ := H3.out.span hs
      have hsf := HF3.out s (List.mem_of_getElem? hs)
      have HS := Lib.hid hs
      have hbad8 : (nextL (frameOf T s)).1 ≠ 0 ∨ nextN (frameOf T s) ≠ s.len ∨ keysNot (nextL (frameOf T s)).2 → ∀ c, (c = 8 ∨ c = 9) → ∀ W, Below w.heap.size w W → BlkPost w T (k : Int) (.returned (.tuple #[.slice none 0 0, .int .i64 ((c : Nat) : Int)])) W := fun hbad c hc W hb =>
        ⟨hb, .error c, .inr ⟨hc, k, s, rfl, HS.out, hbad⟩, rfl⟩
      have hgood : ∀ ks, (nextL (frameOf T s)).1 = 0 → nextN (frameOf T s) = s.len → keysOk (nextL (frameOf T s)).2 ks → ∀ W v, Below w.heap.size w W → W.ownsRow w.heap.size 9 1 v ks.length (scells ks) → BlkPost w T (k : Int) (.returned (.tuple #[v, .int .i64 0])) W := fun ks a1 a2 a3 W v hb ho =>
        ⟨hb, .ok ks, ⟨k, s, rfl, HS.out, a1, a2, a3⟩, v, rfl, ho⟩
      have HBad := Lib.hid hbad8
      have HGood := Lib.hid hgood
      have hfl : (frameOf T s).length = s.len := by
        unfold frameOf
        rw [mid_length (by omega) hsf]
        omega
      have HFl := Lib.hid hfl
      clear hbad8 hgood hs HOne H3 HF3 hfl
      obtain ⟨sf, sa, sl⟩ := s
      simp only at s0 s1 s2 hsf HFl HBad HGood
      have hfr : frameOf T ⟨sf, sa, sl⟩ = mid T.data sa (sa + sl) := rfl
      have HFr := Lib.hid hfr
      clear hfr
      generalize frameOf T ⟨sf, sa, sl⟩ = fr at *
      obtain ⟨er, her⟩ : ∃ er, (nextL fr).1 = er := ⟨_, rfl⟩
      obtain ⟨pl, hpl⟩ : ∃ pl, (nextL fr).2 = pl := ⟨_, rfl⟩
      obtain ⟨nn, hnn⟩ : ∃ nn, nextN fr = nn := ⟨_, rfl⟩
      have hplen : er = 0 → pl.length ≤ 60000 := fun h => by
        have h1 := pl_small HFl.out (by rw [her]; exact h)
        rw [hpl] at h1
        exact Nat.le_trans h1 (Nat.le_trans (Nat.le_trans (Nat.le_add_left sl sa) hsf) hf1)
      have hnx : ∀ (W : World) e W', FNext W fr e W' → NxPost W er nn pl e W' := fun W e W' h => nx_of her hpl hnn h
      rw [her, hpl, hnn] at HBad HGood
      have HPl := Lib.hid hplen
      have HNxp := Lib.hid hnx
      clear her hpl hnn hplen hnx
      go_enter Tryd.func16, Tryd.ntmps16
      go_wp2_with (go_at_call 15; go_must (refine HBl.out.mono ?_))
      rintro e w1 ⟨rfl, rfl⟩
      go_upto_region 4 with fail
      have hba : Below w.heap.size w (w.alloc (Obj.cells #[Value.string sf, Value.int IntKind.i64 (sa : Int), Value.int IntKind.i64 (sl : Int)] 67)) := (Below.refl _ _).alloc (Nat.le_refl _) _
      have hq : (w.alloc (Obj.cells #[Value.string sf, Value.int IntKind.i64 (sa : Int), Value.int IntKind.i64 (sl : Int)] 67)).heap[w.heap.size]? = some (Obj.cells #[Value.string sf, Value.int IntKind.i64 (sa : Int), Value.int IntKind.i64 (sl : Int)] 67) := heap_alloc_new _ _
      have HBa := Lib.hid hba
      have HQ := Lib.hid hq
      have HSt1 := Lib.hid (HSt.out.below hba)
      have HD1 := Lib.hid (owns_below H4.out hba)
      have H1a := Lib.hid (below_block hba H1.out l1)
      clear hba hq HBl c0 c1 x0 s0 s1 s2 H4 H1 HSt hi0 hkL hkI hsb
      obtain ⟨q, hq⟩ : ∃ q, w.heap.size = q := ⟨_, rfl⟩
      rw [hq] at HQ
      generalize w.alloc (Obj.cells #[Value.string sf, Value.int IntKind.i64 (sa : Int), Value.int IntKind.i64 (sl : Int)] 67) = w1 at *
      have c1 := Lib.cell_of_heap H1a.out 1
      have q1 := Lib.cell_of_heap HQ.out 1
      have q2 := Lib.cell_of_heap HQ.out 2
      simp at c1 q1 q2
      have lg1 := (Array.getElem?_eq_some_iff.1 H1a.out).1
      have lq1 := (Array.getElem?_eq_some_iff.1 HQ.out).1
      have Hq := Lib.hid hq
      rw [hq]
      clear hq l1 l2
      have hlen : sl ≤ 60000 := by omega
      obtain ⟨m, hm⟩ : ∃ m, sa + sl = m := ⟨_, rfl⟩
      have hw : IntKind.i64.wrap ((sa : Int) + (sl : Int)) = (m : Int) := by rw [IntKind.wrap_i64]; omega
      have hBs : w.heap.size ≤ w1.heap.size := HBa.out.size
      have hV : ∃ V, (∀ (ρ : Operand → Value) (W : World) (o : Oper), o.op = Op.slice 24 (.tmp 36) (some (.tmp 38)) (some (.tmp 43)) none → ρ (.tmp 36) = bv → ρ (.tmp 38) = .int .i64 (sa : Int) → ρ (.tmp 43) = .int .i64 (m : Int) → (execOp ρ o).run Tryd.prog W = .ok (.value V) W) ∧
          ∀ W, Below w1.heap.size w1 W → Calls Tryd.prog 44 #[V] W (NxPost W er nn pl) := by
        have hm1 : sa ≤ m := by omega
        rcases HD1.out.2 with ⟨hbv, hd0⟩ | ⟨bb, dcap, cur, hbv, _, hh, hdc, hdm, _, _⟩
        · have hdl : T.data.length = 0 := hd0
          have hsa : sa = 0 := by omega
          have hm0 : m = 0 := by omega
          have hfr0 : fr = [] := List.eq_nil_of_length_eq_zero (by rw [HFl.out]; omega)
          refine ⟨.slice none 0 0, fun ρ W o ho h1 h2 h3 => ?_, fun W hb => (fnext_any W (.slice none 0 0) 0 fr (by rw [hfr0]; exact reads_zero W none 0 (Nat.zero_le _)) (by omega) (HSt1.out.below hb)).mono (HNxp.out W)⟩
          simp [execOp, ho, go_sem, h1, h2, h3, hbv, hsa, hm0]
        · unfold maxLen at hdm
          by_cases hce : dcap = sa
          · have hms : m = sa := by omega
            have hfr0 : fr = [] := List.eq_nil_of_length_eq_zero (by rw [HFl.out]; omega)
            refine ⟨.slice (some ⟨bb, 0, none⟩) 0 0, fun ρ W o ho h1 h2 h3 => ?_, fun W hb => (fnext_any W (.slice (some ⟨bb, 0, none⟩) 0 0) 0 fr (by rw [hfr0]; exact reads_zero W _ 0 (Nat.zero_le _)) (by omega) (HSt1.out.below hb)).mono (HNxp.out W)⟩
            simp [execOp, ho, go_sem, h1, h2, h3, hbv, hms, hce]
          · have hm2 : m ≤ dcap := by omega
            refine ⟨.slice (some ⟨bb, sa, none⟩) (m - sa) (dcap - sa), fun ρ W o ho h1 h2 h3 => ?_, fun W hb => (fnext_any W (.slice (some ⟨bb, sa, none⟩) (m - sa) (dcap - sa)) (m - sa) fr (by
              have hr0 := ownsRow.reads (owns_below HD1.out hb)
              rw [hbv] at hr0
              have hr := hr0.mid hm1 (by omega)
              rw [← hm, ← HFr.out, hm, Nat.zero_add] at hr
              exact hr) (by omega) (HSt1.out.below hb)).mono (HNxp.out W)⟩
            simp [execOp, ho, go_sem, h1, h2, h3, hbv, hce, hm1, hm2]
      obtain ⟨V, hrun, hnext⟩ := hV
      clear hm hsf HD1 HNxp HFr HFl hf1
      refine wp_region_all (by kernel_rfl) [eqF (.pointer (some ⟨g, 0, none⟩)), eqF (.pointer (some ⟨g, 0, none⟩)), eqF (.pointer (some ⟨g, 1, none⟩)), eqF (bv), eqF (.pointer (some ⟨q, 1, none⟩)), eqF (.int .i64 (sa : Int)), eqF (.pointer (some ⟨q, 1, none⟩)), eqF (.int .i64 (sa : Int)), eqF (.pointer (some ⟨q, 2, none⟩)), eqF (.int .i64 (sl : Int)), eqF (.int .i64 (m : Int)), eqF (V), tupF w.heap.size er nn pl, tupF w.heap.size er nn pl, ownF w.heap.size pl, eqF (.int .i64 (nn : Int)), eqF (.int .i64 (er : Int)), ownF w.heap.size pl, eqF (.int .i64 (nn : Int)), eqF (.int .i64 (er : Int))] (by kernel_rfl) ⟨?_, ?_, ?_, ?_, ?_, ?_, ?_, ?_, ?_, ?_, ?_, ?_, ?_, ?_, ?_, ?_, ?_, ?_, ?_, ?_, trivial⟩ ⟨trivial, trivial, trivial, trivial, trivial, trivial, trivial, trivial, trivial, trivial, trivial, trivial, trivial, trivial, trivial, trivial, trivial, trivial, trivial, trivial, trivial⟩ ?_
      · intro ρ wx hρ hbx hl
        have e0 : ρ (.tmp 0) = .pointer (some ⟨g, 0, none⟩) := hρ.tmp 0 (by decide +kernel)
        refine y_val (v := .pointer (some ⟨g, 0, none⟩)) ?_ rfl
        simp [execOp, go_sem, e0]
      · intro ρ wx hρ hbx hl
        have e33 : ρ (.tmp 33) = .pointer (some ⟨g, 0, none⟩) := hl 0 (by decide +kernel) 33 rfl
        refine y_val (v := .pointer (some ⟨g, 0, none⟩)) ?_ rfl
        simp [execOp, go_sem, e33]
      · intro ρ wx hρ hbx hl
        have e34 : ρ (.tmp 34) = .pointer (some ⟨g, 0, none⟩) := hl 1 (by decide +kernel) 34 rfl
        refine y_val (v := .pointer (some ⟨g, 1, none⟩)) ?_ rfl
        simp [execOp, go_sem, e34]
      · intro ρ wx hρ hbx hl
        have e35 : ρ (.tmp 35) = .pointer (some ⟨g, 1, none⟩) := hl 2 (by decide +kernel) 35 rfl
        have kk := (hbx.cell (lg1)).trans c1
        refine y_val (v := bv) ?_ rfl
        simp [execOp, go_sem, e35, kk]
      · intro ρ wx hρ hbx hl
        have e6 : ρ (.tmp 6) = .pointer (some ⟨q, 0, none⟩) := hρ.tmp 6 (by decide +kernel)
        refine y_val (v := .pointer (some ⟨q, 1, none⟩)) ?_ rfl
        simp [execOp, go_sem, e6]
      · intro ρ wx hρ hbx hl
        have e37 : ρ (.tmp 37) = .pointer (some ⟨q, 1, none⟩) := hl 4 (by decide +kernel) 37 rfl
        have kk := (hbx.cell (lq1)).trans q1
        refine y_val (v := .int .i64 (sa : Int)) ?_ rfl
        simp [execOp, go_sem, e37, kk]
      · intro ρ wx hρ hbx hl
        have e6 : ρ (.tmp 6) = .pointer (some ⟨q, 0, none⟩) := hρ.tmp 6 (by decide +kernel)
        refine y_val (v := .pointer (some ⟨q, 1, none⟩)) ?_ rfl
        simp [execOp, go_sem, e6]
      · intro ρ wx hρ hbx hl
        have e39 : ρ (.tmp 39) = .pointer (some ⟨q, 1, none⟩) := hl 6 (by decide +kernel) 39 rfl
        have kk := (hbx.cell (lq1)).trans q1
        refine y_val (v := .int .i64 (sa : Int)) ?_ rfl
        simp [execOp, go_sem, e39, kk]
      · intro ρ wx hρ hbx hl
        have e6 : ρ (.tmp 6) = .pointer (some ⟨q, 0, none⟩) := hρ.tmp 6 (by decide +kernel)
        refine y_val (v := .pointer (some ⟨q, 2, none⟩)) ?_ rfl
        simp [execOp, go_sem, e6]
      · intro ρ wx hρ hbx hl
        have e41 : ρ (.tmp 41) = .pointer (some ⟨q, 2, none⟩) := hl 8 (by decide +kernel) 41 rfl
        have kk := (hbx.cell (lq1)).trans q2
        refine y_val (v := .int .i64 (sl : Int)) ?_ rfl
        simp [execOp, go_sem, e41, kk]
      · intro ρ wx hρ hbx hl
        have e40 : ρ (.tmp 40) = .int .i64 (sa : Int) := hl 7 (by decide +kernel) 40 rfl
        have e42 : ρ (.tmp 42) = .int .i64 (sl : Int) := hl 9 (by decide +kernel) 42 rfl
        refine y_val (v := .int .i64 (m : Int)) ?_ rfl
        simp [execOp, go_sem, e40, e42, hw]
      · intro ρ wx hρ hbx hl
        have e36 : ρ (.tmp 36) = bv := hl 3 (by decide +kernel) 36 rfl
        have e38 : ρ (.tmp 38) = .int .i64 (sa : Int) := hl 5 (by decide +kernel) 38 rfl
        have e43 : ρ (.tmp 43) = .int .i64 (m : Int) := hl 10 (by decide +kernel) 43 rfl
        refine y_val (v := V) (hrun ρ wx _ rfl e36 e38 e43) rfl
      · intro ρ wx hρ hbx hl
        have e44 : ρ (.tmp 44) = V := hl 11 (by decide +kernel) 44 rfl
        refine y_call (f := 44) (args := #[V]) (by simp [execOp, resolve, invoke, hρ.func, go_sem, e44]) ?_
        refine (hnext wx hbx).mono ?_
        rintro e w6 ⟨v6, rfl, o6, b6⟩
        exact ⟨_, rfl, ⟨v6, rfl, own_from o6 (Nat.le_trans hBs hbx.size)⟩, b6⟩
      · intro ρ wx hρ hbx hl
        have e45 := hl 12 (by decide +kernel) 45 rfl
        refine y_val (v := ρ (.tmp 45)) ?_ e45
        simp [execOp, go_sem]
      · intro ρ wx hρ hbx hl
        have e32 := hl 13 (by decide +kernel) 32 rfl
        obtain ⟨v6, hv, ho⟩ := e32
        refine y_val (v := v6) ?_ ho
        simp [execOp, go_sem, hv]
      · intro ρ wx hρ hbx hl
        have e32 := hl 13 (by decide +kernel) 32 rfl
        obtain ⟨v6, hv, ho⟩ := e32
        refine y_val (v := .int .i64 (nn : Int)) ?_ rfl
        simp [execOp, go_sem, hv]
      · intro ρ wx hρ hbx hl
        have e32 := hl 13 (by decide +kernel) 32 rfl
        obtain ⟨v6, hv, ho⟩ := e32
        refine y_val (v := .int .i64 (er : Int)) ?_ rfl
        simp [execOp, go_sem, hv]
      · intro ρ wx hρ hbx hl
        have e46 := hl 14 (by decide +kernel) 46 rfl
        refine y_val (v := ρ (.tmp 46)) ?_ e46
        simp [execOp, go_sem]
      · intro ρ wx hρ hbx hl
        have e47 : ρ (.tmp 47) = .int .i64 (nn : Int) := hl 15 (by decide +kernel) 47 rfl
        refine y_val (v := .int .i64 (nn : Int)) ?_ rfl
        simp [execOp, go_sem, e47]
      · intro ρ wx hρ hbx hl
        have e48 : ρ (.tmp 48) = .int .i64 (er : Int) := hl 16 (by decide +kernel) 48 rfl
        refine y_val (v := .int .i64 (er : Int)) ?_ rfl
        simp [execOp, go_sem, e48]
      intro aa w2 hdef hsz hlk hbz hf
      have ha := act_of_like hdef hsz hlk [33, 34, 35, 36, 37, 38, 39, 40, 41, 42, 43, 44, 45, 32, 46, 47, 48, 7, 8, 9] 64 rfl (by decide +kernel)
      have e33 : aa.tmps.getD 33 undef = .pointer (some ⟨g, 0, none⟩) := hf 0 _ 33 rfl rfl
      have e34 : aa.tmps.getD 34 undef = .pointer (some ⟨g, 0, none⟩) := hf 1 _ 34 rfl rfl
      have e35 : aa.tmps.getD 35 undef = .pointer (some ⟨g, 1, none⟩) := hf 2 _ 35 rfl rfl
      have e36 : aa.tmps.getD 36 undef = bv := hf 3 _ 36 rfl rfl
      have e37 : aa.tmps.getD 37 undef = .pointer (some ⟨q, 1, none⟩) := hf 4 _ 37 rfl rfl
      have e38 : aa.tmps.getD 38 undef = .int .i64 (sa : Int) := hf 5 _ 38 rfl rfl
      have e39 : aa.tmps.getD 39 undef = .pointer (some ⟨q, 1, none⟩) := hf 6 _ 39 rfl rfl
      have e40 : aa.tmps.getD 40 undef = .int .i64 (sa : Int) := hf 7 _ 40 rfl rfl
      have e41 : aa.tmps.getD 41 undef = .pointer (some ⟨q, 2, none⟩) := hf 8 _ 41 rfl rfl
      have e42 : aa.tmps.getD 42 undef = .int .i64 (sl : Int) := hf 9 _ 42 rfl rfl
      have e43 : aa.tmps.getD 43 undef = .int .i64 (m : Int) := hf 10 _ 43 rfl rfl
      have e44 : aa.tmps.getD 44 undef = V := hf 11 _ 44 rfl rfl
      have e47 : aa.tmps.getD 47 undef = .int .i64 (nn : Int) := hf 15 _ 47 rfl rfl
      have e48 : aa.tmps.getD 48 undef = .int .i64 (er : Int) := hf 16 _ 48 rfl rfl
      have e7 : (ownF w.heap.size pl).1 (aa.tmps.getD 7 undef) w2 := hf 17 _ 7 rfl rfl
      generalize hv7 : aa.tmps.getD 7 undef = v7 at e7
      have e8 : aa.tmps.getD 8 undef = .int .i64 (nn : Int) := hf 18 _ 8 rfl rfl
      have e9 : aa.tmps.getD 9 undef = .int .i64 (er : Int) := hf 19 _ 9 rfl rfl
      simp only [putAll, List.foldl_cons, List.foldl_nil, e33, e34, e35, e36, e37, e38, e39, e40, e41, e42, e43, e44, e47, e48, hv7, e8, e9] at ha
      generalize aa.tmps.getD 45 undef = v45 at ha
      generalize aa.tmps.getD 32 undef = v32 at ha
      generalize aa.tmps.getD 46 undef = v46 at ha
      simp [Act.put] at ha
      subst ha
      clear hdef hsz hlk hf e33 e34 e35 e36 e37 e38 e39 e40 e41 e42 e43 e44 e47 e48 hv7 e8 e9
      have b12 := hbz
      have HQ2 := Lib.hid (below_block b12 HQ.out lq1)
      have r2 := Lib.cell_of_heap HQ2.out 2
      simp at r2
      have lq2 := (Array.getElem?_eq_some_iff.1 HQ2.out).1
      have HB2 := Lib.hid (HBa.out.trans (b12.mono HBa.out.size))
      have HO2 := Lib.hid e7
      clear b12 hbz e7 c1 q1 q2 lg1 lq1 hrun hnext HBa HQ hw hBs HSt1 H1a
      by_cases he8 : er = 8
      · subst he8
        go_wp2
        go_ret2
        exact HBad.out (.inl (by decide)) 8 (.inl rfl) _ HB2.out
      · have he8I : ((er : Int) == 8) = false := by simp; omega
        by_cases he0 : er = 0
        · subst he0
          by_cases hnl : nn = sl
          · have hnlI : ((nn : Int) != (sl : Int)) = false := by simp [hnl]
            have HKs := Lib.hid (keys_small w2 _ pl (own_sl HO2.out) (HPl.out rfl))
            have HNl := Lib.hid hnl
            clear hnl
            go_wp2_with (go_at_call 46; go_must (refine HKs.out.mono ?_))
            rintro e w3 ⟨b3, hk⟩
            have HB3 := Lib.hid (HB2.out.trans (b3.mono HB2.out.size))
            rcases hk with ⟨rfl, hno⟩ | ⟨d, p, ks, v, h1, h2, h3, h4, rfl, ho⟩
            · have HNo := Lib.hid hno
              clear hno b3
              go_wp2
              go_ret2
              exact HBad.out (.inr (.inr HNo.out)) 9 (.inr rfl) _ HB3.out
            · have HKo := Lib.hid (show keysOk pl ks from ⟨d, p, h1, h2, h3, h4⟩)
              have hq' : w.heap.size ≤ w2.heap.size := HB2.out.size
              have HOk := Lib.hid (own_from ho hq')
              clear h1 h2 h3 h4 ho b3
              go_wp2
              go_ret2
              exact HGood.out ks (by first | rfl | trivial) HNl.out HKo.out _ _ HB3.out HOk.out
          · have hnlI : ((nn : Int) != (sl : Int)) = true := by simp; omega
            go_wp2
            go_ret2
            exact HBad.out (.inr (.inl hnl)) 9 (.inr rfl) _ HB2.out
        · have he0I : ((er : Int) != 0) = true := by simp; omega
          go_wp2
          go_ret2
          exact HBad.out (.inl he0) 9 (.inr rfl) _ HB2.out
end Go.Proofs.YtfhdonidgegebaaDoor

/- sort.Search with find's closure. -/
namespace Go.Proofs.YtfhdonidgegebaaDoor
open Go Go.RowKit

def SearchRel14 (w : World) (n : Nat) (p : Nat → Bool) (iv jv : Value) (wr : World) : Prop :=
  ∃ i j : Nat, iv = .int .i64 (i : Int) ∧ jv = .int .i64 (j : Int) ∧ i ≤ j ∧ j ≤ n ∧ (i = 0 ∨ p (i - 1) = false) ∧ (j = n ∨ p j = true) ∧ Below w.heap.size w wr

def SearchPost14 (w : World) (n : Nat) (p : Nat → Bool) (e : Ending) (w' : World) : Prop :=
  ∃ i : Nat, e = .returned (.int .i64 (i : Int)) ∧ i ≤ n ∧ (i = 0 ∨ p (i - 1) = false) ∧ (i = n ∨ p i = true) ∧ Below w.heap.size w w'

set_option maxRecDepth 100000 in
set_option maxHeartbeats 2000000 in
theorem search14_any (w : World) (n : Nat) (p : Nat → Bool) (cb : Array Value) (hn : n ≤ 10000000000)
    (hf : ∀ (w' : World) (i : Nat), Below w.heap.size w w' → i < n → Calls Tryd.prog 75 (#[.int .i64 (i : Int)] ++ cb) w' (GivesBool w' (p i))) :
    Calls Tryd.prog 74 #[.int .i64 (n : Int), .func (.func 75) #[] cb] w (SearchPost14 w n p) := by
  have HF := Lib.hid hf
  clear hf
  go_enter Tryd.func74, Tryd.ntmps74
  go_wp2
  go_loopw [5, 6] (fun i j wr => SearchRel14 w n p i j wr) (fun i j _ => (intOf j - intOf i).toNat)
  case atStart => exact ⟨0, n, rfl, rfl, Nat.zero_le _, Nat.le_refl _, .inl rfl, .inl rfl, Below.refl _ _⟩
  case round =>
    obtain ⟨i, j, rfl, rfl, hij, hjn, h1, h2, hb⟩ := hrel
    have HB := Lib.hid hb
    by_cases hlt : i < j
    · have hltI : (i : Int) < (j : Int) := by omega
      obtain ⟨m, hm⟩ : ∃ m, m = (i + j) / 2 := ⟨_, rfl⟩
      have hmI : ((i : Int) + (j : Int)) / 2 = (m : Int) := by omega
      have hmi : i ≤ m := by omega
      have hmj : m < j := by omega
      have HC := Lib.hid (HF.out wr m hb (by omega))
      have H1 := Lib.hid h1
      have H2 := Lib.hid h2
      clear hm h1 h2 hb
      cases hp : p m with
      | true =>
        rw [hp] at HC
        have HP := Lib.hid hp
        clear hp
        go_wp2_with (go_at_call 75; go_must (refine HC.out.mono ?_))
        rintro e w1 ⟨rfl, b1⟩
        have HB1 := Lib.hid (HB.out.trans (b1.mono HB.out.size))
        clear b1
        go_wp2
        exact ⟨⟨i, m, rfl, rfl, hmi, by omega, H1.out, .inr HP.out, HB1.out⟩, by simp [intOf]; omega⟩
      | false =>
        rw [hp] at HC
        have HP := Lib.hid hp
        clear hp
        go_wp2_with (go_at_call 75; go_must (refine HC.out.mono ?_))
        rintro e w1 ⟨rfl, b1⟩
        have HB1 := Lib.hid (HB.out.trans (b1.mono HB.out.size))
        clear b1
        go_wp2
        exact ⟨⟨m + 1, j, by go_num, rfl, by omega, by omega, .inr (by simpa using HP.out), H2.out, HB1.out⟩, by simp [intOf]; omega⟩
    · obtain rfl : i = j := by omega
      have hltI : ¬ (i : Int) < (i : Int) := by omega
      clear hb
      go_wp2
      go_ret
      exact ⟨i, rfl, hjn, h1, h2, HB.out⟩
end Go.Proofs.YtfhdonidgegebaaDoor

/- find; BinarySearch. -/
namespace Go.Proofs.YtfhdonidgegebaaDoor
open Go Go.RowKit

set_option maxRecDepth 100000 in
set_option maxHeartbeats 1000000 in
theorem less_any (w : World) (x y : ByteArray) : Calls Tryd.prog 76 #[.string x, .string y] w (KeepsVal w (.bool (bl x y))) := by
  have hb := bl_spell x y
  have HB := Lib.hid hb
  clear hb
  go_enter Tryd.func76, Tryd.ntmps76
  go_wp2
  go_ret
  exact ⟨by rw [← HB.out]; rfl, rfl⟩

theorem bl_gt (x y : ByteArray) : (!Op.bytesLess x.toList y.toList && !(x.toList == y.toList)) = bl y x := by
  rw [bl_spell]
  cases h1 : bl x y with
  | true => rw [bl_asymm h1]; rfl
  | false =>
    cases h2 : bl y x with
    | false => rw [bl_total h1 h2]; simp
    | true =>
      cases h3 : x.toList == y.toList with
      | false => rfl
      | true =>
        have e : Op.bytesLess y.toList x.toList = true := by rw [bl_spell]; exact h2
        have e2 : Op.bytesLess x.toList y.toList = false := by rw [bl_spell]; exact h1
        rw [eq_of_beq h3] at e e2
        rw [e] at e2
        cases e2

/-- Is the first key of block i greater? -/
def gtK (sp : List Span) (key : ByteArray) (i : Nat) : Bool := match sp[i]? with | some s => bl key s.first | none => false

set_option maxRecDepth 100000 in
set_option maxHeartbeats 1000000 in
theorem clo14_any (w : World) (bx bk gx : Nat) (sp : List Span) (key : ByteArray) (i : Nat) (h1 : w.heap[bx]? = some (.cells #[.pointer (some ⟨gx, 0, none⟩)] 59 (0, 0))) (h2 : w.heap[bk]? = some (.cells #[.string key] 9 (0, 0))) (h3 : IdxAt w gx sp) (hi : i < sp.length) :
    Calls Tryd.prog 75 #[.int .i64 (i : Int), .pointer (some ⟨bx, 0, none⟩), .pointer (some ⟨bk, 0, none⟩)] w (GivesBool w (gtK sp key i)) := by
  obtain ⟨xa, xcap, h4, h5⟩ := h3
  obtain ⟨s, hs⟩ : ∃ s, sp[i]? = some s := ⟨_, List.getElem?_eq_getElem hi⟩
  have hg : gtK sp key i = bl key s.first := by unfold gtK; rw [hs]
  have hb := bl_gt s.first key
  rw [← hg] at hb
  have HG := Lib.hid hb
  obtain ⟨sb, so, rfl, _, s0, _, _⟩ := h5.span hs
  have c1 := Lib.cell_of_heap h1 0
  have c2 := Lib.cell_of_heap h2 0
  have c4 := Lib.cell_of_heap h4 0
  simp at c1 c2 c4
  obtain ⟨L, hL⟩ : ∃ L, sp.length = L := ⟨_, rfl⟩
  rw [hL] at hi c4
  have hiI : (i : Int) < L := by omega
  clear h1 h2 h4 h5 hs hg hb hL
  go_enter Tryd.func75, Tryd.ntmps75
  go_wp2_with fail
  go_quiet (fail)
  go_wp2
  go_ret
  exact ⟨by rw [← HG.out]; rfl, below_quiet (Below.refl _ _) _⟩

def FindPost (w : World) (sp : List Span) (key : ByteArray) (e : Ending) (w' : World) : Prop :=
  ∃ i : Nat, e = .returned (.int .i64 ((i - 1 : Nat) : Int)) ∧ i ≤ sp.length ∧ (i = 0 ∨ gtK sp key (i - 1) = false) ∧ (i = sp.length ∨ gtK sp key i = true) ∧ Below w.heap.size w w'

set_option maxRecDepth 100000 in
set_option maxHeartbeats 2000000 in
theorem find_any (w : World) (gx : Nat) (sp : List Span) (key : ByteArray) (h : IdxAt w gx sp) (hl : sp.length ≤ 60000) :
    Calls Tryd.prog 47 #[.pointer (some ⟨gx, 0, none⟩), .string key] w (FindPost w sp key) := by
  have hb1 : Below w.heap.size w ((w.alloc (.cells #[.pointer (some ⟨gx, 0, none⟩)] 59)).alloc (.cells #[.string key] 9)) := ((Below.refl _ _).alloc (Nat.le_refl _) _).alloc (by simp) _
  have k1 : ((w.alloc (.cells #[.pointer (some ⟨gx, 0, none⟩)] 59)).alloc (.cells #[.string key] 9)).heap[w.heap.size]? = some (.cells #[.pointer (some ⟨gx, 0, none⟩)] 59 (0, 0)) := (Below.heap_alloc _ _ _ (by simp)).trans (heap_alloc_new _ _)
  have k2 : ((w.alloc (.cells #[.pointer (some ⟨gx, 0, none⟩)] 59)).alloc (.cells #[.string key] 9)).heap[w.heap.size + 1]? = some (.cells #[.string key] 9 (0, 0)) := by
    have := heap_alloc_new (w.alloc (.cells #[.pointer (some ⟨gx, 0, none⟩)] 59)) (.cells #[.string key] 9)
    simpa using this
  have k3 := h.below hb1
  have HB1 := Lib.hid hb1
  have HSe := Lib.hid (search14_any ((w.alloc (.cells #[.pointer (some ⟨gx, 0, none⟩)] 59)).alloc (.cells #[.string key] 9)) sp.length (gtK sp key) #[.pointer (some ⟨w.heap.size, 0, none⟩), .pointer (some ⟨w.heap.size + 1, 0, none⟩)] (by omega) (fun w' i hb hi =>
    clo14_any w' w.heap.size (w.heap.size + 1) gx sp key i (below_block hb k1 (Array.getElem?_eq_some_iff.1 k1).1) (below_block hb k2 (Array.getElem?_eq_some_iff.1 k2).1) (k3.below hb) hi))
  obtain ⟨xa, xcap, h4, h5⟩ := k3
  have c4 := Lib.cell_of_heap h4 0
  have c1 := Lib.cell_of_heap k1 0
  simp at c4 c1
  have HK3 := Lib.hid h4
  obtain ⟨L, hL⟩ : ∃ L, sp.length = L := ⟨_, rfl⟩
  rw [hL] at HSe c4 hl
  have HL := Lib.hid hL
  clear k1 k2 h4 h5 hb1 h hL
  go_enter Tryd.func47, Tryd.ntmps47
  go_wp2_with (go_at_call 74; go_must (refine HSe.out.mono ?_))
  rintro e w1 ⟨i, rfl, hi, h1, h2, hb⟩
  have HB2 := Lib.hid (HB1.out.trans (hb.mono HB1.out.size))
  have H1 := Lib.hid h1
  have H2 := Lib.hid h2
  clear hb h1 h2
  by_cases hi0 : i = 0
  · subst hi0
    have hm : max ((0 : Int) - 1) 0 = 0 := by omega
    go_wp2
    go_ret
    exact ⟨0, rfl, Nat.zero_le _, .inl rfl, by rw [HL.out]; exact H2.out, HB2.out⟩
  · obtain ⟨j, rfl⟩ : ∃ j, i = j + 1 := ⟨i - 1, by omega⟩
    have hm : max (((j + 1 : Nat) : Int) - 1) 0 = (j : Int) := by omega
    have hm2 : max ((j : Int) + 1 - 1) 0 = (j : Int) := by omega
    have hm3 : max (j : Int) 0 = (j : Int) := by omega
    go_wp2
    go_ret
    exact ⟨j + 1, rfl, by rw [HL.out]; exact hi, H1.out, by rw [HL.out]; exact H2.out, HB2.out⟩

def BsRel (n : Nat) (ks : List ByteArray) (key : ByteArray) (iv jv : Value) : Prop :=
  ∃ i j : Nat, iv = .int .i64 (i : Int) ∧ jv = .int .i64 (j : Int) ∧ i ≤ j ∧ j ≤ n ∧ (i = 0 ∨ bl (ks.getD (i - 1) ⟨#[]⟩) key = true) ∧ (j = n ∨ bl (ks.getD j ⟨#[]⟩) key = false)

def BsPost (w : World) (ks : List ByteArray) (key : ByteArray) (e : Ending) (w' : World) : Prop :=
  ∃ (i : Nat) (b : Bool), e = .returned (.tuple #[.int .i64 (i : Int), .bool b]) ∧ i ≤ ks.length ∧ (i = 0 ∨ bl (ks.getD (i - 1) ⟨#[]⟩) key = true) ∧ (i = ks.length ∨ bl (ks.getD i ⟨#[]⟩) key = false) ∧ w = w'

set_option maxRecDepth 100000 in
set_option maxHeartbeats 2000000 in
theorem bsearch_any (w : World) (a : Option Addr) (n cap : Nat) (ks : List ByteArray) (key : ByteArray) (h : Reads w 1 (.slice a n cap) n (scells ks)) (hn : n ≤ 100000) :
    Calls Tryd.prog 48 #[.slice a n cap, .string key] w (BsPost w ks key) := by
  have hkl : ks.length = n := by have := h.1; rw [scells_length] at this; omega
  have HR := Lib.hid h
  have HL := Lib.hid hkl
  clear h hkl
  go_enter Tryd.func48, Tryd.ntmps48
  go_wp2
  go_loop [7, 8] (fun iv jv => BsRel n ks key iv jv) (fun iv jv => (intOf jv - intOf iv).toNat)
  case atStart => exact ⟨0, n, rfl, rfl, Nat.zero_le _, Nat.le_refl _, .inl rfl, .inl rfl⟩
  case round =>
    obtain ⟨i, j, rfl, rfl, hij, hjn, h1, h2⟩ := hrel
    have H1 := Lib.hid h1
    have H2 := Lib.hid h2
    clear h1 h2
    by_cases hlt : i < j
    · have hltI : (i : Int) < (j : Int) := by omega
      obtain ⟨m, hm⟩ : ∃ m, m = (i + j) / 2 := ⟨_, rfl⟩
      have hmI : ((i : Int) + (j : Int)) / 2 = (m : Int) := by omega
      have hmi : i ≤ m := by omega
      have hmj : m < j := by omega
      obtain ⟨g, off, x, rfl, hx, _, hcx⟩ := HR.out.scell m (by omega)
      have hxe : ks.getD m ⟨#[]⟩ = x := by rw [List.getD_eq_getElem?_getD, hx]; rfl
      have HXe := Lib.hid hxe
      have hmn : (m : Int) < (n : Int) := by omega
      have HLs := Lib.hid (less_any w x key)
      clear hm hx hxe
      cases hb : bl x key with
      | true =>
        rw [hb] at HLs
        have HBl := Lib.hid hb
        clear hb
        go_wp2_with (go_at_call 76; go_must (refine HLs.out.mono ?_))
        rintro e w1 ⟨rfl, rfl⟩
        go_wp2
        go_round
        case rel => exact ⟨m + 1, j, by go_num, rfl, by omega, by omega, .inr (by rw [Nat.add_sub_cancel, HXe.out]; exact HBl.out), H2.out⟩
        case measure => simp [intOf]; omega
      | false =>
        rw [hb] at HLs
        have HBl := Lib.hid hb
        clear hb
        go_wp2_with (go_at_call 76; go_must (refine HLs.out.mono ?_))
        rintro e w1 ⟨rfl, rfl⟩
        go_wp2
        go_round
        case rel => exact ⟨i, m, rfl, rfl, by omega, by omega, H1.out, .inr (by rw [HXe.out]; exact HBl.out)⟩
        case measure => simp [intOf]; omega
    · obtain rfl : i = j := by omega
      have hltI : ¬ (i : Int) < (i : Int) := by omega
      by_cases hin : i < n
      · have hinI : (i : Int) < (n : Int) := by omega
        obtain ⟨g, off, x, rfl, hx, _, hcx⟩ := HR.out.scell i hin
        clear hx
        cases hq : x.toList == key.toList with
        | true =>
          go_wp2
          go_ret2
          exact ⟨i, _, rfl, by rw [HL.out]; exact hjn, H1.out, by rw [HL.out]; exact H2.out, rfl⟩
        | false =>
          go_wp2
          go_ret2
          exact ⟨i, _, rfl, by rw [HL.out]; exact hjn, H1.out, by rw [HL.out]; exact H2.out, rfl⟩
      · have hinI : ¬ (i : Int) < (n : Int) := by omega
        go_wp2
        go_ret2
        exact ⟨i, _, rfl, by rw [HL.out]; exact hjn, H1.out, by rw [HL.out]; exact H2.out, rfl⟩
end Go.Proofs.YtfhdonidgegebaaDoor

/- Seek; All. -/
namespace Go.Proofs.YtfhdonidgegebaaDoor
open Go Go.RowKit

set_option maxRecDepth 100000 in
set_option maxHeartbeats 400000 in
theorem tseek_nil (w : World) (key : ByteArray) : Calls Tryd.prog 18 #[.pointer none, .string key] w (KeepsVal w (.tuple #[.string ⟨#[]⟩, .bool false, .int .i64 1])) := by
  go_enter Tryd.func18, Tryd.ntmps18
  go_wp2
  go_ret3
  exact ⟨rfl, rfl⟩

set_option maxRecDepth 100000 in
set_option maxHeartbeats 400000 in
theorem all_nil (w : World) : Calls Tryd.prog 23 #[.pointer none] w (KeepsVal w (.tuple #[.slice none 0 0, .int .i64 1])) := by
  go_enter Tryd.func23, Tryd.ntmps23
  go_wp2
  go_ret2
  exact ⟨rfl, rfl⟩

/-- In which block a key would stand. -/
def FindR (T : Tab) (key : ByteArray) (j : Nat) : Prop := ∃ i : Nat, j = i - 1 ∧ i ≤ T.sp.length ∧ (i = 0 ∨ gtK T.sp key (i - 1) = false) ∧ (i = T.sp.length ∨ gtK T.sp key i = true)

/-- Where a key would stand in a block. -/
def PlaceR (ks : List ByteArray) (key : ByteArray) (a : Nat) : Prop := a ≤ ks.length ∧ (a = 0 ∨ bl (ks.getD (a - 1) ⟨#[]⟩) key = true) ∧ (a = ks.length ∨ bl (ks.getD a ⟨#[]⟩) key = false)

def tellS (o : Option ByteArray) : Value := match o with
  | some x => .tuple #[.string x, .bool true, .int .i64 0]
  | none => .tuple #[.string ⟨#[]⟩, .bool false, .int .i64 0]

def foundIn (T : Tab) (ks : List ByteArray) (j a : Nat) : Option ByteArray := if a < ks.length then ks[a]? else (T.sp[j + 1]?).map Span.first

def TSeekPost (w : World) (T : Tab) (key : ByteArray) (e : Ending) (w' : World) : Prop :=
  Below w.heap.size w w' ∧ ∃ j : Nat, FindR T key j ∧ ∃ r, BlkIs T j r ∧ match r with
    | .error c => e = .returned (.tuple #[.string ⟨#[]⟩, .bool false, .int .i64 (c : Int)])
    | .ok ks => ∃ a, PlaceR ks key a ∧ e = .returned (tellS (foundIn T ks j a))

theorem blk_errs {T : Tab} {i : Int} {c : Nat} (h : BlkIs T i (.error c)) : c = 1 ∨ c = 8 ∨ c = 9 := by
  rcases h with ⟨h, _⟩ | ⟨h, _⟩
  · exact .inl h
  · exact .inr h

theorem keysOk_small {l : List UInt8} {ks : List ByteArray} (h : keysOk l ks) : ks.length ≤ l.length ∧ ∀ x ∈ ks, x.size ≤ l.length := by
  obtain ⟨d, p, h1, h2, _, _⟩ := h
  have h3 := parts_length h1
  have h4 := keysL_small h2
  exact ⟨by omega, fun x hx => by have := h4.2 x hx; omega⟩

theorem blk_small {T : Tab} {i : Int} {ks : List ByteArray} (hf : Fits T) (h : BlkIs T i (.ok ks)) : ks.length ≤ 60000 ∧ ∀ x ∈ ks, x.size ≤ 60000 := by
  obtain ⟨k, s, _, hs, h0, _, hk⟩ := h
  have hl : (frameOf T s).length = s.len := by
    unfold frameOf
    rw [mid_length (by omega) (hf.2.2 s (List.mem_of_getElem? hs))]
    omega
  have h1 := pl_small hl h0
  have h2 := keysOk_small hk
  have h3 := hf.2.2 s (List.mem_of_getElem? hs)
  have h4 := hf.1
  exact ⟨by omega, fun x hx => by have := h2.2 x hx; omega⟩

set_option maxRecDepth 100000 in
set_option maxHeartbeats 4000000 in
theorem tseek_any (w : World) (g : Nat) (T : Tab) (key : ByteArray) (h : TabAt w g T) (hf : Fits T) (hst : Steps w) :
    Calls Tryd.prog 18 #[.pointer (some ⟨g, 0, none⟩), .string key] w (TSeekPost w T key) := by
  have HT := Lib.hid h
  have HSt := Lib.hid hst
  have HF := Lib.hid hf
  obtain ⟨gx, bv, fv, h1, h2, _, _⟩ := h
  have HFi := Lib.hid (find_any w gx T.sp key h2 hf.2.1)
  have c0 := Lib.cell_of_heap h1 0
  simp at c0
  have l1 := (Array.getElem?_eq_some_iff.1 h1).1
  have hL := hf.2.1
  clear h1 h2 hf hst
  go_enter Tryd.func18, Tryd.ntmps18
  go_wp2_with (go_at_call 47; go_must (refine HFi.out.mono ?_))
  rintro e w1 ⟨i, rfl, hi, hi1, hi2, b1⟩
  have HFr := Lib.hid (show FindR T key (i - 1) from ⟨i, rfl, hi, hi1, hi2⟩)
  obtain ⟨j, hj⟩ : ∃ j, i - 1 = j := ⟨_, rfl⟩
  rw [hj] at HFr ⊢
  have hjL : j ≤ 60000 := by omega
  have HT1 := Lib.hid (HT.out.below b1)
  have HB1 := Lib.hid b1
  have HBk := Lib.hid (block_at w1 g T (j : Int) HT1.out HF.out (HSt.out.below b1))
  clear hi hi1 hi2 hj b1 HFi
  go_wp2_with (go_at_call 16; go_must (refine HBk.out.mono ?_))
  rintro e w2 ⟨b2, r, hr, hm⟩
  have HB2 := Lib.hid (HB1.out.trans (b2.mono HB1.out.size))
  have HT2 := Lib.hid (HT1.out.below b2)
  have HR := Lib.hid hr
  cases r with
  | error c =>
    obtain rfl := hm
    have hc := blk_errs hr
    have hcI : ((c : Int) != 0) = true := by simp; omega
    clear hr b2 hc
    go_wp2
    go_ret3
    exact ⟨HB2.out, j, HFr.out, _, HR.out, rfl⟩
  | ok ks =>
    obtain ⟨v, rfl, ho⟩ := hm
    obtain ⟨hks, _⟩ := blk_small HF.out hr
    obtain ⟨va, vcap, rfl, hvc1, hvc2⟩ := (ownsRow.reads ho).le
    unfold maxLen at hvc2
    have HBs := Lib.hid (bsearch_any w2 va _ vcap ks key (ownsRow.reads ho) (by omega))
    have HRd := Lib.hid (ownsRow.reads ho)
    obtain ⟨K, hK⟩ : ∃ K, ks.length = K := ⟨_, rfl⟩
    rw [hK] at HBs HRd hks hvc1 ⊢
    have HK := Lib.hid hK
    clear hr b2 ho hK
    go_wp2_with (go_at_call 48; go_must (refine HBs.out.mono ?_))
    rintro e w3 ⟨a, b, rfl, ha, ha1, ha2, rfl⟩
    have HPl := Lib.hid (show PlaceR ks key a from ⟨ha, ha1, ha2⟩)
    rw [HK.out] at ha
    clear ha1 ha2 HBs
    by_cases haK : a < K
    · have haI : (a : Int) < (K : Int) := by omega
      obtain ⟨sb, so, x, rfl, hx, _, hcx⟩ := HRd.out.scell a haK
      have HX := Lib.hid hx
      clear hx
      go_wp2
      go_ret3
      refine ⟨HB2.out, j, HFr.out, _, HR.out, a, HPl.out, ?_⟩
      unfold foundIn
      rw [if_pos (by rw [HK.out]; exact haK), HX.out]
      rfl
    · have haI : ¬ (a : Int) < (K : Int) := by omega
      have HBl := Lib.hid (blocks_any w2 g T HT2.out)
      have hfo : foundIn T ks j a = (T.sp[j + 1]?).map Span.first := by unfold foundIn; rw [if_neg (by rw [HK.out]; exact haK)]
      have HFo := Lib.hid hfo
      obtain ⟨gx2, bv2, fv2, h1, ⟨xa, xcap, h4, h5⟩, _, _⟩ := HT2.out
      have d0 := Lib.cell_of_heap h1 0
      have x0 := Lib.cell_of_heap h4 0
      simp at d0 x0
      have m1 := (Array.getElem?_eq_some_iff.1 h1).1
      have m2 := (Array.getElem?_eq_some_iff.1 h4).1
      have H5 := Lib.hid h5
      obtain ⟨L, hLe⟩ : ∃ L, T.sp.length = L := ⟨_, rfl⟩
      rw [hLe] at HBl x0 H5 hL
      have HLe := Lib.hid hLe
      clear h1 h4 h5 hfo hLe
      by_cases hjn : j + 1 < L
      · have hjI : (j : Int) + 1 < (L : Int) := by omega
        obtain ⟨s, hs⟩ : ∃ s, T.sp[j + 1]? = some s := ⟨_, List.getElem?_eq_getElem (by rw [HLe.out]; omega)⟩
        obtain ⟨sb, so, rfl, _, s0, _, _⟩ := H5.out.span hs
        have HS := Lib.hid hs
        have hw : IntKind.i64.wrap ((j : Int) + 1) = (j : Int) + 1 := by rw [IntKind.wrap_i64]; omega
        clear hs
        go_wp2_with (go_at_call 15; go_must (refine HBl.out.mono ?_))
        rintro e w4 ⟨rfl, rfl⟩
        go_wp2
        go_ret3
        refine ⟨HB2.out, j, HFr.out, _, HR.out, a, HPl.out, ?_⟩
        rw [HFo.out, HS.out]
        rfl
      · have hjI : ¬ (j : Int) + 1 < (L : Int) := by omega
        go_wp2_with (go_at_call 15; go_must (refine HBl.out.mono ?_))
        rintro e w4 ⟨rfl, rfl⟩
        go_wp2
        go_ret3
        refine ⟨HB2.out, j, HFr.out, _, HR.out, a, HPl.out, ?_⟩
        rw [HFo.out, List.getElem?_eq_none (by rw [HLe.out]; omega)]
        rfl
end Go.Proofs.YtfhdonidgegebaaDoor

/- All. -/
namespace Go.Proofs.YtfhdonidgegebaaDoor
open Go Go.RowKit

def AllIs (T : Tab) : Except Nat (List ByteArray) → Prop
  | .error c => ∃ i : Nat, i < T.sp.length ∧ BlkIs T i (.error c)
  | .ok all => ∃ kss : List (List ByteArray), kss.length = T.sp.length ∧ (∀ i ks, kss[i]? = some ks → BlkIs T (i : Nat) (.ok ks)) ∧ all = kss.flatMap fun k => k

def AllPost14 (w : World) (T : Tab) (e : Ending) (w' : World) : Prop :=
  Below w.heap.size w w' ∧ ∃ r, AllIs T r ∧ match r with
    | .error c => e = .returned (.tuple #[.slice none 0 0, .int .i64 (c : Int)])
    | .ok all => ∃ v, e = .returned (.tuple #[v, .int .i64 0]) ∧ w'.ownsRow w.heap.size 9 1 v all.length (scells all)

def AllRel14 (w : World) (T : Tab) (lv iv : Value) (wr : World) : Prop :=
  ∃ (i : Nat) (kss : List (List ByteArray)), iv = .int .i64 (i : Int) ∧ i ≤ T.sp.length ∧ kss.length = i ∧ (∀ j ks, kss[j]? = some ks → BlkIs T (j : Nat) (.ok ks)) ∧ (kss.flatMap fun k => k).length ≤ i * 60000 ∧
    wr.ownsRow w.heap.size 9 1 lv (kss.flatMap fun k => k).length (scells (kss.flatMap fun k => k)) ∧ Below w.heap.size w wr

set_option maxRecDepth 100000 in
set_option maxHeartbeats 4000000 in
theorem gather_any (w : World) (g : Nat) (T : Tab) (h : TabAt w g T) (hf : Fits T) (hst : Steps w) :
    Calls Tryd.prog 50 #[.int .i64 (T.sp.length : Int), .func (.func 16) #[.pointer (some ⟨g, 0, none⟩)] #[]] w (AllPost14 w T) := by
  obtain ⟨i0, hi, hz0, hz1, hz2⟩ := info_parts info9
  have HT := Lib.hid h
  have HSt := Lib.hid hst
  have HF := Lib.hid hf
  obtain ⟨L, hL⟩ : ∃ L, T.sp.length = L := ⟨_, rfl⟩
  have hL6 : L ≤ 60000 := by rw [← hL]; exact hf.2.1
  have HL := Lib.hid hL
  rw [hL]
  clear h hf hst hL
  go_enter Tryd.func50, Tryd.ntmps50
  go_wp2
  go_loopw [6, 11] (fun lv iv wr => AllRel14 w T lv iv wr) (fun _ iv _ => L - (intOf iv).toNat)
  case atStart => exact ⟨0, [], rfl, Nat.zero_le _, rfl, fun j ks h => by simp at h, by simp, owns_nil _ _ _ _, Below.refl _ _⟩
  case round =>
    obtain ⟨i, kss, rfl, hiL, hkl, hks, hlen, how, hb⟩ := hrel
    rw [HL.out] at hiL
    have HO := Lib.hid how
    have HB := Lib.hid hb
    have HKs := Lib.hid hks
    have HKl := Lib.hid hkl
    by_cases hlt : i < L
    · have hltI : (i : Int) < L := by omega
      have HBk := Lib.hid (block_at wr g T (i : Int) (HT.out.below hb) HF.out (HSt.out.below hb))
      clear how hb hks hkl
      go_wp2_with (go_at_call 16; go_must (refine HBk.out.mono ?_))
      rintro e w2 ⟨b2, r, hr, hm⟩
      have HB2 := Lib.hid (HB.out.trans (b2.mono HB.out.size))
      have HR := Lib.hid hr
      have HO2 := Lib.hid (owns_below HO.out b2)
      cases r with
      | error c =>
        obtain rfl := hm
        have hc := blk_errs hr
        have hcI : ((c : Int) != 0) = true := by simp; omega
        clear hr b2 hc
        go_wp2
        go_ret2
        exact ⟨HB2.out, .error c, ⟨i, by rw [HL.out]; exact hlt, HR.out⟩, rfl⟩
      | ok ks =>
        obtain ⟨v, rfl, ho⟩ := hm
        obtain ⟨hkn, _⟩ := blk_small HF.out hr
        have hsrc := Reads.src (P := Tryd.prog) (tx := 22) Tryd.underlying22 (ownsRow.reads ho) (scells_one ks)
        have HSrc := Lib.hid hsrc
        have hle := HB2.out.size
        have hsn : (kss ++ [ks]).flatMap (fun k => k) = kss.flatMap (fun k => k) ++ ks := by simp
        have HSn := Lib.hid hsn
        have hks2 : ∀ j k', (kss ++ [ks])[j]? = some k' → BlkIs T (j : Nat) (.ok k') := fun j k' hj => by
          by_cases hji : j < kss.length
          · rw [List.getElem?_append_left hji] at hj
            exact HKs.out j k' hj
          · rw [List.getElem?_append_right (by omega)] at hj
            have h1 := (List.getElem?_eq_some_iff.1 hj).1
            simp at h1
            obtain rfl : j = kss.length := by omega
            simp at hj
            subst hj
            rw [HKl.out]
            exact HR.out
        have HKs2 := Lib.hid hks2
        generalize hA : kss.flatMap (fun k => k) = A at *
        clear hr b2 ho hsrc hsn hks2 HO HB HBk hA
        go_wp2_with (at_builtin; go_must (refine wpList_append_owns rfl _ _ 22 22 rfl w.heap.size 9 i0 (.string ⟨#[]⟩) 1 16 Tryd.underlying22 hi hz0 hz1 hz2 rfl _ _ _ rfl HO2.out _ _ _ rfl HSrc.out ?_ ?_ hle ?_))
        · unfold maxLen; omega
        · omega
        intro v5 w5 o5 g5 b5 m5
        have HO5 : Hid (w5.ownsRow w.heap.size 9 1 v5 ((kss ++ [ks]).flatMap (fun k => k)).length (scells ((kss ++ [ks]).flatMap (fun k => k)))) := Lib.hid (by
          rw [HSn.out, scells_append, List.length_append]
          exact o5)
        have HB5 := Lib.hid (HB2.out.trans b5)
        have hlen2 : ((kss ++ [ks]).flatMap (fun k => k)).length ≤ (i + 1) * 60000 := by rw [HSn.out, List.length_append]; omega
        have HLen := Lib.hid hlen2
        clear o5 g5 b5 m5 HO2 HB2 HSrc hle hlen2
        go_wp2
        exact ⟨⟨i + 1, kss ++ [ks], by go_num, by rw [HL.out]; omega, by rw [List.length_append, HKl.out]; rfl, HKs2.out, HLen.out, HO5.out, HB5.out⟩, by simp [intOf]; omega⟩
    · obtain rfl : i = L := by omega
      have hltI : ¬ (i : Int) < i := by omega
      clear how hb hks
      go_wp2
      go_ret2
      exact ⟨HB.out, .ok _, ⟨kss, by rw [HL.out]; exact hkl, HKs.out, rfl⟩, _, rfl, HO.out⟩

set_option maxRecDepth 100000 in
set_option maxHeartbeats 2000000 in
theorem tall_any (w : World) (g : Nat) (T : Tab) (h : TabAt w g T) (hf : Fits T) (hst : Steps w) :
    Calls Tryd.prog 23 #[.pointer (some ⟨g, 0, none⟩)] w (AllPost14 w T) := by
  have HBl := Lib.hid (blocks_any w g T h)
  have HG := Lib.hid (gather_any w g T h hf hst)
  clear h hf hst
  go_enter Tryd.func23, Tryd.ntmps23
  go_wp2_with (go_at_call 15; go_must (refine HBl.out.mono ?_))
  rintro e w1 ⟨rfl, rfl⟩
  go_wp2_with (go_at_call 50; go_must (refine HG.out.mono ?_))
  rintro e w2 ⟨b2, r, hr, hm⟩
  have HB2 := Lib.hid b2
  have HR := Lib.hid hr
  clear b2 hr
  cases r with
  | error c =>
    obtain rfl := hm
    go_wp2
    go_ret2
    exact ⟨HB2.out, _, HR.out, rfl⟩
  | ok ks =>
    obtain ⟨v, rfl, ho⟩ := hm
    have HO := Lib.hid ho
    clear ho
    go_wp2
    go_ret2
    exact ⟨HB2.out, _, HR.out, v, rfl, HO.out⟩
end Go.Proofs.YtfhdonidgegebaaDoor

/- A table that was built is opened. -/
namespace Go.Proofs.YtfhdonidgegebaaDoor
open Go Go.RowKit

theorem be_step (N m : Nat) : N / 2 ^ (m + 8) * 256 + N / 2 ^ m % 256 = N / 2 ^ m := by
  have h : N / 2 ^ (m + 8) = N / 2 ^ m / 256 := by rw [Nat.div_div_eq_div_mul, Nat.pow_add]
  rw [h]
  omega

theorem beVal_be8 {N : Nat} (h : N < 18446744073709551616) : beVal (be8 N) = N := by
  have e : be8 N = [UInt8.ofNat (N / 2 ^ 56), UInt8.ofNat (N / 2 ^ 48), UInt8.ofNat (N / 2 ^ 40), UInt8.ofNat (N / 2 ^ 32), UInt8.ofNat (N / 2 ^ 24), UInt8.ofNat (N / 2 ^ 16), UInt8.ofNat (N / 2 ^ 8), UInt8.ofNat (N / 2 ^ 0)] := rfl
  have t : ∀ x : Nat, (UInt8.ofNat x).toNat = x % 256 := fun x => by simp
  have h0 : N / 2 ^ 56 % 256 = N / 2 ^ 56 := by
    apply Nat.mod_eq_of_lt
    exact Nat.div_lt_of_lt_mul (Nat.lt_of_lt_of_le h (by decide))
  rw [e]
  unfold beVal
  simp only [List.foldl_cons, List.foldl_nil, t]
  rw [Nat.zero_mul, Nat.zero_add, h0, be_step N 48, be_step N 40, be_step N 32, be_step N 24, be_step N 16, be_step N 8, be_step N 0]
  simp

theorem num8_foot {a b c : Nat} (ha : a < 18446744073709551616) (hb : b < 18446744073709551616) (hc : c < 18446744073709551616) :
    num8 (footL [a, b, c]) 0 = a ∧ num8 (footL [a, b, c]) 8 = b ∧ num8 (footL [a, b, c]) 16 = c := by
  have e : footL [a, b, c] = be8 a ++ (be8 b ++ (be8 c ++ [116, 98, 108, 49])) := by simp [footL]
  have la := be8_length a
  have lb := be8_length b
  have lc := be8_length c
  rw [e]
  unfold num8
  refine ⟨?_, ?_, ?_⟩
  · rw [List.drop_zero, List.take_append_of_le_length (by omega), List.take_of_length_le (by omega), beVal_be8 ha]
  · rw [List.drop_append_of_le_length (by omega), List.drop_of_length_le (by omega), List.nil_append, List.take_append_of_le_length (by omega), List.take_of_length_le (by omega), beVal_be8 hb]
  · rw [show 16 = 8 + 8 from rfl, ← List.drop_drop, List.drop_left' la, List.drop_left' lb, List.take_append_of_le_length (by omega), List.take_of_length_le (by omega), beVal_be8 hc]

theorem foot_length (a b c : Nat) : (footL [a, b, c]).length = 28 := by
  unfold footL
  rw [List.length_append, flat8_length]
  rfl

theorem num4_seal {l : List UInt8} (h : l.length < 4294967296) : num4 (sealL l) = l.length := by
  unfold sealL
  rw [List.append_assoc]
  exact num4_be4 h _

theorem fills_seal {l : List UInt8} (h : l.length < 4294967296) : fillsL (sealL l) = true := by
  unfold fillsL
  rw [decide_eq_true_eq, num4_seal h, sealL_length]
  omega

theorem seal_drop (l : List UInt8) : (sealL l).drop 8 = l := by simp [sealL, be4]

theorem mid_at (A B C : List UInt8) : mid (A ++ (B ++ C)) A.length (A.length + B.length) = B := by
  unfold mid
  rw [List.drop_append_of_le_length (Nat.le_refl _), List.drop_of_length_le (Nat.le_refl _), List.nil_append, Nat.add_sub_cancel_left, List.take_append_of_le_length (Nat.le_refl _), List.take_of_length_le (Nat.le_refl _)]

theorem mid_in (A B C : List UInt8) (k : Nat) (hk : k ≤ B.length) : mid (A ++ (B ++ C)) (A.length + k) (A.length + B.length) = B.drop k := by
  unfold mid
  rw [← List.drop_drop, List.drop_append_of_le_length (Nat.le_refl A.length), List.drop_of_length_le (Nat.le_refl _), List.nil_append, List.drop_append_of_le_length hk, List.take_append_of_le_length (by rw [List.length_drop]; omega), List.take_of_length_le (by rw [List.length_drop]; omega)]

/-- The blocks' first keys rise. -/
def upF : Option ByteArray → List (List ByteArray) → Prop
  | _, [] => True
  | p, b :: r => (∀ x, p = some x → bl x (firstK b) = true) ∧ upF (some (firstK b)) r

def lastO (acc : List Span) : Option ByteArray := if acc = [] then none else some (lastF acc)

theorem lastO_snoc (acc : List Span) (s : Span) : lastO (acc ++ [s]) = some s.first := by
  unfold lastO lastF
  rw [if_neg (by simp), List.getLast?_append]
  rfl

theorem encS_pos (s : Span) : 0 < (encS s).length := by
  have := enc_pos s.first.size
  unfold encS
  simp only [List.length_append]
  omega

theorem decG_spans (E : Nat) : ∀ (bs : List (List ByteArray)) (a F : Nat) (acc : List Span), a + (dataL bs).length = E → E < 4611686018427387904 → SmallS (spansF a bs) → upF (lastO acc) bs → acc ++ spansF a bs ≠ [] → ((spansF a bs).flatMap encS).length < F →
    decG E F bs.length ((spansF a bs).flatMap encS) a acc = some (acc ++ spansF a bs)
  | [], a, 0, acc, _, _, _, _, _, h => by simp at h
  | [], a, F + 1, acc, h1, h2, h3, h4, h5, h6 => by
    simp [dataL] at h1
    simp [spansF] at h5
    simp [decG, spansF, h1, h5]
  | b :: bs, a, 0, acc, h1, h2, h3, h4, h5, h6 => by simp at h6
  | b :: bs, a, F + 1, acc, h1, h2, h3, h4, h5, h6 => by
    rw [dataL_cons, List.length_append] at h1
    obtain ⟨h41, h42⟩ := h4
    obtain ⟨s1, s2, s3⟩ := h3 ⟨firstK b, a, (sealL (buildL b)).length⟩ (by simp [spansF])
    simp only at s1 s2 s3
    have hsp : spansF a (b :: bs) = ⟨firstK b, a, (sealL (buildL b)).length⟩ :: spansF (a + (sealL (buildL b)).length) bs := rfl
    obtain ⟨n, hn⟩ : ∃ n, (sealL (buildL b)).length = n := ⟨_, rfl⟩
    obtain ⟨f, hf⟩ : ∃ f, firstK b = f := ⟨_, rfl⟩
    rw [hn, hf] at hsp
    rw [hn] at h1 s3
    rw [hf] at s1 h41 h42
    rw [hsp] at h3 h5 h6 ⊢
    rw [List.flatMap_cons] at h6 ⊢
    obtain ⟨R, hR⟩ : ∃ R, (spansF (a + n) bs).flatMap encS = R := ⟨_, rfl⟩
    have hfs : f.data.toList.length = f.size := Array.length_toList
    have henc : encS ⟨f, a, n⟩ ++ R = enc f.data.toList.length ++ (f.data.toList ++ (enc a ++ (enc n ++ R))) := by
      unfold encS
      rw [hfs]
      simp only [List.append_assoc]
    have ht := getText_enc (S := f.data.toList) (by omega) (enc a ++ (enc n ++ R))
    have hp := getGo_enc (N := a) (by omega) (enc n ++ R)
    have hq := getGo_enc (N := n) (by omega) R
    have hd1 : (enc f.data.toList.length ++ (f.data.toList ++ (enc a ++ (enc n ++ R)))).drop ((enc f.data.toList.length).length + f.data.toList.length) = enc a ++ (enc n ++ R) := by
      rw [← List.append_assoc, ← List.length_append]
      exact List.drop_left
    have hd2 : (enc a ++ (enc n ++ R)).drop (enc a).length = enc n ++ R := List.drop_left
    have hd3 : (enc n ++ R).drop (enc n).length = R := List.drop_left
    have hfa : (⟨f.data.toList.toArray⟩ : ByteArray) = f := rfl
    rw [hR] at h6 ⊢
    rw [henc, List.length_cons]
    unfold decG
    rw [if_neg (by omega)]
    simp only [ht, hd1, hp, hd2, hq, hd3]
    rw [if_neg (by rintro (h | h); exact h trivial; omega), hfa]
    have hup : ¬ (acc ≠ [] ∧ bl (lastF acc) f = false) := by
      rintro ⟨k1, k2⟩
      have := h41 (lastF acc) (by unfold lastO; rw [if_neg k1])
      rw [this] at k2
      cases k2
    rw [if_neg hup, if_pos ⟨trivial, trivial, trivial⟩, Nat.add_sub_cancel]
    have hpos := encS_pos ⟨f, a, n⟩
    have ih := decG_spans E bs (a + n) F (acc ++ [⟨f, a, n⟩]) (by omega) h2 (fun s hs => h3 s (List.mem_cons_of_mem _ hs)) (by rw [lastO_snoc]; exact h42) (by simp) (by rw [hR]; rw [List.length_append] at h6; omega)
    rw [hR] at ih
    rw [ih]
    simp
end Go.Proofs.YtfhdonidgegebaaDoor
