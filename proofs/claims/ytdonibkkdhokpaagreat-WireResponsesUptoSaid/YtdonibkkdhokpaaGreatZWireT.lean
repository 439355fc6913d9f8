/- The writer's first text: it stands behind a constant's bytes. -/
import Derived.Test.YtdonibkkdhokpaaGreatZWireL
import Derived.Test.YtdonibkkdhokpaaGreatMga
namespace Go.Proofs.YtdonibkkdhokpaaGreat
open Go Go.RowKit

/-- The writer holds a constant's bytes. -/
def WAt0 (B : Nat) (w : World) (g b : Nat) (l : List UInt8) : Prop :=
  w.heap[g]? = some (.cells #[.slice (some ⟨b, 0, none⟩) l.length l.length, .int .i64 0, .bool false] 78 (0, 0)) ∧ w.heap[b]? = some (.cells (bcells l).toArray 5 (l.length, l.length + 1)) ∧ B ≤ g

theorem WAt0.below {B : Nat} {w w' : World} {g b : Nat} {l : List UInt8} (h : WAt0 B w g b l) (k : Below w.heap.size w w') : WAt0 B w' g b l :=
  ⟨(k.block g (Array.getElem?_eq_some_iff.1 h.1).1).trans h.1, (k.block b (Array.getElem?_eq_some_iff.1 h.2.1).1).trans h.2.1, h.2.2⟩

theorem WAt0.reads {B : Nat} {w : World} {g b : Nat} {l : List UInt8} (h : WAt0 B w g b l) (hl : l.length ≤ 1000) : Reads w 1 (.slice (some ⟨b, 0, none⟩) l.length l.length) l.length (bcells l) := by
  refine ⟨by rw [bcells_length]; omega, _, l.length, rfl, Nat.le_refl _, by unfold maxLen; omega, fun j u hj => ⟨b, 0, rfl, (Array.getElem?_eq_some_iff.1 h.2.1).1, ?_⟩⟩
  rw [Nat.zero_add, Lib.cell_of_heap h.2.1 j]
  simpa using hj

def WT0Rel (B : Nat) (w : World) (g : Nat) (l : List UInt8) (s : ByteArray) (v : Value) (wr : World) : Prop :=
  (v = .int .i64 0 ∧ wr = w) ∨ (v = .int .i64 1 ∧ WAt B wr g (l ++ txt s) 0 false ∧ Below B w wr ∧ KeepW g w wr)

set_option maxRecDepth 100000 in
set_option maxHeartbeats 2000000 in
theorem wtexts0_any (w : World) (B g b c : Nat) (l : List UInt8) (s : ByteArray) (h : WAt0 B w g b l) (hB : B ≤ w.heap.size) (hr : w.heap[c]? = some (.cells #[.string s] 9 (0, 0))) (hl : l.length ≤ 1000) (hs : (txt s).length ≤ 20000000) :
    Calls Tryz.prog 19 #[.pointer (some ⟨g, 0, none⟩), .slice (some ⟨c, 0, none⟩) 1 1] w (WPost B w g (l ++ txt s) 0 false) := by
  obtain ⟨i0, hi, hz0, hz1, hz2⟩ := info_parts info5
  have HW := Lib.hid h
  have hcs := Lib.cell_of_heap hr 0
  simp at hcs
  have hclt : c < w.heap.size := (Array.getElem?_eq_some_iff.1 hr).1
  clear h hr
  go_enter Tryz.func19, Tryz.ntmps19
  go_wp2
  go_loopw [8] (fun v wr => WT0Rel B w g l s v wr) (fun v _ => 1 - (intOf v).toNat)
  case atStart => exact .inl ⟨rfl, rfl⟩
  case round =>
    rcases hrel with ⟨rfl, rfl⟩ | ⟨rfl, hw, hb, hk⟩
    · have hwB := hB
      have h1 := HW.out.1
      have h3 := HW.out.2.2
      have hrd := HW.out.reads hl
      have htz := txt_size s
      have htp : 0 < (txt s).length := by unfold txt; rw [List.length_append]; have := enc_pos s.size; omega
      have HPt0 := fun W => puttext_any W (.slice none 0 0) [] s (nil_reads W) (by decide) (by omega)
      obtain ⟨TX, hTX⟩ : ∃ TX, txt s = TX := ⟨_, rfl⟩
      have HPt := Lib.hid (fun W => (HPt0 W).mono fun e w' hp => show GivesBytes W TX e w' by rw [← hTX]; unfold txt; simpa using hp)
      have HTx := Lib.hid hTX
      rw [hTX] at hs htp
      have hg : g < wr.heap.size := (Array.getElem?_eq_some_iff.1 h1).1
      have c0 := Lib.cell_of_heap h1 0
      simp at c0
      have H1 := Lib.hid h1
      have H2 := Lib.hid hrd
      clear h1 hrd hTX HPt0 htz
      go_upto_region 3 with fail
      go_region_law (first
        | (go_simp; go_at_call 86; refine (HPt.out _).mono ?_; rintro e w2 ⟨v2, rfl, f2, b2⟩
           have hd2 : Below wr.heap.size wr w2 := by
             first
             | exact ((Below.refl wr.heap.size wr).drew).trans (b2.mono (Nat.le_refl _))
             | exact ((Below.refl wr.heap.size wr).drew.drew).trans (b2.mono (Nat.le_refl _))
           have P1 := (hd2.block g hg).trans H1.out
           have x0 := Lib.cell_of_heap P1 0
           have xf := Lib.frozen_of_heap P1 0
           simp at x0
           have hg2 : g < w2.heap.size := (Array.getElem?_eq_some_iff.1 P1).1
           have P2 := H2.out.below' hd2
           have hs2 := f2.1.src (P := Tryz.prog) (tx := 39) Tryz.underlying39 (bcells_one _))
        | (refine step_append_full rfl _ _ 39 39 rfl B 5 i0 (.int .u8 0) 1 1 Tryz.underlying39 hi hz0 hz1 hz2 rfl _ _ _ rfl P2 _ _ _ rfl hs2 htp (by unfold maxLen; omega) (by omega) (Nat.le_trans hwB hd2.size) ?_
           intro v9 w9 o9 b9
           rw [← bcells_append] at o9
           obtain ⟨a9, cap9, rfl, hx1, hx2⟩ := (ownsRow.reads o9).le
           have hc9 := (b9.block g hg2).trans P1
           have y0 := Lib.cell_of_heap hc9 0
           have yf := Lib.frozen_of_heap hc9 0
           simp at y0
           have hg9 : g < w9.heap.size := (Array.getElem?_eq_some_iff.1 hc9).1))
      all_goals
        have hw := wat_store hc9 o9 (by rw [List.length_append]) h3
        have hd9 : Below wr.heap.size wr w9 := hd2.trans (b9.mono hd2.size)
        have hbf := (hd9.mono hwB).setCell (p := ⟨g, 0, none⟩) h3 (.slice a9 (l.length + TX.length) cap9)
        have HWf := Lib.hid hw
        have HBf := Lib.hid hbf
        have HKf := Lib.hid ((KeepW.of_below (g := g) hd9).trans (KeepW.store g w9 0 (.slice a9 (l.length + TX.length) cap9)))
        clear hw hbf o9 b9 hc9 y0 yf P1 P2 x0 xf hs2 hd2 b2 f2 hd9
        go_wp2
        exact ⟨.inr ⟨rfl, by rw [HTx.out]; exact HWf.out, HBf.out, HKf.out⟩, by simp [intOf]⟩
    · have HWf := Lib.hid hw
      have HBf := Lib.hid hb
      have HKf := Lib.hid hk
      clear hw hb hk
      go_wp2
      go_end0
      exact ⟨rfl, HWf.out, HBf.out, HKf.out⟩
end Go.Proofs.YtdonibkkdhokpaaGreat
