/- The writer: numbers, texts. -/
import Derived.Test.YtdonibkkdhokpaaGreatMga
import Derived.Deep.RegionLaw
import Derived.BigQuiet
import Derived.Deep.QuietTactic
namespace Go.Proofs.YtdonibkkdhokpaaGreat
open Go Go.RowKit

theorem nil_reads (w : World) : Reads w 1 (.slice none 0 0) ([] : List UInt8).length (bcells []) := ⟨by simp [bcells], none, 0, rfl, Nat.le_refl _, Nat.zero_le _, fun j u hj => by simp [bcells] at hj⟩

/-- The writer in block g: what it wrote, how deep it stands, whether that was too deep. -/
def WAt (B : Nat) (w : World) (g : Nat) (l : List UInt8) (d : Int) (deep : Bool) : Prop :=
  ∃ a cap, w.heap[g]? = some (.cells #[.slice a l.length cap, .int .i64 d, .bool deep] 78 (0, 0)) ∧ w.ownsRow B 5 1 (.slice a l.length cap) l.length (bcells l) ∧ B ≤ g

theorem WAt.below {B : Nat} {w w' : World} {g : Nat} {l : List UInt8} {d : Int} {deep : Bool} (h : WAt B w g l d deep) (b : Below w.heap.size w w') : WAt B w' g l d deep := by
  obtain ⟨a, cap, h1, h2, h3⟩ := h
  exact ⟨a, cap, (b.block g (Array.getElem?_eq_some_iff.1 h1).1).trans h1, owns_below h2 b, h3⟩

theorem WAt.lt {B : Nat} {w : World} {g : Nat} {l : List UInt8} {d : Int} {deep : Bool} (h : WAt B w g l d deep) : g < w.heap.size := by
  obtain ⟨a, cap, h1, _, _⟩ := h
  exact (Array.getElem?_eq_some_iff.1 h1).1

/-- What is no bytes, and no writer, stays. -/
def KeepW (g : Nat) (w w' : World) : Prop := ∀ b cs ty fr, w.heap[b]? = some (.cells cs ty fr) → ty ≠ 5 → b ≠ g → w'.heap[b]? = some (.cells cs ty fr)

theorem KeepW.of_below {g : Nat} {w w' : World} (h : Below w.heap.size w w') : KeepW g w w' := fun b _ _ _ hb _ _ => (h.block b (Array.getElem?_eq_some_iff.1 hb).1).trans hb

theorem KeepW.trans {g : Nat} {w w1 w2 : World} (h : KeepW g w w1) (k : KeepW g w1 w2) : KeepW g w w2 := fun b cs ty fr hb ht hg => k b cs ty fr (h b cs ty fr hb ht hg) ht hg

theorem KeepW.refl (g : Nat) (w : World) : KeepW g w w := fun _ _ _ _ h _ _ => h

theorem KeepW.grown {g B n : Nat} {w w' : World} {v : Value} {xs : List Value} (ho : w.ownsRow B 5 1 v n xs) (gr : w.grownBy w' v.ownBlock) : KeepW g w w' := fun b _ _ _ hb ht _ =>
  (gr.block b (Array.getElem?_eq_some_iff.1 hb).1 (fun e => owns_other ho hb ht e.symm)).trans hb

theorem KeepW.store (g : Nat) (w : World) (i : Nat) (v : Value) : KeepW g w (w.setCell ⟨g, i, none⟩ v) := fun b _ _ _ hb _ hg => (heap_setCell_other _ _ b _ (by simpa using hg)).trans hb

def WPost (B : Nat) (w : World) (g : Nat) (l : List UInt8) (d : Int) (deep : Bool) (e : Ending) (w' : World) : Prop :=
  e = .returned (.tuple #[]) ∧ WAt B w' g l d deep ∧ Below B w w' ∧ KeepW g w w'

theorem own_set_farW {w : World} {B n s : Nat} {e e' : TypeId} {v : Value} {xs : List Value} {g : Nat} {cs : Array Value} {fz : Nat × Nat} (h : w.ownsRow B e s v n xs) (hg : w.heap[g]? = some (.cells cs e' fz)) (he : e' ≠ e) (j : Nat) (u : Value) : (w.setCell ⟨g, j, none⟩ u).ownsRow B e s v n xs :=
  ownsRow_setCell_other h (a := ⟨g, j, none⟩) (owns_other h hg he) _

/-- Bytes that were laid are stored back. -/
theorem wat_store {B g n : Nat} {w : World} {a0 : Option Addr} {cap0 n0 : Nat} {l : List UInt8} {d : Int} {deep : Bool} {a : Option Addr} {cap : Nat} (h1 : w.heap[g]? = some (.cells #[.slice a0 n0 cap0, .int .i64 d, .bool deep] 78 (0, 0)))
    (h2 : w.ownsRow B 5 1 (.slice a n cap) n (bcells l)) (hn : n = l.length) (h3 : B ≤ g) : WAt B (w.setCell ⟨g, 0, none⟩ (.slice a n cap)) g l d deep := by
  subst hn
  exact ⟨a, cap, by rw [heap_setCell_same _ _ 0 _ _ _ h1]; rfl, own_set_farW h2 h1 (by decide) 0 _, h3⟩

set_option maxRecDepth 100000 in
set_option maxHeartbeats 2000000 in
theorem wnumber_any (w : World) (B g : Nat) (l : List UInt8) (d : Int) (deep : Bool) (N : Nat) (h : WAt B w g l d deep) (hB : B ≤ w.heap.size) (hl : l.length ≤ 1000000000) (hN : N < 18446744073709551616) :
    Calls Tryz.prog 17 #[.pointer (some ⟨g, 0, none⟩), .int .u64 (N : Int)] w (WPost B w g (l ++ enc N) d deep) := by
  obtain ⟨i0, hi, hz0, hz1, hz2⟩ := info_parts info5
  obtain ⟨a, cap, h1, h2, h3⟩ := h
  have hel := enc_length_le 9 N (by omega)
  have HPt := Lib.hid (fun W => put_any W (.slice none 0 0) [] N (nil_reads W) (by decide) hN)
  have hg : g < w.heap.size := (Array.getElem?_eq_some_iff.1 h1).1
  have c0 := Lib.cell_of_heap h1 0
  simp at c0
  have H1 := Lib.hid h1
  have H2 := Lib.hid h2
  clear h1 h2
  go_enter Tryz.func17, Tryz.ntmps17
  go_wp2_with fail
  go_region_law (first
    | (go_simp; go_at_call 84; refine (HPt.out _).mono ?_; rintro e w2 ⟨v2, rfl, f2, b2⟩
       have hd2 : Below w.heap.size w w2 := by
         first
         | exact ((Below.refl w.heap.size w).drew).trans (b2.mono (Nat.le_refl _))
         | exact ((Below.refl w.heap.size w).drew.drew).trans (b2.mono (Nat.le_refl _))
       have P1 := (hd2.block g hg).trans H1.out
       have x0 := Lib.cell_of_heap P1 0
       have xf := Lib.frozen_of_heap P1 0
       simp at x0
       have hg2 : g < w2.heap.size := (Array.getElem?_eq_some_iff.1 P1).1
       have P2 := owns_below H2.out hd2
       have hs2 := f2.1.src (P := Tryz.prog) (tx := 39) Tryz.underlying39 (bcells_one _)
       rw [List.nil_append] at hs2)
    | (refine step_append_src rfl _ _ 39 39 rfl B 5 i0 (.int .u8 0) 1 1 Tryz.underlying39 hi hz0 hz1 hz2 rfl _ _ _ rfl P2 _ _ _ rfl hs2 (by unfold maxLen; omega) (by omega) (Nat.le_trans hB hd2.size) ?_
       intro v9 w9 o9 g9 b9 m9
       rw [← bcells_append] at o9
       obtain ⟨a9, cap9, rfl, hx1, hx2⟩ := (ownsRow.reads o9).le
       have hc9 := (g9.block g hg2 (fun e => owns_other P2 P1 (by decide) e.symm)).trans P1
       have y0 := Lib.cell_of_heap hc9 0
       have yf := Lib.frozen_of_heap hc9 0
       simp at y0
       have hg9 : g < w9.heap.size := (Array.getElem?_eq_some_iff.1 hc9).1))
  all_goals
    have hw := wat_store hc9 o9 (by rw [List.length_append]) h3
    have hbf := ((hd2.mono hB).trans b9).setCell (p := ⟨g, 0, none⟩) h3 (.slice a9 (l.length + (enc N).length) cap9)
    have hkp := ((KeepW.of_below (g := g) hd2).trans (KeepW.grown P2 g9)).trans (KeepW.store g w9 0 (.slice a9 (l.length + (enc N).length) cap9))
    go_end0
    exact ⟨rfl, hw, hbf, hkp⟩

theorem txts_take (ss : List ByteArray) (i : Nat) : (txts (ss.take i)).length ≤ (txts ss).length := by
  have e : txts ss = txts (ss.take i) ++ txts (ss.drop i) := by
    unfold txts
    rw [← List.flatMap_append, List.take_append_drop]
  rw [e, List.length_append]
  omega

theorem txts_next {ss : List ByteArray} {i : Nat} {s : ByteArray} (h : ss[i]? = some s) : txts (ss.take (i + 1)) = txts (ss.take i) ++ txt s := by
  unfold txts
  rw [List.take_add_one, h]
  simp

theorem txt_mem {ss : List ByteArray} {i : Nat} {s : ByteArray} (h : ss[i]? = some s) : (txts (ss.take i)).length + (txt s).length ≤ (txts ss).length := by
  have := txts_take ss (i + 1)
  rw [txts_next h, List.length_append] at this
  exact this

theorem txt_size (s : ByteArray) : s.size ≤ (txt s).length := by
  have h2 : s.data.toList.length = s.size := Array.length_toList
  unfold txt
  rw [List.length_append]
  omega

def WTRel (B : Nat) (w : World) (g : Nat) (l : List UInt8) (d : Int) (deep : Bool) (ss : List ByteArray) (v : Value) (wr : World) : Prop :=
  ∃ i : Nat, v = .int .i64 (i : Int) ∧ i ≤ ss.length ∧ WAt B wr g (l ++ txts (ss.take i)) d deep ∧ Below B w wr ∧ KeepW g w wr

theorem reads_lit {w : World} {b n : Nat} {ss : List ByteArray} (hn : ss.length = n) (h : w.heap[b]? = some (.cells (scells ss).toArray 9 (0, 0))) (hs : n ≤ maxLen) : Reads w 1 (.slice (some ⟨b, 0, none⟩) n n) n (scells ss) := by
  refine ⟨by rw [scells_length]; omega, _, n, rfl, Nat.le_refl _, hs, fun j u hj => ⟨b, 0, rfl, (Array.getElem?_eq_some_iff.1 h).1, ?_⟩⟩
  rw [Nat.zero_add, Lib.cell_of_heap h j]
  simpa using hj

set_option maxRecDepth 100000 in
set_option maxHeartbeats 2000000 in
theorem wtexts_any (w : World) (B g : Nat) (l : List UInt8) (d : Int) (deep : Bool) (b n : Nat) (ss : List ByteArray) (h : WAt B w g l d deep) (hB : B ≤ w.heap.size) (hkl : ss.length = n) (hn : n ≤ 1000) (hr : w.heap[b]? = some (.cells (scells ss).toArray 9 (0, 0))) (hbg : b ≠ g) (hl : l.length + (txts ss).length ≤ 1000000000) :
    Calls Tryz.prog 19 #[.pointer (some ⟨g, 0, none⟩), .slice (some ⟨b, 0, none⟩) n n] w (WPost B w g (l ++ txts ss) d deep) := by
  obtain ⟨i0, hi, hz0, hz1, hz2⟩ := info_parts info5
  have HW := Lib.hid h
  have HR := Lib.hid (fun W (k : KeepW g w W) => reads_lit hkl (k b _ _ _ hr (by decide) hbg) (by unfold maxLen; omega))
  have HL := Lib.hid hkl
  have hgB : B ≤ g := by obtain ⟨_, _, _, _, h3⟩ := h; exact h3
  clear h hr hkl
  go_enter Tryz.func19, Tryz.ntmps19
  go_wp2
  go_loopw [8] (fun v wr => WTRel B w g l d deep ss v wr) (fun v _ => n - (intOf v).toNat)
  case atStart => exact ⟨0, rfl, Nat.zero_le _, by simpa [txts] using HW.out, Below.refl _ _, KeepW.refl _ _⟩
  case round =>
    obtain ⟨i, rfl, hin, hw, hb, hkw⟩ := hrel
    rw [HL.out] at hin
    by_cases hlt : i < n
    · have hltI : (i : Int) < n := by omega
      obtain ⟨gs, off, s, hva, hs, hgs, hcs⟩ := (HR.out wr hkw).scell i hlt
      cases hva
      simp only [Nat.zero_add] at hcs
      have HKw := Lib.hid hkw
      have hne := txts_next hs
      have htm := txt_mem hs
      have htz := txt_size s
      have HNe := Lib.hid hne
      have HBw := Lib.hid hb
      have hwB : B ≤ wr.heap.size := Nat.le_trans hB hb.size
      obtain ⟨a, cap0, h1, h2, h3⟩ := hw
      generalize txts (ss.take i) = T at *
      obtain ⟨L, hL⟩ : ∃ L, l ++ T = L := ⟨_, rfl⟩
      have hLl : L.length ≤ 1000000000 := by rw [← hL, List.length_append]; omega
      have hLb : L.length + (txt s).length ≤ 1000000000 := by rw [← hL, List.length_append]; omega
      have hfin : l ++ txts (ss.take (i + 1)) = L ++ txt s := by rw [HNe.out, ← hL, List.append_assoc]
      rw [hL] at h1 h2
      have HFn := Lib.hid hfin
      have HPt0 := fun W => puttext_any W (.slice none 0 0) [] s (nil_reads W) (by decide) (by omega)
      obtain ⟨TX, hTX⟩ : ∃ TX, txt s = TX := ⟨_, rfl⟩
      have HPt := Lib.hid (fun W => (HPt0 W).mono fun e w' hp => show GivesBytes W TX e w' by rw [← hTX]; unfold txt; simpa using hp)
      rw [hTX] at HFn hLb
      have hg : g < wr.heap.size := (Array.getElem?_eq_some_iff.1 h1).1
      have c0 := Lib.cell_of_heap h1 0
      simp at c0
      have H1 := Lib.hid h1
      have H2 := Lib.hid h2
      clear h1 h2 hne hs hb hkw hL hTX HPt0 hfin htm htz
      go_upto_region 3 with fail
      go_region_law (first
        | (go_simp; go_at_call 86; refine (HPt.out _).mono ?_; rintro e w2 ⟨v2, rfl, f2, b2⟩
           have hd2 : Below wr.heap.size wr w2 := by
             first
             | exact ((Below.refl wr.heap.size wr).drew).trans (b2.mono (Nat.le_refl _))
             | exact ((Below.refl wr.heap.size wr).drew.drew).trans (b2.mono (Nat.le_refl _))
           have P1 := (hd2.block g hg).trans H1.out
           have x0 := Lib.cell_of_heap P1 0
           have xf := Lib.frozen_of_heap P1 0
           simp at x0
           have hg2 : g < w2.heap.size := (Array.getElem?_eq_some_iff.1 P1).1
           have P2 := owns_below H2.out hd2
           have hs2 := f2.1.src (P := Tryz.prog) (tx := 39) Tryz.underlying39 (bcells_one _))
        | (refine step_append_src rfl _ _ 39 39 rfl B 5 i0 (.int .u8 0) 1 1 Tryz.underlying39 hi hz0 hz1 hz2 rfl _ _ _ rfl P2 _ _ _ rfl hs2 (by unfold maxLen; omega) (by omega) (Nat.le_trans hwB hd2.size) ?_
           intro v9 w9 o9 g9 b9 m9
           rw [← bcells_append] at o9
           obtain ⟨a9, cap9, rfl, hx1, hx2⟩ := (ownsRow.reads o9).le
           have hc9 := (g9.block g hg2 (fun e => owns_other P2 P1 (by decide) e.symm)).trans P1
           have y0 := Lib.cell_of_heap hc9 0
           have yf := Lib.frozen_of_heap hc9 0
           simp at y0
           have hg9 : g < w9.heap.size := (Array.getElem?_eq_some_iff.1 hc9).1))
      all_goals
        have hw := wat_store hc9 o9 (by rw [List.length_append]) h3
        have hbf := ((HBw.out.trans (hd2.mono hwB)).trans b9).setCell (p := ⟨g, 0, none⟩) h3 (.slice a9 (L.length + TX.length) cap9)
        have HWf := Lib.hid hw
        have HBf := Lib.hid hbf
        have HKf := Lib.hid (((HKw.out.trans (KeepW.of_below (g := g) hd2)).trans (KeepW.grown P2 g9)).trans (KeepW.store g w9 0 (.slice a9 (L.length + TX.length) cap9)))
        clear hw hbf o9 g9 b9 m9 hc9 y0 yf P1 P2 x0 xf hs2 hd2 b2 f2
        go_wp2
        exact ⟨⟨i + 1, by go_num, by rw [HL.out]; omega, by rw [HFn.out]; exact HWf.out, HBf.out, HKf.out⟩, by simp [intOf]; omega⟩
    · obtain rfl : i = n := by omega
      have hltI : ¬ (i : Int) < i := by omega
      rw [List.take_of_length_le (by rw [HL.out]; exact Nat.le_refl _)] at hw
      have HWf := Lib.hid hw
      have HBf := Lib.hid hb
      have HKf := Lib.hid hkw
      clear hw hb hkw
      go_wp2
      go_end0
      exact ⟨rfl, HWf.out, HBf.out, HKf.out⟩
end Go.Proofs.YtdonibkkdhokpaaGreat
