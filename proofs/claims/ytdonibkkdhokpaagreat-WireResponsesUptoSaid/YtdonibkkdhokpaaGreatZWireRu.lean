/- The reader's rule and node (written by gen_wireru.py). -/
import Derived.Test.YtdonibkkdhokpaaGreatZWireRt
import Derived.Test.YtdonibkkdhokpaaGreatMga
namespace Go.Proofs.YtdonibkkdhokpaaGreat
open Go Go.RowKit

theorem setL_ne {L : Nat → Bool} {i k : Nat} (h : k ≠ i) : setL L i k = L k := by unfold setL; rw [if_neg h]
theorem setL_eq {L : Nat → Bool} {i : Nat} : setL L i i = true := by unfold setL; rw [if_pos rfl]

theorem sub_own {w w' : World} {B n k : Nat} {e : TypeId} {v : Value} {xs : List Value} {g c : Nat} (h : w.ownsRow B e k v n xs) (ht : Touch w w' [g, c]) (hg : g < B) (hc : c < B) : w'.ownsRow B e k v n xs := by
  obtain ⟨h1, h2 | ⟨q, cap, cur, hv, hb, hh, rest⟩⟩ := h
  · exact ⟨h1, .inl h2⟩
  · exact ⟨h1, .inr ⟨q, cap, cur, hv, hb, (ht.block q (Array.getElem?_eq_some_iff.1 hh).1 (by simp; omega)).trans hh, rest⟩⟩

theorem own_rowsAt {w : World} {B n k : Nat} {e : TypeId} {v : Value} {xs : List Value} (h : w.ownsRow B e k v n xs) : RowsAt (fun b => B ≤ b) w v n xs := by
  obtain ⟨hl, a, cap, hv, h1, h2, h3⟩ := ownsRow.reads h
  refine ⟨a, cap, hv, h1, h2, fun j u hj => ?_⟩
  obtain ⟨b, off, ha, hb, hc⟩ := h3 j u hj
  have hbB : B ≤ b := by
    obtain ⟨_, ⟨h4, _⟩ | ⟨q, c2, cur, h4, h5, _⟩⟩ := h
    · rw [hv, ha] at h4; cases h4
    · rw [hv, ha] at h4; cases h4; exact h5
  exact ⟨b, off, ha, hbB, hb, hc⟩


def stRu (s0 s1 s2 s3 s4 : List UInt8 × Bool) (L : Nat → Bool) : List UInt8 × Bool := if L 9 = true then s4 else if L 5 = true then s3 else if L 3 = true then s2 else if L 1 = true then s1 else s0

def OrdRu (L : Nat → Bool) : Prop := (L 3 = true → L 1 = true) ∧ (L 5 = true → L 3 = true) ∧ (L 9 = true → L 5 = true) ∧ (L 11 = true → L 9 = true)

theorem ordRu_none {L : Nat → Bool} (h : ∀ i, i < 12 → L i = false) : OrdRu L := by
  unfold OrdRu
  rw [h 3 (by decide), h 5 (by decide), h 9 (by decide), h 11 (by decide)]
  simp

theorem stRu_none (s0 s1 s2 s3 s4 : List UInt8 × Bool) {L : Nat → Bool} (h : ∀ i, i < 12 → L i = false) : stRu s0 s1 s2 s3 s4 L = s0 := by
  unfold stRu
  rw [h 1 (by decide), h 3 (by decide), h 5 (by decide), h 9 (by decide)]
  simp

theorem ordRu_1 (s0 s1 s2 s3 s4 : List UInt8 × Bool) {L : Nat → Bool} (h : OrdRu L) (hj : L 1 = false) : OrdRu (setL L 1) ∧ stRu s0 s1 s2 s3 s4 L = s0 ∧ stRu s0 s1 s2 s3 s4 (setL L 1) = s1 ∧ L 11 = false ∧ setL L 1 11 = false := by
  obtain ⟨o3, o5, o9, o11⟩ := h
  have h3 : L 3 = false := by cases h : L 3 with | false => rfl | true => rw [o3 h] at hj; cases hj
  have h5 : L 5 = false := by cases h : L 5 with | false => rfl | true => rw [o5 h] at h3; cases h3
  have h9 : L 9 = false := by cases h : L 9 with | false => rfl | true => rw [o9 h] at h5; cases h5
  have h11 : L 11 = false := by cases h : L 11 with | false => rfl | true => rw [o11 h] at h9; cases h9
  unfold OrdRu stRu setL
  simp [hj, h3, h5, h9, h11]

theorem ordRu_3 (s0 s1 s2 s3 s4 : List UInt8 × Bool) {L : Nat → Bool} (h : OrdRu L) (hj : L 3 = false) (hp : L 1 = true) : OrdRu (setL L 3) ∧ stRu s0 s1 s2 s3 s4 L = s1 ∧ stRu s0 s1 s2 s3 s4 (setL L 3) = s2 ∧ L 11 = false ∧ setL L 3 11 = false := by
  obtain ⟨o3, o5, o9, o11⟩ := h
  have h5 : L 5 = false := by cases h : L 5 with | false => rfl | true => rw [o5 h] at hj; cases hj
  have h9 : L 9 = false := by cases h : L 9 with | false => rfl | true => rw [o9 h] at h5; cases h5
  have h11 : L 11 = false := by cases h : L 11 with | false => rfl | true => rw [o11 h] at h9; cases h9
  unfold OrdRu stRu setL
  simp [hj, h5, h9, h11, hp]

theorem ordRu_5 (s0 s1 s2 s3 s4 : List UInt8 × Bool) {L : Nat → Bool} (h : OrdRu L) (hj : L 5 = false) (hp : L 3 = true) : OrdRu (setL L 5) ∧ stRu s0 s1 s2 s3 s4 L = s2 ∧ stRu s0 s1 s2 s3 s4 (setL L 5) = s3 ∧ L 11 = false ∧ setL L 5 11 = false := by
  obtain ⟨o3, o5, o9, o11⟩ := h
  have h9 : L 9 = false := by cases h : L 9 with | false => rfl | true => rw [o9 h] at hj; cases hj
  have h11 : L 11 = false := by cases h : L 11 with | false => rfl | true => rw [o11 h] at h9; cases h9
  have h1 := o3 hp
  unfold OrdRu stRu setL
  simp [hj, h9, h11, hp, h1]

theorem ordRu_9 (s0 s1 s2 s3 s4 : List UInt8 × Bool) {L : Nat → Bool} (h : OrdRu L) (hj : L 9 = false) (hp : L 5 = true) : OrdRu (setL L 9) ∧ stRu s0 s1 s2 s3 s4 L = s3 ∧ stRu s0 s1 s2 s3 s4 (setL L 9) = s4 ∧ L 11 = false ∧ setL L 9 11 = false := by
  obtain ⟨o3, o5, o9, o11⟩ := h
  have h11 : L 11 = false := by cases h : L 11 with | false => rfl | true => rw [o11 h] at hj; cases hj
  have h3 := o5 hp
  have h1 := o3 h3
  unfold OrdRu stRu setL
  simp [hj, h11, hp, h1, h3]

def NewRu (w0 : World) (x1 : Int) (x2 x3 : ByteArray) (ps : List (Tr RuH)) (v : Value) (w : World) : Prop :=
  ∃ a es cap, v = .agg #[.int .i64 x1, .string x2, .string x3, .slice a es.length cap] ∧ EOwn RuE.cells ruEAt 71 4 w0.heap.size w (.slice a es.length cap) es ∧ es.map RuE.tree = ps

def RuI (B : Nat) (w0 : World) (g b1 b2 : Nat) (d : Int) (s0 s1 s2 s3 s4 : List UInt8 × Bool) (x1 : Int) (x2 x3 : ByteArray) (ps : List (Tr RuH)) (L : Nat → Bool) (w : World) : Prop :=
  OrdRu L ∧ RAt B w g (stRu s0 s1 s2 s3 s4 L).1 d (stRu s0 s1 s2 s3 s4 L).2 ∧ Touch w0 w [g, b2] ∧ w.heap[b1]? = some (.cells #[.pointer (some ⟨g, 0, none⟩)] 96 (0, 0)) ∧
    (L 11 = false → w.heap[b2]? = some (.cells #[.int .i64 0, .string ⟨#[]⟩, .string ⟨#[]⟩, .slice none 0 0] 71 (0, 0))) ∧ (L 11 = true → ∃ cs, w.heap[b2]? = some (.cells cs 71 (0, 0)) ∧ NewRu w0 x1 x2 x3 ps (.agg cs) w)

theorem newRu_touch {w0 : World} {x1 : Int} {x2 x3 : ByteArray} {ps : List (Tr RuH)} {v : Value} {w w' : World} {g b2 : Nat} (h : NewRu w0 x1 x2 x3 ps v w) (ht : Touch w w' [g, b2]) (hg : g < w0.heap.size) (hb : b2 < w0.heap.size) : NewRu w0 x1 x2 x3 ps v w' := by
  obtain ⟨a, es, cap, hv, h1, h2⟩ := h
  exact ⟨a, es, cap, hv, h1.touch ruE_keep ht hg hb, h2⟩

theorem ruI_keep {B : Nat} {w0 w : World} {g b1 b2 : Nat} {d : Int} {s0 s1 s2 s3 s4 : List UInt8 × Bool} {x1 : Int} {x2 x3 : ByteArray} {ps : List (Tr RuH)} {L : Nat → Bool} {i : Nat} (hi : 1 ≠ i ∧ 3 ≠ i ∧ 5 ≠ i ∧ 9 ≠ i ∧ 11 ≠ i) (h : RuI B w0 g b1 b2 d s0 s1 s2 s3 s4 x1 x2 x3 ps L w) : RuI B w0 g b1 b2 d s0 s1 s2 s3 s4 x1 x2 x3 ps (setL L i) w := by
  obtain ⟨n1, n3, n5, n9, n11⟩ := hi
  unfold RuI OrdRu stRu at h ⊢
  rw [setL_ne n1, setL_ne n3, setL_ne n5, setL_ne n9, setL_ne n11]
  exact h

def RuCPost (B : Nat) (w : World) (g b2 : Nat) (d : Int) (sN : List UInt8 × Bool) (x1 : Int) (x2 x3 : ByteArray) (ps : List (Tr RuH)) (e : Ending) (w' : World) : Prop :=
  e = .returned (.tuple #[]) ∧ ∃ cs, w'.heap[b2]? = some (.cells cs 71 (0, 0)) ∧ NewRu w x1 x2 x3 ps (.agg cs) w' ∧ RAt B w' g sN.1 d sN.2 ∧ Touch w w' [g, b2]

set_option maxRecDepth 100000 in
set_option maxHeartbeats 8000000 in
theorem ruclo_any (f : List UInt8 → Bool → Tr RuH × List UInt8 × Bool) (w : World) (B g b1 b2 : Nat) (d : Int) (s0 s1 s2 s3 s4 : List UInt8 × Bool) (x1 : Int) (x2 x3 : ByteArray) (ps : List (Tr RuH))
    (q1 : rlong s0.1 s0.2 = (x1, s1)) (q2 : rtxt s1.1 s1.2 = (x2, s2)) (q3 : rtxt s2.1 s2.2 = (x3, s3)) (q4 : rlist f s3.1 s3.2 = (ps, s4))
    (heats : Eats (fun l b => (f l b).2)) (hit : ∀ (W : World) (l : List UInt8) (b : Bool), RAt B W g l d b → B ≤ W.heap.size → l.length ≤ 20000000 → Calls Tryz.prog 101 #[.pointer (some ⟨g, 0, none⟩)] W (RuIPost B W g (f l b) d))
    (hr : RAt B w g s0.1 d s0.2) (hB : B ≤ w.heap.size) (hl : s0.1.length ≤ 20000000) (hbB : B ≤ b2) (hn1 : b1 ≠ g) (hn2 : b2 ≠ g) (hn12 : b1 ≠ b2) (hgl : g < w.heap.size) (hbl : b2 < w.heap.size) (h1 : w.heap[b1]? = some (.cells #[.pointer (some ⟨g, 0, none⟩)] 96 (0, 0))) (h2 : w.heap[b2]? = some (.cells #[.int .i64 0, .string ⟨#[]⟩, .string ⟨#[]⟩, .slice none 0 0] 71 (0, 0))) :
    Calls Tryz.prog 113 #[.pointer (some ⟨b1, 0, none⟩), .pointer (some ⟨b2, 0, none⟩)] w (RuCPost B w g b2 d s4 x1 x2 x3 ps) := by
  have hl1 : s1.1.length ≤ 20000000 := by
    have h := eats_long.1 s0.1 s0.2
    dsimp only at h
    rw [q1] at h
    exact Nat.le_trans h hl
  have hl2 : s2.1.length ≤ 20000000 := by
    have h := eats_txt.1 s1.1 s1.2
    dsimp only at h
    rw [q2] at h
    exact Nat.le_trans h hl1
  have hl3 : s3.1.length ≤ 20000000 := by
    have h := eats_txt.1 s2.1 s2.2
    dsimp only at h
    rw [q3] at h
    exact Nat.le_trans h hl2
  have C1 := fun (W : World) (h : RAt B W g s0.1 d s0.2) (hW : B ≤ W.heap.size) => rwhole_b B W g s0.1 d s0.2 h hW
  simp only [q1] at C1
  have C2 := fun (W : World) (h : RAt B W g s1.1 d s1.2) (hW : B ≤ W.heap.size) => rtext_any B W g s1.1 d s1.2 h
  simp only [q2] at C2
  have C3 := fun (W : World) (h : RAt B W g s2.1 d s2.2) (hW : B ≤ W.heap.size) => rtext_any B W g s2.1 d s2.2 h
  simp only [q3] at C3
  have C4 := fun (W : World) (h : RAt B W g s3.1 d s3.2) (hW : B ≤ W.heap.size) => getRus_any f heats B W g s3.1 d s3.2 h hW hl3 hit
  simp only [q4] at C4
  have HC1 := Lib.hid C1
  have HC2 := Lib.hid C2
  have HC3 := Lib.hid C3
  have HC4 := Lib.hid C4
  have HR := Lib.hid hr
  have H1 := Lib.hid h1
  have H2 := Lib.hid h2
  clear hr h1 h2 hit heats C1 C2 C3 C4 q1 q2 q3 q4
  go_enter Tryz.func113, Tryz.ntmps113
  go_upto_region 0 with fail
  refine wp_region_sf (by kernel_rfl) [fun v _ => v = .pointer (some ⟨g, 0, none⟩), fun v _ => v = .int .i64 x1, fun v _ => v = .pointer (some ⟨g, 0, none⟩), fun v _ => v = .string x2, fun v _ => v = .pointer (some ⟨g, 0, none⟩), fun v _ => v = .string x3, fun v _ => v = .pointer (some ⟨g, 0, none⟩), fun v _ => v = .pointer (some ⟨g, 0, none⟩), fun v _ => v = .func (.func 101) #[.pointer (some ⟨g, 0, none⟩)] #[], fun v W => ∃ a es cap, v = .slice a es.length cap ∧ EOwn RuE.cells ruEAt 71 4 w.heap.size W v es ∧ es.map RuE.tree = ps, fun v W => NewRu w x1 x2 x3 ps v W, fun _ _ => True] (by kernel_rfl) (by kernel_rfl) (fun L W => RuI B w g b1 b2 d s0 s1 s2 s3 s4 x1 x2 x3 ps L W) (fun W W' => Touch W W' [g, b2]) ?_ ?_ ⟨?_, ?_, ?_, ?_, ?_, ?_, ?_, ?_, ?_, ?_, ?_, ?_, trivial⟩ ?_
  · intro i v W W' hf ht
    match i, hf with
    | 0, hf => exact hf
    | 1, hf => exact hf
    | 2, hf => exact hf
    | 3, hf => exact hf
    | 4, hf => exact hf
    | 5, hf => exact hf
    | 6, hf => exact hf
    | 7, hf => exact hf
    | 8, hf => exact hf
    | 9, hf => exact (by obtain ⟨a, es, cap, h1, h2, h3⟩ := hf; exact ⟨a, es, cap, h1, h2.touch ruE_keep ht hgl hbl, h3⟩)
    | 10, hf => exact newRu_touch hf ht hgl hbl
    | 11, hf => exact hf
    | n + 12, _ => trivial
  · intro L hL0
    refine ⟨ordRu_none hL0, ?_, (Touch.refl w _).drew, H1.out, fun _ => H2.out, fun h => by rw [hL0 11 (by decide)] at h; cases h⟩
    rw [stRu_none s0 s1 s2 s3 s4 hL0]
    exact HR.out.below (Below.refl w.heap.size w).drew hB
  · intro ρ wx L hρ hL hd hl hI
    have e0 : ρ (.tmp 0) = .pointer (some ⟨b1, 0, none⟩) := hρ.tmp 0 (by decide +kernel)
    have kk : wx.cell? ⟨b1, 0, none⟩ = some (.pointer (some ⟨g, 0, none⟩)) := by simpa using Lib.cell_of_heap hI.2.2.2.1 0
    refine f_val (v := .pointer (some ⟨g, 0, none⟩)) ?_ rfl (ruI_keep (by decide) hI) (Touch.refl _ _)
    simp [execOp, go_sem, e0, kk]
  · intro ρ wx L hρ hL hd hl hI
    have e2 := hl 0 (by decide +kernel) 2 rfl
    replace e2 : ρ (.tmp 2) = .pointer (some ⟨g, 0, none⟩) := e2
    obtain ⟨ho, hr, ht, hp1, hp2, _⟩ := id hI
    obtain ⟨hq1, hq2, hq3, hq4, hq5⟩ := ordRu_1 s0 s1 s2 s3 s4 ho hL
    rw [hq2] at hr
    have hWB : B ≤ wx.heap.size := Nat.le_trans hB ht.size
    refine f_call (f := 36) (args := #[.pointer (some ⟨g, 0, none⟩)]) (by simp [execOp, resolve, invoke, hρ.func, go_sem, e2]) ?_
    refine (HC1.out wx hr hWB).mono ?_
    rintro e w6 ⟨rfl, h6, t6⟩
    exact ⟨_, rfl, rfl, ⟨hq1, by rw [hq3]; exact h6, ht.trans t6 (fun _ h => h) (fun x h => .inl (by simp at h; simp [h])), t6.keep hp1 (by simpa using hn1), fun _ => t6.keep (hp2 hq4) (by simpa using hn2), fun h => by rw [hq5] at h; cases h⟩, t6.two b2⟩
  · intro ρ wx L hρ hL hd hl hI
    have e0 : ρ (.tmp 0) = .pointer (some ⟨b1, 0, none⟩) := hρ.tmp 0 (by decide +kernel)
    have kk : wx.cell? ⟨b1, 0, none⟩ = some (.pointer (some ⟨g, 0, none⟩)) := by simpa using Lib.cell_of_heap hI.2.2.2.1 0
    refine f_val (v := .pointer (some ⟨g, 0, none⟩)) ?_ rfl (ruI_keep (by decide) hI) (Touch.refl _ _)
    simp [execOp, go_sem, e0, kk]
  · intro ρ wx L hρ hL hd hl hI
    have e4 := hl 2 (by decide +kernel) 4 rfl
    replace e4 : ρ (.tmp 4) = .pointer (some ⟨g, 0, none⟩) := e4
    obtain ⟨ho, hr, ht, hp1, hp2, _⟩ := id hI
    obtain ⟨hq1, hq2, hq3, hq4, hq5⟩ := ordRu_3 s0 s1 s2 s3 s4 ho hL (hd 1 (by decide +kernel))
    rw [hq2] at hr
    have hWB : B ≤ wx.heap.size := Nat.le_trans hB ht.size
    refine f_call (f := 37) (args := #[.pointer (some ⟨g, 0, none⟩)]) (by simp [execOp, resolve, invoke, hρ.func, go_sem, e4]) ?_
    refine (HC2.out wx hr hWB).mono ?_
    rintro e w6 ⟨rfl, h6, t6⟩
    exact ⟨_, rfl, rfl, ⟨hq1, by rw [hq3]; exact h6, ht.trans t6 (fun _ h => h) (fun x h => .inl (by simp at h; simp [h])), t6.keep hp1 (by simpa using hn1), fun _ => t6.keep (hp2 hq4) (by simpa using hn2), fun h => by rw [hq5] at h; cases h⟩, t6.two b2⟩
  · intro ρ wx L hρ hL hd hl hI
    have e0 : ρ (.tmp 0) = .pointer (some ⟨b1, 0, none⟩) := hρ.tmp 0 (by decide +kernel)
    have kk : wx.cell? ⟨b1, 0, none⟩ = some (.pointer (some ⟨g, 0, none⟩)) := by simpa using Lib.cell_of_heap hI.2.2.2.1 0
    refine f_val (v := .pointer (some ⟨g, 0, none⟩)) ?_ rfl (ruI_keep (by decide) hI) (Touch.refl _ _)
    simp [execOp, go_sem, e0, kk]
  · intro ρ wx L hρ hL hd hl hI
    have e6 := hl 4 (by decide +kernel) 6 rfl
    replace e6 : ρ (.tmp 6) = .pointer (some ⟨g, 0, none⟩) := e6
    obtain ⟨ho, hr, ht, hp1, hp2, _⟩ := id hI
    obtain ⟨hq1, hq2, hq3, hq4, hq5⟩ := ordRu_5 s0 s1 s2 s3 s4 ho hL (hd 3 (by decide +kernel))
    rw [hq2] at hr
    have hWB : B ≤ wx.heap.size := Nat.le_trans hB ht.size
    refine f_call (f := 37) (args := #[.pointer (some ⟨g, 0, none⟩)]) (by simp [execOp, resolve, invoke, hρ.func, go_sem, e6]) ?_
    refine (HC3.out wx hr hWB).mono ?_
    rintro e w6 ⟨rfl, h6, t6⟩
    exact ⟨_, rfl, rfl, ⟨hq1, by rw [hq3]; exact h6, ht.trans t6 (fun _ h => h) (fun x h => .inl (by simp at h; simp [h])), t6.keep hp1 (by simpa using hn1), fun _ => t6.keep (hp2 hq4) (by simpa using hn2), fun h => by rw [hq5] at h; cases h⟩, t6.two b2⟩
  · intro ρ wx L hρ hL hd hl hI
    have e0 : ρ (.tmp 0) = .pointer (some ⟨b1, 0, none⟩) := hρ.tmp 0 (by decide +kernel)
    have kk : wx.cell? ⟨b1, 0, none⟩ = some (.pointer (some ⟨g, 0, none⟩)) := by simpa using Lib.cell_of_heap hI.2.2.2.1 0
    refine f_val (v := .pointer (some ⟨g, 0, none⟩)) ?_ rfl (ruI_keep (by decide) hI) (Touch.refl _ _)
    simp [execOp, go_sem, e0, kk]
  · intro ρ wx L hρ hL hd hl hI
    have e0 : ρ (.tmp 0) = .pointer (some ⟨b1, 0, none⟩) := hρ.tmp 0 (by decide +kernel)
    have kk : wx.cell? ⟨b1, 0, none⟩ = some (.pointer (some ⟨g, 0, none⟩)) := by simpa using Lib.cell_of_heap hI.2.2.2.1 0
    refine f_val (v := .pointer (some ⟨g, 0, none⟩)) ?_ rfl (ruI_keep (by decide) hI) (Touch.refl _ _)
    simp [execOp, go_sem, e0, kk]
  · intro ρ wx L hρ hL hd hl hI
    have e9 := hl 7 (by decide +kernel) 9 rfl
    replace e9 : ρ (.tmp 9) = .pointer (some ⟨g, 0, none⟩) := e9
    refine f_val (v := .func (.func 101) #[.pointer (some ⟨g, 0, none⟩)] #[]) ?_ rfl (ruI_keep (by decide) hI) (Touch.refl _ _)
    simp [execOp, go_sem, e9]
  · intro ρ wx L hρ hL hd hl hI
    have e8 := hl 6 (by decide +kernel) 8 rfl
    replace e8 : ρ (.tmp 8) = .pointer (some ⟨g, 0, none⟩) := e8
    have e10 := hl 8 (by decide +kernel) 10 rfl
    replace e10 : ρ (.tmp 10) = .func (.func 101) #[.pointer (some ⟨g, 0, none⟩)] #[] := e10
    obtain ⟨ho, hr, ht, hp1, hp2, _⟩ := id hI
    obtain ⟨hq1, hq2, hq3, hq4, hq5⟩ := ordRu_9 s0 s1 s2 s3 s4 ho hL (hd 5 (by decide +kernel))
    rw [hq2] at hr
    have hWB : B ≤ wx.heap.size := Nat.le_trans hB ht.size
    refine f_call (f := 114) (args := #[.pointer (some ⟨g, 0, none⟩), .func (.func 101) #[.pointer (some ⟨g, 0, none⟩)] #[]]) (by simp [execOp, resolve, invoke, hρ.func, go_sem, e8, e10]) ?_
    refine (HC4.out wx hr hWB).mono ?_
    rintro e w6 ⟨v, es, rfl, o6, hes, h6, t6⟩
    obtain ⟨a, cap, rfl, _, _⟩ := (ownsRow.reads o6.1).le
    exact ⟨_, rfl, ⟨a, es, cap, rfl, o6.base ruE_keep ht.size, hes⟩, ⟨hq1, by rw [hq3]; exact h6, ht.trans t6 (fun _ h => h) (fun x h => .inl (by simp at h; simp [h])), t6.keep hp1 (by simpa using hn1), fun _ => t6.keep (hp2 hq4) (by simpa using hn2), fun h => by rw [hq5] at h; cases h⟩, t6.two b2⟩
  · intro ρ wx L hρ hL hd hl hI
    have e3 := hl 1 (by decide +kernel) 3 rfl
    replace e3 : ρ (.tmp 3) = .int .i64 x1 := e3
    have e5 := hl 3 (by decide +kernel) 5 rfl
    replace e5 : ρ (.tmp 5) = .string x2 := e5
    have e7 := hl 5 (by decide +kernel) 7 rfl
    replace e7 : ρ (.tmp 7) = .string x3 := e7
    have e11 := hl 9 (by decide +kernel) 11 rfl
    obtain ⟨a, es, cap, rfl_l, h3, h4⟩ := e11
    refine f_val (v := .agg #[.int .i64 x1, .string x2, .string x3, .slice a es.length cap]) ?_ ⟨a, es, cap, rfl, rfl_l ▸ h3, h4⟩ (ruI_keep (by decide) hI) (Touch.refl _ _)
    simp [execOp, go_sem, e3, e5, e7, rfl_l]
  · intro ρ wx L hρ hL hd hl hI
    have e1 : ρ (.tmp 1) = .pointer (some ⟨b2, 0, none⟩) := hρ.tmp 1 (by decide +kernel)
    have e12 := hl 10 (by decide +kernel) 12 rfl
    obtain ⟨ho, hr, ht, hp1, hp2, _⟩ := id hI
    have e12N := e12
    obtain ⟨a, es, cap, hv, h3, h4⟩ := e12
    have hb2 := hp2 hL
    have hs := setRow_heap wx b2 #[.int .i64 0, .string ⟨#[]⟩, .string ⟨#[]⟩, .slice none 0 0] #[.int .i64 x1, .string x2, .string x3, .slice a es.length cap] 71 (0, 0) hb2
    have htr : Touch wx (wx.setRow b2 #[.int .i64 x1, .string x2, .string x3, .slice a es.length cap]) [g, b2] := touch_row (Touch.refl wx _) (by simp) _
    rw [hv] at e12N
    refine f_store_row _ _ _ rfl b2 #[.int .i64 x1, .string x2, .string x3, .slice a es.length cap] e1 hv _ _ hb2 (by kernel_rfl) rfl (by kernel_rfl) trivial ?_ htr
    refine ⟨?_, ?_, ht.same htr, (setRow_other _ _ _ _ hn12).trans hp1, (fun h => absurd ((show setL L 11 11 = true from setL_eq).symm.trans h) (by decide)), fun _ => ⟨_, hs, newRu_touch e12N htr hgl hbl⟩⟩
    · unfold OrdRu at ho ⊢
      rw [setL_ne (by decide : (1 : Nat) ≠ 11), setL_ne (by decide : (3 : Nat) ≠ 11), setL_ne (by decide : (5 : Nat) ≠ 11), setL_ne (by decide : (9 : Nat) ≠ 11), setL_eq]
      exact ⟨ho.1, ho.2.1, ho.2.2.1, fun _ => hd 9 (by decide +kernel)⟩
    · have : stRu s0 s1 s2 s3 s4 (setL L 11) = stRu s0 s1 s2 s3 s4 L := by unfold stRu; rw [setL_ne (by decide : (1 : Nat) ≠ 11), setL_ne (by decide : (3 : Nat) ≠ 11), setL_ne (by decide : (5 : Nat) ≠ 11), setL_ne (by decide : (9 : Nat) ≠ 11)]
      rw [this]
      exact RAt.setRow hr hn2 hbB _
  · intro aa wz L hdef hsz hlk hL hI _
    have ha := act_of_like hdef hsz hlk [2, 3, 4, 5, 6, 7, 8, 9, 10, 11, 12] 13 rfl (by decide +kernel)
    simp only [putAll, List.foldl_cons, List.foldl_nil] at ha
    generalize aa.tmps.getD 2 undef = v2 at ha
    generalize aa.tmps.getD 3 undef = v3 at ha
    generalize aa.tmps.getD 4 undef = v4 at ha
    generalize aa.tmps.getD 5 undef = v5 at ha
    generalize aa.tmps.getD 6 undef = v6 at ha
    generalize aa.tmps.getD 7 undef = v7 at ha
    generalize aa.tmps.getD 8 undef = v8 at ha
    generalize aa.tmps.getD 9 undef = v9 at ha
    generalize aa.tmps.getD 10 undef = v10 at ha
    generalize aa.tmps.getD 11 undef = v11 at ha
    generalize aa.tmps.getD 12 undef = v12 at ha
    simp [Act.put] at ha
    subst ha
    obtain ⟨_, hr, ht, _, _, hp⟩ := hI
    obtain ⟨cs, hc, hN⟩ := hp (hL 11 (by decide))
    have hst : stRu s0 s1 s2 s3 s4 L = s4 := by unfold stRu; rw [if_pos (hL 9 (by decide))]
    rw [hst] at hr
    have HRz := Lib.hid hr
    have HTz := Lib.hid ht
    have HCz := Lib.hid hc
    have HNz := Lib.hid hN
    clear hr ht hp hc hN hst hL hdef hsz hlk
    go_wp2
    go_end0
    exact ⟨rfl, cs, HCz.out, HNz.out, HRz.out, HTz.out⟩


def stNo (s0 s1 s2 s3 s4 s5 : List UInt8 × Bool) (L : Nat → Bool) : List UInt8 × Bool := if L 13 = true then s5 else if L 9 = true then s4 else if L 5 = true then s3 else if L 3 = true then s2 else if L 1 = true then s1 else s0

def OrdNo (L : Nat → Bool) : Prop := (L 3 = true → L 1 = true) ∧ (L 5 = true → L 3 = true) ∧ (L 9 = true → L 5 = true) ∧ (L 13 = true → L 9 = true) ∧ (L 15 = true → L 13 = true)

theorem ordNo_none {L : Nat → Bool} (h : ∀ i, i < 16 → L i = false) : OrdNo L := by
  unfold OrdNo
  rw [h 3 (by decide), h 5 (by decide), h 9 (by decide), h 13 (by decide), h 15 (by decide)]
  simp

theorem stNo_none (s0 s1 s2 s3 s4 s5 : List UInt8 × Bool) {L : Nat → Bool} (h : ∀ i, i < 16 → L i = false) : stNo s0 s1 s2 s3 s4 s5 L = s0 := by
  unfold stNo
  rw [h 1 (by decide), h 3 (by decide), h 5 (by decide), h 9 (by decide), h 13 (by decide)]
  simp

theorem ordNo_1 (s0 s1 s2 s3 s4 s5 : List UInt8 × Bool) {L : Nat → Bool} (h : OrdNo L) (hj : L 1 = false) : OrdNo (setL L 1) ∧ stNo s0 s1 s2 s3 s4 s5 L = s0 ∧ stNo s0 s1 s2 s3 s4 s5 (setL L 1) = s1 ∧ L 15 = false ∧ setL L 1 15 = false := by
  obtain ⟨o3, o5, o9, o13, o15⟩ := h
  have h3 : L 3 = false := by cases h : L 3 with | false => rfl | true => rw [o3 h] at hj; cases hj
  have h5 : L 5 = false := by cases h : L 5 with | false => rfl | true => rw [o5 h] at h3; cases h3
  have h9 : L 9 = false := by cases h : L 9 with | false => rfl | true => rw [o9 h] at h5; cases h5
  have h13 : L 13 = false := by cases h : L 13 with | false => rfl | true => rw [o13 h] at h9; cases h9
  have h15 : L 15 = false := by cases h : L 15 with | false => rfl | true => rw [o15 h] at h13; cases h13
  unfold OrdNo stNo setL
  simp [hj, h3, h5, h9, h13, h15]

theorem ordNo_3 (s0 s1 s2 s3 s4 s5 : List UInt8 × Bool) {L : Nat → Bool} (h : OrdNo L) (hj : L 3 = false) (hp : L 1 = true) : OrdNo (setL L 3) ∧ stNo s0 s1 s2 s3 s4 s5 L = s1 ∧ stNo s0 s1 s2 s3 s4 s5 (setL L 3) = s2 ∧ L 15 = false ∧ setL L 3 15 = false := by
  obtain ⟨o3, o5, o9, o13, o15⟩ := h
  have h5 : L 5 = false := by cases h : L 5 with | false => rfl | true => rw [o5 h] at hj; cases hj
  have h9 : L 9 = false := by cases h : L 9 with | false => rfl | true => rw [o9 h] at h5; cases h5
  have h13 : L 13 = false := by cases h : L 13 with | false => rfl | true => rw [o13 h] at h9; cases h9
  have h15 : L 15 = false := by cases h : L 15 with | false => rfl | true => rw [o15 h] at h13; cases h13
  unfold OrdNo stNo setL
  simp [hj, h5, h9, h13, h15, hp]

theorem ordNo_5 (s0 s1 s2 s3 s4 s5 : List UInt8 × Bool) {L : Nat → Bool} (h : OrdNo L) (hj : L 5 = false) (hp : L 3 = true) : OrdNo (setL L 5) ∧ stNo s0 s1 s2 s3 s4 s5 L = s2 ∧ stNo s0 s1 s2 s3 s4 s5 (setL L 5) = s3 ∧ L 15 = false ∧ setL L 5 15 = false := by
  obtain ⟨o3, o5, o9, o13, o15⟩ := h
  have h9 : L 9 = false := by cases h : L 9 with | false => rfl | true => rw [o9 h] at hj; cases hj
  have h13 : L 13 = false := by cases h : L 13 with | false => rfl | true => rw [o13 h] at h9; cases h9
  have h15 : L 15 = false := by cases h : L 15 with | false => rfl | true => rw [o15 h] at h13; cases h13
  have h1 := o3 hp
  unfold OrdNo stNo setL
  simp [hj, h9, h13, h15, hp, h1]

theorem ordNo_9 (s0 s1 s2 s3 s4 s5 : List UInt8 × Bool) {L : Nat → Bool} (h : OrdNo L) (hj : L 9 = false) (hp : L 5 = true) : OrdNo (setL L 9) ∧ stNo s0 s1 s2 s3 s4 s5 L = s3 ∧ stNo s0 s1 s2 s3 s4 s5 (setL L 9) = s4 ∧ L 15 = false ∧ setL L 9 15 = false := by
  obtain ⟨o3, o5, o9, o13, o15⟩ := h
  have h13 : L 13 = false := by cases h : L 13 with | false => rfl | true => rw [o13 h] at hj; cases hj
  have h15 : L 15 = false := by cases h : L 15 with | false => rfl | true => rw [o15 h] at h13; cases h13
  have h3 := o5 hp
  have h1 := o3 h3
  unfold OrdNo stNo setL
  simp [hj, h13, h15, hp, h1, h3]

theorem ordNo_13 (s0 s1 s2 s3 s4 s5 : List UInt8 × Bool) {L : Nat → Bool} (h : OrdNo L) (hj : L 13 = false) (hp : L 9 = true) : OrdNo (setL L 13) ∧ stNo s0 s1 s2 s3 s4 s5 L = s4 ∧ stNo s0 s1 s2 s3 s4 s5 (setL L 13) = s5 ∧ L 15 = false ∧ setL L 13 15 = false := by
  obtain ⟨o3, o5, o9, o13, o15⟩ := h
  have h15 : L 15 = false := by cases h : L 15 with | false => rfl | true => rw [o15 h] at hj; cases hj
  have h5 := o9 hp
  have h3 := o5 h5
  have h1 := o3 h3
  unfold OrdNo stNo setL
  simp [hj, h15, hp, h1, h3, h5]

def NewNo (w0 : World) (x1 : Int) (x2a x2b x3 : ByteArray) (xs : List T3) (ps : List (Tr NoH)) (v : Value) (w : World) : Prop :=
  ∃ sa sc a es cap, v = .agg #[.int .i64 x1, .string x2a, .string x2b, .string x3, .slice sa xs.length sc, .slice a es.length cap] ∧ EOwn NoE.cells noEAt 34 6 w0.heap.size w (.slice a es.length cap) es ∧ es.map NoE.tree = ps ∧ w.ownsRow w0.heap.size 60 3 (.slice sa xs.length sc) xs.length (xs.flatMap T3.cells)

def NoI (B : Nat) (w0 : World) (g b1 b2 : Nat) (d : Int) (s0 s1 s2 s3 s4 s5 : List UInt8 × Bool) (x1 : Int) (x2a x2b x3 : ByteArray) (xs : List T3) (ps : List (Tr NoH)) (L : Nat → Bool) (w : World) : Prop :=
  OrdNo L ∧ RAt B w g (stNo s0 s1 s2 s3 s4 s5 L).1 d (stNo s0 s1 s2 s3 s4 s5 L).2 ∧ Touch w0 w [g, b2] ∧ w.heap[b1]? = some (.cells #[.pointer (some ⟨g, 0, none⟩)] 96 (0, 0)) ∧
    (L 15 = false → w.heap[b2]? = some (.cells #[.int .i64 0, .string ⟨#[]⟩, .string ⟨#[]⟩, .string ⟨#[]⟩, .slice none 0 0, .slice none 0 0] 34 (0, 0))) ∧ (L 15 = true → ∃ cs, w.heap[b2]? = some (.cells cs 34 (0, 0)) ∧ NewNo w0 x1 x2a x2b x3 xs ps (.agg cs) w)

theorem newNo_touch {w0 : World} {x1 : Int} {x2a x2b x3 : ByteArray} {xs : List T3} {ps : List (Tr NoH)} {v : Value} {w w' : World} {g b2 : Nat} (h : NewNo w0 x1 x2a x2b x3 xs ps v w) (ht : Touch w w' [g, b2]) (hg : g < w0.heap.size) (hb : b2 < w0.heap.size) : NewNo w0 x1 x2a x2b x3 xs ps v w' := by
  obtain ⟨sa, sc, a, es, cap, hv, h1, h2, h3⟩ := h
  exact ⟨sa, sc, a, es, cap, hv, h1.touch noE_keep ht hg hb, h2, sub_own h3 ht hg hb⟩

theorem noI_keep {B : Nat} {w0 w : World} {g b1 b2 : Nat} {d : Int} {s0 s1 s2 s3 s4 s5 : List UInt8 × Bool} {x1 : Int} {x2a x2b x3 : ByteArray} {xs : List T3} {ps : List (Tr NoH)} {L : Nat → Bool} {i : Nat} (hi : 1 ≠ i ∧ 3 ≠ i ∧ 5 ≠ i ∧ 9 ≠ i ∧ 13 ≠ i ∧ 15 ≠ i) (h : NoI B w0 g b1 b2 d s0 s1 s2 s3 s4 s5 x1 x2a x2b x3 xs ps L w) : NoI B w0 g b1 b2 d s0 s1 s2 s3 s4 s5 x1 x2a x2b x3 xs ps (setL L i) w := by
  obtain ⟨n1, n3, n5, n9, n13, n15⟩ := hi
  unfold NoI OrdNo stNo at h ⊢
  rw [setL_ne n1, setL_ne n3, setL_ne n5, setL_ne n9, setL_ne n13, setL_ne n15]
  exact h

def NoCPost (B : Nat) (w : World) (g b2 : Nat) (d : Int) (sN : List UInt8 × Bool) (x1 : Int) (x2a x2b x3 : ByteArray) (xs : List T3) (ps : List (Tr NoH)) (e : Ending) (w' : World) : Prop :=
  e = .returned (.tuple #[]) ∧ ∃ cs, w'.heap[b2]? = some (.cells cs 34 (0, 0)) ∧ NewNo w x1 x2a x2b x3 xs ps (.agg cs) w' ∧ RAt B w' g sN.1 d sN.2 ∧ Touch w w' [g, b2]

set_option maxRecDepth 100000 in
set_option maxHeartbeats 8000000 in
theorem noclo_any (f : List UInt8 → Bool → Tr NoH × List UInt8 × Bool) (w : World) (B g b1 b2 : Nat) (d : Int) (s0 s1 s2 s3 s4 s5 : List UInt8 × Bool) (x1 : Int) (x2a x2b x3 : ByteArray) (xs : List T3) (ps : List (Tr NoH))
    (q1 : rlong s0.1 s0.2 = (x1, s1)) (q2 : robj2 s1.1 s1.2 = (⟨x2a, x2b⟩, s2)) (q3 : rtxt s2.1 s2.2 = (x3, s3)) (q4 : rlist rsub3 s3.1 s3.2 = (xs, s4)) (q5 : rlist f s4.1 s4.2 = (ps, s5))
    (heats : Eats (fun l b => (f l b).2)) (hit : ∀ (W : World) (l : List UInt8) (b : Bool), RAt B W g l d b → B ≤ W.heap.size → l.length ≤ 20000000 → Calls Tryz.prog 48 #[.pointer (some ⟨g, 0, none⟩)] W (NoIPost B W g (f l b) d))
    (hr : RAt B w g s0.1 d s0.2) (hB : B ≤ w.heap.size) (hl : s0.1.length ≤ 20000000) (hbB : B ≤ b2) (hn1 : b1 ≠ g) (hn2 : b2 ≠ g) (hn12 : b1 ≠ b2) (hgl : g < w.heap.size) (hbl : b2 < w.heap.size) (h1 : w.heap[b1]? = some (.cells #[.pointer (some ⟨g, 0, none⟩)] 96 (0, 0))) (h2 : w.heap[b2]? = some (.cells #[.int .i64 0, .string ⟨#[]⟩, .string ⟨#[]⟩, .string ⟨#[]⟩, .slice none 0 0, .slice none 0 0] 34 (0, 0))) :
    Calls Tryz.prog 104 #[.pointer (some ⟨b1, 0, none⟩), .pointer (some ⟨b2, 0, none⟩)] w (NoCPost B w g b2 d s5 x1 x2a x2b x3 xs ps) := by
  have hl1 : s1.1.length ≤ 20000000 := by
    have h := eats_long.1 s0.1 s0.2
    dsimp only at h
    rw [q1] at h
    exact Nat.le_trans h hl
  have hl2 : s2.1.length ≤ 20000000 := by
    have h := eats_obj2.1 s1.1 s1.2
    dsimp only at h
    rw [q2] at h
    exact Nat.le_trans h hl1
  have hl3 : s3.1.length ≤ 20000000 := by
    have h := eats_txt.1 s2.1 s2.2
    dsimp only at h
    rw [q3] at h
    exact Nat.le_trans h hl2
  have hl4 : s4.1.length ≤ 20000000 := by
    have h := (eats_list eats_sub3).1 s3.1 s3.2
    dsimp only at h
    rw [q4] at h
    exact Nat.le_trans h hl3
  have C1 := fun (W : World) (h : RAt B W g s0.1 d s0.2) (hW : B ≤ W.heap.size) => rwhole_b B W g s0.1 d s0.2 h hW
  simp only [q1] at C1
  have C2 := fun (W : World) (h : RAt B W g s1.1 d s1.2) (hW : B ≤ W.heap.size) => robj_t2 B W g s1.1 d s1.2 h hW
  simp only [q2] at C2
  have C3 := fun (W : World) (h : RAt B W g s2.1 d s2.2) (hW : B ≤ W.heap.size) => rtext_any B W g s2.1 d s2.2 h
  simp only [q3] at C3
  have C4 := fun (W : World) (h : RAt B W g s3.1 d s3.2) (hW : B ≤ W.heap.size) => getSubs_any B W g s3.1 d s3.2 h hW hl3
  simp only [q4] at C4
  have C5 := fun (W : World) (h : RAt B W g s4.1 d s4.2) (hW : B ≤ W.heap.size) => getNos_any f heats B W g s4.1 d s4.2 h hW hl4 hit
  simp only [q5] at C5
  have HC1 := Lib.hid C1
  have HC2 := Lib.hid C2
  have HC3 := Lib.hid C3
  have HC4 := Lib.hid C4
  have HC5 := Lib.hid C5
  have HR := Lib.hid hr
  have H1 := Lib.hid h1
  have H2 := Lib.hid h2
  clear hr h1 h2 hit heats C1 C2 C3 C4 C5 q1 q2 q3 q4 q5
  go_enter Tryz.func104, Tryz.ntmps104
  go_upto_region 0 with fail
  refine wp_region_sf (by kernel_rfl) [fun v _ => v = .pointer (some ⟨g, 0, none⟩), fun v _ => v = .int .i64 x1, fun v _ => v = .pointer (some ⟨g, 0, none⟩), fun v _ => v = .agg #[.string x2a, .string x2b], fun v _ => v = .pointer (some ⟨g, 0, none⟩), fun v _ => v = .string x3, fun v _ => v = .pointer (some ⟨g, 0, none⟩), fun v _ => v = .pointer (some ⟨g, 0, none⟩), fun v _ => v = .func (.func 99) #[.pointer (some ⟨g, 0, none⟩)] #[], fun v W => ∃ sa sc, v = .slice sa xs.length sc ∧ W.ownsRow w.heap.size 60 3 v xs.length (xs.flatMap T3.cells), fun v _ => v = .pointer (some ⟨g, 0, none⟩), fun v _ => v = .pointer (some ⟨g, 0, none⟩), fun v _ => v = .func (.func 48) #[.pointer (some ⟨g, 0, none⟩)] #[], fun v W => ∃ a es cap, v = .slice a es.length cap ∧ EOwn NoE.cells noEAt 34 6 w.heap.size W v es ∧ es.map NoE.tree = ps, fun v W => NewNo w x1 x2a x2b x3 xs ps v W, fun _ _ => True] (by kernel_rfl) (by kernel_rfl) (fun L W => NoI B w g b1 b2 d s0 s1 s2 s3 s4 s5 x1 x2a x2b x3 xs ps L W) (fun W W' => Touch W W' [g, b2]) ?_ ?_ ⟨?_, ?_, ?_, ?_, ?_, ?_, ?_, ?_, ?_, ?_, ?_, ?_, ?_, ?_, ?_, ?_, trivial⟩ ?_
  · intro i v W W' hf ht
    match i, hf with
    | 0, hf => exact hf
    | 1, hf => exact hf
    | 2, hf => exact hf
    | 3, hf => exact hf
    | 4, hf => exact hf
    | 5, hf => exact hf
    | 6, hf => exact hf
    | 7, hf => exact hf
    | 8, hf => exact hf
    | 9, hf => exact (by obtain ⟨sa, sc, h1, h2⟩ := hf; exact ⟨sa, sc, h1, sub_own h2 ht hgl hbl⟩)
    | 10, hf => exact hf
    | 11, hf => exact hf
    | 12, hf => exact hf
    | 13, hf => exact (by obtain ⟨a, es, cap, h1, h2, h3⟩ := hf; exact ⟨a, es, cap, h1, h2.touch noE_keep ht hgl hbl, h3⟩)
    | 14, hf => exact newNo_touch hf ht hgl hbl
    | 15, hf => exact hf
    | n + 16, _ => trivial
  · intro L hL0
    refine ⟨ordNo_none hL0, ?_, (Touch.refl w _).drew, H1.out, fun _ => H2.out, fun h => by rw [hL0 15 (by decide)] at h; cases h⟩
    rw [stNo_none s0 s1 s2 s3 s4 s5 hL0]
    exact HR.out.below (Below.refl w.heap.size w).drew hB
  · intro ρ wx L hρ hL hd hl hI
    have e0 : ρ (.tmp 0) = .pointer (some ⟨b1, 0, none⟩) := hρ.tmp 0 (by decide +kernel)
    have kk : wx.cell? ⟨b1, 0, none⟩ = some (.pointer (some ⟨g, 0, none⟩)) := by simpa using Lib.cell_of_heap hI.2.2.2.1 0
    refine f_val (v := .pointer (some ⟨g, 0, none⟩)) ?_ rfl (noI_keep (by decide) hI) (Touch.refl _ _)
    simp [execOp, go_sem, e0, kk]
  · intro ρ wx L hρ hL hd hl hI
    have e2 := hl 0 (by decide +kernel) 2 rfl
    replace e2 : ρ (.tmp 2) = .pointer (some ⟨g, 0, none⟩) := e2
    obtain ⟨ho, hr, ht, hp1, hp2, _⟩ := id hI
    obtain ⟨hq1, hq2, hq3, hq4, hq5⟩ := ordNo_1 s0 s1 s2 s3 s4 s5 ho hL
    rw [hq2] at hr
    have hWB : B ≤ wx.heap.size := Nat.le_trans hB ht.size
    refine f_call (f := 36) (args := #[.pointer (some ⟨g, 0, none⟩)]) (by simp [execOp, resolve, invoke, hρ.func, go_sem, e2]) ?_
    refine (HC1.out wx hr hWB).mono ?_
    rintro e w6 ⟨rfl, h6, t6⟩
    exact ⟨_, rfl, rfl, ⟨hq1, by rw [hq3]; exact h6, ht.trans t6 (fun _ h => h) (fun x h => .inl (by simp at h; simp [h])), t6.keep hp1 (by simpa using hn1), fun _ => t6.keep (hp2 hq4) (by simpa using hn2), fun h => by rw [hq5] at h; cases h⟩, t6.two b2⟩
  · intro ρ wx L hρ hL hd hl hI
    have e0 : ρ (.tmp 0) = .pointer (some ⟨b1, 0, none⟩) := hρ.tmp 0 (by decide +kernel)
    have kk : wx.cell? ⟨b1, 0, none⟩ = some (.pointer (some ⟨g, 0, none⟩)) := by simpa using Lib.cell_of_heap hI.2.2.2.1 0
    refine f_val (v := .pointer (some ⟨g, 0, none⟩)) ?_ rfl (noI_keep (by decide) hI) (Touch.refl _ _)
    simp [execOp, go_sem, e0, kk]
  · intro ρ wx L hρ hL hd hl hI
    have e4 := hl 2 (by decide +kernel) 4 rfl
    replace e4 : ρ (.tmp 4) = .pointer (some ⟨g, 0, none⟩) := e4
    obtain ⟨ho, hr, ht, hp1, hp2, _⟩ := id hI
    obtain ⟨hq1, hq2, hq3, hq4, hq5⟩ := ordNo_3 s0 s1 s2 s3 s4 s5 ho hL (hd 1 (by decide +kernel))
    rw [hq2] at hr
    have hWB : B ≤ wx.heap.size := Nat.le_trans hB ht.size
    refine f_call (f := 43) (args := #[.pointer (some ⟨g, 0, none⟩)]) (by simp [execOp, resolve, invoke, hρ.func, go_sem, e4]) ?_
    refine (HC2.out wx hr hWB).mono ?_
    rintro e w6 ⟨rfl, h6, t6⟩
    exact ⟨_, rfl, rfl, ⟨hq1, by rw [hq3]; exact h6, ht.trans t6 (fun _ h => h) (fun x h => .inl (by simp at h; simp [h])), t6.keep hp1 (by simpa using hn1), fun _ => t6.keep (hp2 hq4) (by simpa using hn2), fun h => by rw [hq5] at h; cases h⟩, t6.two b2⟩
  · intro ρ wx L hρ hL hd hl hI
    have e0 : ρ (.tmp 0) = .pointer (some ⟨b1, 0, none⟩) := hρ.tmp 0 (by decide +kernel)
    have kk : wx.cell? ⟨b1, 0, none⟩ = some (.pointer (some ⟨g, 0, none⟩)) := by simpa using Lib.cell_of_heap hI.2.2.2.1 0
    refine f_val (v := .pointer (some ⟨g, 0, none⟩)) ?_ rfl (noI_keep (by decide) hI) (Touch.refl _ _)
    simp [execOp, go_sem, e0, kk]
  · intro ρ wx L hρ hL hd hl hI
    have e6 := hl 4 (by decide +kernel) 6 rfl
    replace e6 : ρ (.tmp 6) = .pointer (some ⟨g, 0, none⟩) := e6
    obtain ⟨ho, hr, ht, hp1, hp2, _⟩ := id hI
    obtain ⟨hq1, hq2, hq3, hq4, hq5⟩ := ordNo_5 s0 s1 s2 s3 s4 s5 ho hL (hd 3 (by decide +kernel))
    rw [hq2] at hr
    have hWB : B ≤ wx.heap.size := Nat.le_trans hB ht.size
    refine f_call (f := 37) (args := #[.pointer (some ⟨g, 0, none⟩)]) (by simp [execOp, resolve, invoke, hρ.func, go_sem, e6]) ?_
    refine (HC3.out wx hr hWB).mono ?_
    rintro e w6 ⟨rfl, h6, t6⟩
    exact ⟨_, rfl, rfl, ⟨hq1, by rw [hq3]; exact h6, ht.trans t6 (fun _ h => h) (fun x h => .inl (by simp at h; simp [h])), t6.keep hp1 (by simpa using hn1), fun _ => t6.keep (hp2 hq4) (by simpa using hn2), fun h => by rw [hq5] at h; cases h⟩, t6.two b2⟩
  · intro ρ wx L hρ hL hd hl hI
    have e0 : ρ (.tmp 0) = .pointer (some ⟨b1, 0, none⟩) := hρ.tmp 0 (by decide +kernel)
    have kk : wx.cell? ⟨b1, 0, none⟩ = some (.pointer (some ⟨g, 0, none⟩)) := by simpa using Lib.cell_of_heap hI.2.2.2.1 0
    refine f_val (v := .pointer (some ⟨g, 0, none⟩)) ?_ rfl (noI_keep (by decide) hI) (Touch.refl _ _)
    simp [execOp, go_sem, e0, kk]
  · intro ρ wx L hρ hL hd hl hI
    have e0 : ρ (.tmp 0) = .pointer (some ⟨b1, 0, none⟩) := hρ.tmp 0 (by decide +kernel)
    have kk : wx.cell? ⟨b1, 0, none⟩ = some (.pointer (some ⟨g, 0, none⟩)) := by simpa using Lib.cell_of_heap hI.2.2.2.1 0
    refine f_val (v := .pointer (some ⟨g, 0, none⟩)) ?_ rfl (noI_keep (by decide) hI) (Touch.refl _ _)
    simp [execOp, go_sem, e0, kk]
  · intro ρ wx L hρ hL hd hl hI
    have e9 := hl 7 (by decide +kernel) 9 rfl
    replace e9 : ρ (.tmp 9) = .pointer (some ⟨g, 0, none⟩) := e9
    refine f_val (v := .func (.func 99) #[.pointer (some ⟨g, 0, none⟩)] #[]) ?_ rfl (noI_keep (by decide) hI) (Touch.refl _ _)
    simp [execOp, go_sem, e9]
  · intro ρ wx L hρ hL hd hl hI
    have e8 := hl 6 (by decide +kernel) 8 rfl
    replace e8 : ρ (.tmp 8) = .pointer (some ⟨g, 0, none⟩) := e8
    have e10 := hl 8 (by decide +kernel) 10 rfl
    replace e10 : ρ (.tmp 10) = .func (.func 99) #[.pointer (some ⟨g, 0, none⟩)] #[] := e10
    obtain ⟨ho, hr, ht, hp1, hp2, _⟩ := id hI
    obtain ⟨hq1, hq2, hq3, hq4, hq5⟩ := ordNo_9 s0 s1 s2 s3 s4 s5 ho hL (hd 5 (by decide +kernel))
    rw [hq2] at hr
    have hWB : B ≤ wx.heap.size := Nat.le_trans hB ht.size
    refine f_call (f := 105) (args := #[.pointer (some ⟨g, 0, none⟩), .func (.func 99) #[.pointer (some ⟨g, 0, none⟩)] #[]]) (by simp [execOp, resolve, invoke, hρ.func, go_sem, e8, e10]) ?_
    refine (HC4.out wx hr hWB).mono ?_
    rintro e w6 ⟨v, rfl, o6, h6, t6⟩
    obtain ⟨sa, sc, rfl, _, _⟩ := (ownsRow.reads o6).le
    exact ⟨_, rfl, ⟨sa, sc, rfl, ownsRow_base o6 ht.size⟩, ⟨hq1, by rw [hq3]; exact h6, ht.trans t6 (fun _ h => h) (fun x h => .inl (by simp at h; simp [h])), t6.keep hp1 (by simpa using hn1), fun _ => t6.keep (hp2 hq4) (by simpa using hn2), fun h => by rw [hq5] at h; cases h⟩, t6.two b2⟩
  · intro ρ wx L hρ hL hd hl hI
    have e0 : ρ (.tmp 0) = .pointer (some ⟨b1, 0, none⟩) := hρ.tmp 0 (by decide +kernel)
    have kk : wx.cell? ⟨b1, 0, none⟩ = some (.pointer (some ⟨g, 0, none⟩)) := by simpa using Lib.cell_of_heap hI.2.2.2.1 0
    refine f_val (v := .pointer (some ⟨g, 0, none⟩)) ?_ rfl (noI_keep (by decide) hI) (Touch.refl _ _)
    simp [execOp, go_sem, e0, kk]
  · intro ρ wx L hρ hL hd hl hI
    have e0 : ρ (.tmp 0) = .pointer (some ⟨b1, 0, none⟩) := hρ.tmp 0 (by decide +kernel)
    have kk : wx.cell? ⟨b1, 0, none⟩ = some (.pointer (some ⟨g, 0, none⟩)) := by simpa using Lib.cell_of_heap hI.2.2.2.1 0
    refine f_val (v := .pointer (some ⟨g, 0, none⟩)) ?_ rfl (noI_keep (by decide) hI) (Touch.refl _ _)
    simp [execOp, go_sem, e0, kk]
  · intro ρ wx L hρ hL hd hl hI
    have e13 := hl 11 (by decide +kernel) 13 rfl
    replace e13 : ρ (.tmp 13) = .pointer (some ⟨g, 0, none⟩) := e13
    refine f_val (v := .func (.func 48) #[.pointer (some ⟨g, 0, none⟩)] #[]) ?_ rfl (noI_keep (by decide) hI) (Touch.refl _ _)
    simp [execOp, go_sem, e13]
  · intro ρ wx L hρ hL hd hl hI
    have e12 := hl 10 (by decide +kernel) 12 rfl
    replace e12 : ρ (.tmp 12) = .pointer (some ⟨g, 0, none⟩) := e12
    have e14 := hl 12 (by decide +kernel) 14 rfl
    replace e14 : ρ (.tmp 14) = .func (.func 48) #[.pointer (some ⟨g, 0, none⟩)] #[] := e14
    obtain ⟨ho, hr, ht, hp1, hp2, _⟩ := id hI
    obtain ⟨hq1, hq2, hq3, hq4, hq5⟩ := ordNo_13 s0 s1 s2 s3 s4 s5 ho hL (hd 9 (by decide +kernel))
    rw [hq2] at hr
    have hWB : B ≤ wx.heap.size := Nat.le_trans hB ht.size
    refine f_call (f := 106) (args := #[.pointer (some ⟨g, 0, none⟩), .func (.func 48) #[.pointer (some ⟨g, 0, none⟩)] #[]]) (by simp [execOp, resolve, invoke, hρ.func, go_sem, e12, e14]) ?_
    refine (HC5.out wx hr hWB).mono ?_
    rintro e w6 ⟨v, es, rfl, o6, hes, h6, t6⟩
    obtain ⟨a, cap, rfl, _, _⟩ := (ownsRow.reads o6.1).le
    exact ⟨_, rfl, ⟨a, es, cap, rfl, o6.base noE_keep ht.size, hes⟩, ⟨hq1, by rw [hq3]; exact h6, ht.trans t6 (fun _ h => h) (fun x h => .inl (by simp at h; simp [h])), t6.keep hp1 (by simpa using hn1), fun _ => t6.keep (hp2 hq4) (by simpa using hn2), fun h => by rw [hq5] at h; cases h⟩, t6.two b2⟩
  · intro ρ wx L hρ hL hd hl hI
    have e3 := hl 1 (by decide +kernel) 3 rfl
    replace e3 : ρ (.tmp 3) = .int .i64 x1 := e3
    have e5 := hl 3 (by decide +kernel) 5 rfl
    replace e5 : ρ (.tmp 5) = .agg #[.string x2a, .string x2b] := e5
    have e7 := hl 5 (by decide +kernel) 7 rfl
    replace e7 : ρ (.tmp 7) = .string x3 := e7
    have e11 := hl 9 (by decide +kernel) 11 rfl
    have e15 := hl 13 (by decide +kernel) 15 rfl
    obtain ⟨sa, sc, rfl_s, hs2⟩ := e11
    obtain ⟨a, es, cap, rfl_l, h3, h4⟩ := e15
    refine f_val (v := .agg #[.int .i64 x1, .string x2a, .string x2b, .string x3, .slice sa xs.length sc, .slice a es.length cap]) ?_ ⟨sa, sc, a, es, cap, rfl, rfl_l ▸ h3, h4, rfl_s ▸ hs2⟩ (noI_keep (by decide) hI) (Touch.refl _ _)
    simp [execOp, go_sem, e3, e5, e7, rfl_s, rfl_l]
  · intro ρ wx L hρ hL hd hl hI
    have e1 : ρ (.tmp 1) = .pointer (some ⟨b2, 0, none⟩) := hρ.tmp 1 (by decide +kernel)
    have e16 := hl 14 (by decide +kernel) 16 rfl
    obtain ⟨ho, hr, ht, hp1, hp2, _⟩ := id hI
    have e16N := e16
    obtain ⟨sa, sc, a, es, cap, hv, h3, h4, h5⟩ := e16
    have hb2 := hp2 hL
    have hs := setRow_heap wx b2 #[.int .i64 0, .string ⟨#[]⟩, .string ⟨#[]⟩, .string ⟨#[]⟩, .slice none 0 0, .slice none 0 0] #[.int .i64 x1, .string x2a, .string x2b, .string x3, .slice sa xs.length sc, .slice a es.length cap] 34 (0, 0) hb2
    have htr : Touch wx (wx.setRow b2 #[.int .i64 x1, .string x2a, .string x2b, .string x3, .slice sa xs.length sc, .slice a es.length cap]) [g, b2] := touch_row (Touch.refl wx _) (by simp) _
    rw [hv] at e16N
    refine f_store_row _ _ _ rfl b2 #[.int .i64 x1, .string x2a, .string x2b, .string x3, .slice sa xs.length sc, .slice a es.length cap] e1 hv _ _ hb2 (by kernel_rfl) rfl (by kernel_rfl) trivial ?_ htr
    refine ⟨?_, ?_, ht.same htr, (setRow_other _ _ _ _ hn12).trans hp1, (fun h => absurd ((show setL L 15 15 = true from setL_eq).symm.trans h) (by decide)), fun _ => ⟨_, hs, newNo_touch e16N htr hgl hbl⟩⟩
    · unfold OrdNo at ho ⊢
      rw [setL_ne (by decide : (1 : Nat) ≠ 15), setL_ne (by decide : (3 : Nat) ≠ 15), setL_ne (by decide : (5 : Nat) ≠ 15), setL_ne (by decide : (9 : Nat) ≠ 15), setL_ne (by decide : (13 : Nat) ≠ 15), setL_eq]
      exact ⟨ho.1, ho.2.1, ho.2.2.1, ho.2.2.2.1, fun _ => hd 13 (by decide +kernel)⟩
    · have : stNo s0 s1 s2 s3 s4 s5 (setL L 15) = stNo s0 s1 s2 s3 s4 s5 L := by unfold stNo; rw [setL_ne (by decide : (1 : Nat) ≠ 15), setL_ne (by decide : (3 : Nat) ≠ 15), setL_ne (by decide : (5 : Nat) ≠ 15), setL_ne (by decide : (9 : Nat) ≠ 15), setL_ne (by decide : (13 : Nat) ≠ 15)]
      rw [this]
      exact RAt.setRow hr hn2 hbB _
  · intro aa wz L hdef hsz hlk hL hI _
    have ha := act_of_like hdef hsz hlk [2, 3, 4, 5, 6, 7, 8, 9, 10, 11, 12, 13, 14, 15, 16] 17 rfl (by decide +kernel)
    simp only [putAll, List.foldl_cons, List.foldl_nil] at ha
    generalize aa.tmps.getD 2 undef = v2 at ha
    generalize aa.tmps.getD 3 undef = v3 at ha
    generalize aa.tmps.getD 4 undef = v4 at ha
    generalize aa.tmps.getD 5 undef = v5 at ha
    generalize aa.tmps.getD 6 undef = v6 at ha
    generalize aa.tmps.getD 7 undef = v7 at ha
    generalize aa.tmps.getD 8 undef = v8 at ha
    generalize aa.tmps.getD 9 undef = v9 at ha
    generalize aa.tmps.getD 10 undef = v10 at ha
    generalize aa.tmps.getD 11 undef = v11 at ha
    generalize aa.tmps.getD 12 undef = v12 at ha
    generalize aa.tmps.getD 13 undef = v13 at ha
    generalize aa.tmps.getD 14 undef = v14 at ha
    generalize aa.tmps.getD 15 undef = v15 at ha
    generalize aa.tmps.getD 16 undef = v16 at ha
    simp [Act.put] at ha
    subst ha
    obtain ⟨_, hr, ht, _, _, hp⟩ := hI
    obtain ⟨cs, hc, hN⟩ := hp (hL 15 (by decide))
    have hst : stNo s0 s1 s2 s3 s4 s5 L = s5 := by unfold stNo; rw [if_pos (hL 13 (by decide))]
    rw [hst] at hr
    have HRz := Lib.hid hr
    have HTz := Lib.hid ht
    have HCz := Lib.hid hc
    have HNz := Lib.hid hN
    clear hr ht hp hc hN hst hL hdef hsz hlk
    go_wp2
    go_end0
    exact ⟨rfl, cs, HCz.out, HNz.out, HRz.out, HTz.out⟩

end Go.Proofs.YtdonibkkdhokpaaGreat
