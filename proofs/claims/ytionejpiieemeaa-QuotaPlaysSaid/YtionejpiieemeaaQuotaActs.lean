import Derived.Test.YtionejpiieemeaaQuotaNilWalk
import Derived.Test.YtionejpiieemeaaRowsIn
namespace Go.Proofs.Ytionejpiieemeaa
open Go Go.RowKit Go.ChangeShapes Go.WideShapes Go.Deep

structure QAct where
  (ask : Bool) (c : ByteArray) (n now : Nat)

def QAct.fits (x : QAct) : Prop := x.c.size ≤ 9223372036854775807 ∧ x.n ≤ 18446744073709551615 ∧ x.now ≤ 18446744073709551615

def QAct.cells (x : QAct) : Array Value := #[.bool x.ask, .string x.c, .int .u64 (x.n : Int), .int .u64 (x.now : Int)]

/-- A row of acts. -/
def ActsAt (w : World) (a : Option Addr) (len : Nat) (l : List QAct) : Prop :=
  l.length = len ∧ ∀ (i : Nat) (x : QAct), l[i]? = some x → x.fits ∧ ∃ g off, a = some ⟨g, off, none⟩ ∧ g < w.heap.size ∧
    ∀ j, j < 4 → w.cell? ⟨g, off + i * 4 + j, none⟩ = x.cells[j]?

theorem ActsAt.touch {w w' : World} {a : Option Addr} {len : Nat} {l : List QAct} (h : ActsAt w a len l) (hb : Below w.heap.size w w') : ActsAt w' a len l := by
  refine ⟨h.1, fun i x hx => ?_⟩
  obtain ⟨hf, g, off, ha, hg, hc⟩ := h.2 i x hx
  refine ⟨hf, g, off, ha, Nat.lt_of_lt_of_le hg hb.size, fun j hj => ?_⟩
  rw [← hc j hj]
  exact hb.cell (p := ⟨g, off + i * 4 + j, none⟩) hg

section
variable {H : Type} {enc : TypeId × Value → H} {w : World} {base : Nat} {spare : Nat → Bool} {held : Bool}

theorem acts_of (n : Nat) : ∀ (f : ∀ i, i < n → QAct), ∃ l : List QAct, l.length = n ∧ ∀ i x, l[i]? = some x → ∃ h : i < n, x = f i h := by
  induction n with
  | zero => exact fun f => ⟨[], rfl, fun i x h => by simp at h⟩
  | succ n ih =>
    intro f
    obtain ⟨l, hl, hi⟩ := ih (fun i h => f i (by omega))
    refine ⟨l ++ [f n (by omega)], by simp [hl], fun i x hx => ?_⟩
    by_cases hin : i < l.length
    · rw [List.getElem?_append_left hin] at hx
      obtain ⟨h, rfl⟩ := hi i x hx
      exact ⟨by omega, rfl⟩
    · rw [List.getElem?_append_right (by omega)] at hx
      have h0 : i - l.length = 0 := by
        have := (List.getElem?_eq_some_iff.1 hx).1
        simpa using this
      rw [h0] at hx
      have : i = n := by omega
      subst this
      simp at hx
      exact ⟨by omega, hx.symm⟩

theorem acts_open {r : Reach} {b0 : Nat} {v : Value} {d : DataW H} {p : List MemPlace}
    (hv : Value.okWide Try.prog w r b0 23 v) (h : DataW.Trod enc Try.prog w base spare held 23 v d p) :
    ∃ a len cap l, v = .slice a len cap ∧ len ≤ cap ∧ cap ≤ maxLen ∧ ActsAt w a len l := by
  obtain ⟨a, len, cap, rfl, hl, hm, hi⟩ := rows_open Try.underlying23 Try.underlying31 (by decide) (by kernel_rfl) (by kernel_rfl) hv h
  have hex : ∀ i, i < len → ∃ x : QAct, x.fits ∧ ∃ g off, a = some ⟨g, off, none⟩ ∧ g < w.heap.size ∧ ∀ j, j < 4 → w.cell? ⟨g, off + i * 4 + j, none⟩ = x.cells[j]? := by
    intro i h
    obtain ⟨g, off, rfl, hg, hf⟩ := hi i h
    obtain ⟨u0, k0, y0, c0, t0⟩ := hf 0 _ rfl
    obtain ⟨u1, k1, y1, c1, t1⟩ := hf 1 _ rfl
    obtain ⟨u2, k2, y2, c2, t2⟩ := hf 2 _ rfl
    obtain ⟨u3, k3, y3, c3, t3⟩ := hf 3 _ rfl
    obtain ⟨b, e0, _⟩ := DataW.trod_bool Try.underlying4 t0
    obtain ⟨s, e1, _, hs⟩ := DataW.trod_string Try.underlying9 t1
    obtain ⟨z2, e2, _, w2⟩ := DataW.trod_int Try.underlying22 t2
    obtain ⟨z3, e3, _, w3⟩ := DataW.trod_int Try.underlying22 t3
    simp at e0 e1 e2 e3
    subst e0 e1 e2 e3
    have bd2 : 0 ≤ z2 ∧ z2 ≤ 18446744073709551615 := by simpa [Lit.wf, IntKind.min, IntKind.max, IntKind.signed, IntKind.bits] using w2
    have bd3 : 0 ≤ z3 ∧ z3 ≤ 18446744073709551615 := by simpa [Lit.wf, IntKind.min, IntKind.max, IntKind.signed, IntKind.bits] using w3
    obtain ⟨m2, rfl⟩ := Int.eq_ofNat_of_zero_le bd2.1
    obtain ⟨m3, rfl⟩ := Int.eq_ofNat_of_zero_le bd3.1
    refine ⟨⟨b, s, m2, m3⟩, ⟨by simpa [maxLen] using hs, by show m2 ≤ _; omega, by show m3 ≤ _; omega⟩, g, off, rfl, hg, fun j hj => ?_⟩
    have : j = 0 ∨ j = 1 ∨ j = 2 ∨ j = 3 := by omega
    rw [Nat.add_assoc]
    rcases this with rfl | rfl | rfl | rfl <;> assumption
  obtain ⟨l, hll, hx⟩ := acts_of len (fun i h => (hex i h).choose)
  refine ⟨a, len, cap, l, rfl, hl, hm, hll, fun i x hi' => ?_⟩
  obtain ⟨h, rfl⟩ := hx i x hi'
  exact (hex i h).choose_spec
end

/-- Are they few and short? -/
def fewB (l : List QAct) : Bool := l.all (fun x => decide (x.c.size ≤ 100)) && decide (l.length ≤ 80)

def FewRel (w : World) (l : List QAct) (i : Value) (wr : World) : Prop :=
  ∃ k : Nat, i = .int .i64 (k : Int) ∧ k ≤ l.length ∧ (l.take k).all (fun x => decide (x.c.size ≤ 100)) = true ∧ Below w.heap.size w wr

theorem take_succ_all {α : Type} {l : List α} {k : Nat} {x : α} (p : α → Bool) (h : l[k]? = some x) : (l.take (k + 1)).all p = ((l.take k).all p && p x) := by
  rw [List.take_add_one, List.all_append, h]; simp

set_option maxRecDepth 100000 in
set_option maxHeartbeats 1000000 in
theorem few_any (w : World) (a : Option Addr) (len cap : Nat) (l : List QAct) (h : ActsAt w a len l) (hl : len ≤ 9223372036854775807) :
    Calls Try.prog 8 #[.slice a len cap] w (GivesBool w (fewB l)) := by
  have hlen := h.1
  have HA := Lib.hid h
  have HL := Lib.hid hlen
  clear h hlen
  go_enter Try.func8, Try.ntmps8
  go_wp2
  go_loopw [7] (fun i wr => FewRel w l i wr) (fun i _ => len - (intOf i).toNat)
  case atStart => exact ⟨0, rfl, Nat.zero_le _, rfl, Below.refl _ _⟩
  case round =>
    obtain ⟨k, rfl, hk, hall, hb⟩ := hrel
    rw [HL.out] at hk
    have HB := Lib.hid hb
    have HAl := Lib.hid hall
    clear hb hall
    by_cases hlt : k < len
    · have hx : l[k]? = some (l[k]'(by rw [HL.out]; exact hlt)) := List.getElem?_eq_getElem _
      generalize l[k]'(by rw [HL.out]; exact hlt) = x at hx
      have hsucc := take_succ_all (fun x => decide (x.c.size ≤ 100)) hx
      rw [HAl.out] at hsucc
      have hno : decide (x.c.size ≤ 100) = false → fewB l = false := by
        intro h
        unfold fewB
        have : l.all (fun x => decide (x.c.size ≤ 100)) = false := List.all_eq_false.2 ⟨x, List.mem_of_getElem? hx, by rw [h]; decide⟩
        rw [this]; rfl
      obtain ⟨hf, g, off, rfl, hg, hc⟩ := (HA.out.touch HB.out).2 k x hx
      obtain ⟨q, c, n0, t0⟩ := x
      have c0 : wr.cell? ⟨g, off + k * 4, none⟩ = some (.bool q) := hc 0 (by decide)
      have c1 : wr.cell? ⟨g, off + k * 4 + 1, none⟩ = some (.string c) := hc 1 (by decide)
      have c2 : wr.cell? ⟨g, off + k * 4 + 2, none⟩ = some (.int .u64 (n0 : Int)) := hc 2 (by decide)
      have c3 : wr.cell? ⟨g, off + k * 4 + 3, none⟩ = some (.int .u64 (t0 : Int)) := hc 3 (by decide)
      simp only at hsucc hno
      have HS := Lib.hid hsucc
      have HN := Lib.hid hno
      have hcs := hf.1
      simp only at hcs
      clear hsucc hno hf hx hc HAl
      by_cases h100 : c.size ≤ 100
      · have HH := Lib.hid h100
        rw [decide_eq_true h100] at HS
        clear HN
        go_wp2
        refine ⟨⟨k + 1, by go_num, by rw [HL.out]; omega, ?_, HB.out.alloc HB.out.size _⟩, by simp [intOf]; omega⟩
        rw [HS.out]; rfl
      · have h100' : 100 < c.size := by omega
        rw [decide_eq_false h100] at HN
        clear HS h100
        go_wp2
        go_ret
        rw [HN.out (by trivial)]
        exact ⟨rfl, HB.out.alloc HB.out.size _⟩
    · have hfb : fewB l = decide ((len : Int) ≤ 80) := by
        unfold fewB
        have : l.take k = l := List.take_of_length_le (by rw [HL.out]; omega)
        rw [← this, HAl.out, this, HL.out, Bool.true_and]
        exact decide_eq_decide.2 (by omega)
      have HF := Lib.hid hfb
      clear hfb HAl
      obtain rfl : k = len := by omega
      clear hlt hk
      go_wp2
      go_ret
      rw [HF.out]
      exact ⟨rfl, HB.out⟩
end Go.Proofs.Ytionejpiieemeaa
