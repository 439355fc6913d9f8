/- Crash's own function: one byte of what is kept after the other. -/
import Derived.Test.YtbhapbioibhalaaDiskList
import Derived.Test.YtbhapbioibhalaaRowsUntil
namespace Go.Proofs.Ytbhapbioibhalaa
open Go Go.RowKit Go.Maps

def nextE (l : List UInt8) (n : Nat) : Nat := match l with
  | [] => 0
  | c :: _ => c.toNat % (n + 1)

/-- What stands in block K is a slice that reads l; its block is one of old. -/
def KAt (W : World) (K : Nat) (l : List UInt8) (o : Option Nat) : Prop := ∃ a cap, W.heap[K]? = some (.cells #[.slice a l.length cap] 29 (0, 0)) ∧ Reads W 1 (.slice a l.length cap) l.length (bcells l) ∧ (l ≠ [] → ∀ x, (Value.slice a l.length cap).ownBlock = some x → o = some x)

theorem reads_nil (W : World) {a : Option Addr} {n cap : Nat} (h1 : n ≤ cap) (h2 : cap ≤ maxLen) (h0 : n = 0) : Reads W 1 (.slice a n cap) n (bcells []) := by
  subst h0
  exact ⟨rfl, a, cap, rfl, h1, h2, fun j u hj => by simp [bcells] at hj⟩

theorem KAt.touch {W W' : World} {K : Nat} {l : List UInt8} {o : Option Nat} {bs : List Nat} (h : KAt W K l o) (t : Touch W W' bs) (hK : K ∉ bs) (ho : ∀ x, o = some x → x ∉ bs) : KAt W' K l o := by
  obtain ⟨a, cap, hk, hr, hb⟩ := h
  refine ⟨a, cap, t.keep hk hK, ?_, hb⟩
  cases l with
  | nil =>
    obtain ⟨_, _, hv, h1, h2⟩ := hr.le
    cases hv
    exact reads_nil _ h1 h2 rfl
  | cons c r => exact t.reads hr fun g hg => ho g (hb (List.cons_ne_nil _ _) g hg)

def NextPost (W : World) (K : Nat) (l : List UInt8) (o : Option Nat) (n : Nat) (e : Ending) (W' : World) : Prop :=
  e = .returned (.int .i64 (nextE l n : Int)) ∧ KAt W' K l.tail o ∧ Touch W W' [K]

set_option maxRecDepth 100000 in
set_option maxHeartbeats 1000000 in
theorem next_any (W : World) (K : Nat) (l : List UInt8) (o : Option Nat) (n : Nat) (h : KAt W K l o) (ho : o ≠ some K) (hn : n ≤ 1000000000) :
    Calls Try.prog 46 #[.int .i64 (n : Int), .pointer (some ⟨K, 0, none⟩)] W (NextPost W K l o n) := by
  obtain ⟨a, cap, hk, hr, hb⟩ := h
  have k0 := Lib.cell_of_heap hk 0
  have kf := Lib.frozen_of_heap hk
  simp at k0
  have hlt : K < W.heap.size := (Array.getElem?_eq_some_iff.1 hk).1
  have HK := Lib.hid hk
  have HB := Lib.hid hb
  have HR := Lib.hid hr
  obtain ⟨_, _, hv, hc1, hc2⟩ := hr.le
  cases hv
  unfold maxLen at hc2
  clear hk hr hb
  cases l with
  | nil =>
    go_enter Try.func46, Try.ntmps46
    go_wp2
    go_ret
    exact ⟨rfl, ⟨a, cap, HK.out, HR.out, HB.out⟩, Touch.refl _ _⟩
  | cons c r =>
    have hlen : (c :: r).length = r.length + 1 := rfl
    rw [hlen] at k0 hc1
    have HL := Lib.hid hlen
    obtain ⟨b, off, hva, hbl, k1⟩ := HR.out.at (j := 0) (u := .int .u8 (c.toNat : Int)) rfl
    subst hva
    have hdr := HR.out.rdrop 1 (by rw [hlen]; omega)
    rw [hlen] at hdr
    have hbe : (bcells (c :: r)).drop (1 * 1) = bcells r := rfl
    rw [hbe, Nat.add_sub_cancel] at hdr
    have HDr := Lib.hid hdr
    have hr1 : ¬ ((r.length : Int) + 1 = 0) := by omega
    have hr2 : (0 : Int) < (r.length : Int) + 1 := by omega
    have hcl : c.toNat < 256 := c.toNat_lt
    have hw1 : IntKind.i64.wrap ((c.toNat : Int)) = (c.toNat : Int) := by rw [IntKind.wrap_i64]; omega
    have hw2 : IntKind.i64.wrap ((n : Int) + 1) = (n : Int) + 1 := by rw [IntKind.wrap_i64]; omega
    have hn0 : ¬ ((n : Int) + 1 = 0) := by omega
    have k1 : W.cell? ⟨b, off, none⟩ = some (.int .u8 (c.toNat : Int)) := k1
    clear hlen hdr hbe
    have hnx : (nextE (c :: r) n : Int) = (c.toNat : Int) % ((n : Int) + 1) := by unfold nextE; simp
    have HNx := Lib.hid hnx
    clear hnx
    by_cases hc : cap = 1
    · subst hc
      have hr0 : r = [] := List.eq_nil_of_length_eq_zero (by omega)
      subst hr0
      simp only [behindS, if_true] at HDr
      go_enter Try.func46, Try.ntmps46
      go_wp2
      go_ret
      refine ⟨by rw [HNx.out]; rfl, ⟨some ⟨b, off, none⟩, 0, by rw [heap_setCell_same _ K 0 _ _ _ HK.out]; rfl, ((Touch.refl W [K]).setCell (.inl (by simp)) _).reads HDr.out (fun g hg e => ho (by have e' : g = K := (by simpa using e); rw [← e']; exact HB.out (List.cons_ne_nil _ _) g hg)), fun _ => HB.out (List.cons_ne_nil _ _)⟩, (Touch.refl W [K]).setCell (.inl (by simp)) _⟩
    · have hbh : behindS (some ⟨b, off, none⟩) 1 cap 1 = some ⟨b, off + 1, none⟩ := by simp [behindS, hc, Addr.add]
      rw [hbh] at HDr
      go_enter Try.func46, Try.ntmps46
      go_wp2
      go_ret
      refine ⟨by rw [HNx.out]; rfl, ⟨some ⟨b, off + 1, none⟩, cap - 1, by rw [heap_setCell_same _ K 0 _ _ _ HK.out]; rfl, ((Touch.refl W [K]).setCell (.inl (by simp)) _).reads HDr.out (fun g hg e => ho (by have e' : g = K := (by simpa using e); rw [← e']; exact HB.out (List.cons_ne_nil _ _) g hg)), fun _ => HB.out (List.cons_ne_nil _ _)⟩, (Touch.refl W [K]).setCell (.inl (by simp)) _⟩
end Go.Proofs.Ytbhapbioibhalaa
