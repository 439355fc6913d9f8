/- The reader's beginning. -/
import Derived.Test.YtdonibkkdhokpaaGreatZWireRs
import Derived.Test.YtdonibkkdhokpaaGreatMga
namespace Go.Proofs.YtdonibkkdhokpaaGreat
open Go Go.RowKit

def starts2 (p l : List UInt8) : Bool := decide (l.take 2 = p)

set_option maxRecDepth 100000 in
set_option maxHeartbeats 1000000 in
theorem hasprefix2_any (w : World) (u v : Value) (l p : List UInt8) (hp : p.length = 2) (hx : Reads w 1 u l.length (bcells l)) (hy : Reads w 1 v 2 (bcells p)) :
    Calls Tryz.prog 112 #[u, v] w (SameB w (starts2 p l)) := by
  obtain ⟨b2, o2, cap2, rfl, _⟩ := hy.head (by decide)
  by_cases h2 : 2 ≤ l.length
  · have h2I : (2 : Int) ≤ (l.length : Int) := by omega
    obtain ⟨a, cap, rfl, hc1, hc2, ht⟩ := hx.take 2 h2
    obtain ⟨b, off, cap', hv, _⟩ := hx.head (by omega)
    cases hv
    unfold maxLen at hc2
    have hE := equal_any w _ _ (l.take 2) p (by rw [show (l.take 2).length = 2 by rw [List.length_take]; omega]; exact ht) (by rw [hp]; exact hy)
    unfold starts2
    generalize decide (l.take 2 = p) = q at *
    have HE := Lib.hid hE
    clear hx hy ht hE
    go_enter Tryz.func112, Tryz.ntmps112
    go_wp2_with (go_at_call 115; go_must (refine HE.out.mono ?_))
    rintro e w1 ⟨rfl, rfl⟩
    go_wp2
    go_ret
    exact ⟨rfl, rfl⟩
  · have h2I : ¬ (2 : Int) ≤ (l.length : Int) := by omega
    have hf : starts2 p l = false := by
      unfold starts2
      rw [decide_eq_false_iff_not]
      intro h
      have := congrArg List.length h
      rw [List.length_take, hp] at this
      omega
    rw [hf]
    obtain ⟨a, cap, rfl, hc1, hc2⟩ := hx.le
    clear hx hy hf
    go_enter Tryz.func112, Tryz.ntmps112
    go_wp2
    go_ret
    exact ⟨rfl, rfl⟩

def CutPost (w : World) (v : Value) (b : Bool) (e : Ending) (w' : World) : Prop := e = .returned (.tuple #[v, .bool b]) ∧ w = w'

set_option maxRecDepth 100000 in
set_option maxHeartbeats 1000000 in
theorem cutprefix2_any (w : World) (B : Nat) (u v : Value) (l p : List UInt8) (hp : p.length = 2) (hx : Sl B w u l) (hy : Reads w 1 v 2 (bcells p)) :
    Calls Tryz.prog 95 #[u, v] w (CutPost w (if starts2 p l = true then cutV u 2 else u) (starts2 p l)) := by
  have hH := hasprefix2_any w u v l p hp hx.reads hy
  obtain ⟨b2, o2, cap2, rfl, _⟩ := hy.head (by decide)
  cases hst : starts2 p l with
  | false =>
    rw [hst] at hH
    have HH := Lib.hid hH
    obtain ⟨a, cap, rfl, hc1, hc2⟩ := hx.reads.le
    clear hx hy hH hst
    show Calls _ _ _ _ (CutPost w (.slice a l.length cap) false)
    go_enter Tryz.func95, Tryz.ntmps95
    go_wp2_with (go_at_call 112; go_must (refine HH.out.mono ?_))
    rintro e w1 ⟨rfl, rfl⟩
    go_wp2
    go_ret2
    exact ⟨rfl, rfl⟩
  | true =>
    have h2 : 2 ≤ l.length := by
      unfold starts2 at hst
      have := congrArg List.length (of_decide_eq_true hst)
      rw [List.length_take, hp] at this
      omega
    have h2I : (2 : Int) ≤ (l.length : Int) := by omega
    rw [hst] at hH
    have HH := Lib.hid hH
    obtain ⟨a, cap, rfl, hc1, hc2⟩ := hx.reads.le
    obtain ⟨b, off, cap', hv, _⟩ := hx.reads.head (by omega)
    cases hv
    unfold maxLen at hc2
    clear hx hy hH hst
    show Calls _ _ _ _ (CutPost w (cutV (.slice (some ⟨b, off, none⟩) l.length cap) 2) true)
    rw [cutV_some]
    have e1 : ((l.length - 2 : Nat) : Int) = (l.length : Int) - 2 := by omega
    have e2 : ((cap - 2 : Nat) : Int) = (cap : Int) - 2 := by omega
    have e0 : (2 : Int) ≤ (cap : Int) := by omega
    by_cases hck : cap = 2
    · subst hck
      have hl2 : l.length = 2 := by omega
      rw [if_pos rfl]
      rw [hl2] at HH ⊢
      go_enter Tryz.func95, Tryz.ntmps95
      go_wp2_with (go_at_call 112; go_must (refine HH.out.mono ?_))
      rintro e w1 ⟨rfl, rfl⟩
      go_wp2
      go_ret2
      exact ⟨rfl, rfl⟩
    · rw [if_neg hck]
      have hckI : ¬ (cap : Int) = 2 := by omega
      go_enter Tryz.func95, Tryz.ntmps95
      go_wp2_with (go_at_call 112; go_must (refine HH.out.mono ?_))
      rintro e w1 ⟨rfl, rfl⟩
      go_wp2
      go_ret2
      exact ⟨rfl, rfl⟩

def BeginPost (B : Nat) (w : World) (l : List UInt8) (b : Bool) (e : Ending) (w' : World) : Prop :=
  ∃ g, e = .returned (.pointer (some ⟨g, 0, none⟩)) ∧ RAt B w' g l 0 b ∧ Below w.heap.size w w' ∧ w.heap.size ≤ g

set_option maxRecDepth 100000 in
set_option maxHeartbeats 1000000 in
theorem begin_any (w : World) (B : Nat) (u : Value) (l : List UInt8) (s : ByteArray) (hs : s.size = 2) (hx : Sl B w u l) (hB : B ≤ w.heap.size) :
    Calls Tryz.prog 34 #[u, .string s] w (BeginPost B w (if starts2 s.data.toList l = true then l.drop 2 else l) (!starts2 s.data.toList l)) := by
  have hp : s.data.toList.length = 2 := by rw [Array.length_toList]; exact hs
  obtain ⟨a, cap, hu, hc1, hc2⟩ := hx.reads.le
  obtain ⟨z, hz⟩ : ∃ z, (if starts2 s.data.toList l = true then cutV u 2 else u) = z := ⟨_, rfl⟩
  have hzs : ∀ W, Below w.heap.size w W → Sl B W z (if starts2 s.data.toList l = true then l.drop 2 else l) := fun W hW => by
    have hx' := hx.below (hW.mono hB)
    cases hst : starts2 s.data.toList l with
    | false =>
      rw [hst] at hz
      rw [← hz]
      exact hx'
    | true =>
      have h2 : 2 ≤ l.length := by
        unfold starts2 at hst
        have := congrArg List.length (of_decide_eq_true hst)
        rw [List.length_take, hp] at this
        omega
      rw [hst] at hz
      rw [← hz]
      exact hx'.cut h2
  have hcp := fun (W : World) (v : Value) (hW : Below w.heap.size w W) (hv : Reads W 1 v 2 (bcells s.data.toList)) => cutprefix2_any W B u v l s.data.toList hp (hx.below (hW.mono hB)) hv
  rw [hz] at hcp
  generalize (if starts2 s.data.toList l = true then l.drop 2 else l) = L at *
  generalize starts2 s.data.toList l = q at *
  obtain ⟨za, zn, zc, rfl⟩ : ∃ za zn zc, z = .slice za zn zc := by
    obtain ⟨za, zc, h, _⟩ := (hzs w (Below.refl _ _)).reads.le
    exact ⟨za, _, zc, h⟩
  subst hu
  have HZ := Lib.hid hzs
  have HC := Lib.hid hcp
  clear hzs hcp hx hz
  go_enter Tryz.func34, Tryz.ntmps34
  go_wp2_with (refine wpList_bytes rfl _ 9 39 5 rfl Tryz.underlying9 Tryz.underlying39 Tryz.underlying5 s rfl ?_ ?_)
  · rw [hs]; decide
  intro cap1 w1 hr1 hgr1 hb1 hlt1

  have HC1 := Lib.hid (HC.out w1 _ hb1 hr1)
  have HB1 := Lib.hid hb1
  clear hr1 hgr1 hb1 HC
  go_wp2_with (go_at_call 95; go_must (refine HC1.out.mono ?_))
  rintro e w2 ⟨rfl, rfl⟩
  go_wp2
  go_ret
  refine ⟨_, rfl, ⟨_, heap_alloc_new _ _, ?_, Nat.le_trans hB (Nat.le_of_lt hlt1)⟩, ?_, Nat.le_of_lt hlt1⟩
  · exact HZ.out _ (HB1.out.alloc HB1.out.size _)
  · exact HB1.out.alloc HB1.out.size _
end Go.Proofs.YtdonibkkdhokpaaGreat
