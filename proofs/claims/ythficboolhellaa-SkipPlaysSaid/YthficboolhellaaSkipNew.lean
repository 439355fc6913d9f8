/- Towers: New, All, few. -/
import Derived.Test.YthficboolhellaaSkipPut
import Derived.Test.YthficboolhellaaAppendRows
import Derived.Lib.SliceRun
namespace Go.Proofs.Ythficboolhellaa
open Go Go.RowKit

/-- Bytes of a new block are handed back. -/
def GivesNew (w : World) (l : List UInt8) (e : Ending) (w' : World) : Prop :=
  ∃ v', e = .returned v' ∧ w'.ownsRow w.heap.size 5 1 v' l.length (bcells l) ∧ Below w.heap.size w w'

set_option maxRecDepth 100000 in
set_option maxHeartbeats 1000000 in
theorem clone_any (w : World) (x : Addr) (n cap : Nat) (l : List UInt8) (h : Reads w 1 (.slice (some x) n cap) n (bcells l)) (hn : n ≤ 1000000000) :
    Calls Try.prog 21 #[.slice (some x) n cap] w (GivesNew w l) := by
  obtain ⟨i0, hi, hz0, hz1, hz2⟩ := info_parts info5
  have hl : l.length = n := by have := h.1; simpa [bcells_length] using this
  have Hl := Lib.hid hl
  have HR := Lib.hid h
  have hsrc := Reads.src (P := Try.prog) (tx := 22) Try.underlying22 (h.alloc (.cells #[] 5)) (bcells_one l)
  have hf0 : (w.alloc (.cells #[] 5)).ownsRow w.heap.size 5 1 (.slice (some ⟨w.heap.size, 0, none⟩) 0 0) 0 [] := World.ownsRow_lit w #[] 0 (Nat.le_refl _) (Nat.zero_le _) rfl
  clear h hl
  have hnil := Lib.run_eql_slice_nil (P := Try.prog) w 22 5 (some x) n cap 0 0 Try.underlying22
  go_enter Try.func21, Try.ntmps21
  go_wp2_with (at_builtin; go_must (refine wpList_append_owns rfl _ _ 22 22 rfl w.heap.size 5 i0 (.int .u8 0) 1 1 Try.underlying22 hi hz0 hz1 hz2 rfl _ _ _ rfl hf0 _ _ _ rfl hsrc ?_ ?_ ?_ ?_))
  · unfold maxLen; omega
  · omega
  · simp
  intro v2 w2 f2 g2 b2 m2
  have b3 : Below w.heap.size w w2 := ((Below.refl _ _).alloc (Nat.le_refl _) _).trans b2
  have F2 := Lib.hid f2
  clear f2 m2
  go_wp2
  go_ret
  refine ⟨_, rfl, ?_, b3⟩
  have := F2.out
  simpa [Hl.out] using this

theorem clone_none (w : World) (n cap : Nat) : Calls Try.prog 21 #[.slice none n cap] w fun e w' => e = .returned (.slice none 0 0) ∧ w = w' := by
  have hnil := Lib.run_eql_slice_nil (P := Try.prog) w 22 5 none n cap 0 0 Try.underlying22
  go_enter Try.func21, Try.ntmps21
  go_wp2
  go_ret
  exact ⟨rfl, rfl⟩

def NewPost (w : World) (e : Ending) (w' : World) : Prop := ∃ (L : Nat) (kf : Nat → ByteArray) (ht : Nat → Nat), e = .returned (.pointer (some ⟨L, 0, none⟩)) ∧ SkL w' L [] kf ht [] ∧ Below w.heap.size w w' ∧ w.heap.size ≤ L

theorem new_done {w : World} {v : Value} (h : Draws w v) : SkL (w.alloc (.cells #[.string ⟨#[]⟩, .pointer none, .pointer none, .pointer none, .pointer none, .pointer none, .pointer none, .pointer none, .pointer none, v, .int .i64 0, .int .i64 0] 48)) w.heap.size [] (fun _ => ⟨#[]⟩) (fun _ => 1) [] := by
  have hc := heap_alloc_new w (.cells #[.string ⟨#[]⟩, .pointer none, .pointer none, .pointer none, .pointer none, .pointer none, .pointer none, .pointer none, .pointer none, v, .int .i64 0, .int .i64 0] 48)
  have hb : Below w.heap.size w (w.alloc (.cells #[.string ⟨#[]⟩, .pointer none, .pointer none, .pointer none, .pointer none, .pointer none, .pointer none, .pointer none, .pointer none, v, .int .i64 0, .int .i64 0] 48)) := (Below.refl _ _).alloc (Nat.le_refl _) _
  refine ⟨⟨by simp, ⟨_, hc, rfl⟩, fun b hb => by simp at hb, fun b hb => by simp at hb, fun f hf i x hx => ?_, fun b hb => by simp at hb⟩, rfl, rises_nil, ⟨v, by rw [Lib.cell_of_heap hc 9]; rfl, bytes_of_draws h (fun g cs fz hg => (hb.block g (Array.getElem?_eq_some_iff.1 hg).1).trans hg) hb.size⟩, by rw [Lib.cell_of_heap hc 10]; rfl, by rw [Lib.cell_of_heap hc 11]; rfl⟩
  have hi : i = 0 := by
    have := (List.getElem?_eq_some_iff.1 hx).1
    simp [fl] at this
    omega
  subst hi
  simp at hx
  subst hx
  rw [Lib.cell_of_heap hc (1 + f)]
  match f, hf with
  | 0, _ | 1, _ | 2, _ | 3, _ | 4, _ | 5, _ | 6, _ | 7, _ => rfl

theorem draws_none (w : World) : Draws w (.slice none 0 0) := ⟨none, 0, 0, [], rfl, ⟨rfl, _, _, rfl, Nat.le_refl _, Nat.zero_le _, fun j u h => by simp [bcells] at h⟩, fun g hg => by simp [Value.ownBlock] at hg⟩

theorem draws_owns {w : World} {B : Nat} {v : Value} {l : List UInt8} (h : w.ownsRow B 5 1 v l.length (bcells l)) : Draws w v := by
  obtain ⟨a, cap, rfl, h1, h2⟩ := (ownsRow.reads h).le
  refine ⟨a, _, cap, l, rfl, ownsRow.reads h, fun g hg => ?_⟩
  rcases h.2 with ⟨h0, _⟩ | ⟨b, c, cur, hv, _, hh, _⟩
  · rw [h0] at hg
    simp [Value.ownBlock] at hg
  · rw [hv] at hg
    simp [Value.ownBlock] at hg
    subst hg
    exact ⟨_, _, hh⟩

set_option maxRecDepth 100000 in
set_option maxHeartbeats 1000000 in
theorem new_any (w : World) (a : Option Addr) (n cap : Nat) (l : List UInt8) (h : Reads w 1 (.slice a n cap) n (bcells l)) (hn : n ≤ 1000) :
    Calls Try.prog 9 #[.slice a n cap] w (NewPost w) := by
  cases a with
  | none =>
    have HC := Lib.hid (clone_none w n cap)
    go_enter Try.func9, Try.ntmps9
    go_wp2_with (go_at_call 21; go_must (refine HC.out.mono ?_))
    rintro e w1 ⟨rfl, rfl⟩
    have HD := Lib.hid (new_done (draws_none w))
    go_wp2
    go_ret
    exact ⟨_, _, _, rfl, HD.out, (Below.refl _ _).alloc (Nat.le_refl _) _, Nat.le_refl _⟩
  | some x =>
    have HC := Lib.hid (clone_any w x n cap l h (by omega))
    clear h
    go_enter Try.func9, Try.ntmps9
    go_wp2_with (go_at_call 21; go_must (refine HC.out.mono ?_))
    rintro e w1 ⟨v, rfl, o1, b1⟩
    obtain ⟨va, vcap, rfl, _, _⟩ := (ownsRow.reads o1).le
    have HD := Lib.hid (new_done (draws_owns o1))
    have HB := Lib.hid b1
    clear o1 b1 HC
    go_wp2
    go_ret
    exact ⟨_, _, _, rfl, HD.out, HB.out.alloc HB.out.size _, HB.out.size⟩

def low11 (k : ByteArray) : Bool := decide (k.size ≤ 200)
def few11 (l : List ByteArray) : Bool := l.all low11 && decide (l.length ≤ 200)

def Few11Rel (l : List ByteArray) (v : Value) : Prop := ∃ k : Nat, v = .int .i64 (k : Int) ∧ k ≤ l.length ∧ (l.take k).all low11 = true

set_option maxRecDepth 100000 in
set_option maxHeartbeats 1000000 in
theorem few11_any (w : World) (a : Option Addr) (n cap : Nat) (l : List ByteArray) (h : Reads w 1 (.slice a n cap) n (scells l)) :
    Calls Try.prog 8 #[.slice a n cap] w fun e w' => e = .returned (.bool (few11 l)) ∧ w = w' := by
  have hll : l.length = n := by have := h.1; rw [scells_length] at this; omega
  have HR := Lib.hid h
  have HL := Lib.hid hll
  obtain ⟨_, _, hv, hc1, hc2⟩ := h.le
  cases hv
  unfold maxLen at hc2
  clear h hll
  go_enter Try.func8, Try.ntmps8
  go_wp2
  go_loop [7] (fun v => Few11Rel l v) (fun v => n - (intOf v).toNat)
  case atStart => exact ⟨0, rfl, Nat.zero_le _, rfl⟩
  case round =>
    obtain ⟨k, rfl, hk, hall⟩ := hrel
    rw [HL.out] at hk
    have HA := Lib.hid hall
    clear hall
    by_cases hlt : k < n
    · have hkI : (k : Int) < n := by omega
      obtain ⟨b, off, x, rfl, hx, hbb, hcc⟩ := HR.out.scell k hlt
      by_cases hxs : x.size ≤ 200
      · have hxI : ¬ (200 : Int) < x.size := by omega
        have HG := Lib.hid (show (l.take (k + 1)).all low11 = true by
          rw [List.take_add_one, hx, List.all_append, HA.out]
          simp [low11, hxs])
        clear hx
        go_wp2
        exact ⟨⟨k + 1, by go_num, by rw [HL.out]; omega, HG.out⟩, by simp [intOf]; omega⟩
      · have hxI : (200 : Int) < x.size := by omega
        have HG := Lib.hid (show few11 l = false by
          unfold few11
          have : l.all low11 = false := by
            rw [List.all_eq_false]
            exact ⟨x, List.mem_of_getElem? hx, by simp [low11, hxs]⟩
          rw [this]
          rfl)
        clear hx
        go_wp2
        go_ret
        exact ⟨by rw [HG.out]; rfl, rfl⟩
    · obtain rfl : k = n := by omega
      have hkI : ¬ ((k : Int) < k) := by omega
      have HG := Lib.hid (show few11 l = decide (k ≤ 200) by
        have h1 := HA.out
        rw [List.take_of_length_le (by rw [HL.out]; omega)] at h1
        unfold few11
        rw [h1, HL.out]
        rfl)
      by_cases hn : k ≤ 200
      · have hnI : (k : Int) ≤ 200 := by omega
        go_wp2
        go_ret
        exact ⟨by rw [HG.out, decide_eq_true hn]; simp, rfl⟩
      · have hnI : ¬ (k : Int) ≤ 200 := by omega
        go_wp2
        go_ret
        exact ⟨by rw [HG.out, decide_eq_false hn]; simp, rfl⟩
end Go.Proofs.Ythficboolhellaa
