import Derived.Test.YtodjgdaaggajcaaBloomHasWalk
import Derived.Test.YtodjgdaaggajcaaBloomRefMake
import Derived.Test.YtodjgdaaggajcaaDrawn
namespace Go.Proofs.Ytodjgdaaggajcaa
open Go Go.RowKit

def MksRel (w1 : World) (n : Nat) (c : Value) (wr : World) : Prop := ∃ j : Nat, c = .int .i64 (j : Int) ∧ j ≤ n ∧ Below w1.heap.size w1 wr

set_option maxRecDepth 100000 in
set_option maxHeartbeats 1000000 in
theorem bloomMakes_walk (w : World) (a : Option Addr) (n cap : Nat) (ks : List ByteArray) (B : Int) (h : Reads w 1 (.slice a n cap) n (scells ks)) (hB : -9223372036854775808 ≤ B ∧ B ≤ 9223372036854775807) :
    Calls Try.prog 6 #[.slice a n cap, .int .i64 B] w (SaysTrue w) := by
  obtain ⟨_, _, hv, h1, h2⟩ := h.le
  cases hv
  unfold maxLen at h2
  have hl : ks.length = n := by have := h.1; simpa [scells] using this
  cases hfew : fewL ks with
  | false =>
    have Hf := Lib.hid hfew
    clear hfew hl
    go_enter Try.func6, Try.ntmps6
    go_wp2_with (go_at_call 7; go_must (refine (bloom_fixed w).mono ?_))
    rintro e w1 ⟨rfl, b1⟩
    go_wp2_with (go_at_call 8; go_must (refine (few_any w1 _ n ks (h.below' b1)).mono ?_))
    rintro e w2 ⟨rfl, rfl⟩
    rw [Hf.out]
    go_wp2
    go_ret
    exact ⟨rfl, b1⟩
  | true =>
    obtain ⟨hn, hk⟩ := fewL_true hfew
    have Hf := Lib.hid hfew
    have Hl := Lib.hid hl
    have Hk := Lib.hid hk
    rw [hl] at hn
    clear hfew hl hk
    go_enter Try.func6, Try.ntmps6
    go_wp2_with (go_at_call 7; go_must (refine (bloom_fixed w).mono ?_))
    rintro e w1 ⟨rfl, b1⟩
    have r1 := h.below' b1
    go_wp2_with (go_at_call 8; go_must (refine (few_any w1 _ n ks r1).mono ?_))
    rintro e w2 ⟨rfl, rfl⟩
    rw [Hf.out]
    have HR1 := Lib.hid r1
    have B1 := Lib.hid b1
    clear r1 b1 h
    go_wp2
    go_loopw [14] (fun c wr => MksRel w1 n c wr) (fun c _ => n - (intOf c).toNat)
    case atStart => exact ⟨0, rfl, Nat.zero_le _, Below.refl _ _⟩
    case round =>
      obtain ⟨j, rfl, hj, hb⟩ := hrel
      have hr := HR1.out.below' hb
      have HR := Lib.hid hr
      have hb9 : Below w.heap.size w wr := B1.out.trans (hb.mono B1.out.size)
      have HB9 := Lib.hid hb9
      clear hr hb9
      by_cases hlt : j < n
      · have hlt' : (j : Int) < n := by omega
        obtain ⟨b, off, s, rfl, hs, hbs, hcs⟩ := HR.out.scell j hlt
        have hss := Hk.out s (List.mem_of_getElem? hs)
        have HB := Lib.hid hb
        clear hs hb
        go_wp2_with (go_at_call 12; go_must (refine (hash_any wr s (by omega)).mono ?_))
        rintro e w5 ⟨rfl, b5⟩
        go_wp2_with (go_at_call 13; go_must (refine (refhash_any w5 s (by omega)).mono ?_))
        rintro e w6 ⟨rfl, rfl⟩
        have hb5 := HB.out.trans (b5.mono HB.out.size)
        generalize hashL s.data.toList = q
        clear b5
        have hq : ((q : Int) != q) = false := by simp
        go_wp2
        exact ⟨⟨j + 1, by go_num, by omega, hb5⟩, by simp [intOf]; omega⟩
      · obtain rfl : n = j := by omega
        have hlt' : ¬ ((n : Int) < n) := by omega
        clear hb
        obtain ⟨L, hL⟩ : ∃ L, makeL (ks.map fun k => k.data.toList) B = L := ⟨_, rfl⟩
        have HL := Lib.hid hL
        clear hL
        go_wp2_with fail
        refine wp_region_all (by kernel_rfl) [eqF (.slice a n cap), eqF (.int .i64 B), bytesF L, eqF (.string ⟨L.toArray⟩), eqF (.slice a n cap), eqF (.int .i64 B), bytesF L, eqF (.string ⟨L.toArray⟩), eqF (.bool true), eqF (.bool true)] (by kernel_rfl) ⟨?_, ?_, ?_, ?_, ?_, ?_, ?_, ?_, ?_, ?_, trivial⟩ ⟨trivial, trivial, trivial, trivial, trivial, trivial, trivial, trivial, trivial, trivial, trivial⟩ ?_
        · intro ρ wx hρ hbx hl
          have e0 : ρ (.tmp 0) = .slice a n cap := hρ.tmp 0 (by decide +kernel)
          refine y_val (v := .slice a n cap) ?_ rfl
          simp [execOp, go_sem, e0]
        · intro ρ wx hρ hbx hl
          have e1 : ρ (.tmp 1) = .int .i64 B := hρ.tmp 1 (by decide +kernel)
          refine y_val (v := .int .i64 B) ?_ rfl
          simp [execOp, go_sem, e1]
        · intro ρ wx hρ hbx hl
          have e24 : ρ (.tmp 24) = .slice a n cap := hl 0 (by decide +kernel) 24 rfl
          have e25 : ρ (.tmp 25) = .int .i64 B := hl 1 (by decide +kernel) 25 rfl
          refine y_call (f := 9) (args := #[.slice a n cap, .int .i64 B]) (by simp [execOp, resolve, invoke, hρ.func, go_sem, e24, e25]) ?_
          refine (make_any wx _ n ks B (HR.out.below' hbx) (by omega) (fun k hk => by have := Hk.out k hk; omega) hB).mono ?_
          rintro e w6 ⟨g6, rfl, own6, b6⟩
          exact ⟨_, rfl, ⟨_, by rw [← HL.out]; exact ownsRow.reads own6⟩, b6⟩
        · intro ρ wx hρ hbx hl
          have e26 := hl 2 (by decide +kernel) 26 rfl
          obtain ⟨k, hk⟩ := e26
          have hc := Reads.conv (P := Try.prog) (src := 25) (e := 5) (dst := 9) Try.underlying25 Try.underlying5 Try.underlying9 (hk)
          refine y_val (v := .string ⟨L.toArray⟩) ?_ rfl
          simp [execOp, hc]
        · intro ρ wx hρ hbx hl
          have e0 : ρ (.tmp 0) = .slice a n cap := hρ.tmp 0 (by decide +kernel)
          refine y_val (v := .slice a n cap) ?_ rfl
          simp [execOp, go_sem, e0]
        · intro ρ wx hρ hbx hl
          have e1 : ρ (.tmp 1) = .int .i64 B := hρ.tmp 1 (by decide +kernel)
          refine y_val (v := .int .i64 B) ?_ rfl
          simp [execOp, go_sem, e1]
        · intro ρ wx hρ hbx hl
          have e28 : ρ (.tmp 28) = .slice a n cap := hl 4 (by decide +kernel) 28 rfl
          have e29 : ρ (.tmp 29) = .int .i64 B := hl 5 (by decide +kernel) 29 rfl
          refine y_call (f := 14) (args := #[.slice a n cap, .int .i64 B]) (by simp [execOp, resolve, invoke, hρ.func, go_sem, e28, e29]) ?_
          refine (refmake_any wx _ n ks B (HR.out.below' hbx) (by omega) (fun k hk => by have := Hk.out k hk; omega) hB).mono ?_
          rintro e w6 ⟨v6, rfl, f6, b6⟩
          exact ⟨v6, rfl, ⟨_, by rw [← HL.out]; exact f6.1⟩, b6⟩
        · intro ρ wx hρ hbx hl
          have e30 := hl 6 (by decide +kernel) 30 rfl
          obtain ⟨k, hk⟩ := e30
          have hc := Reads.conv (P := Try.prog) (src := 25) (e := 5) (dst := 9) Try.underlying25 Try.underlying5 Try.underlying9 (hk)
          refine y_val (v := .string ⟨L.toArray⟩) ?_ rfl
          simp [execOp, hc]
        · intro ρ wx hρ hbx hl
          have e27 : ρ (.tmp 27) = .string ⟨L.toArray⟩ := hl 3 (by decide +kernel) 27 rfl
          have e31 : ρ (.tmp 31) = .string ⟨L.toArray⟩ := hl 7 (by decide +kernel) 31 rfl
          refine y_val (v := .bool true) ?_ rfl
          simp [execOp, go_sem, e27, e31]
        · intro ρ wx hρ hbx hl
          have e32 : ρ (.tmp 32) = .bool true := hl 8 (by decide +kernel) 32 rfl
          refine y_val (v := .bool true) ?_ rfl
          simp [execOp, go_sem, e32]
        · intro aa wz hdef hsz hlk hbz hf
          have h4 : aa.tmps.getD 4 undef = .bool true := hf 9 _ 4 rfl rfl
          have hbz' : Below w.heap.size w wz := HB9.out.trans (hbz.mono HB9.out.size)
          have H4 := Lib.hid h4
          clear h4
          go_wp2
          have h4 := H4.out
          refine bodyPost_ret (v := .bool true) ?_ hdef ⟨rfl, hbz'⟩
          rw [Array.getD_eq_getD_getElem?] at h4
          simp [results, Try.results6, go_sem, h4]
end Go.Proofs.Ytodjgdaaggajcaa
