import Derived.Test.YtionejpiieemeaaQuotaActs
import Derived.Test.YtionejpiieemeaaDrawnState
import Derived.Test.YtionejpiieemeaaDrawnAct
namespace Go.Proofs.Ytionejpiieemeaa
open Go Go.RowKit

def nameMe : ByteArray := ⟨#[109, 101]⟩
theorem pme : (⟨#[109, 101]⟩ : ByteArray).size ≤ maxLen := by decide

/-- Two quotas that a client can't tell apart. -/
structure Alike (c : ByteArray) (S T : QS) : Prop where
  rate : S.rate = T.rate
  most : S.most = T.most
  last : S.last = T.last
  own : S.g c = T.g c

theorem Alike.tick {c : ByteArray} {S T : QS} (h : Alike c S T) (t : Nat) : Alike c (S.tick t) (T.tick t) :=
  ⟨h.rate, h.most, by show max S.last t = max T.last t; rw [h.last], h.own⟩

theorem Alike.has {c : ByteArray} {S T : QS} (h : Alike c S T) : S.has c = T.has c := by
  unfold QS.has
  rw [h.own, h.most, h.last, h.rate]

theorem Alike.gives {c : ByteArray} {S T : QS} (h : Alike c S T) (n t : Nat) : S.gives c n t = T.gives c n t := by
  unfold QS.gives
  rw [(h.tick t).has]

theorem Alike.take {c : ByteArray} {S T : QS} (h : Alike c S T) (n t : Nat) : Alike c (S.take c n t) (T.take c n t) := by
  refine ⟨h.rate, h.most, (h.tick t).last, ?_⟩
  show (if c = c then _ else _) = (if c = c then _ else _)
  rw [if_pos rfl, if_pos rfl]
  unfold QS.left
  rw [(h.tick t).has, (h.tick t).last]

theorem Alike.other {c d : ByteArray} {S T : QS} (h : Alike c S T) (hd : d ≠ c) (n t : Nat) : Alike c (S.take d n t) (T.tick t) := by
  refine ⟨h.rate, h.most, (h.tick t).last, ?_⟩
  show (if c = d then _ else S.g c) = T.g c
  rw [if_neg (fun e => hd e.symm)]
  exact h.own

theorem QAt.mono {w : World} {b m : Nat} {S : QS} {n n' : Nat} (h : QAt w b m S n) (hn : n ≤ n') : QAt w b m S n' := by
  obtain ⟨h1, h2, D, h3, h4⟩ := h
  exact ⟨h1, h2, D, h3.mono hn, h4⟩

/-- The region's world, by which of the two calls have been done. -/
structure OthJ (B : Nat) (w : World) (g1 b1 m1 b2 m2 k : Nat) (q : Bool) (c : ByteArray) (n0 t0 : Nat) (S1 S2 : QS) (x y : Bool) (W : World) : Prop where
  q1 : QAt W b1 m1 (if x = true then S1.take nameMe n0 t0 else S1) (if x = true then k + 1 else k)
  q2 : QAt W b2 m2 (if y = true then S2.take nameMe n0 t0 else S2) (if y = true then k + 1 else k)
  act : W.heap[g1]? = some (.cells #[.bool q, .string c, .int .u64 (n0 : Int), .int .u64 (t0 : Int)] 31 (0, 0))
  bel : Below B w W

theorem OthJ.cells {B : Nat} {w : World} {g1 b1 m1 b2 m2 k : Nat} {q : Bool} {c : ByteArray} {n0 t0 : Nat} {S1 S2 : QS} {x y : Bool} {W : World} (h : OthJ B w g1 b1 m1 b2 m2 k q c n0 t0 S1 S2 x y W) :
    W.cell? ⟨g1, 2, none⟩ = some (.int .u64 (n0 : Int)) ∧ W.cell? ⟨g1, 3, none⟩ = some (.int .u64 (t0 : Int)) := ⟨Lib.cell_of_heap h.act 2, Lib.cell_of_heap h.act 3⟩

/-- The blocks of two quotas lie apart, above a number. -/
structure Apart (B b1 m1 b2 m2 : Nat) : Prop where
  h1 : B ≤ b1
  h2 : B ≤ m1
  h3 : B ≤ b2
  h4 : B ≤ m2
  n1 : b1 ≠ b2
  n2 : b1 ≠ m2
  n3 : m1 ≠ b2
  n4 : m1 ≠ m2

theorem OthJ.take1 {B : Nat} {w : World} {g1 b1 m1 b2 m2 k : Nat} {q : Bool} {c : ByteArray} {n0 t0 : Nat} {S1 S2 : QS} {y : Bool} {W : World} (h : OthJ B w g1 b1 m1 b2 m2 k q c n0 t0 S1 S2 false y W)
    (ha : Apart B b1 m1 b2 m2) (hg : g1 ≠ b1 ∧ g1 ≠ m1) (hB : B ≤ w.heap.size) (ok : S1.ok) (hn : n0 ≤ 18446744073709551615) (ht : t0 ≤ 18446744073709551615) (hk : k < maxLen) :
    Calls Try.prog 13 #[.pointer (some ⟨b1, 0, none⟩), .string ⟨#[109, 101]⟩, .int .u64 (n0 : Int), .int .u64 (t0 : Int)] W fun e w' => e = .returned (.bool (S1.gives nameMe n0 t0)) ∧ OthJ B w g1 b1 m1 b2 m2 k q c n0 t0 S1 S2 true y w' := by
  refine (take_walk W b1 m1 k n0 t0 S1 nameMe h.q1 ok pme hn ht hk).mono fun e w' ⟨he, hq, t⟩ => ?_
  exact ⟨he, hq, h.q2.touch t (by simp [ha.n1.symm, ha.n3.symm]) (by simp [ha.n2.symm, ha.n4.symm]), t.keep h.act (by simp [hg.1, hg.2]), h.bel.trans (t.below (Nat.le_trans hB h.bel.size) (by simp [ha.h1, ha.h2]))⟩

theorem OthJ.take2 {B : Nat} {w : World} {g1 b1 m1 b2 m2 k : Nat} {q : Bool} {c : ByteArray} {n0 t0 : Nat} {S1 S2 : QS} {x : Bool} {W : World} (h : OthJ B w g1 b1 m1 b2 m2 k q c n0 t0 S1 S2 x false W)
    (ha : Apart B b1 m1 b2 m2) (hg : g1 ≠ b2 ∧ g1 ≠ m2) (hB : B ≤ w.heap.size) (ok : S2.ok) (hn : n0 ≤ 18446744073709551615) (ht : t0 ≤ 18446744073709551615) (hk : k < maxLen) :
    Calls Try.prog 13 #[.pointer (some ⟨b2, 0, none⟩), .string ⟨#[109, 101]⟩, .int .u64 (n0 : Int), .int .u64 (t0 : Int)] W fun e w' => e = .returned (.bool (S2.gives nameMe n0 t0)) ∧ OthJ B w g1 b1 m1 b2 m2 k q c n0 t0 S1 S2 x true w' := by
  refine (take_walk W b2 m2 k n0 t0 S2 nameMe h.q2 ok pme hn ht hk).mono fun e w' ⟨he, hq, t⟩ => ?_
  exact ⟨he, h.q1.touch t (by simp [ha.n1, ha.n2]) (by simp [ha.n3, ha.n4]), hq, t.keep h.act (by simp [hg.1, hg.2]), h.bel.trans (t.below (Nat.le_trans hB h.bel.size) (by simp [ha.h3, ha.h4]))⟩

def OthRel (w : World) (b1 m1 b2 m2 : Nat) (l : List QAct) (i : Value) (wr : World) : Prop :=
  ∃ (k : Nat) (S1 S2 : QS), i = .int .i64 (k : Int) ∧ k ≤ l.length ∧ Alike nameMe S1 S2 ∧ S1.ok ∧ S2.ok ∧ QAt wr b1 m1 S1 k ∧ QAt wr b2 m2 S2 k ∧ Below w.heap.size w wr

set_option maxRecDepth 100000 in
set_option maxHeartbeats 2000000 in
theorem quotaOthers_walk (w : World) (rate most : Nat) (a : Option Addr) (len cap : Nat) (l : List QAct) (h : ActsAt w a len l) (hl : len ≤ 9223372036854775807) :
    Calls Try.prog 5 #[.int .u64 (rate : Int), .int .u64 (most : Int), .slice a len cap] w (SaysTrue w) := by
  have hfew := fun w' (hb : Below w.heap.size w w') => few_any w' a len cap l (h.touch hb) hl
  have hlen := h.1
  have hfl : fewB l = true → len ≤ 80 := by
    intro hf
    unfold fewB at hf
    simp only [Bool.and_eq_true, decide_eq_true_eq] at hf
    omega
  have HF := Lib.hid hfew
  have HA := Lib.hid h
  have HL := Lib.hid hlen
  have HX := Lib.hid hfl
  clear hfew h hlen hfl
  generalize fewB l = fw at *
  go_enter Try.func5, Try.ntmps5
  go_wp2_with (go_at_call 7; go_must (refine (fixed_any _).mono ?_))
  rintro e w1 ⟨rfl, b1⟩
  have B1 := Lib.hid b1
  clear b1
  go_wp2_with (go_at_call 8; go_must (refine (HF.out _ B1.out).mono ?_))
  rintro e w2 ⟨rfl, b2⟩
  have B2 := Lib.hid (B1.out.trans (b2.mono B1.out.size))
  clear b2 B1 HF
  cases fw with
  | false =>
    go_wp2
    go_ret
    exact ⟨rfl, B2.out⟩
  | true =>
    have h80 : len ≤ 80 := HX.out rfl
    clear HX hl
    go_wp2_with (go_at_call 9; go_must (refine (new_any _ rate most).mono ?_))
    rintro e w3 ⟨b1, m1, rfl, hb1, hm1, q1, bl3⟩
    have Q1 := Lib.hid q1
    have B3 := Lib.hid (B2.out.trans (bl3.mono B2.out.size))
    clear q1 bl3
    go_wp2_with (go_at_call 9; go_must (refine (new_any _ rate most).mono ?_))
    rintro e w4 ⟨b2, m2, rfl, hb2, hm2, q2, bl4⟩
    have hsz2 := B2.out.size
    have hsz3 := B3.out.size
    have hl1 := Q1.out.lt
    have hap : Apart w.heap.size b1 m1 b2 m2 := ⟨by omega, by omega, by omega, by omega, by omega, by omega, by omega, by omega⟩
    have HAp := Lib.hid hap
    have Q1' := Lib.hid (Q1.out.touch (Touch.of_below bl4 []) (by simp) (by simp))
    have Q2 := Lib.hid q2
    have B4 := Lib.hid (B3.out.trans (bl4.mono B3.out.size))
    have hok := Lib.hid (QS.new_ok rate most)
    clear q2 bl4 hap hl1 hb1 hm1 hb2 hm2 hsz2 hsz3 B2 B3 Q1
    go_wp2
    go_loopw [24] (fun i wr => OthRel w b1 m1 b2 m2 l i wr) (fun i _ => len - (intOf i).toNat)
    case atStart => exact ⟨0, _, _, rfl, Nat.zero_le _, ⟨rfl, rfl, rfl, rfl⟩, hok.out, hok.out, Q1'.out, Q2.out, B4.out⟩
    case round =>
      obtain ⟨k, S1, S2, rfl, hk, hal, ok1, ok2, qa, qb, hbl⟩ := hrel
      rw [HL.out] at hk
      clear hok Q1' Q2 B4
      have HAl := Lib.hid hal
      have K1 := Lib.hid ok1
      have K2 := Lib.hid ok2
      have QA := Lib.hid qa
      have QB := Lib.hid qb
      have HBl := Lib.hid hbl
      clear hal ok1 ok2 qa qb hbl
      by_cases hlt : k < len
      · have hx : l[k]? = some (l[k]'(by rw [HL.out]; exact hlt)) := List.getElem?_eq_getElem _
        generalize l[k]'(by rw [HL.out]; exact hlt) = x at hx
        obtain ⟨hf, g, off, rfl, hg, hc⟩ := (HA.out.touch HBl.out).2 k x hx
        obtain ⟨q, c, n0, t0⟩ := x
        have c0 : wr.cell? ⟨g, off + k * 4, none⟩ = some (.bool q) := hc 0 (by decide)
        have c1 : wr.cell? ⟨g, off + k * 4 + 1, none⟩ = some (.string c) := hc 1 (by decide)
        have c2 : wr.cell? ⟨g, off + k * 4 + 2, none⟩ = some (.int .u64 (n0 : Int)) := hc 2 (by decide)
        have c3 : wr.cell? ⟨g, off + k * 4 + 3, none⟩ = some (.int .u64 (t0 : Int)) := hc 3 (by decide)
        obtain ⟨hcz, hn0, ht0⟩ := hf
        simp only at hcz hn0 ht0
        have Hn0 := Lib.hid hn0
        have Ht0 := Lib.hid ht0
        have hcm : c.size ≤ maxLen := by unfold maxLen; exact hcz
        have Hcm := Lib.hid hcm
        clear hx hc hn0 ht0 hcz hcm
        have hkm : k < maxLen := by unfold maxLen; omega
        have HKm := Lib.hid hkm
        have hqa := QA.out.touch ((Touch.refl wr []).alloc (.cells #[.bool q, .string c, .int .u64 (n0 : Int), .int .u64 (t0 : Int)] 31)) (by simp) (by simp)
        have hqb := QB.out.touch ((Touch.refl wr []).alloc (.cells #[.bool q, .string c, .int .u64 (n0 : Int), .int .u64 (t0 : Int)] 31)) (by simp) (by simp)
        have hb1 := HBl.out.alloc HBl.out.size (.cells #[.bool q, .string c, .int .u64 (n0 : Int), .int .u64 (t0 : Int)] 31)
        have hact := heap_alloc_new wr (.cells #[.bool q, .string c, .int .u64 (n0 : Int), .int .u64 (t0 : Int)] 31)
        have hgb : wr.heap.size ≠ b1 ∧ wr.heap.size ≠ m1 ∧ wr.heap.size ≠ b2 ∧ wr.heap.size ≠ m2 := by
          have := QA.out.lt
          have := QB.out.lt
          omega
        have QA1 := Lib.hid hqa
        have QB1 := Lib.hid hqb
        have HB1 := Lib.hid hb1
        have HAc := Lib.hid hact
        have HGb := Lib.hid hgb
        clear hqa hqb hb1 hact hgb hkm
        by_cases hme : c = ⟨#[109, 101]⟩
        · subst hme
          have hst : OthJ w.heap.size w wr.heap.size b1 m1 b2 m2 k q nameMe n0 t0 S1 S2 false false (wr.alloc (.cells #[.bool q, .string ⟨#[109, 101]⟩, .int .u64 (n0 : Int), .int .u64 (t0 : Int)] 31)) :=
            ⟨QA1.out, QB1.out, HAc.out, HB1.out⟩
          have HSt := Lib.hid hst
          clear hst QA1 QB1 HB1 HAc
          go_upto_region 12 with fail
          generalize wr.alloc (.cells #[.bool q, .string ⟨#[109, 101]⟩, .int .u64 (n0 : Int), .int .u64 (t0 : Int)] 31) = w5 at *
          generalize wr.heap.size = g1 at *
          have hG := HAl.out.gives n0 t0
          have ht1 : ∀ W y, OthJ w.heap.size w g1 b1 m1 b2 m2 k q nameMe n0 t0 S1 S2 false y W → Calls Try.prog 13 #[.pointer (some ⟨b1, 0, none⟩), .string ⟨#[109, 101]⟩, .int .u64 (n0 : Int), .int .u64 (t0 : Int)] W fun e w' => e = .returned (.bool (S1.gives nameMe n0 t0)) ∧ OthJ w.heap.size w g1 b1 m1 b2 m2 k q nameMe n0 t0 S1 S2 true y w' :=
            fun W y hJ => hJ.take1 HAp.out ⟨HGb.out.1, HGb.out.2.1⟩ (Nat.le_refl _) K1.out Hn0.out Ht0.out HKm.out
          have ht2 : ∀ W x, OthJ w.heap.size w g1 b1 m1 b2 m2 k q nameMe n0 t0 S1 S2 x false W → Calls Try.prog 13 #[.pointer (some ⟨b2, 0, none⟩), .string ⟨#[109, 101]⟩, .int .u64 (n0 : Int), .int .u64 (t0 : Int)] W fun e w' => e = .returned (.bool (S1.gives nameMe n0 t0)) ∧ OthJ w.heap.size w g1 b1 m1 b2 m2 k q nameMe n0 t0 S1 S2 x true w' := by
            rw [hG]
            exact fun W x hJ => hJ.take2 HAp.out ⟨HGb.out.2.2.1, HGb.out.2.2.2⟩ (Nat.le_refl _) K2.out Hn0.out Ht0.out HKm.out
          clear hG
          generalize S1.gives nameMe n0 t0 = G at *
          have hJ0 : ∀ x y, x = false → y = false → OthJ w.heap.size w g1 b1 m1 b2 m2 k q nameMe n0 t0 S1 S2 x y w5.drew := by
            rintro x y rfl rfl
            exact ⟨HSt.out.q1, HSt.out.q2, HSt.out.act, HSt.out.bel.drew⟩
          have T1 := Lib.hid ht1
          have T2 := Lib.hid ht2
          have J0 := Lib.hid hJ0
          clear ht1 ht2 hJ0
          refine wp_region_state (by kernel_rfl) [.pointer (some ⟨b1, 0, none⟩), .pointer (some ⟨g1, 2, none⟩), .int .u64 (n0 : Int), .pointer (some ⟨g1, 3, none⟩), .int .u64 (t0 : Int), .bool G, .pointer (some ⟨b2, 0, none⟩), .pointer (some ⟨g1, 2, none⟩), .int .u64 (n0 : Int), .pointer (some ⟨g1, 3, none⟩), .int .u64 (t0 : Int), .bool G, .bool false] (by kernel_rfl) (by kernel_rfl) (fun L W => OthJ w.heap.size w g1 b1 m1 b2 m2 k q nameMe n0 t0 S1 S2 (L 5) (L 11) W) ?_ ⟨?_, ?_, ?_, ?_, ?_, ?_, ?_, ?_, ?_, ?_, ?_, ?_, ?_, trivial⟩ ?_
          · intro L hL0
            exact J0.out _ _ (hL0 5 (by decide)) (hL0 11 (by decide))
          · intro ρ wx L hρ hL hd hl hI
            have e7 : ρ (.tmp 7) = .pointer (some ⟨b1, 0, none⟩) := hρ.tmp 7 (by decide +kernel)
            refine s_val (v := .pointer (some ⟨b1, 0, none⟩)) ?_ rfl ?_
            · simp [execOp, go_sem, e7]
            · exact hI
          · intro ρ wx L hρ hL hd hl hI
            have e10 : ρ (.tmp 10) = .pointer (some ⟨g1, 0, none⟩) := hρ.tmp 10 (by decide +kernel)
            refine s_val (v := .pointer (some ⟨g1, 2, none⟩)) ?_ rfl ?_
            · simp [execOp, go_sem, e10]
            · exact hI
          · intro ρ wx L hρ hL hd hl hI
            have e44 : ρ (.tmp 44) = .pointer (some ⟨g1, 2, none⟩) := hl 1 (by decide +kernel) 44 rfl
            obtain ⟨f2, f3⟩ := hI.cells
            refine s_val (v := .int .u64 (n0 : Int)) ?_ rfl ?_
            · simp [execOp, go_sem, e44, f2, f3]
            · exact hI
          · intro ρ wx L hρ hL hd hl hI
            have e10 : ρ (.tmp 10) = .pointer (some ⟨g1, 0, none⟩) := hρ.tmp 10 (by decide +kernel)
            refine s_val (v := .pointer (some ⟨g1, 3, none⟩)) ?_ rfl ?_
            · simp [execOp, go_sem, e10]
            · exact hI
          · intro ρ wx L hρ hL hd hl hI
            have e46 : ρ (.tmp 46) = .pointer (some ⟨g1, 3, none⟩) := hl 3 (by decide +kernel) 46 rfl
            obtain ⟨f2, f3⟩ := hI.cells
            refine s_val (v := .int .u64 (t0 : Int)) ?_ rfl ?_
            · simp [execOp, go_sem, e46, f2, f3]
            · exact hI
          · intro ρ wx L hρ hL hd hl hI
            have e43 : ρ (.tmp 43) = .pointer (some ⟨b1, 0, none⟩) := hl 0 (by decide +kernel) 43 rfl
            have e45 : ρ (.tmp 45) = .int .u64 (n0 : Int) := hl 2 (by decide +kernel) 45 rfl
            have e47 : ρ (.tmp 47) = .int .u64 (t0 : Int) := hl 4 (by decide +kernel) 47 rfl
            refine s_call (f := 13) (args := #[.pointer (some ⟨b1, 0, none⟩), .string ⟨#[109, 101]⟩, .int .u64 (n0 : Int), .int .u64 (t0 : Int)]) ?_ ?_
            · simp [execOp, hρ.const, hρ.func, go_sem, e43, e45, e47]
            · exact T1.out wx (L 11) (by rw [hL] at hI; exact hI)
          · intro ρ wx L hρ hL hd hl hI
            have e8 : ρ (.tmp 8) = .pointer (some ⟨b2, 0, none⟩) := hρ.tmp 8 (by decide +kernel)
            refine s_val (v := .pointer (some ⟨b2, 0, none⟩)) ?_ rfl ?_
            · simp [execOp, go_sem, e8]
            · exact hI
          · intro ρ wx L hρ hL hd hl hI
            have e10 : ρ (.tmp 10) = .pointer (some ⟨g1, 0, none⟩) := hρ.tmp 10 (by decide +kernel)
            refine s_val (v := .pointer (some ⟨g1, 2, none⟩)) ?_ rfl ?_
            · simp [execOp, go_sem, e10]
            · exact hI
          · intro ρ wx L hρ hL hd hl hI
            have e50 : ρ (.tmp 50) = .pointer (some ⟨g1, 2, none⟩) := hl 7 (by decide +kernel) 50 rfl
            obtain ⟨f2, f3⟩ := hI.cells
            refine s_val (v := .int .u64 (n0 : Int)) ?_ rfl ?_
            · simp [execOp, go_sem, e50, f2, f3]
            · exact hI
          · intro ρ wx L hρ hL hd hl hI
            have e10 : ρ (.tmp 10) = .pointer (some ⟨g1, 0, none⟩) := hρ.tmp 10 (by decide +kernel)
            refine s_val (v := .pointer (some ⟨g1, 3, none⟩)) ?_ rfl ?_
            · simp [execOp, go_sem, e10]
            · exact hI
          · intro ρ wx L hρ hL hd hl hI
            have e52 : ρ (.tmp 52) = .pointer (some ⟨g1, 3, none⟩) := hl 9 (by decide +kernel) 52 rfl
            obtain ⟨f2, f3⟩ := hI.cells
            refine s_val (v := .int .u64 (t0 : Int)) ?_ rfl ?_
            · simp [execOp, go_sem, e52, f2, f3]
            · exact hI
          · intro ρ wx L hρ hL hd hl hI
            have e49 : ρ (.tmp 49) = .pointer (some ⟨b2, 0, none⟩) := hl 6 (by decide +kernel) 49 rfl
            have e51 : ρ (.tmp 51) = .int .u64 (n0 : Int) := hl 8 (by decide +kernel) 51 rfl
            have e53 : ρ (.tmp 53) = .int .u64 (t0 : Int) := hl 10 (by decide +kernel) 53 rfl
            refine s_call (f := 13) (args := #[.pointer (some ⟨b2, 0, none⟩), .string ⟨#[109, 101]⟩, .int .u64 (n0 : Int), .int .u64 (t0 : Int)]) ?_ ?_
            · simp [execOp, hρ.const, hρ.func, go_sem, e49, e51, e53]
            · exact T2.out wx (L 5) (by rw [hL] at hI; exact hI)
          · intro ρ wx L hρ hL hd hl hI
            have e48 : ρ (.tmp 48) = .bool G := hl 5 (by decide +kernel) 48 rfl
            have e54 : ρ (.tmp 54) = .bool G := hl 11 (by decide +kernel) 54 rfl
            refine s_val (v := .bool false) ?_ rfl ?_
            · cases G <;> simp [execOp, go_sem, e48, e54]
            · exact hI
          · intro aa wz L hdef hsz hlk hL hI hf
            have ha := act_of_like hdef hsz hlk [43, 44, 45, 46, 47, 48, 49, 50, 51, 52, 53, 54, 55] 57 rfl (by decide +kernel)
            have e43 : aa.tmps.getD 43 undef = .pointer (some ⟨b1, 0, none⟩) := hf 0 _ 43 rfl rfl
            have e44 : aa.tmps.getD 44 undef = .pointer (some ⟨g1, 2, none⟩) := hf 1 _ 44 rfl rfl
            have e45 : aa.tmps.getD 45 undef = .int .u64 (n0 : Int) := hf 2 _ 45 rfl rfl
            have e46 : aa.tmps.getD 46 undef = .pointer (some ⟨g1, 3, none⟩) := hf 3 _ 46 rfl rfl
            have e47 : aa.tmps.getD 47 undef = .int .u64 (t0 : Int) := hf 4 _ 47 rfl rfl
            have e48 : aa.tmps.getD 48 undef = .bool G := hf 5 _ 48 rfl rfl
            have e49 : aa.tmps.getD 49 undef = .pointer (some ⟨b2, 0, none⟩) := hf 6 _ 49 rfl rfl
            have e50 : aa.tmps.getD 50 undef = .pointer (some ⟨g1, 2, none⟩) := hf 7 _ 50 rfl rfl
            have e51 : aa.tmps.getD 51 undef = .int .u64 (n0 : Int) := hf 8 _ 51 rfl rfl
            have e52 : aa.tmps.getD 52 undef = .pointer (some ⟨g1, 3, none⟩) := hf 9 _ 52 rfl rfl
            have e53 : aa.tmps.getD 53 undef = .int .u64 (t0 : Int) := hf 10 _ 53 rfl rfl
            have e54 : aa.tmps.getD 54 undef = .bool G := hf 11 _ 54 rfl rfl
            have e55 : aa.tmps.getD 55 undef = .bool false := hf 12 _ 55 rfl rfl
            simp only [putAll, List.foldl_cons, List.foldl_nil, e43, e44, e45, e46, e47, e48, e49, e50, e51, e52, e53, e54, e55] at ha
            simp [Act.put] at ha
            subst ha
            clear hdef hsz hlk hf e43 e44 e45 e46 e47 e48 e49 e50 e51 e52 e53 e54 e55
            have e5 := hL 5 (by decide)
            have e11 := hL 11 (by decide)
            rw [e5, e11] at hI
            have HI := Lib.hid hI
            clear hI hL e5 e11
            go_wp2
            refine ⟨⟨k + 1, S1.take nameMe n0 t0, S2.take nameMe n0 t0, by go_num, by rw [HL.out]; omega, HAl.out.take n0 t0, QS.take_ok K1.out _ _ Ht0.out, QS.take_ok K2.out _ _ Ht0.out, HI.out.q1, HI.out.q2, HI.out.bel⟩, by simp [intOf]; omega⟩
        · have hps : (c.toList == [109, 101]) = false := by
            rw [Go.ByteArray.toList_eq]
            simpa using fun h => hme (congrArg ByteArray.mk (Array.toList_inj.1 (by simpa using h)))
          have Hme := Lib.hid hme
          clear hme
          go_wp2_with (go_at_call 13; go_must (refine (take_walk _ b1 m1 k n0 t0 S1 c QA1.out K1.out Hcm.out Hn0.out Ht0.out HKm.out).mono ?_))
          rintro e w5 ⟨rfl, q5, t5⟩
          have ha5 := t5.keep HAc.out (by simp [HGb.out.1, HGb.out.2.1])
          have qb5 := QB1.out.touch t5 (by simp [HAp.out.n1.symm, HAp.out.n3.symm]) (by simp [HAp.out.n2.symm, HAp.out.n4.symm])
          have bl5 := HB1.out.trans (t5.below HB1.out.size (by simp [HAp.out.h1, HAp.out.h2]))
          have d3 := Lib.cell_of_heap ha5 3
          simp at d3
          have hl5 : wr.heap.size < w5.heap.size := (Array.getElem?_eq_some_iff.1 ha5).1
          have Q5 := Lib.hid q5
          have QB5 := Lib.hid qb5
          have BL5 := Lib.hid bl5
          clear q5 t5 ha5 qb5 bl5 QA1 QB1 HB1 HAc hps
          go_wp2_with (go_at_call 11; go_must (refine (left_walk _ b2 m2 k t0 S2 ⟨#[109, 101]⟩ QB5.out K2.out pme Ht0.out).mono ?_))
          rintro e w6 ⟨rfl, q6, t6⟩
          have qa6 := Q5.out.touch t6 (by simp [HAp.out.n1]) (by simp [HAp.out.n3])
          have bl6 := BL5.out.trans (t6.below BL5.out.size (by simp [HAp.out.h3]))
          have Q6 := Lib.hid (q6.mono (Nat.le_succ k))
          have QA6 := Lib.hid qa6
          have BL6 := Lib.hid bl6
          clear q6 t6 qa6 bl6 Q5 QB5 BL5 d3 hl5
          go_wp2
          exact ⟨⟨k + 1, S1.take c n0 t0, S2.tick t0, by go_num, by rw [HL.out]; omega, HAl.out.other Hme.out n0 t0, QS.take_ok K1.out _ _ Ht0.out, QS.tick_ok K2.out Ht0.out, QA6.out, Q6.out, BL6.out⟩, by simp [intOf]; omega⟩
      · obtain rfl : k = len := by omega
        clear hlt hk
        go_wp2
        go_ret
        exact ⟨rfl, HBl.out⟩
end Go.Proofs.Ytionejpiieemeaa
