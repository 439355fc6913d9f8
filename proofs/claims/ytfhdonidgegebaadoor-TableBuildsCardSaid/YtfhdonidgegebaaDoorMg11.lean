/- What the proof stands on, part 11. -/
import Derived.Test.YtfhdonidgegebaaDoorMg10
/- Open. -/
namespace Go.Proofs.YtfhdonidgegebaaDoor
open Go Go.RowKit

def mid (l : List UInt8) (i j : Nat) : List UInt8 := (l.drop i).take (j - i)

theorem mid_length {l : List UInt8} {i j : Nat} (hij : i ≤ j) (hj : j ≤ l.length) : (mid l i j).length = j - i := by
  unfold mid
  rw [List.length_take, List.length_drop]
  omega

structure Tab where
  sp : List Span
  data : List UInt8
  filter : List UInt8
  len : Int

def openL (b : List UInt8) : Except Nat Tab :=
  if b.length < 28 then .error 7
  else if b.drop (b.length - 4) ≠ [116, 98, 108, 49] then .error 9
  else if num8 (b.drop (b.length - 28)) 8 < num8 (b.drop (b.length - 28)) 0 ∨ b.length - 28 < num8 (b.drop (b.length - 28)) 8 then .error 9
  else if fillsL (mid b (num8 (b.drop (b.length - 28)) 0) (num8 (b.drop (b.length - 28)) 8)) = false ∨ fillsL (mid b (num8 (b.drop (b.length - 28)) 8) (b.length - 28)) = false then .error 9
  else match decL (mid b (num8 (b.drop (b.length - 28)) 0 + 8) (num8 (b.drop (b.length - 28)) 8)) (num8 (b.drop (b.length - 28)) 0) with
    | none => .error 9
    | some sp =>
      if (nextL (mid b (num8 (b.drop (b.length - 28)) 0) (num8 (b.drop (b.length - 28)) 8))).1 ≠ 0 then .error (nextL (mid b (num8 (b.drop (b.length - 28)) 0) (num8 (b.drop (b.length - 28)) 8))).1
      else if (nextL (mid b (num8 (b.drop (b.length - 28)) 8) (b.length - 28))).1 ≠ 0 then .error (nextL (mid b (num8 (b.drop (b.length - 28)) 8) (b.length - 28))).1
      else .ok ⟨sp, b.take (num8 (b.drop (b.length - 28)) 0), (nextL (mid b (num8 (b.drop (b.length - 28)) 8) (b.length - 28))).2, IntKind.i64.wrap (num8 (b.drop (b.length - 28)) 16 : Int)⟩

/-- An open table in block g. -/
def TabAt (w : World) (g : Nat) (T : Tab) : Prop :=
  ∃ gx bv fv, w.heap[g]? = some (.cells #[.pointer (some ⟨gx, 0, none⟩), bv, fv, .int .i64 T.len] 84 (0, 0)) ∧ IdxAt w gx T.sp ∧ w.ownsRow 0 5 1 bv T.data.length (bcells T.data) ∧ Reads w 1 fv T.filter.length (bcells T.filter)

theorem TabAt.below {w w' : World} {g : Nat} {T : Tab} (h : TabAt w g T) (b : Below w.heap.size w w') : TabAt w' g T := by
  obtain ⟨gx, bv, fv, h1, h2, h3, h4⟩ := h
  exact ⟨gx, bv, fv, below_block b h1 (Array.getElem?_eq_some_iff.1 h1).1, h2.below b, owns_below h3 b, h4.below' b⟩

theorem owns_from0 {B n s : Nat} {w : World} {e : TypeId} {v : Value} {xs : List Value} (h : w.ownsRow B e s v n xs) : w.ownsRow 0 e s v n xs :=
  ⟨h.1, h.2.imp id fun ⟨g, cap, cur, h1, _, h2⟩ => ⟨g, cap, cur, h1, Nat.zero_le _, h2⟩⟩

def OpenPost (w : World) (b : List UInt8) (e : Ending) (w' : World) : Prop :=
  Below w.heap.size w w' ∧ match openL b with
    | .error c => e = .returned (.tuple #[.pointer none, .int .i64 (c : Int)])
    | .ok T => ∃ g, e = .returned (.tuple #[.pointer (some ⟨g, 0, none⟩), .int .i64 0]) ∧ TabAt w' g T

theorem Reads.mid {w : World} {b off n cap : Nat} {l : List UInt8} (h : Reads w 1 (.slice (some ⟨b, off, none⟩) n cap) n (bcells l)) {i j : Nat} (hij : i ≤ j) (hj : j ≤ n) :
    Reads w 1 (.slice (some ⟨b, off + i, none⟩) (j - i) (cap - i)) (j - i) (bcells (Go.Proofs.YtfhdonidgegebaaDoor.mid l i j)) := by
  have h1 := h.skip i (by omega)
  obtain ⟨a, c, hv, _, _, h2⟩ := h1.take (j - i) (by omega)
  cases hv
  exact h2

theorem Sl.mid {B : Nat} {w : World} {b off n cap : Nat} {l : List UInt8} (h : Sl B w (.slice (some ⟨b, off, none⟩) n cap) l) (hn : l.length = n) {i j : Nat} (hij : i ≤ j) (hj : j ≤ n) (h0 : 0 < n) :
    Sl B w (.slice (some ⟨b, off + i, none⟩) (j - i) (cap - i)) (Go.Proofs.YtfhdonidgegebaaDoor.mid l i j) := by
  have hr := h.reads
  rw [hn] at hr
  have hm := hr.mid hij hj
  have hl := mid_length (l := l) hij (by omega)
  rcases h with ⟨⟨a, hv⟩, h9⟩ | ⟨b', off', cap', hv, h1, h2, _⟩
  · rw [h9] at hn
    exact absurd h0 (by rw [← hn]; decide)
  · cases hv
    have hne : l ≠ [] := fun e => by
      rw [e] at h0
      exact absurd h0 (by decide)
    exact .inr ⟨b, off + i, cap - i, by rw [hl], fun _ => h1 hne, fun _ => h2 hne, by rw [hl]; exact hm⟩

theorem num8_lt (l : List UInt8) (k : Nat) : num8 l k < 18446744073709551616 := by
  have h1 := beVal_lt ((l.drop k).take 8)
  have h2 : ((l.drop k).take 8).length ≤ 8 := by rw [List.length_take]; omega
  have h3 : 256 ^ ((l.drop k).take 8).length ≤ 256 ^ 8 := Nat.pow_le_pow_right (by omega) h2
  exact Nat.lt_of_lt_of_le h1 (Nat.le_trans h3 (by decide))

def NumsPost3 (w : World) (a b c : Nat) (e : Ending) (w' : World) : Prop :=
  e = .returned (.agg #[.int .u64 (a : Int), .int .u64 (b : Int), .int .u64 (c : Int)]) ∧ Below w.heap.size w w'

set_option maxRecDepth 100000 in
set_option maxHeartbeats 4000000 in
theorem open_any (w : World) (v : Value) (l : List UInt8) (h : Sl w.heap.size w v l) (hl : l.length ≤ 1000000) (hst : Steps w) :
    Calls Tryd.prog 12 #[v] w (OpenPost w l) := by
  by_cases h28 : l.length < 28
  · have ho : openL l = .error 7 := by unfold openL; rw [if_pos h28]
    obtain ⟨a, cap, rfl, _, _⟩ := h.reads.le
    have h28I : (l.length : Int) < 28 := by omega
    have HO := Lib.hid ho
    clear h ho
    go_enter Tryd.func12, Tryd.ntmps12
    go_wp2
    go_ret2
    refine ⟨Below.refl _ _, ?_⟩
    rw [HO.out]
    rfl
  · have ho : openL l = _ := rfl
    conv at ho => rhs; unfold openL
    rw [if_neg h28] at ho
    have HO := Lib.hid ho
    rcases h with ⟨⟨a, rfl⟩, rfl⟩ | ⟨b, off, cap, rfl, hbB, _, hr⟩
    · simp at h28
    have hne : l ≠ [] := fun e => by subst e; simp at h28
    have hsl : Sl w.heap.size w (.slice (some ⟨b, off, none⟩) l.length cap) l := .inr ⟨b, off, cap, rfl, hbB, hbB, hr⟩
    replace hbB := hbB hne
    have HR := Lib.hid hr
    have HSl := Lib.hid hsl
    have HSt := Lib.hid hst
    obtain ⟨_, _, hv, hc1, hc2⟩ := hr.le
    cases hv
    unfold maxLen at hc2
    have hcv := hr.skip (l.length - 4) (by omega)
    have hdl : (l.drop (l.length - 4)).length = 4 := by rw [List.length_drop]; omega
    obtain ⟨n, hn⟩ : ∃ n, l.length = n := ⟨_, rfl⟩
    rw [hn] at hcv HO HR HSl hl h28 hc1 ⊢
    have hconv := Reads.conv (P := Tryd.prog) (src := 24) (e := 5) (dst := 9) Tryd.underlying24 Tryd.underlying5 Tryd.underlying9 hcv
    have HN := Lib.hid hn
    have h28I : ¬ (n : Int) < 28 := by omega
    have h4 : (n : Int) - 4 = ((n - 4 : Nat) : Int) := by omega
    have h28N : (n : Int) - 28 = ((n - 28 : Nat) : Int) := by omega
    have hcapI : ¬ (cap : Int) = ((n - 4 : Nat) : Int) := by omega
    have hcapI2 : ¬ (cap : Int) = ((n - 28 : Nat) : Int) := by omega
    clear hr hsl hst ho hcv hne hn
    go_enter Tryd.func12, Tryd.ntmps12
    obtain ⟨mk, hmk⟩ : ∃ mk, l.drop (n - 4) = mk := ⟨_, rfl⟩
    rw [hmk] at hconv HO
    have hmkl : mk.length = 4 := by rw [← hmk, List.length_drop, HN.out]; omega
    clear hmk hdl
    by_cases hm : mk = [116, 98, 108, 49]
    case neg =>
      have ho2 : openL l = .error 9 := by rw [HO.out, if_pos hm]
      have HO2 := Lib.hid ho2
      have hmI : (mk == [116, 98, 108, 49]) = false := by
        cases h : mk == [116, 98, 108, 49] with
        | false => rfl
        | true => exact absurd (eq_of_beq h) hm
      clear ho2 HO hm
      go_wp2
      go_ret2
      refine ⟨Below.refl _ _, ?_⟩
      rw [HO2.out]
      rfl
    case pos =>
      subst hm
      have ho2 := HO.out
      rw [if_neg (fun h => h rfl)] at ho2
      have hrn := HR.out.skip (n - 28) (by omega)
      obtain ⟨L, hL⟩ : ∃ L, l.drop (n - 28) = L := ⟨_, rfl⟩
      have hLl : L.length = n - (n - 28) := by rw [← hL, List.length_drop, HN.out]
      rw [hL] at hrn ho2
      rw [← hLl] at hrn
      have HNu := Lib.hid (numbers_any w _ L hrn (by omega))
      have hb0 : num8 L 0 < 18446744073709551616 := num8_lt L 0
      have hb1 : num8 L 8 < 18446744073709551616 := num8_lt L 8
      have hb2 : num8 L 16 < 18446744073709551616 := num8_lt L 16
      have HO2 := Lib.hid ho2
      obtain ⟨n0, hn0⟩ : ∃ x, num8 L 0 = x := ⟨_, rfl⟩
      obtain ⟨n1, hn1⟩ : ∃ x, num8 L 8 = x := ⟨_, rfl⟩
      obtain ⟨n2, hn2⟩ : ∃ x, num8 L 16 = x := ⟨_, rfl⟩
      rw [hn0] at hb0
      rw [hn1] at hb1
      rw [hn2] at hb2
      have HNp : Hid (Calls Tryd.prog 41 #[.slice (some ⟨b, off + (n - 28), none⟩) L.length (cap - (n - 28))] w (NumsPost3 w n0 n1 n2)) := Lib.hid (HNu.out.mono (fun e w' h => by
        unfold NumsPost at h
        rw [hn0, hn1, hn2] at h
        exact h))
      rw [hn0, hn1, hn2] at HO2
      rw [hLl] at HNp
      clear ho2 HO HNu hrn hn0 hn1 hn2 hL hLl hmkl
      go_wp2_with (go_at_call 41; go_must (refine HNp.out.mono ?_))
      rintro e w1 ⟨rfl, b1⟩
      have HB1 := Lib.hid b1
      clear b1 HNp
      go_upto_region 7 with fail
      have hq0 : (w1.alloc (Obj.cells #[Value.int IntKind.u64 (n0 : Int), Value.int IntKind.u64 (n1 : Int), Value.int IntKind.u64 (n2 : Int)] 76)).heap[w1.heap.size]? = some (Obj.cells #[Value.int IntKind.u64 (n0 : Int), Value.int IntKind.u64 (n1 : Int), Value.int IntKind.u64 (n2 : Int)] 76) := heap_alloc_new _ _
      have HB2w := Lib.hid (HB1.out.alloc HB1.out.size (Obj.cells #[Value.int IntKind.u64 (n0 : Int), Value.int IntKind.u64 (n1 : Int), Value.int IntKind.u64 (n2 : Int)] 76))
      have HB2 := Lib.hid (HB1.out.alloc HB1.out.size (Obj.cells #[Value.int IntKind.u64 (n0 : Int), Value.int IntKind.u64 (n1 : Int), Value.int IntKind.u64 (n2 : Int)] 76))
      have HQ0 := Lib.hid hq0
      obtain ⟨q, hq⟩ : ∃ q, w1.heap.size = q := ⟨_, rfl⟩
      rw [hq] at HQ0
      clear hq0 HB1
      generalize w1.alloc (Obj.cells #[Value.int IntKind.u64 (n0 : Int), Value.int IntKind.u64 (n1 : Int), Value.int IntKind.u64 (n2 : Int)] 76) = w2 at *
      rw [hq]
      clear hq
      have q0 := Lib.cell_of_heap HQ0.out 0
      have q1 := Lib.cell_of_heap HQ0.out 1
      have q2 := Lib.cell_of_heap HQ0.out 2
      simp at q0 q1 q2
      have hqlt := (Array.getElem?_eq_some_iff.1 HQ0.out).1
      have hbad : openL l = .error 9 → ∀ W, Below w.heap.size w2 W → OpenPost w l (.returned (.tuple #[.pointer none, .int .i64 9])) W := fun h W hb => by
        refine ⟨HB2.out.trans hb, ?_⟩
        rw [h]
        rfl
      have HBad := Lib.hid hbad
      clear hbad
      by_cases hA : n1 < n0
      · have ho2 : openL l = .error 9 := by rw [HO2.out, if_pos (.inl hA)]
        have HO3 := Lib.hid ho2
        have hAI : (n1 : Int) < (n0 : Int) := by omega
        clear ho2
        go_wp2
        go_ret2
        exact HBad.out HO3.out _ (Below.refl _ _)
      · have hAI : ¬ (n1 : Int) < (n0 : Int) := by omega
        have hAd : decide ((n1 : Int) < (n0 : Int)) = false := by simpa using hAI
        by_cases hB : n - 28 < n1
        · have ho2 : openL l = .error 9 := by rw [HO2.out, if_pos (.inr hB)]
          have HO3 := Lib.hid ho2
          clear ho2
          go_wp2
          go_ret2
          exact HBad.out HO3.out _ (Below.refl _ _)
        · have ho2 := HO2.out
          rw [if_neg (by rintro (h | h); exact hA h; exact hB h)] at ho2
          have hBd : ¬ (n - 28 < n1) := hB
          have HO3 := Lib.hid ho2
          clear ho2 HO2
          have i0 : (0 : Int) < 3 := by decide
          have e0 : IntKind.i64.wrap (n0 : Int) = (n0 : Int) := by rw [IntKind.wrap_i64]; omega
          have e1 : IntKind.i64.wrap (n1 : Int) = (n1 : Int) := by rw [IntKind.wrap_i64]; omega
          go_upto_region 9 with fail
          go_quiet (fail)
          have hb3 : Below w.heap.size w (w2.drewN nq) := below_quiet HB2.out nq
          have hb23 : Below w.heap.size w2 (w2.drewN nq) := below_quiet (Below.refl _ _) nq
          have hq3 : (w2.drewN nq).heap[q]? = some (Obj.cells #[Value.int IntKind.u64 (n0 : Int), Value.int IntKind.u64 (n1 : Int), Value.int IntKind.u64 (n2 : Int)] 76) := HQ0.out
          have HB3 := Lib.hid hb3
          have HB23 := Lib.hid hb23
          have HQ3 := Lib.hid hq3
          clear hb3 hb23 hq3 q0 q1 q2 e0 e1 i0 hqlt HQ0
          generalize w2.drewN nq = w3 at *
          have hc0I : ¬ (cap : Int) = (n0 : Int) := by omega
          have hc1I : ¬ (cap : Int) = (n1 : Int) := by omega
          have h01I : (n0 : Int) ≤ (n1 : Int) := by omega
          have h1eI : (n1 : Int) ≤ ((n - 28 : Nat) : Int) := by omega
          have h1cI : (n1 : Int) ≤ (cap : Int) := by omega
          have hecI : ((n - 28 : Nat) : Int) ≤ (cap : Int) := by omega
          have hm1 : (mid l n0 n1).length = n1 - n0 := mid_length (by omega) (by rw [HN.out]; omega)
          have hm2 : (mid l n1 (n - 28)).length = n - 28 - n1 := mid_length (by omega) (by rw [HN.out]; omega)
          have HF1 := Lib.hid (fun (W : World) (hb : Below w.heap.size w W) => fills_any W (.slice (some ⟨b, off + n0, none⟩) (n1 - n0) (cap - n0)) (mid l n0 n1) (by rw [hm1]; exact (HR.out.below' hb).mid (by omega) (by omega)))
          have HF2 := Lib.hid (fun (W : World) (hb : Below w.heap.size w W) => fills_any W (.slice (some ⟨b, off + n1, none⟩) (n - 28 - n1) (cap - n1)) (mid l n1 (n - 28)) (by rw [hm2]; exact (HR.out.below' hb).mid (by omega) (by omega)))
          have hfl : fillsL (mid l n0 n1) = true → 8 ≤ n1 - n0 := fun h => by
            unfold fillsL at h
            rw [decide_eq_true_eq, hm1] at h
            exact h.1
          have HFl := Lib.hid hfl
          have HX1 := Lib.hid (fun (W : World) (hb : Below w.heap.size w W) (hst : Steps W) => fnext_any W (.slice (some ⟨b, off + n0, none⟩) (n1 - n0) (cap - n0)) _ (mid l n0 n1) ((HR.out.below' hb).mid (by omega) (by omega)) (by omega) hst)
          have HX2 := Lib.hid (fun (W : World) (hb : Below w.heap.size w W) (hst : Steps W) => fnext_any W (.slice (some ⟨b, off + n1, none⟩) (n - 28 - n1) (cap - n1)) _ (mid l n1 (n - 28)) ((HR.out.below' hb).mid (by omega) (by omega)) (by omega) hst)
          clear hm1 hm2 hfl HB2
          obtain ⟨f1, hf1⟩ : ∃ f1, fillsL (mid l n0 n1) = f1 := ⟨_, rfl⟩
          obtain ⟨f2, hf2⟩ : ∃ f2, fillsL (mid l n1 (n - 28)) = f2 := ⟨_, rfl⟩
          have ho3 := HO3.out
          rw [hf1, hf2] at ho3
          rw [hf1] at HF1 HFl
          rw [hf2] at HF2
          have HO4 := Lib.hid ho3
          clear hf1 hf2 ho3 HO3
          cases f1 with
          | false =>
            have ho2 : openL l = .error 9 := by rw [HO4.out, if_pos (.inl rfl)]
            have HO5 := Lib.hid ho2
            have HF := Lib.hid (HF1.out w3 HB3.out)
            clear ho2
            go_wp2_with (go_at_call 42; go_must (refine HF.out.mono ?_))
            rintro e w4 ⟨rfl, m4, rfl⟩
            go_wp2
            go_ret2
            exact HBad.out HO5.out _ (below_quiet HB23.out m4)
          | true =>
            have h8 := HFl.out rfl
            have HF := Lib.hid (HF1.out w3 HB3.out)
            go_wp2_with (go_at_call 42; go_must (refine HF.out.mono ?_))
            rintro e w4 ⟨rfl, m4, hw4⟩
            have hb4 : Below w.heap.size w w4 := by rw [hw4]; exact below_quiet HB3.out m4
            have hb24 : Below w.heap.size w2 w4 := by rw [hw4]; exact below_quiet HB23.out m4
            have hq4 : w4.heap[q]? = some (Obj.cells #[Value.int IntKind.u64 (n0 : Int), Value.int IntKind.u64 (n1 : Int), Value.int IntKind.u64 (n2 : Int)] 76) := by rw [hw4]; exact HQ3.out
            have HB4 := Lib.hid hb4
            have HB24 := Lib.hid hb24
            have HQ4 := Lib.hid hq4
            have HG2 := Lib.hid (HF2.out w4 hb4)
            clear hb4 hb24 hq4 hw4 HF HF1 HF2 HB3 HB23 HQ3
            cases f2 with
            | false =>
              have ho2 : openL l = .error 9 := by rw [HO4.out, if_pos (.inr rfl)]
              have HO5 := Lib.hid ho2
              clear ho2
              go_wp2_with (go_at_call 42; go_must (refine HG2.out.mono ?_))
              rintro e w5 ⟨rfl, m5, rfl⟩
              go_wp2
              go_ret2
              exact HBad.out HO5.out _ (below_quiet HB24.out m5)
            | true =>
              have ho2 := HO4.out
              rw [if_neg (by rintro (h | h) <;> cases h)] at ho2
              have HO5 := Lib.hid ho2
              have hc8I : ¬ (cap : Int) = (n0 : Int) + 8 := by omega
              have h81I : (n0 : Int) + 8 ≤ (n1 : Int) := by omega
              clear ho2 HO4
              go_wp2_with (go_at_call 42; go_must (refine HG2.out.mono ?_))
              rintro e w5 ⟨rfl, m5, hw5⟩
              have hb5 : Below w.heap.size w w5 := by rw [hw5]; exact below_quiet HB4.out m5
              have hb25 : Below w.heap.size w2 w5 := by rw [hw5]; exact below_quiet HB24.out m5
              have hq5 : w5.heap[q]? = some (Obj.cells #[Value.int IntKind.u64 (n0 : Int), Value.int IntKind.u64 (n1 : Int), Value.int IntKind.u64 (n2 : Int)] 76) := by rw [hw5]; exact HQ4.out
              have hsl5 : Sl w5.heap.size w5 (.slice (some ⟨b, off + (n0 + 8), none⟩) (n1 - (n0 + 8)) (cap - (n0 + 8))) (mid l (n0 + 8) n1) := ((HSl.out.below hb5).mid HN.out (by omega) (by omega) (by omega)).up hb5.size
              have hml := mid_length (l := l) (i := n0 + 8) (j := n1) (by omega) (by rw [HN.out]; omega)
              have HD := Lib.hid (decode_any w5 _ (mid l (n0 + 8) n1) n0 hsl5 (by omega) (by omega))
              have HB5 := Lib.hid hb5
              have HB25 := Lib.hid hb25
              have HQ5 := Lib.hid hq5
              clear hb5 hb25 hq5 hw5 HG2 HB4 HB24 HQ4 hsl5 hml
              go_wp2_with (go_at_call 43; go_must (refine HD.out.mono ?_))
              rintro e w6 hp
              obtain ⟨b6, hp⟩ := hp
              have HB6 := Lib.hid (HB5.out.trans (b6.mono HB5.out.size))
              have HB26 := Lib.hid (HB25.out.trans (b6.mono HB5.out.size))
              have HQ6 := Lib.hid (below_block b6 HQ5.out (Array.getElem?_eq_some_iff.1 HQ5.out).1)
              clear b6 HB5 HB25 HQ5 HD
              cases hd : decL (mid l (n0 + 8) n1) n0 with
              | none =>
                rw [hd] at hp
                obtain ⟨v6, rfl⟩ := hp
                have ho2 := HO5.out
                rw [hd] at ho2
                have HO6 := Lib.hid (show openL l = .error 9 from ho2)
                clear ho2 hd
                go_wp2
                go_ret2
                exact HBad.out HO6.out _ HB26.out
              | some sp =>
                rw [hd] at hp
                obtain ⟨gx, rfl, hox⟩ := hp
                have ho2 := HO5.out
                rw [hd] at ho2
                simp only at ho2
                have HO6 := Lib.hid ho2
                have HOx6 := Lib.hid hox.idx
                have HXa := Lib.hid (HX1.out w6 HB6.out (HSt.out.below HB6.out))
                clear ho2 hd hox HX1 HO5
                have herr : ∀ c : Nat, openL l = .error c → ∀ W, Below w.heap.size w2 W → OpenPost w l (.returned (.tuple #[.pointer none, .int .i64 (c : Int)])) W := fun c h W hb => by
                  refine ⟨?_, ?_⟩
                  · exact (HB2w.out).trans hb
                  · rw [h]
                have HErr := Lib.hid herr
                clear herr
                obtain ⟨c1, hc1⟩ : ∃ c1, (nextL (mid l n0 n1)).1 = c1 := ⟨_, rfl⟩
                have HC1 := Lib.hid hc1
                have ho3 := HO6.out
                rw [hc1] at ho3
                have HO7 := Lib.hid ho3
                clear hc1 ho3 HO6
                go_wp2_with (go_at_call 44; go_must (refine HXa.out.mono ?_))
                rintro e w7 ⟨v7, rfl, o7, b7⟩
                rw [HC1.out]
                have HB7 := Lib.hid (HB6.out.trans (b7.mono HB6.out.size))
                have HB27 := Lib.hid (HB26.out.trans (b7.mono HB6.out.size))
                have HQ7 := Lib.hid (below_block b7 HQ6.out (Array.getElem?_eq_some_iff.1 HQ6.out).1)
                have HOx7 := Lib.hid (HOx6.out.below b7)
                clear o7 b7 HB6 HB26 HQ6 HOx6 HXa
                by_cases hz1 : c1 = 0
                case neg =>
                  have hzI : ((c1 : Int) != 0) = true := by simp; omega
                  have ho3 := HO7.out
                  rw [if_pos hz1] at ho3
                  have HO8 := Lib.hid ho3
                  clear ho3
                  go_wp2
                  go_ret2
                  exact HErr.out _ HO8.out _ HB27.out
                case pos =>
                  subst hz1
                  have ho3 := HO7.out
                  rw [if_neg (by simp)] at ho3
                  have HXb := Lib.hid (HX2.out w7 HB7.out (HSt.out.below HB7.out))
                  obtain ⟨fl, hfl⟩ : ∃ fl, (nextL (mid l n1 (n - 28))).2 = fl := ⟨_, rfl⟩
                  obtain ⟨c2, hc2'⟩ : ∃ c2, (nextL (mid l n1 (n - 28))).1 = c2 := ⟨_, rfl⟩
                  rw [hc2', hfl] at ho3
                  have HFl2 := Lib.hid hfl
                  have HC2 := Lib.hid hc2'
                  have HO8 := Lib.hid ho3
                  clear ho3 hfl hc2' HX2 HO7
                  go_wp2_with (go_at_call 44; go_must (refine HXb.out.mono ?_))
                  rintro e w8 ⟨v8, rfl, o8, b8⟩
                  rw [HC2.out]
                  rw [HFl2.out] at o8
                  have HB8 := Lib.hid (HB7.out.trans (b8.mono HB7.out.size))
                  have HB28 := Lib.hid (HB27.out.trans (b8.mono HB7.out.size))
                  have HQ8 := Lib.hid (below_block b8 HQ7.out (Array.getElem?_eq_some_iff.1 HQ7.out).1)
                  have HOx8 := Lib.hid (HOx7.out.below b8)
                  have HFr8 := Lib.hid (ownsRow.reads o8)
                  clear o8 b8 HB7 HB27 HQ7 HOx7 HXb
                  by_cases hz2 : c2 = 0
                  case neg =>
                    have hzI : ((c2 : Int) != 0) = true := by simp; omega
                    have ho3 := HO8.out
                    rw [if_pos hz2] at ho3
                    have HO9 := Lib.hid ho3
                    clear ho3
                    go_wp2
                    go_ret2
                    exact HErr.out _ HO9.out _ HB28.out
                  case pos =>
                    subst hz2
                    have ho3 := HO8.out
                    rw [if_neg (by simp)] at ho3
                    obtain ⟨DT, hDT⟩ : ∃ DT, l.take n0 = DT := ⟨_, rfl⟩
                    rw [hDT] at ho3
                    have HDT := Lib.hid hDT
                    have HO9 := Lib.hid ho3
                    have i2 : (2 : Int) < 3 := by decide
                    have h0cN : n0 ≤ cap := by omega
                    have q2 := Lib.cell_of_heap HQ8.out 2
                    simp at q2
                    have hqlt := (Array.getElem?_eq_some_iff.1 HQ8.out).1
                    obtain ⟨a8, cap8, rfl, _, _⟩ := HFr8.out.le
                    have HCl := Lib.hid (fun (W : World) (hb : Below w.heap.size w W) => clone_any W ⟨b, off, none⟩ n0 cap DT (by
                      rw [← HDT.out]
                      obtain ⟨a, c, hv, _, _, ht⟩ := (HR.out.below' hb).take n0 (by omega)
                      cases hv
                      exact ht) (by omega))
                    clear ho3 HO8 hDT
                    go_upto_region 21 with fail
                    go_region_law (first
                      | (go_simp; go_at_call 45; refine (HCl.out _ (below_quiet HB8.out 1)).mono ?_; rintro e w9 ⟨v9, rfl, o9, b9⟩; obtain ⟨a9, cap9, rfl, _, _⟩ := (ownsRow.reads o9).le; have b89 := (below_quiet (Below.refl w8.heap.size w8) 1).trans (b9.mono (by simp)); have HQ9 := Lib.hid (below_block b89 HQ8.out hqlt); have q29 := Lib.cell_of_heap HQ9.out 2; simp at q29; have hql9 := (Array.getElem?_eq_some_iff.1 HQ9.out).1; have HFr9 := Lib.hid (HFr8.out.below' b89); have HOx9 := Lib.hid (HOx8.out.below b89); have HB9 := Lib.hid (HB8.out.trans (b89.mono HB8.out.size)); have HO9v := Lib.hid o9; clear b9 o9))
                    all_goals
                      clear q2 q29 hqlt hql9 HQ8 HQ9
                      go_wp2
                      go_ret2
                      have hnew : Below w9.heap.size w9 (w9.alloc (Obj.cells #[Value.pointer (some ⟨gx, 0, none⟩), Value.slice a9 DT.length cap9, Value.slice a8 fl.length cap8, Value.int IntKind.i64 (IntKind.i64.wrap (n2 : Int))] 84)) := (Below.refl _ _).alloc (Nat.le_refl _) _
                      refine ⟨HB9.out.trans (hnew.mono HB9.out.size), ?_⟩
                      rw [HO9.out]
                      exact ⟨_, rfl, gx, _, _, heap_alloc_new _ _, HOx9.out.below hnew, owns_below (owns_from0 HO9v.out) hnew, HFr9.out.below' hnew⟩
end Go.Proofs.YtfhdonidgegebaaDoor

/- block.Keys, of any bytes. -/
namespace Go.Proofs.YtfhdonidgegebaaDoor
open Go Go.RowKit

def SameB (w : World) (b : Bool) (e : Ending) (w' : World) : Prop := e = .returned (.bool b) ∧ w = w'

set_option maxRecDepth 100000 in
set_option maxHeartbeats 1000000 in
theorem equal_any (w : World) (u v : Value) (x y : List UInt8) (hx : Reads w 1 u x.length (bcells x)) (hy : Reads w 1 v y.length (bcells y)) :
    Calls Tryd.prog 73 #[u, v] w (SameB w (decide (x = y))) := by
  have h1 := Reads.conv (P := Tryd.prog) (src := 24) (e := 5) (dst := 9) Tryd.underlying24 Tryd.underlying5 Tryd.underlying9 hx
  have h2 := Reads.conv (P := Tryd.prog) (src := 24) (e := 5) (dst := 9) Tryd.underlying24 Tryd.underlying5 Tryd.underlying9 hy
  have e1 : (x == y) = decide (x = y) := by by_cases h : x = y <;> simp [h]
  generalize decide (x = y) = q at *
  clear hx hy
  go_enter Tryd.func73, Tryd.ntmps73
  go_wp2
  go_ret
  exact ⟨rfl, rfl⟩

def keysB : Nat → List UInt8 → List UInt8 → List ByteArray → Option (List ByteArray)
  | 0, _, _, _ => none
  | f + 1, rest, key, ks =>
    if rest = [] then some ks
    else match stepB rest key with
      | none => none
      | some (r, k, s) => if ks.length % 16 = 0 ∧ 0 < s then none else keysB f r k (ks ++ [⟨k.toArray⟩])

def keysL (data : List UInt8) : Option (List ByteArray) := keysB (data.length + 1) data [] []

def KeysPost (w : World) (l : List UInt8) (e : Ending) (w' : World) : Prop :=
  Below w.heap.size w w' ∧
    ((e = .returned (.tuple #[.slice none 0 0, .int .i64 9]) ∧ ∀ d p ks, partsL l = some (d, p) → keysL d = some ks → ¬ (rises ks ∧ buildL ks = l)) ∨
      ∃ d p ks v, partsL l = some (d, p) ∧ keysL d = some ks ∧ rises ks ∧ buildL ks = l ∧ e = .returned (.tuple #[v, .int .i64 0]) ∧ w'.ownsRow w.heap.size 9 1 v ks.length (scells ks))

theorem apart_types {w : World} {B n s B' n' s' : Nat} {e e' : TypeId} {u v : Value} {xs ys : List Value} (hu : w.ownsRow B e s u n xs) (hv : w.ownsRow B' e' s' v n' ys) (he : e' ≠ e) : ApartV u v := fun g hg hv' => by
  rcases hv.2 with ⟨rfl, _⟩ | ⟨g', cap, cur, rfl, _, hh, _⟩
  · simp [Value.ownBlock] at hv'
  · simp [Value.ownBlock] at hv'
    subst hv'
    exact owns_other hu hh he hg

theorem own_texts {w w' : World} {B n s : Nat} {v : Value} {xs : List Value} (h : w.ownsRow B 9 s v n xs) (k : KeepT w w') : w'.ownsRow B 9 s v n xs := by
  refine ⟨h.1, ?_⟩
  rcases h.2 with h0 | ⟨g, cap, cur, hv, hB, hh, h3⟩
  · exact .inl h0
  · exact .inr ⟨g, cap, cur, hv, hB, k _ _ _ hh, h3⟩

theorem CurAt.grown {B n g sh : Nat} {w w' : World} {rest key : List UInt8} {bad : Bool} {v : Value} {xs : List Value} (h : CurAt B w g rest key sh bad) (ho : w.ownsRow B 9 1 v n xs) (gr : w.grownBy w' v.ownBlock) (b : Below B w w') : CurAt B w' g rest key sh bad := by
  obtain ⟨rv, kv, h1, h2, h3, h4⟩ := h
  exact ⟨rv, kv, grown_other ho gr h1 (by decide), h2.below b, owns_apart h3 gr (apart_types ho h3 (by decide)), h4⟩

theorem rest_at {B g sh : Nat} {w : World} {rest key : List UInt8} {bad : Bool} (h : CurAt B w g rest key sh bad) : restAt g w = rest.length := by
  obtain ⟨rv, kv, h1, h2, _, _⟩ := h
  obtain ⟨a2, c2, rfl, _, _⟩ := h2.reads.le
  unfold restAt
  rw [Lib.cell_of_heap h1 0]
  rfl

def KeysRel (B : Nat) (w1 : World) (g N : Nat) (R : Option (List ByteArray)) (kv : Value) (wr : World) : Prop :=
  ∃ rest key ks sh F, CurAt B wr g rest key sh false ∧ rest.length < F ∧ key.length + rest.length ≤ N ∧ ks.length + rest.length ≤ N ∧ keysB F rest key ks = R ∧ wr.ownsRow B 9 1 kv ks.length (scells ks) ∧ Below B w1 wr

set_option maxRecDepth 100000 in
set_option maxHeartbeats 4000000 in
theorem keys_any (w : World) (v : Value) (l : List UInt8) (h : Sl w.heap.size w v l) (hl : l.length ≤ 5000000000)
    (hbd : ∀ d p ks, partsL l = some (d, p) → keysL d = some ks → ks.length ≤ 60000 ∧ ∀ x ∈ ks, x.size ≤ 60000) :
    Calls Tryd.prog 46 #[v] w (KeysPost w l) := by
  obtain ⟨i0, hi, hz0, hz1, hz2⟩ := info_parts info9
  have HP := Lib.hid (parts_any w.heap.size w v l h (by omega))
  have HSl := Lib.hid h
  have HBd := Lib.hid hbd
  obtain ⟨va, vcap, rfl, _, _⟩ := h.reads.le
  clear h hbd
  go_enter Tryd.func46, Tryd.ntmps46
  go_wp2_with (go_at_call 71; go_must (refine HP.out.mono ?_))
  rintro e w1 hp
  obtain ⟨b1, hm⟩ := hp
  have hpl := fun d p => parts_length (l := l) (d := d) (p := p)
  generalize hpr : partsL l = pr at *
  have HPr := Lib.hid hpr
  have HB1 := Lib.hid b1
  clear hpr
  cases pr with
  | none =>
    simp only at hm
    subst hm
    clear b1 hpl HP
    go_wp2
    go_ret2
    refine ⟨HB1.out, .inl ⟨rfl, fun d p ks hh => ?_⟩⟩
    rw [HPr.out] at hh
    cases hh
  | some dp =>
    obtain ⟨data, places⟩ := dp
    simp only at hm
    obtain ⟨da, dcap, pa, pcap, rfl, sd, sp⟩ := hm
    obtain ⟨hd1, _, _⟩ := hpl data places rfl
    have hbd1 : ∀ ks, keysL data = some ks → ks.length ≤ 60000 ∧ ∀ x ∈ ks, x.size ≤ 60000 := fun ks => HBd.out data places ks rfl
    have HBd1 := Lib.hid hbd1
    have hbs := b1.size
    have hcur : CurAt w1.heap.size (w1.alloc (.cells #[.slice da data.length dcap, .slice none 0 0, .int .i64 0, .bool false] 118)) w1.heap.size data [] 0 false :=
      ⟨_, _, heap_alloc_new w1 _, (sd.up hbs).below ((Below.refl _ _).alloc (Nat.le_refl _) _), owns_nil _ _ _ _, Nat.le_refl _⟩
    have HCur := Lib.hid hcur
    have HAl := Lib.hid ((Below.refl w1.heap.size w1).alloc (Nat.le_refl _) (.cells #[.slice da data.length dcap, .slice none 0 0, .int .i64 0, .bool false] 118))
    obtain ⟨R, hR⟩ : ∃ R, keysL data = R := ⟨_, rfl⟩
    have HR := Lib.hid hR
    clear b1 hpl HP sd sp hbd1 HBd hcur hR
    go_wp2_with fail
    generalize w1.alloc (.cells #[.slice da data.length dcap, .slice none 0 0, .int .i64 0, .bool false] 118) = w2 at *
    generalize hg : w1.heap.size = g at *
    have HG := Lib.hid hg
    clear hg
    go_loopw [7] (fun kv wr => KeysRel g w1 g data.length R kv wr) (fun _ wr => restAt g wr)
    case atStart => exact ⟨data, [], [], 0, data.length + 1, HCur.out, by omega, by simp, by simp, HR.out, owns_nil _ _ _ _, HAl.out⟩
    case round =>
      obtain ⟨rest, key, ks, sh, F, hcur, hF, hkN, hsN, hks, hown, hbl⟩ := hrel
      have HN := Lib.hid (next13_any g wr g rest key sh false hcur (by omega) (by omega))
      have HRa := Lib.hid (rest_at hcur)
      have HBl := Lib.hid hbl
      have HOw := Lib.hid hown
      have hgw : g ≤ wr.heap.size := by have := HG.out; have := hbl.size; omega
      obtain ⟨ka0, kcap0, rfl, _, _⟩ := (ownsRow.reads hown).le
      obtain ⟨F, rfl⟩ : ∃ f, F = f + 1 := ⟨F - 1, by omega⟩
      have hun : keysB (F + 1) rest key ks = _ := rfl
      conv at hun => rhs; unfold keysB
      rw [hks] at hun
      have HUn := Lib.hid hun
      clear hcur hbl hks hown hun HCur
      go_wp2_with (go_at_call 72; go_must (refine HN.out.mono ?_))
      rintro e w7 hnx
      rcases hnx with ⟨h0, rfl, hc7, hb7⟩ | ⟨h0, h1, rfl, hc7, hb7⟩ | ⟨r2, k2, s2, h0, h1, rfl, hc7, hb7⟩
      · have hRv : R = some ks := by rw [HUn.out, if_pos h0]
        have HRv := Lib.hid hRv
        obtain ⟨rv, kv, hc, _, _, _⟩ := hc7
        have q3 := Lib.cell_of_heap hc 3
        simp at q3
        have hglt : g < w7.heap.size := (Array.getElem?_eq_some_iff.1 hc).1
        have HO7 := Lib.hid (own_texts HOw.out hb7.texts)
        have hbg : Below g w1 w7 := HBl.out.trans hb7.low
        have HB7 := Lib.hid (HB1.out.trans ((show Below w1.heap.size w1 w7 by rw [HG.out]; exact hbg).mono HB1.out.size))
        obtain ⟨hk1, hk2⟩ := HBd1.out ks (by rw [HR.out, hRv])
        have HBu := Lib.hid (build_any w7 _ _ _ ks (ownsRow.reads HO7.out) hk1 hk2)
        have HK2 := Lib.hid hk2
        clear hRv hc hb7 hbg HN HUn HOw HBl hk2
        go_wp2_with (go_at_call 27; go_must (refine HBu.out.mono ?_))
        rintro e w8 hp
        rcases hp with ⟨hup, v8, rfl, o8, b8⟩ | ⟨hno, rfl, b8⟩
        · have HSl8 := (HSl.out.below ((HB7.out.trans (b8.mono HB7.out.size)))).reads
          have HEq := Lib.hid (equal_any w8 _ _ (buildL ks) l (ownsRow.reads o8) HSl8)
          have HB8 := Lib.hid (HB7.out.trans (b8.mono HB7.out.size))
          have HO8 := Lib.hid (owns_less (owns_below HO7.out b8) (show w.heap.size ≤ g by rw [← HG.out]; exact HB1.out.size))
          have HUp := Lib.hid hup
          clear b8 hup o8 HSl8
          by_cases hE : buildL ks = l
          · have HE := Lib.hid hE
            rw [decide_eq_true hE] at HEq
            clear hE
            go_wp2_with (go_at_call 73; go_must (refine HEq.out.mono ?_))
            rintro e w9 ⟨rfl, rfl⟩
            go_wp2
            go_ret2
            exact ⟨HB8.out, .inr ⟨data, places, ks, _, HPr.out, by rw [HR.out, HRv.out], HUp.out, HE.out, rfl, HO8.out⟩⟩
          · have HE := Lib.hid hE
            rw [decide_eq_false hE] at HEq
            clear hE
            go_wp2_with (go_at_call 73; go_must (refine HEq.out.mono ?_))
            rintro e w9 ⟨rfl, rfl⟩
            go_wp2
            go_ret2
            refine ⟨HB8.out, .inl ⟨rfl, fun d p ks' hh hk h' => ?_⟩⟩
            rw [HPr.out] at hh
            cases hh
            rw [HR.out, HRv.out] at hk
            cases hk
            exact HE.out h'.2
        · have HB8 := Lib.hid (HB7.out.trans (b8.mono HB7.out.size))
          have HNo := Lib.hid hno
          clear b8 hno
          go_wp2
          go_ret2
          refine ⟨HB8.out, .inl ⟨rfl, fun d p ks' hh hk h' => ?_⟩⟩
          rw [HPr.out] at hh
          cases hh
          rw [HR.out, HRv.out] at hk
          cases hk
          exact HNo.out h'.1
      · have hRv : R = none := by rw [HUn.out, if_neg h0, h1]
        have HRv := Lib.hid hRv
        obtain ⟨_, _, _, rv, kv, hc, _, _, _⟩ := hc7
        have q3 := Lib.cell_of_heap hc 3
        simp at q3
        have hglt : g < w7.heap.size := (Array.getElem?_eq_some_iff.1 hc).1
        have hbg : Below g w1 w7 := HBl.out.trans hb7.low
        have HB7 := Lib.hid (HB1.out.trans ((show Below w1.heap.size w1 w7 by rw [HG.out]; exact hbg).mono HB1.out.size))
        clear hRv hc hb7 hbg HN HUn HOw HBl h1
        go_wp2
        go_ret2
        refine ⟨HB7.out, .inl ⟨rfl, fun d p ks' hh hk h' => ?_⟩⟩
        rw [HPr.out] at hh
        cases hh
        rw [HR.out, HRv.out] at hk
        cases hk
      · have hless := stepB_less h1 h0
        have hRv : R = if ks.length % 16 = 0 ∧ 0 < s2 then none else keysB F r2 k2 (ks ++ [⟨k2.toArray⟩]) := by rw [HUn.out, if_neg h0, h1]
        have HRv := Lib.hid hRv
        have HC7 := Lib.hid hc7
        obtain ⟨rv, kv, hc, _, hkk, _⟩ := hc7
        obtain ⟨ka, kcap2, rfl, _, _⟩ := (ownsRow.reads hkk).le
        have q1 := Lib.cell_of_heap hc 1
        have q2 := Lib.cell_of_heap hc 2
        simp at q1 q2
        have hglt : g < w7.heap.size := (Array.getElem?_eq_some_iff.1 hc).1
        have HO7 := Lib.hid (own_texts HOw.out hb7.texts)
        have HBl7 := Lib.hid (HBl.out.trans hb7.low)
        have hcv := Reads.conv (P := Tryd.prog) (w := w7) (src := 24) (e := 5) (dst := 9) Tryd.underlying24 Tryd.underlying5 Tryd.underlying9 (ownsRow.reads hkk)
        have hkb : ks.length ≤ 5000000000 := by omega
        clear hRv hc hb7 HN HUn HOw HBl h1 hkk
        by_cases hm : ks.length % 16 = 0
        · have hmI : (((ks.length : Nat) : Int) % 16 == 0) = true := by simp; omega
          by_cases hs2 : 0 < s2
          · have hsI : (0 : Int) < (s2 : Int) := by omega
            have HRv2 : Hid (R = none) := Lib.hid (by rw [HRv.out, if_pos ⟨hm, hs2⟩])
            have HB7 := Lib.hid (HB1.out.trans ((show Below w1.heap.size w1 w7 by rw [HG.out]; exact HBl7.out).mono HB1.out.size))
            clear HRv hm hs2 hcv
            go_wp2
            go_ret2
            refine ⟨HB7.out, .inl ⟨rfl, fun d p ks' hh hk h' => ?_⟩⟩
            rw [HPr.out] at hh
            cases hh
            rw [HR.out, HRv2.out] at hk
            cases hk
          · have hsI : ¬ (0 : Int) < (s2 : Int) := by omega
            have HRv2 : Hid (R = keysB F r2 k2 (ks ++ [⟨k2.toArray⟩])) := Lib.hid (by rw [HRv.out, if_neg (fun h => hs2 h.2)])
            clear HRv hm hs2
            go_wp2_with (at_builtin; go_must (refine wpList_append_owns_lits (w0 := w7) rfl _ _ 22 rfl g 9 i0 (.string ⟨#[]⟩) 16 Tryd.underlying22 hi hz0 hz1 hz2 rfl [.string ⟨k2.toArray⟩] 1 rfl HO7.out rfl rfl (fun u hu => by simp at hu; subst hu; rfl) ?_ ?_ (Nat.le_of_lt hglt) ?_))
            · unfold maxLen; omega
            · omega
            intro v9 w9 o9 g9 b9 _
            have hcur9 := HC7.out.grown HO7.out g9 b9
            have hra9 := rest_at hcur9
            have HCur9 := Lib.hid hcur9
            have HRa9 := Lib.hid hra9
            have o9' : w9.ownsRow g 9 1 v9 (ks ++ [(⟨k2.toArray⟩ : ByteArray)]).length (scells (ks ++ [⟨k2.toArray⟩])) := by
              rw [scells_append, List.length_append]
              exact o9
            have HO9 := Lib.hid o9'
            have HB9 := Lib.hid (HBl7.out.trans b9)
            clear o9 o9' g9 b9 hcur9 hra9 hcv q1 q2 HC7 HO7 HBl7
            go_wp2
            exact ⟨⟨r2, k2, _, s2, F, HCur9.out, by omega, by omega, by simp; omega, HRv2.out.symm, HO9.out, HB9.out⟩, by rw [HRa9.out, HRa.out]; exact hless.1⟩
        · have hmI : (((ks.length : Nat) : Int) % 16 == 0) = false := by simp; omega
          have HRv2 : Hid (R = keysB F r2 k2 (ks ++ [⟨k2.toArray⟩])) := Lib.hid (by rw [HRv.out, if_neg (fun h => hm h.1)])
          clear HRv hm
          go_wp2_with (at_builtin; go_must (refine wpList_append_owns_lits (w0 := w7) rfl _ _ 22 rfl g 9 i0 (.string ⟨#[]⟩) 16 Tryd.underlying22 hi hz0 hz1 hz2 rfl [.string ⟨k2.toArray⟩] 1 rfl HO7.out rfl rfl (fun u hu => by simp at hu; subst hu; rfl) ?_ ?_ (Nat.le_of_lt hglt) ?_))
          · unfold maxLen; omega
          · omega
          intro v9 w9 o9 g9 b9 _
          have hcur9 := HC7.out.grown HO7.out g9 b9
          have hra9 := rest_at hcur9
          have HCur9 := Lib.hid hcur9
          have HRa9 := Lib.hid hra9
          have o9' : w9.ownsRow g 9 1 v9 (ks ++ [(⟨k2.toArray⟩ : ByteArray)]).length (scells (ks ++ [⟨k2.toArray⟩])) := by
            rw [scells_append, List.length_append]
            exact o9
          have HO9 := Lib.hid o9'
          have HB9 := Lib.hid (HBl7.out.trans b9)
          clear o9 o9' g9 b9 hcur9 hra9 hcv q1 q2 HC7 HO7 HBl7
          go_wp2
          exact ⟨⟨r2, k2, _, s2, F, HCur9.out, by omega, by omega, by simp; omega, HRv2.out.symm, HO9.out, HB9.out⟩, by rw [HRa9.out, HRa.out]; exact hless.1⟩
end Go.Proofs.YtfhdonidgegebaaDoor

/- The keys of a block that was built. -/
namespace Go.Proofs.YtfhdonidgegebaaDoor
open Go Go.RowKit

theorem keys_rest {ks : List ByteArray} (hs : ∀ x ∈ ks, x.size ≤ 60000) : ∀ (d j F : Nat) (key : List UInt8), j + d = ks.length → Ahead ks j key → (restTo ks j d).length < F → keysB F (restTo ks j d) key (ks.take j) = some ks
  | 0, j, F + 1, key, hj, _, _ => by
    have : ks.take j = ks := List.take_of_length_le (by omega)
    simp [keysB, restTo, this]
  | d + 1, j, F + 1, key, hj, h, hF => by
    unfold keysB
    rw [if_neg (rest_ne ks j d), step_rest hs h]
    simp only
    have hl : (ks.take j).length = j := by rw [List.length_take]; omega
    have hno : ¬ ((ks.take j).length % 16 = 0 ∧ 0 < shareL ks j) := by
      rintro ⟨h1, h2⟩
      rw [hl] at h1
      unfold shareL at h2
      rw [if_pos h1] at h2
      omega
    rw [if_neg hno]
    have hjl : j < ks.length := by omega
    obtain ⟨x, hx⟩ : ∃ x, ks[j]? = some x := ⟨_, List.getElem?_eq_getElem hjl⟩
    have ht : ks.take j ++ [⟨(kb ks j).toArray⟩] = ks.take (j + 1) := by
      have hxx : (⟨x.data.toList.toArray⟩ : ByteArray) = x := by cases x; simp
      rw [List.take_add_one, hx, kb_at hx, hxx]
      rfl
    rw [ht]
    refine keys_rest hs d (j + 1) F (kb ks j) (by omega) (.inr (by rw [show j + 1 - 1 = j by omega])) ?_
    have h1 := enc_pos (shareL ks j)
    have h2 : (restTo ks j (d + 1)).length = (entL (shareL ks j) (kb ks j)).length + (restTo ks (j + 1) d).length := by
      show (entL (shareL ks j) (kb ks j) ++ restTo ks (j + 1) d).length = _
      rw [List.length_append]
    have h3 : 0 < (entL (shareL ks j) (kb ks j)).length := by unfold entL; rw [List.length_append]; omega
    omega

theorem keys_build {ks : List ByteArray} (hs : ∀ x ∈ ks, x.size ≤ 60000) : keysL (bodyTo ks ks.length) = some ks := by
  have hb := body_rest ks ks.length 0
  rw [Nat.zero_add] at hb
  have hb2 : bodyTo ks ks.length = restTo ks 0 ks.length := by rw [hb]; rfl
  unfold keysL
  rw [hb2]
  have := keys_rest hs ks.length 0 ((restTo ks 0 ks.length).length + 1) [] (by omega) (.inl rfl) (by omega)
  simpa using this
end Go.Proofs.YtfhdonidgegebaaDoor

/- Blocks, Len, May, Block. -/
namespace Go.Proofs.YtfhdonidgegebaaDoor
open Go Go.RowKit

/-- What a table's pointer is: nil, or an open table. -/
def TabV (w : World) (v : Value) (T : Option Tab) : Prop := match T with
  | none => v = .pointer none
  | some T => ∃ g, v = .pointer (some ⟨g, 0, none⟩) ∧ TabAt w g T

set_option maxRecDepth 100000 in
set_option maxHeartbeats 400000 in
theorem blocks_nil (w : World) : Calls Tryd.prog 15 #[.pointer none] w (KeepsVal w (.int .i64 0)) := by
  go_enter Tryd.func15, Tryd.ntmps15
  go_wp2
  go_ret
  exact ⟨rfl, rfl⟩

set_option maxRecDepth 100000 in
set_option maxHeartbeats 400000 in
theorem blocks_any (w : World) (g : Nat) (T : Tab) (h : TabAt w g T) : Calls Tryd.prog 15 #[.pointer (some ⟨g, 0, none⟩)] w (KeepsVal w (.int .i64 (T.sp.length : Int))) := by
  obtain ⟨gx, bv, fv, h1, ⟨xa, xcap, h2, _⟩, _, _⟩ := h
  have c0 := Lib.cell_of_heap h1 0
  have x0 := Lib.cell_of_heap h2 0
  simp at c0 x0
  have l1 := (Array.getElem?_eq_some_iff.1 h1).1
  have l2 := (Array.getElem?_eq_some_iff.1 h2).1
  clear h1 h2
  go_enter Tryd.func15, Tryd.ntmps15
  go_wp2
  go_ret
  exact ⟨rfl, rfl⟩

set_option maxRecDepth 100000 in
set_option maxHeartbeats 400000 in
theorem len_nil (w : World) : Calls Tryd.prog 13 #[.pointer none] w (KeepsVal w (.int .i64 0)) := by
  go_enter Tryd.func13, Tryd.ntmps13
  go_wp2
  go_ret
  exact ⟨rfl, rfl⟩

set_option maxRecDepth 100000 in
set_option maxHeartbeats 400000 in
theorem tlen_any (w : World) (g : Nat) (T : Tab) (h : TabAt w g T) : Calls Tryd.prog 13 #[.pointer (some ⟨g, 0, none⟩)] w (KeepsVal w (.int .i64 T.len)) := by
  obtain ⟨gx, bv, fv, h1, _, _, _⟩ := h
  have c3 := Lib.cell_of_heap h1 3
  simp at c3
  have l1 := (Array.getElem?_eq_some_iff.1 h1).1
  clear h1
  go_enter Tryd.func13, Tryd.ntmps13
  go_wp2
  go_ret
  exact ⟨rfl, rfl⟩

set_option maxRecDepth 100000 in
set_option maxHeartbeats 400000 in
theorem tmay_nil (w : World) (s : ByteArray) : Calls Tryd.prog 20 #[.pointer none, .string s] w (GivesBool w false) := by
  go_enter Tryd.func20, Tryd.ntmps20
  go_wp2
  go_ret
  exact ⟨rfl, Below.refl _ _⟩

set_option maxRecDepth 100000 in
set_option maxHeartbeats 400000 in
theorem tmay_any (w : World) (g : Nat) (T : Tab) (s : ByteArray) (h : TabAt w g T) (hs : s.size ≤ 1000000) (hf : T.filter.length ≤ 1000000) : Calls Tryd.prog 20 #[.pointer (some ⟨g, 0, none⟩), .string s] w (GivesBool w (mayL T.filter s.data.toList)) := by
  obtain ⟨gx, bv, fv, h1, _, _, h4⟩ := h
  have c2 := Lib.cell_of_heap h1 2
  simp at c2
  have l1 := (Array.getElem?_eq_some_iff.1 h1).1
  have HM := Lib.hid (may_any w fv _ T.filter s h4 (by omega) (by omega))
  obtain ⟨fa, fcap, rfl, _, _⟩ := h4.le
  clear h1 h4
  go_enter Tryd.func20, Tryd.ntmps20
  go_wp2_with (go_at_call 49; go_must (refine HM.out.mono ?_))
  rintro e w1 ⟨rfl, b1⟩
  go_wp2
  go_ret
  exact ⟨rfl, b1⟩

def keysOk (l : List UInt8) (ks : List ByteArray) : Prop := ∃ d p, partsL l = some (d, p) ∧ keysL d = some ks ∧ rises ks ∧ buildL ks = l
def keysNot (l : List UInt8) : Prop := ∀ d p ks, partsL l = some (d, p) → keysL d = some ks → ¬ (rises ks ∧ buildL ks = l)

/-- A block's frame. -/
def frameOf (T : Tab) (s : Span) : List UInt8 := mid T.data s.at_ (s.at_ + s.len)

/-- What a block is. -/
def BlkIs (T : Tab) (i : Int) : Except Nat (List ByteArray) → Prop
  | .error c => (c = 1 ∧ (i < 0 ∨ (T.sp.length : Int) ≤ i)) ∨ ((c = 8 ∨ c = 9) ∧ ∃ (k : Nat) (s : Span), i = (k : Int) ∧ T.sp[k]? = some s ∧ ((nextL (frameOf T s)).1 ≠ 0 ∨ nextN (frameOf T s) ≠ s.len ∨ keysNot (nextL (frameOf T s)).2))
  | .ok ks => ∃ (k : Nat) (s : Span), i = (k : Int) ∧ T.sp[k]? = some s ∧ (nextL (frameOf T s)).1 = 0 ∧ nextN (frameOf T s) = s.len ∧ keysOk (nextL (frameOf T s)).2 ks

def BlkPost (w : World) (T : Tab) (i : Int) (e : Ending) (w' : World) : Prop :=
  Below w.heap.size w w' ∧ ∃ r, BlkIs T i r ∧ match r with
    | .error c => e = .returned (.tuple #[.slice none 0 0, .int .i64 (c : Int)])
    | .ok ks => ∃ v, e = .returned (.tuple #[v, .int .i64 0]) ∧ w'.ownsRow w.heap.size 9 1 v ks.length (scells ks)

/-- The blocks' places lie in the bytes. -/
def Fits (T : Tab) : Prop := T.data.length ≤ 60000 ∧ T.sp.length ≤ 60000 ∧ ∀ s ∈ T.sp, s.at_ + s.len ≤ T.data.length

set_option maxRecDepth 100000 in
set_option maxHeartbeats 400000 in
theorem block_nil (w : World) (i : Int) : Calls Tryd.prog 16 #[.pointer none, .int .i64 i] w (KeepsVal w (.tuple #[.slice none 0 0, .int .i64 1])) := by
  go_enter Tryd.func16, Tryd.ntmps16
  go_wp2
  go_ret2
  exact ⟨rfl, rfl⟩

theorem keysB_small (N : Nat) : ∀ (F : Nat) (rest key : List UInt8) (ks out : List ByteArray), keysB F rest key ks = some out → key.length + rest.length ≤ N → ks.length + rest.length ≤ N → (∀ x ∈ ks, x.size ≤ N) → out.length ≤ N ∧ ∀ x ∈ out, x.size ≤ N
  | 0, rest, key, ks, out, h, _, _, _ => by simp [keysB] at h
  | F + 1, rest, key, ks, out, h, h1, h2, h3 => by
    unfold keysB at h
    by_cases h0 : rest = []
    · rw [if_pos h0] at h
      cases h
      exact ⟨by omega, h3⟩
    · rw [if_neg h0] at h
      cases hs : stepB rest key with
      | none => rw [hs] at h; cases h
      | some p =>
        obtain ⟨r, k, s⟩ := p
        rw [hs] at h
        simp only at h
        have hl := stepB_less hs h0
        split at h
        · cases h
        · refine keysB_small N F r k _ out h (by omega) (by simp; omega) (fun x hx => ?_)
          rcases List.mem_append.1 hx with hx | hx
          · exact h3 x hx
          · simp at hx
            subst hx
            show k.toArray.size ≤ N
            simp
            omega

theorem keysL_small {d : List UInt8} {ks : List ByteArray} (h : keysL d = some ks) : ks.length ≤ d.length ∧ ∀ x ∈ ks, x.size ≤ d.length :=
  keysB_small d.length _ _ _ _ _ h (by simp) (by simp) (fun x hx => by simp at hx)

theorem keys_small (w : World) (v : Value) (l : List UInt8) (h : Sl w.heap.size w v l) (hl : l.length ≤ 60000) :
    Calls Tryd.prog 46 #[v] w (KeysPost w l) :=
  keys_any w v l h (by omega) (fun d p ks h1 h2 => by
    have h3 := parts_length h1
    have h4 := keysL_small h2
    exact ⟨by omega, fun x hx => by have := h4.2 x hx; omega⟩)
end Go.Proofs.YtfhdonidgegebaaDoor

namespace Go.Proofs.YtfhdonidgegebaaDoor
open Go

theorem nextL_ok {b : List UInt8} (h : (nextL b).1 = 0) : 8 ≤ b.length ∧ nextN b = 8 + (nextL b).2.length ∧ nextN b ≤ b.length := by
  have hN : nextN b = 8 + (nextL b).2.length := by rw [nextN, if_pos h]
  by_cases h1 : b.length < 8 ∨ b.length - 8 < num4 b
  · have e1 : nextL b = (7, []) := if_pos h1
    rw [e1] at h
    cases h
  · by_cases h2 : sumL ((b.drop 8).take (num4 b)) = num4 (b.drop 4)
    · have e1 : nextL b = (0, (b.drop 8).take (num4 b)) := by rw [nextL, if_neg h1, if_pos h2]
      rw [hN, e1]
      refine ⟨by omega, rfl, ?_⟩
      simp only [List.length_take, List.length_drop]
      omega
    · have e1 : nextL b = (8, []) := by rw [nextL, if_neg h1, if_neg h2]
      rw [e1] at h
      cases h

/-- all frames at the head of bytes, and where they end -/
def allL (b : List UInt8) : List (List UInt8) × Nat :=
  if _h : (nextL b).1 = 0 then ((nextL b).2 :: (allL (b.drop (nextN b))).1, nextN b + (allL (b.drop (nextN b))).2) else ([], 0)
termination_by b.length
decreasing_by
  all_goals
    have := nextL_ok (by assumption)
    simp only [List.length_drop]
    omega

theorem allL_more {b : List UInt8} (h : (nextL b).1 = 0) : allL b = ((nextL b).2 :: (allL (b.drop (nextN b))).1, nextN b + (allL (b.drop (nextN b))).2) := by
  conv => lhs; rw [allL]
  rw [dif_pos h]

theorem allL_stop {b : List UInt8} (h : ¬ (nextL b).1 = 0) : allL b = ([], 0) := by
  rw [allL, dif_neg h]

/-- frames behind one another -/
def seals (ps : List (List UInt8)) : List UInt8 := ps.flatMap sealL

theorem seals_cons (p : List UInt8) (r : List (List UInt8)) : seals (p :: r) = sealL p ++ seals r := rfl

theorem seals_snoc (ps : List (List UInt8)) (p : List UInt8) : seals (ps ++ [p]) = seals ps ++ sealL p := by simp [seals]

/-- where the first m frames end -/
def endAt (ps : List (List UInt8)) (m : Nat) : Nat := (seals (ps.take m)).length

/-- A frame that is cut isn't read. -/
theorem next_cut {p : List UInt8} (h : p.length < 4294967296) {c : Nat} (hc : c < 8 + p.length) : ¬ (nextL ((sealL p).take c)).1 = 0 := by
  have hl : ((sealL p).take c).length = c := by rw [List.length_take, sealL_length]; omega
  have hs : nextL ((sealL p).take c) = (7, []) := by
    apply if_pos
    rw [hl]
    by_cases h8 : c < 8
    · exact .inl h8
    · right
      have e1 : (sealL p).take c = be4 p.length ++ ((be4 (sumL p) ++ p).take (c - 4)) := by
        have e2 : sealL p = be4 p.length ++ (be4 (sumL p) ++ p) := by simp [sealL]
        rw [e2, List.take_append, List.take_of_length_le (by simp [be4]; omega)]
        rfl
      rw [e1, num4_be4 h]
      omega
  rw [hs]
  decide

theorem all_cut {ps : List (List UInt8)} (hp : ∀ p ∈ ps, p.length < 4294967296) : ∀ (cut m : Nat), m ≤ ps.length → endAt ps m ≤ cut → (m < ps.length → cut < endAt ps (m + 1)) → cut ≤ (seals ps).length →
    allL ((seals ps).take cut) = (ps.take m, endAt ps m) := by
  induction ps with
  | nil =>
    intro cut m hm h1 h2 h3
    have e : (seals []).take cut = [] := by simp [seals]
    rw [e, allL_stop (by decide +kernel)]
    simp [endAt, seals]
  | cons p r ih =>
    intro cut m hm h1 h2 h3
    have hpl := hp p (by simp)
    have hsl := sealL_length p
    rw [seals_cons] at h3 ⊢
    cases m with
    | zero =>
      have hc : cut < 8 + p.length := by
        have := h2 (by simp)
        simp [endAt, seals, hsl] at this
        omega
      rw [List.take_append_of_le_length (by omega), allL_stop (next_cut hpl hc)]
      simp [endAt, seals]
    | succ m =>
      have e0 : ∀ j, endAt (p :: r) (j + 1) = 8 + p.length + endAt r j := by
        intro j
        unfold endAt
        rw [List.take_succ_cons, seals_cons, List.length_append, hsl]
      rw [e0] at h1
      have hc : 8 + p.length ≤ cut := by omega
      have e1 : (sealL p ++ seals r).take cut = sealL p ++ (seals r).take (cut - (8 + p.length)) := by
        rw [List.take_append, List.take_of_length_le (by omega), hsl]
      have hn := next_seal hpl ((seals r).take (cut - (8 + p.length)))
      have hN := nextN_seal hpl ((seals r).take (cut - (8 + p.length)))
      have hd : (sealL p ++ (seals r).take (cut - (8 + p.length))).drop (8 + p.length) = (seals r).take (cut - (8 + p.length)) := by
        rw [← hsl, List.drop_left]
      have hi := ih (fun q hq => hp q (by simp [hq])) (cut - (8 + p.length)) m (by simp at hm; omega) (by omega) (fun hlt => by
        have := h2 (by simp; omega)
        rw [e0] at this
        omega) (by rw [List.length_append, hsl] at h3; omega)
      rw [e1, allL_more (by rw [hn]), hn, hN, hd, hi, e0]
      simp

/-- how many of the first j frames are whole within the cut -/
def wholeN (ps : List (List UInt8)) (cut : Nat) : Nat → Nat
  | 0 => 0
  | j + 1 => if endAt ps (j + 1) ≤ cut then j + 1 else wholeN ps cut j

theorem wholeN_spec (ps : List (List UInt8)) (cut j : Nat) : wholeN ps cut j ≤ j ∧ endAt ps (wholeN ps cut j) ≤ cut ∧ ∀ i, wholeN ps cut j < i → i ≤ j → cut < endAt ps i := by
  induction j with
  | zero => exact ⟨Nat.le_refl _, by simp [wholeN, endAt, seals], fun i h1 h2 => by simp [wholeN] at h1; omega⟩
  | succ j ih =>
    rw [wholeN]
    by_cases h : endAt ps (j + 1) ≤ cut
    · rw [if_pos h]
      exact ⟨Nat.le_refl _, h, fun i h1 h2 => by omega⟩
    · rw [if_neg h]
      refine ⟨by omega, ih.2.1, fun i h1 h2 => ?_⟩
      by_cases hi : i = j + 1
      · subst hi; omega
      · exact ih.2.2 i h1 (by omega)

theorem all_whole {ps : List (List UInt8)} (hp : ∀ p ∈ ps, p.length < 4294967296) (cut : Nat) (hc : cut ≤ (seals ps).length) :
    allL ((seals ps).take cut) = (ps.take (wholeN ps cut ps.length), endAt ps (wholeN ps cut ps.length)) := by
  obtain ⟨h1, h2, h3⟩ := wholeN_spec ps cut ps.length
  exact all_cut hp cut _ h1 h2 (fun hlt => h3 _ (by omega) (by omega)) hc

theorem endAt_succ {ps : List (List UInt8)} {j : Nat} {p : List UInt8} (h : ps[j]? = some p) : endAt ps (j + 1) = endAt ps j + (8 + p.length) := by
  unfold endAt
  rw [List.take_add_one, h]
  simp only [Option.toList_some]
  rw [seals_snoc, List.length_append, sealL_length]

theorem endAt_le {ps : List (List UInt8)} (hp : ∀ p ∈ ps, p.length ≤ 300) (m : Nat) : endAt ps m ≤ 308 * m := by
  induction m with
  | zero => simp [endAt, seals]
  | succ m ih =>
    cases h : ps[m]? with
    | none =>
      have : endAt ps (m + 1) = endAt ps m := by
        unfold endAt
        rw [List.take_add_one, h]
        simp
      omega
    | some p =>
      have := hp p (List.mem_of_getElem? h)
      rw [endAt_succ h]
      omega
end Go.Proofs.YtfhdonidgegebaaDoor
