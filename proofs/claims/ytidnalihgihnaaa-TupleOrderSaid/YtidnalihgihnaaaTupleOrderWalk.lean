import Derived.Test.YtidnalihgihnaaaTupleRefCmp
import Derived.Test.YtidnalihgihnaaaTupleKey
import Derived.Test.YtidnalihgihnaaaTupleMatch
namespace Go.Proofs.Ytidnalihgihnaaa
open Go Go.RowKit

theorem tups_two {w : World} {b : Nat} {p q : Six} {e : TypeId} (h : w.heap[b]? = some (.cells (scells (p.list ++ q.list)).toArray e (0, 0))) : TupsAt w b [p, q] := by
  intro j t' hj i s hi
  have hj2 : j < 2 := by
    have := (List.getElem?_eq_some_iff.1 hj).1
    simpa using this
  have hi6 : i < 6 := by
    have := (List.getElem?_eq_some_iff.1 hi).1
    have h6 : t'.list.length = 6 := rfl
    omega
  rw [Lib.cell_of_heap h]
  have : j = 0 ∨ j = 1 := by omega
  rcases this with rfl | rfl
  · simp at hj
    subst hj
    have hlen : i < p.list.length := hi6
    simp only [scells, List.getElem?_toArray, List.getElem?_map]
    rw [List.getElem?_append_left (by omega), Nat.zero_mul, Nat.zero_add, hi]
    rfl
  · simp at hj
    subst hj
    have hlen : p.list.length ≤ 1 * 6 + i := by show 6 ≤ 1 * 6 + i; omega
    simp only [scells, List.getElem?_toArray, List.getElem?_map]
    rw [List.getElem?_append_right hlen, show 1 * 6 + i - p.list.length = i from by show 1 * 6 + i - 6 = i; omega, hi]
    rfl

def keyB (t : Six) : ByteArray := ⟨(keyL t.bytes).toArray⟩

/-- What the law asks of two keys. -/
structure KeysSay (X Y : ByteArray) (C : Int) : Prop where
  less : Op.bytesLess X.toList Y.toList = decide (C < 0)
  eq : (X.toList == Y.toList) = decide (C = 0)
  begins : X.size < Y.size → ((Y.extract 0 X.size).toList == X.toList) = false
  begun : Y.size < X.size → ((X.extract 0 Y.size).toList == Y.toList) = false

theorem no_beginning {p q : Six} (hp : p.ok = true) (hq : q.ok = true) (hs : (keyB p).size < (keyB q).size) : (((keyB q).extract 0 (keyB p).size).toList == (keyB p).toList) = false := by
  rw [beq_eq_false_iff_ne]
  intro h
  rw [toList_eq', toList_eq', Lib.extract_from_zero] at h
  have hpre : keyL p.bytes <+: keyL q.bytes := by
    have e : (keyB p).data.toList = keyL p.bytes := rfl
    have e' : (keyB q).data.toList = keyL q.bytes := rfl
    rw [← e, ← e', ← h]
    exact List.take_prefix _ _
  have := key_prefix p.bytes q.bytes rfl (nz_six hp) (nz_six hq) hpre
  unfold keyB at hs
  rw [this] at hs
  exact Nat.lt_irrefl _ hs

theorem keys_say {p q : Six} (hp : p.ok = true) (hq : q.ok = true) : KeysSay (keyB p) (keyB q) (cmpBs p.list q.list) := by
  have h := key_less p.bytes q.bytes rfl (nz_six hp) (nz_six hq)
  have hc : cmpBs p.list q.list = cmpL p.bytes q.bytes := cmpBs_eq p.list q.list
  refine ⟨?_, ?_, no_beginning hp hq, no_beginning hq hp⟩
  · rw [toList_eq', toList_eq', hc]; exact h.1
  · rw [toList_eq', toList_eq', hc]; exact h.2

theorem cmpBs_ways (p q : List ByteArray) : cmpBs p q = -1 ∨ cmpBs p q = 0 ∨ cmpBs p q = 1 := by
  rw [cmpBs_eq]; exact cmpL_ways _ _

/-- The two tuples of the law lie where they lay. -/
def TwoIn (w : World) (p q : Six) (wk : World) : Prop :=
  Below w.heap.size w wk ∧ wk.heap[w.heap.size]? = some (.cells (scells p.list).toArray 29 (0, 0)) ∧ wk.heap[w.heap.size + 1]? = some (.cells (scells q.list).toArray 29 (0, 0))

theorem TwoIn.step {w wk wk' : World} {p q : Six} (h : TwoIn w p q wk) (hb : Below wk.heap.size wk wk') : TwoIn w p q wk' :=
  ⟨h.1.trans (hb.mono h.1.size), below_block hb h.2.1 (Array.getElem?_eq_some_iff.1 h.2.1).1, below_block hb h.2.2 (Array.getElem?_eq_some_iff.1 h.2.2).1⟩

set_option maxRecDepth 100000 in
set_option maxHeartbeats 1000000 in
theorem tupleOrder_walk (w : World) (p q : Six) : Calls Try.prog 4 #[p.val, q.val] w (SaysTrue w) := by
  have hc1 := fun w => tcmp_any w p q
  have hc2 := fun w => refcmp_any w p q
  have hk1 := fun hs w => key_any w p hs
  have hk2 := fun hs w => key_any w q hs
  unfold keyV at hk1 hk2
  have hsay := fun h1 h2 => keys_say (p := p) (q := q) h1 h2
  have hways := cmpBs_ways p.list q.list
  unfold keyB at hsay
  have HSay := Lib.hid hsay
  have HC1 := Lib.hid hc1
  have HC2 := Lib.hid hc2
  have HK1 := Lib.hid hk1
  have HK2 := Lib.hid hk2
  have HW := Lib.hid hways
  clear hc1 hc2 hk1 hk2 hsay hways
  unfold Six.val
  go_enter Try.func4, Try.ntmps4
  go_wp2_with (go_at_call 5; go_must (refine (fixed_any _).mono ?_))
  rintro e w1 ⟨rfl, b1⟩
  have hb0 : Below w.heap.size w ((w.alloc (.cells #[.string p.a, .string p.b, .string p.c, .string p.d, .string p.e, .string p.f] 29)).alloc (.cells #[.string q.a, .string q.b, .string q.c, .string q.d, .string q.e, .string q.f] 29)) := ((Below.refl _ _).alloc (Nat.le_refl _) _).alloc (by simp) _
  have hb1 : Below w.heap.size w w1 := hb0.trans (b1.mono hb0.size)
  have hp1 : w1.heap[w.heap.size]? = some (.cells (scells p.list).toArray 29 (0, 0)) :=
    below_block b1 ((Below.heap_alloc (w.alloc (.cells #[.string p.a, .string p.b, .string p.c, .string p.d, .string p.e, .string p.f] 29)) _ _ (by simp)).trans (heap_alloc_new w _)) (by simp; omega)
  have hq1 : w1.heap[w.heap.size + 1]? = some (.cells (scells q.list).toArray 29 (0, 0)) :=
    below_block b1 (by
      have := heap_alloc_new (w.alloc (.cells #[.string p.a, .string p.b, .string p.c, .string p.d, .string p.e, .string p.f] 29)) (.cells #[.string q.a, .string q.b, .string q.c, .string q.d, .string q.e, .string q.f] 29)
      simpa [scells, Six.list] using this) (by simp)
  have hin : TwoIn w p q w1 := ⟨hb1, hp1, hq1⟩
  obtain ⟨c0, c1, c2, c3, c4, c5⟩ := six_cells' hp1
  obtain ⟨d0, d1, d2, d3, d4, d5⟩ := six_cells' hq1
  have HI := Lib.hid hin
  clear b1 hb0 hb1 hp1 hq1 hin
  have hnew := heap_alloc_new w1 (.cells (scells (p.list ++ q.list)).toArray 29)
  have hfew := few_any (w1.alloc (.cells (scells (p.list ++ q.list)).toArray 29)) w1.heap.size 2 2 [p, q] rfl (by decide) (by decide) (by simp) (tups_two hnew)
  have HFew := Lib.hid hfew
  clear hnew hfew
  go_wp2_with (go_at_call 6; go_must (refine HFew.out.mono ?_))
  rintro e w2 ⟨rfl, b2⟩
  have hin2 := HI.out.step (wk' := w2) (((Below.refl _ w1).alloc (Nat.le_refl _) _).trans (b2.mono (by simp)))
  obtain ⟨c0, c1, c2, c3, c4, c5⟩ := six_cells' hin2.2.1
  obtain ⟨d0, d1, d2, d3, d4, d5⟩ := six_cells' hin2.2.2
  have HI2 := Lib.hid hin2
  clear b2 hin2 HI HFew
  cases hfew : [p, q].all Six.tight with
  | false =>
    go_wp2
    go_ret
    exact ⟨rfl, HI2.out.1⟩
  | true =>
    have hsh : p.short 200 ∧ q.short 200 := by
      simp at hfew
      exact ⟨tight_short hfew.1, tight_short hfew.2⟩
    have up : ∀ t : Six, t.short 200 → t.short 1000000 := fun t ⟨h1, h2, h3, h4, h5, h6⟩ => ⟨by omega, by omega, by omega, by omega, by omega, by omega⟩
    have hk1 := HK1.out (up p hsh.1)
    have hk2 := HK2.out (up q hsh.2)
    have HK1' := Lib.hid hk1
    have HK2' := Lib.hid hk2
    clear hk1 hk2 hsh up hfew HK1 HK2
    generalize cmpBs p.list q.list = C at *
    generalize p.ok = o1 at *
    generalize q.ok = o2 at *
    generalize (⟨(keyL p.bytes).toArray⟩ : ByteArray) = X at *
    generalize (⟨(keyL q.bytes).toArray⟩ : ByteArray) = Y at *
    obtain ⟨X1, hX1⟩ : ∃ X1, (if o1 = true then X else ⟨#[]⟩) = X1 := ⟨_, rfl⟩
    obtain ⟨Y1, hY1⟩ : ∃ Y1, (if o2 = true then Y else ⟨#[]⟩) = Y1 := ⟨_, rfl⟩
    obtain ⟨n1, hn1⟩ : ∃ n1 : Int, (if o1 = true then 0 else 2) = n1 := ⟨_, rfl⟩
    obtain ⟨n2, hn2⟩ : ∃ n2 : Int, (if o2 = true then 0 else 2) = n2 := ⟨_, rfl⟩
    unfold checkV at HK1' HK2'
    rw [hX1, hn1] at HK1'
    rw [hY1, hn2] at HK2'
    have HX1 := Lib.hid hX1
    have HY1 := Lib.hid hY1
    have Hn1 := Lib.hid hn1
    have Hn2 := Lib.hid hn2
    clear hX1 hY1 hn1 hn2
    go_wp2_with (go_at_call 9; go_must (refine (HC2.out _).mono ?_))
    rintro e w3 ⟨rfl, b3⟩
    have hin3 := HI2.out.step b3
    clear c0 c1 c2 c3 c4 c5 d0 d1 d2 d3 d4 d5
    obtain ⟨c0, c1, c2, c3, c4, c5⟩ := six_cells' hin3.2.1
    obtain ⟨d0, d1, d2, d3, d4, d5⟩ := six_cells' hin3.2.2
    have HI3 := Lib.hid hin3
    clear b3 hin3 HI2
    go_wp2_with (go_at_call 10; go_must (refine (HC1.out _).mono ?_))
    rintro e w4 ⟨rfl, b4⟩
    have hin4 := HI3.out.step b4
    clear c0 c1 c2 c3 c4 c5 d0 d1 d2 d3 d4 d5
    obtain ⟨c0, c1, c2, c3, c4, c5⟩ := six_cells' hin4.2.1
    obtain ⟨d0, d1, d2, d3, d4, d5⟩ := six_cells' hin4.2.2
    have HI4 := Lib.hid hin4
    clear b4 hin4 HI3
    have hCC : (C != C) = false := by simp
    go_wp2_with (go_at_call 11; go_must (refine (HK1'.out _).mono ?_))
    rintro e w5 ⟨rfl, b5⟩
    have hin5 := HI4.out.step b5
    clear c0 c1 c2 c3 c4 c5 d0 d1 d2 d3 d4 d5
    obtain ⟨d0, d1, d2, d3, d4, d5⟩ := six_cells' hin5.2.2
    have HI5 := Lib.hid hin5
    clear b5 hin5 HI4 hCC
    go_wp2_with (go_at_call 11; go_must (refine (HK2'.out _).mono ?_))
    rintro e w6 ⟨rfl, b6⟩
    have hin6 := HI5.out.step b6
    have HI6 := Lib.hid hin6
    clear b6 hin6 HI5 d0 d1 d2 d3 d4 d5
    cases o1 with
    | false =>
      obtain rfl : 2 = n1 := Hn1.out
      go_wp2
      go_ret
      exact ⟨rfl, HI6.out.1⟩
    | true =>
      obtain rfl : 0 = n1 := Hn1.out
      obtain rfl : X = X1 := HX1.out
      cases o2 with
      | false =>
        obtain rfl : 2 = n2 := Hn2.out
        go_wp2
        go_ret
        exact ⟨rfl, HI6.out.1⟩
      | true =>
        obtain rfl : 0 = n2 := Hn2.out
        obtain rfl : Y = Y1 := HY1.out
        obtain ⟨hl, he, hb1, hb2⟩ := HSay.out rfl rfl
        have hways : (C = -1 ∧ Op.bytesLess X.toList Y.toList = true ∧ (X.toList == Y.toList) = false) ∨ (C = 0 ∧ Op.bytesLess X.toList Y.toList = false ∧ (X.toList == Y.toList) = true) ∨ (C = 1 ∧ Op.bytesLess X.toList Y.toList = false ∧ (X.toList == Y.toList) = false) := by
          rw [hl, he]
          rcases HW.out with rfl | rfl | rfl
          · exact .inl (by decide)
          · exact .inr (.inl (by decide))
          · exact .inr (.inr (by decide))
        clear hl he HSay HW HK1' HK2' HC1 HC2
        rcases Nat.lt_trichotomy X.size Y.size with hsz | hsz | hsz
        · have hb := hb1 hsz
          clear hb1 hb2
          rcases hways with ⟨rfl, hl, he⟩ | ⟨rfl, hl, he⟩ | ⟨rfl, hl, he⟩
          all_goals
            go_wp2
            go_ret
            exact ⟨rfl, HI6.out.1⟩
        · clear hb1 hb2
          rcases hways with ⟨rfl, hl, he⟩ | ⟨rfl, hl, he⟩ | ⟨rfl, hl, he⟩
          all_goals
            go_wp2
            go_ret
            exact ⟨rfl, HI6.out.1⟩
        · have hb := hb2 hsz
          clear hb1 hb2
          rcases hways with ⟨rfl, hl, he⟩ | ⟨rfl, hl, he⟩ | ⟨rfl, hl, he⟩
          all_goals
            go_wp2
            go_ret
            exact ⟨rfl, HI6.out.1⟩
end Go.Proofs.Ytidnalihgihnaaa
