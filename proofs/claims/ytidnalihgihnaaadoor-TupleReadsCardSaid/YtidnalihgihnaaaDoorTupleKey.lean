import Derived.Test.YtidnalihgihnaaaDoorTupleOrderMath
import Derived.Test.YtidnalihgihnaaaDoorBuilder
import Derived.Test.YtidnalihgihnaaaDoorShelf
namespace Go.Proofs.YtidnalihgihnaaaDoor
open Go Go.RowKit

theorem keyL_append (p q : List (List UInt8)) : keyL (p ++ q) = keyL p ++ keyL q := by
  induction p with
  | nil => rfl
  | cons x p ih => simp [keyL, ih]

def lists (l : List ByteArray) : List (List UInt8) := l.map (·.data.toList)

theorem six_lists (t : Six) : lists t.list = t.bytes := rfl

/-- The first k parts, as a key has them. -/
def keyTo (t : Six) (k : Nat) : List UInt8 := keyL (lists (t.list.take k))

theorem keyTo_succ {t : Six} {k : Nat} {s : ByteArray} (h : t.list[k]? = some s) : keyTo t (k + 1) = keyTo t k ++ s.data.toList ++ [0] := by
  unfold keyTo
  rw [List.take_add_one, h]
  simp [lists, keyL_append, keyL]

theorem keyTo_length {t : Six} (h : t.short 1000000) (k : Nat) : (keyTo t k).length ≤ 6000006 := by
  obtain ⟨h1, h2, h3, h4, h5, h6⟩ := h
  have e : ∀ (p q : List (List UInt8)), (keyL p).length ≤ (keyL (p ++ q)).length := fun p q => by rw [keyL_append, List.length_append]; omega
  have := e (lists (t.list.take k)) (lists (t.list.drop k))
  rw [show lists (t.list.take k) ++ lists (t.list.drop k) = t.bytes from by unfold lists; rw [← List.map_append, List.take_append_drop]; rfl] at this
  refine Nat.le_trans this ?_
  simp [Six.bytes, keyL]
  omega

theorem run_part (w : World) (t : Six) : ∀ (j : Nat) (s : ByteArray), t.list[j]? = some s → (Instr.index 39 (.agg #[.string t.a, .string t.b, .string t.c, .string t.d, .string t.e, .string t.f]) (.int .i64 (j : Int))).run Tryd.prog w = .ok (.string s) w := by
  intro j s hj
  have h := Tryd.underlying39
  have hl : j < 6 := by
    have := (List.getElem?_eq_some_iff.1 hj).1
    simpa [Six.list] using this
  have : j = 0 ∨ j = 1 ∨ j = 2 ∨ j = 3 ∨ j = 4 ∨ j = 5 := by omega
  rcases this with rfl | rfl | rfl | rfl | rfl | rfl <;> (simp [Six.list] at hj; subst hj; simp [Instr.index, run_underlying h, asIntOf, go_sem])

def keyV (t : Six) : Value := .tuple #[.string (if t.ok then ⟨(keyL t.bytes).toArray⟩ else ⟨#[]⟩), checkV t.ok]

def KeyRel (w w1 : World) (b : Nat) (t : Six) (i : Value) (wr : World) : Prop :=
  ∃ k : Nat, i = .int .i64 (k : Int) ∧ k ≤ 6 ∧ Lib.IsBuilder 54 5 w1.heap.size b (bcells (keyTo t k)) wr ∧ Below w.heap.size w wr ∧ b < wr.heap.size ∧ w1.heap.size ≤ wr.heap.size

set_option maxRecDepth 100000 in
set_option maxHeartbeats 1000000 in
theorem key_any (w : World) (t : Six) (hs : t.short 1000000) : Calls Tryd.prog 15 #[t.val] w (GivesVal w (keyV t)) := by
  have hcheck := fun w => check_any w t ⟨by have := hs.1; omega, by have := hs.2.1; omega, by have := hs.2.2.1; omega, by have := hs.2.2.2.1; omega, by have := hs.2.2.2.2.1; omega, by have := hs.2.2.2.2.2; omega⟩
  have hlen := keyTo_length hs
  have hpart : ∀ (k : Nat) (s : ByteArray), t.list[k]? = some s → s.size ≤ 1000000 := by
    obtain ⟨h1, h2, h3, h4, h5, h6⟩ := hs
    intro k s h
    have := List.mem_of_getElem? h
    simp [Six.list] at this
    rcases this with rfl | rfl | rfl | rfl | rfl | rfl <;> assumption
  have hk : keyV t = .tuple #[.string (if t.ok then ⟨(keyL t.bytes).toArray⟩ else ⟨#[]⟩), checkV t.ok] := rfl
  have hparts := fun w => parts_any w t
  have hrun := fun w j s h => run_part w t j s h
  rw [show t.val = .agg #[.string t.a, .string t.b, .string t.c, .string t.d, .string t.e, .string t.f] from rfl] at *
  generalize t.ok = ok at *
  have HC := Lib.hid hcheck
  have HL := Lib.hid hlen
  have HPt := Lib.hid hpart
  have HK := Lib.hid hk
  have HP := Lib.hid hparts
  have HR := Lib.hid hrun
  clear hcheck hlen hpart hs hk hparts hrun
  go_enter Tryd.func15, Tryd.ntmps15
  go_wp2_with (go_at_call 16; go_must (refine (HC.out _).mono ?_))
  rintro e1 w1 ⟨rfl, b1⟩
  have hb1 : Below w.heap.size w w1 := ((Below.refl _ w).alloc (Nat.le_refl _) _).trans (b1.mono (by simp))
  have hbox := below_block b1 (heap_alloc_new w _) (by simp)
  have c0 := Lib.cell_of_heap hbox 0
  have c1 := Lib.cell_of_heap hbox 1
  have c2 := Lib.cell_of_heap hbox 2
  have c3 := Lib.cell_of_heap hbox 3
  have c4 := Lib.cell_of_heap hbox 4
  have c5 := Lib.cell_of_heap hbox 5
  simp at c0 c1 c2 c3 c4 c5
  have hsz : w.heap.size < w1.heap.size := (Array.getElem?_eq_some_iff.1 hbox).1
  have HB1 := Lib.hid hb1
  clear b1 hb1 hbox
  unfold checkV at *
  cases ok with
  | false =>
    go_wp2
    go_ret2
    rw [HK.out]
    exact ⟨rfl, HB1.out⟩
  | true =>
    go_wp2_with (go_at_call 25; go_must (refine (HP.out _).mono ?_))
    rintro e2 w2 ⟨rfl, b2⟩
    have hb2 : Below w.heap.size w w2 := (HB1.out.alloc HB1.out.size _).trans (b2.mono (by simp; omega))
    have hbl : Lib.IsBuilder 54 5 w1.heap.size w1.heap.size (bcells (keyTo t 0)) w2 :=
      Or.inl ⟨Nat.le_refl _, .slice none 0 0, below_block b2 (heap_alloc_new w1 _) (by simp), World.ownsRow_nil _ _ _ _, by simp [Value.ownBlock]⟩
    have hs2 : w1.heap.size < w2.heap.size := by have := b2.size; simp at this; omega
    have HB2 := Lib.hid hb2
    have HBl := Lib.hid hbl
    clear b2 hb2 hbl c0 c1 c2 c3 c4 c5
    go_wp2
    go_loopw [15] (fun i wr => KeyRel w w1 w1.heap.size t i wr) (fun i _ => 6 - (intOf i).toNat)
    case atStart => exact ⟨0, rfl, by decide, HBl.out, HB2.out, hs2, by omega⟩
    case round =>
      obtain ⟨k, rfl, hk, hbl, hb, hbr, hbs⟩ := hrel
      have HB := Lib.hid hb
      have hln := HL.out k
      by_cases hlt : k < 6
      · obtain ⟨s, hx⟩ : ∃ s, t.list[k]? = some s := ⟨t.list[k]'(by simpa [Six.list] using hlt), List.getElem?_eq_getElem _⟩
        have hss := HPt.out k s hx
        have hrun := HR.out wr k s hx
        have hsucc := keyTo_succ hx
        have HSu := Lib.hid hsucc
        have hbn := bcells_length (keyTo t k)
        clear hsucc hx hb
        generalize keyTo t k = K at *
        go_wp2_with (go_at_call 26; go_must (refine (writeString_any _ _ _ s _ hbl (by omega) hbs).mono ?_))
        rintro e3 w3 ⟨rfl, hbl3, b3⟩
        rw [← bcells_append] at hbl3
        have hs3 := b3.size
        have hbn3 := bcells_length (K ++ s.data.toList)
        rw [List.length_append, size_data] at hbn3
        have hb3 := HB.out.trans (b3.mono (B' := w.heap.size) (by omega))
        have HB3 := Lib.hid hb3
        clear b3 hb3 hrun hbl
        go_wp2_with (go_at_call 27; go_must (refine (writeByte_any _ _ _ 0 _ hbl3 (by omega) (by omega)).mono ?_))
        rintro e4 w4 ⟨rfl, hbl4, b4⟩
        rw [← bcells_append] at hbl4
        have hs4 := b4.size
        have hb4 := HB3.out.trans (b4.mono (B' := w.heap.size) (by omega))
        have HB4 := Lib.hid hb4
        have HBl4 := Lib.hid hbl4
        clear b4 hb4 hbl3 hbl4
        go_wp2
        refine ⟨⟨k + 1, by go_num, by omega, ?_, HB4.out, by omega, by omega⟩, by simp [intOf]; omega⟩
        rw [HSu.out]
        exact HBl4.out
      · obtain rfl : k = 6 := by omega
        have hfull : keyTo t 6 = keyL t.bytes := rfl
        rw [hfull] at hbl
        have HBl6 := Lib.hid hbl
        clear hbl hb hln hfull
        go_wp2_with (go_at_call 28; go_must (refine (Tryd.Builder_String_any _ _ _ _ HBl6.out hbs).mono ?_))
        rintro e3 w3 ⟨rfl, b3⟩
        have hb3 := HB.out.trans (b3.mono (B' := w.heap.size) (by omega))
        have HB3 := Lib.hid hb3
        clear b3 hb3
        go_wp2
        go_ret2
        rw [HK.out]
        exact ⟨rfl, HB3.out⟩
end Go.Proofs.YtidnalihgihnaaaDoor
