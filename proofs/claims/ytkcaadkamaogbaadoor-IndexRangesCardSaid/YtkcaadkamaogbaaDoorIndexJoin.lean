import Derived.Test.YtkcaadkamaogbaaDoorBuilderW
import Derived.Test.YtkcaadkamaogbaaDoorTupleCheck
import Derived.Test.YtkcaadkamaogbaaDoorShelf
namespace Go.Proofs.YtkcaadkamaogbaaDoor
open Go Go.RowKit

/-- The strings, a zero between two. -/
def joinT : List ByteArray → List UInt8
  | [] => []
  | t :: r => 0 :: (t.data.toList ++ joinT r)

def joinL : List ByteArray → List UInt8
  | [] => []
  | s :: r => s.data.toList ++ joinT r

theorem joinT_snoc (l : List ByteArray) (t : ByteArray) : joinT (l ++ [t]) = joinT l ++ (0 :: t.data.toList) := by
  induction l with
  | nil => simp [joinT]
  | cons x l ih => simp [joinT, ih]

def sumS (l : List ByteArray) : Nat := (l.map (·.size)).sum

theorem sumS_snoc (l : List ByteArray) (t : ByteArray) : sumS (l ++ [t]) = sumS l + t.size := by simp [sumS]

theorem sumS_le (l : List ByteArray) (h : ∀ s ∈ l, s.size ≤ 1000000000) : sumS l ≤ l.length * 1000000000 := by
  induction l with
  | nil => exact Nat.zero_le _
  | cons x l ih =>
    have h1 := h x (List.mem_cons_self ..)
    have h2 := ih (fun s hs => h s (List.mem_cons_of_mem _ hs))
    simp only [sumS, List.map_cons, List.sum_cons, List.length_cons] at h2 ⊢
    omega

theorem joinT_length (l : List ByteArray) : (joinT l).length = l.length + sumS l := by
  induction l with
  | nil => rfl
  | cons x l ih =>
    simp only [joinT, List.length_cons, List.length_append, ih, sumS, List.map_cons, List.sum_cons, Array.length_toList]
    show x.size + (l.length + _) + 1 = _
    omega

theorem take_one (l : List ByteArray) (k : Nat) (s : ByteArray) (h : l[k]? = some s) : l.take (k + 1) = l.take k ++ [s] := by
  rw [List.take_add_one, h]
  rfl

/-- The lengths of the first k, with what stands between all. -/
def JSum (ls : List ByteArray) (m : Nat) (a i : Value) : Prop :=
  ∃ k : Nat, i = .int .i64 (k : Int) ∧ k ≤ m + 1 ∧ a = .int .i64 ((m + sumS (ls.take k) : Nat) : Int)

def JRel (w : World) (ls : List ByteArray) (s0 : ByteArray) (m : Nat) (i : Value) (wr : World) : Prop :=
  ∃ k : Nat, i = .int .i64 (k : Int) ∧ k ≤ m ∧ Lib.IsBuilder 78 5 w.heap.size w.heap.size (bcells (s0.data.toList ++ joinT ((ls.drop 1).take k))) wr ∧ Below w.heap.size w wr ∧ w.heap.size ≤ wr.heap.size

def GrowPost (B b : Nat) (w : World) (e : Ending) (w' : World) : Prop :=
  e = .returned (.tuple #[]) ∧ Lib.IsBuilder 78 5 B b [] w' ∧ Below B w w'

theorem grow_any (B b n : Nat) (w : World) (hB : B ≤ b) (hbk : w.heap[b]? = some (.cells #[.pointer none, .slice none 0 0] 78 (0, 0))) (hBw : B ≤ w.heap.size) (hn : n ≤ 281474976710656) :
    Calls Tryd.prog 40 #[.pointer (some ⟨b, 0, none⟩), .int .i64 n] w (GrowPost B b w) :=
  (Tryd.Builder_Grow_fresh B b n w hB hbk hBw hn).mono fun _ _ h => ⟨h.1, .inr h.2.1, h.2.2⟩

def WsPost (B b : Nat) (bs : List Value) (s : ByteArray) (w : World) (e : Ending) (w' : World) : Prop :=
  e = .returned (.tuple #[.int .i64 s.size, .nilIface]) ∧ Lib.IsBuilder 78 5 B b (bs ++ bcells s.data.toList) w' ∧ Below B w w'

theorem ws_any (B b : Nat) (bs : List Value) (s : ByteArray) (w : World) (h : Lib.IsBuilder 78 5 B b bs w) (hlen : bs.length + s.size ≤ 100000000000) (hBw : B ≤ w.heap.size) :
    Calls Tryd.prog 41 #[.pointer (some ⟨b, 0, none⟩), .string s] w (WsPost B b bs s w) := writeString_any B b bs s w h hlen hBw

theorem max_div : ∀ m : Fin 9, (1 : Int) < (9223372036854775807 : Int) / ((m.val : Int) + 1) := by decide +kernel

set_option maxRecDepth 100000 in
set_option maxHeartbeats 1000000 in
theorem join_any (w : World) (v : Value) (n : Nat) (ls : List ByteArray) (h : Reads w 1 v n (scells ls)) (hn : 1 ≤ n ∧ n ≤ 9) (hs : ∀ s ∈ ls, s.size ≤ 1000000000) :
    Calls Tryd.prog 35 #[v, .string ⟨#[0]⟩] w (GivesVal w (.string ⟨(joinL ls).toArray⟩)) := by
  have hl : ls.length = n := by have := h.1; simpa [scells] using this
  have HL := Lib.hid hl
  have HS := Lib.hid hs
  obtain ⟨a, cap, rfl, hcap, hcm⟩ := h.le
  have HR := Lib.hid h
  have hcell : ∀ j, j < n → ∃ b off s, a = some ⟨b, off, none⟩ ∧ ls[j]? = some s ∧ b < w.heap.size ∧ w.cell? ⟨b, off + j, none⟩ = some (.string s) := fun j hj => h.scell j hj
  have HC := Lib.hid hcell
  unfold maxLen at hcm
  clear hl hs h hcell
  obtain ⟨b, off, s0, rfl, hs0, hb0, hc0⟩ := HC.out 0 (by omega)
  have hz0 := HS.out s0 (List.mem_of_getElem? hs0)
  have Hs0 := Lib.hid hs0
  clear hs0
  by_cases h1 : n = 1
  · subst h1
    have hj : joinL ls = s0.data.toList := by
      obtain ⟨x, rfl⟩ := List.length_eq_one_iff.1 HL.out
      have := Hs0.out
      simp at this
      subst this
      simp [joinL, joinT]
    have hjs : (⟨(joinL ls).toArray⟩ : ByteArray) = s0 := by rw [hj]
    rw [hjs]
    rw [Nat.add_zero] at hc0
    clear hj hjs hn
    go_enter Tryd.func35, Tryd.ntmps35
    go_wp2
    go_ret
    exact ⟨rfl, Below.refl _ _⟩
  · obtain ⟨m, rfl⟩ : ∃ m, n = m + 1 + 1 := ⟨n - 2, by omega⟩
    have hdv := max_div ⟨m, by omega⟩
    simp only at hdv
    have hm8 : m ≤ 7 := by omega
    clear hn h1
    go_enter Tryd.func35, Tryd.ntmps35
    go_wp2
    go_loop [5, 41] (fun a i => JSum ls (m + 1) a i) (fun _ i => m + 2 - (intOf i).toNat)
    case atStart => exact ⟨0, rfl, Nat.zero_le _, by simp [sumS]⟩
    case round =>
      obtain ⟨k, rfl, hk, rfl⟩ := hrel
      by_cases hlt : k < m + 1 + 1
      · obtain ⟨b', off', s, hv, hsk, hbk, hck⟩ := HC.out k hlt
        cases hv
        have hsz := HS.out s (List.mem_of_getElem? hsk)
        have hsm := sumS_snoc (ls.take k) s
        rw [← take_one ls k s hsk] at hsm
        have hle := sumS_le (ls.take k) (fun x hx => HS.out x (List.mem_of_mem_take hx))
        have hll : (ls.take k).length ≤ 9 := by rw [List.length_take, HL.out]; omega
        have hle2 : sumS (ls.take k) ≤ 9000000000 := by
          have := Nat.mul_le_mul_right 1000000000 hll
          omega
        generalize sumS (ls.take k) = x at *
        have HSm := Lib.hid hsm
        clear hsm hsk hle hll
        have hltI : (k : Int) < (m : Int) + 1 + 1 := by omega
        go_wp2
        exact ⟨⟨k + 1, by go_num, by omega, by rw [HSm.out]; push_cast; congr 1; omega⟩, by simp [intOf]; omega⟩
      · obtain rfl : k = m + 1 + 1 := by omega
        have hfull : ls.take (m + 1 + 1) = ls := List.take_of_length_le (by rw [HL.out]; exact Nat.le_refl _)
        rw [hfull]
        have hle := sumS_le ls (fun x hx => HS.out x hx)
        rw [HL.out] at hle
        have hle2 : sumS ls ≤ 9000000000 := by omega
        obtain ⟨N, hN⟩ : ∃ N : Nat, m + 1 + sumS ls = N := ⟨_, rfl⟩
        rw [hN]
        have hN2 : N ≤ 281474976710656 := by omega
        clear hle hle2 hfull hlt hk hN
        have hb1 : Below w.heap.size w (w.alloc (.cells #[.pointer none, .slice none 0 0] 78)) := (Below.refl _ w).alloc (Nat.le_refl _) _
        have hbk : (w.alloc (.cells #[.pointer none, .slice none 0 0] 78)).heap[w.heap.size]? = some (.cells #[.pointer none, .slice none 0 0] 78 (0, 0)) := heap_alloc_new w _
        have HGr := Lib.hid (grow_any w.heap.size w.heap.size N _ (Nat.le_refl _) hbk (by simp) hN2)
        have HB1 := Lib.hid hb1
        clear hbk hb1 hN2
        go_wp2_with (go_at_call 40; go_must (refine HGr.out.mono ?_))
        rintro e w1 ⟨rfl, hat, hbl⟩
        have hb2 := HB1.out.trans hbl
        have c0 := (hb2.cell (p := ⟨b, off + 0, none⟩) hb0).trans hc0
        rw [Nat.add_zero] at c0
        have hs2 := hb2.size
        have HAt := Lib.hid (show Lib.IsBuilder 78 5 w.heap.size w.heap.size [] w1 from hat)
        have HB2 := Lib.hid hb2
        have hlen : ([] : List Value).length + s0.size ≤ 100000000000 := by simp; omega
        clear HGr HB1 hat hbl hb2
        go_wp2_with (go_at_call 41; go_must (refine (ws_any _ _ _ s0 _ HAt.out hlen hs2).mono ?_))
        rintro e w2 ⟨rfl, hat, hbl⟩
        have HAt2 := Lib.hid (show Lib.IsBuilder 78 5 w.heap.size w.heap.size (bcells (s0.data.toList ++ joinT ((ls.drop 1).take 0))) w2 by rw [List.take_zero, joinT, List.append_nil]; exact hat)
        have HB3 := Lib.hid (HB2.out.trans hbl)
        have hs3 := HB3.out.size
        have hcap1 : ¬ ((cap : Int) = 1) := by omega
        clear HAt HB2 hat hbl c0 hlen hs2
        go_wp2
        go_loopw [65] (fun i wr => JRel w ls s0 (m + 1) i wr) (fun i _ => m + 1 - (intOf i).toNat)
        case atStart => exact ⟨0, rfl, Nat.zero_le _, HAt2.out, HB3.out, hs3⟩
        case round =>
          clear HAt2 HB3 hs3
          obtain ⟨k, rfl, hk, hat, hb, hsw⟩ := hrel
          by_cases hlt : k < m + 1
          · obtain ⟨b', off', s, hv, hsk, hbk, hck⟩ := HC.out (k + 1) (by omega)
            cases hv
            have hsz := HS.out s (List.mem_of_getElem? hsk)
            have ck := (hb.cell (p := ⟨b, off + (k + 1), none⟩) hbk).trans hck
            rw [show off + (k + 1) = off + 1 + k by omega] at ck
            have hsd : (ls.drop 1)[k]? = some s := by rw [List.getElem?_drop, Nat.add_comm 1 k]; exact hsk
            have hst := take_one (ls.drop 1) k s hsd
            have hjl := joinT_length ((ls.drop 1).take k)
            have hle := sumS_le ((ls.drop 1).take k) (fun x hx => HS.out x (List.mem_of_mem_drop (List.mem_of_mem_take hx)))
            have hll : ((ls.drop 1).take k).length ≤ 9 := by rw [List.length_take, List.length_drop, HL.out]; omega
            have hlen : (s0.data.toList ++ joinT ((ls.drop 1).take k)).length ≤ 20000000000 := by
              have h1 := Nat.mul_le_mul_right 1000000000 hll
              have h2 : s0.data.toList.length = s0.size := Array.length_toList
              rw [List.length_append, hjl, h2]
              omega
            have hjs := joinT_snoc ((ls.drop 1).take k) s
            rw [← hst] at hjs
            have hnew : s0.data.toList ++ joinT ((ls.drop 1).take (k + 1)) = s0.data.toList ++ joinT ((ls.drop 1).take k) ++ (⟨#[0]⟩ : ByteArray).data.toList ++ s.data.toList := by
              rw [hjs]
              simp
            generalize s0.data.toList ++ joinT ((ls.drop 1).take k) = J at *
            have HNew := Lib.hid hnew
            have HLn := Lib.hid hlen
            have HAt3 := Lib.hid hat
            have HB4 := Lib.hid hb
            have hltI : (k : Int) < (m : Int) + 1 := by omega
            have hl1 : (bcells J).length + (⟨#[0]⟩ : ByteArray).size ≤ 100000000000 := by
              rw [bcells_length]
              have : (⟨#[0]⟩ : ByteArray).size = 1 := rfl
              omega
            have hl2 : (bcells J ++ bcells (⟨#[0]⟩ : ByteArray).data.toList).length + s.size ≤ 100000000000 := by
              rw [List.length_append, bcells_length, bcells_length]
              have : (⟨#[0]⟩ : ByteArray).data.toList.length = 1 := rfl
              omega
            have HL1 := Lib.hid hl1
            have HL2 := Lib.hid hl2
            clear hnew hlen hat hb hst hjl hle hll hjs hsd hsk hck hl1 hl2
            go_wp2_with (go_at_call 41; go_must (refine (ws_any _ _ _ ⟨#[0]⟩ _ HAt3.out HL1.out hsw).mono ?_))
            rintro e w3 ⟨rfl, hat, hbl⟩
            have hs4 := Nat.le_trans hsw hbl.size
            have HAt4 := Lib.hid hat
            have HB5 := Lib.hid (HB4.out.trans hbl)
            clear hat hbl ck HAt3
            go_wp2_with (go_at_call 41; go_must (refine (ws_any _ _ _ s _ HAt4.out HL2.out hs4).mono ?_))
            rintro e w4 ⟨rfl, hat, hbl⟩
            have HB6 := Lib.hid (HB5.out.trans hbl)
            have hs5 := Nat.le_trans hs4 hbl.size
            have HAt5 := Lib.hid (show Lib.IsBuilder 78 5 w.heap.size w.heap.size (bcells (s0.data.toList ++ joinT ((ls.drop 1).take (k + 1)))) w4 by rw [HNew.out, bcells_append, bcells_append]; exact hat)
            clear hat hbl
            go_wp2
            exact ⟨⟨k + 1, by go_num, by omega, HAt5.out, HB6.out, hs5⟩, by simp [intOf]; omega⟩
          · obtain rfl : k = m + 1 := by omega
            have hfin : s0.data.toList ++ joinT ((ls.drop 1).take (m + 1)) = joinL ls := by
              rw [List.take_of_length_le (by rw [List.length_drop, HL.out]; omega)]
              have h0 := Hs0.out
              cases ls with
              | nil => simp at h0
              | cons x r =>
                simp at h0
                subst h0
                rfl
            rw [hfin] at hat
            have HAt3 := Lib.hid hat
            have HB4 := Lib.hid hb
            clear hat hb hfin hlt hk
            go_wp2_with (go_at_call 42; go_must (refine (Tryd.Builder_String_any _ _ _ _ HAt3.out hsw).mono ?_))
            rintro e w3 ⟨rfl, hbl⟩
            have HB5 := Lib.hid (HB4.out.trans hbl)
            clear hbl
            go_wp2
            go_ret
            exact ⟨rfl, HB5.out⟩
end Go.Proofs.YtkcaadkamaogbaaDoor
