/- What the proof stands on, part 4. -/
import Derived.Test.YtoibhkmlebcepaaDoorMg3
import Derived.Lib.SlBytesConst
import Derived.Lib.SmallJoins
namespace Go.Proofs.YtoibhkmlebcepaaDoor
open Go Go.RowKit

def entB (x : Ent) : List UInt8 := (if x.del then 1 else 0) :: (enc x.key.size ++ x.key.data.toList)
def recTo (rev n : Nat) (l : List Ent) : List UInt8 := enc rev ++ enc n ++ l.flatMap entB
def recL (rev : Nat) (l : List Ent) : List UInt8 := recTo rev l.length l

theorem recTo_succ {rev n k : Nat} {l : List Ent} {x : Ent} (h : l[k]? = some x) : recTo rev n (l.take (k + 1)) = recTo rev n (l.take k) ++ [if x.del then 1 else 0] ++ (enc x.key.size ++ x.key.data.toList) := by
  rw [List.take_add_one, h]
  simp [recTo, entB]

theorem entB_length (x : Ent) (h : x.key.size ≤ 65536) : (entB x).length ≤ 65547 := by
  have h1 := enc_length_le 9 x.key.size (by omega)
  have h2 : x.key.data.toList.length = x.key.size := Array.length_toList
  simp [entB] at h2 ⊢
  omega

theorem flat_le (l : List Ent) (h : ∀ x ∈ l, x.key.size ≤ 65536) : (l.flatMap entB).length ≤ l.length * 65547 := by
  induction l with
  | nil => simp
  | cons x l ih =>
    have h1 := entB_length x (h x (List.mem_cons_self ..))
    have h2 := ih (fun y hy => h y (List.mem_cons_of_mem _ hy))
    rw [List.flatMap_cons, List.length_append, List.length_cons, Nat.add_mul]
    omega

theorem recTo_le {rev n : Nat} {l : List Ent} (hr : rev < 18446744073709551616) (hn : n ≤ 256) (hl : l.length ≤ 256) (h : ∀ x ∈ l, x.key.size ≤ 65536) : (recTo rev n l).length ≤ 20000000 := by
  have h1 := enc_length_le 9 rev (by omega)
  have h2 := enc_length_le 9 n (by omega)
  have h3 := flat_le l h
  have h4 := Nat.mul_le_mul_right 65547 hl
  unfold recTo
  simp only [List.length_append]
  omega

theorem right_keys {rev : Nat} {l : List Ent} (h : rightB rev l = true) : (∀ x ∈ l, x.key.size ≤ 65536) ∧ (∀ x ∈ l, x.rev = rev) ∧ 1 ≤ rev ∧ 1 ≤ l.length ∧ l.length ≤ 256 := by
  unfold rightB sizeOk at h
  simp only [Bool.and_eq_true, decide_eq_true_eq, List.all_eq_true] at h
  obtain ⟨h1, h2, h3, h4⟩ := h
  unfold entOk at h1
  simp only [Bool.and_eq_true, decide_eq_true_eq] at h1
  exact ⟨fun x hx => (h1 x hx).2, fun x hx => (h1 x hx).1, h2, h3, h4⟩

theorem Fresh.keep {B : Nat} {w w' : World} {e : TypeId} {size n : Nat} {v : Value} {xs : List Value} (h : Fresh B w e size v n xs) (hb : Below w.heap.size w w') : Fresh B w' e size v n xs :=
  h.grown (row := none) ⟨hb.os, hb.tape, hb.output, hb.size, fun k hk _ => hb.block k hk⟩ (by cases v.ownBlock <;> simp)

theorem Reads.own_lt {w : World} {n : Nat} {v : Value} {l : List UInt8} (h : Reads w 1 v n (bcells l)) (hn : 0 < n) : ∀ b, v.ownBlock = some b → b < w.heap.size := by
  obtain ⟨b, off, cap, rfl, _, _, hl, hc⟩ := h.head hn
  intro b' hb'
  simp [Value.ownBlock] at hb'
  subst hb'
  exact World.block_lt_of_cell? _ _ (hc 0 hn)

theorem reads_nil (w : World) : Reads w 1 (.slice none 0 0) ([] : List UInt8).length (bcells []) := (fresh_none 0 w 5 1).1

/-- 'append(s, x)' of one cell that has just been laid in block N. -/
theorem wpList_append_one_at {P : Program} {w0 : World} {ops : Array Oper} {rest : List Oper} {o : Oper} {a : Act} {Q : Exit → Act → World → Prop} (hgd : o.guard = none) (s x : Operand) (t : TypeId)
    (ho : o.op = .call { callee := .builtin .append, args := #[s, x], argTypes := #[t, t] })
    (B : Nat) (e : TypeId) (i : TypeInfo) (z : Value) (bytes : Nat) (ht : P.underlying t = some (.slice e)) (hi : P.info? e = some i) (hz : i.zero = some z)
    (hsize : i.size = 1) (hby : i.bytes = bytes) (hzs : z.cells.size = 1)
    {v : Value} {n : Nat} {xs : List Value} {u : Value} {N : Nat} (hN : w0.heap.size = N) (hown : Fresh B w0 e 1 v n xs) (hs : a.eval s = v) (hx : a.eval x = .slice (some ⟨N, 0, none⟩) 1 1) (h1 : u.oneCell' = true)
    (h63 : n + 1 ≤ maxLen) (hbytes : (n + 1) * bytes ≤ 140737488355328) (hB : B ≤ w0.heap.size)
    (h : ∀ v' w', Fresh B w' e 1 v' (n + 1) (xs ++ [u]) → w0.grownBy w' v.ownBlock → Below B w0 w' → Moves w0 v v' → wpList P ops Q rest (a.put o.dst v') w') : wpList P ops Q (o :: rest) a (w0.alloc (.cells #[u] e)) := by
  subst hN
  exact wpList_append_one hgd s x t ho B e i z bytes ht hi hz hsize hby hzs hown hs hx h1 h63 hbytes hB h

def EncRel (w : World) (rev n : Nat) (sv : Value) (l : List Ent) (bv i : Value) (wr : World) : Prop :=
  ∃ k : Nat, i = .int .i64 (k : Int) ∧ k ≤ n ∧ Fresh (w.heap.size + 1) wr 5 1 bv (recTo rev n (l.take k)).length (bcells (recTo rev n (l.take k))) ∧ Below w.heap.size w wr ∧ wr.heap[w.heap.size]? = some (.cells #[.int .u64 (rev : Int), sv] 25 (0, 0))

def EncYes (w : World) (r : List UInt8) (e : Ending) (w' : World) : Prop :=
  ∃ v, e = .returned (.tuple #[v, .int .i64 0]) ∧ Fresh w.heap.size w' 5 1 v r.length (bcells r) ∧ Below w.heap.size w w'

def EncPost (w : World) (rev : Nat) (l : List Ent) (e : Ending) (w' : World) : Prop :=
  if rightB rev l = true then EncYes w (sealL (recL rev l)) e w' else GivesVal w (.tuple #[.slice none 0 0, .int .i64 9]) e w'

set_option maxRecDepth 100000 in
set_option maxHeartbeats 1000000 in
theorem encode_any (w : World) (rev : Nat) (a : Option Addr) (n cap : Nat) (l : List Ent) (h : Reads w 3 (.slice a n cap) n (ecells l)) (hl : l.length = n) (hcap : n ≤ cap ∧ cap ≤ maxLen) (hks : ∀ x ∈ l, x.key.size ≤ maxLen) (hrv : rev < 18446744073709551616) (hst : Steps w) :
    Calls Tryd.prog 9 #[.agg #[.int .u64 (rev : Int), .slice a n cap]] w (EncPost w rev l) := by
  obtain ⟨i0, hi, hz0, hz1, hz2⟩ := info_parts info5
  have hmay := fun w h => maybe_any w rev a n cap l h hl hcap hks
  have HM := Lib.hid hmay
  have HL := Lib.hid hl
  have HK := Lib.hid hks
  unfold maxLen at hcap
  have hb0 : Below w.heap.size w (w.alloc (.cells #[.int .u64 (rev : Int), .slice a n cap] 25)) := (Below.refl _ w).alloc (Nat.le_refl _) _
  have HR := Lib.hid h
  have HS := Lib.hid hst
  have HG := Lib.hid (heap_alloc_new w (.cells #[.int .u64 (rev : Int), .slice a n cap] 25))
  have HB := Lib.hid hb0
  clear h hl hks hb0 hst hmay
  go_enter Tryd.func9, Tryd.ntmps9
  go_wp2_with (go_at_call 20; go_must (refine (HM.out _ (HR.out.below' HB.out)).mono ?_))
  rintro e w1 ⟨rfl, b1⟩
  replace HG := Lib.hid (below_block b1 HG.out (Array.getElem?_eq_some_iff.1 HG.out).1)
  replace HB := Lib.hid (HB.out.trans (b1.mono HB.out.size))
  clear b1
  have hg1 := HG.out
  have q0 := Lib.cell_of_heap hg1 0
  have q1 := Lib.cell_of_heap hg1 1
  simp at q0 q1
  have hlt0 : w.heap.size < w1.heap.size := (Array.getElem?_eq_some_iff.1 hg1).1
  clear hg1
  cases hrb : rightB rev l with
  | false =>
    have HRb := Lib.hid hrb
    clear hlt0 hrb
    go_wp2
    go_ret2
    unfold EncPost
    rw [if_neg (by rw [HRb.out]; decide)]
    exact ⟨rfl, HB.out⟩
  | true =>
    obtain ⟨hk6, _, _, _, hn6⟩ := right_keys hrb
    have HK6 := Lib.hid hk6
    have HRb := Lib.hid hrb
    have hn256 : n ≤ 256 := by rw [← HL.out]; exact hn6
    clear hrb hk6 hn6 HM HK
    go_wp2_with (go_at_call 21; go_must (refine (put_any _ _ [] rev (reads_nil _) (by decide) hrv).mono ?_))
    rintro e w2 ⟨v2, rfl, f2, b2⟩
    rw [List.nil_append] at f2
    have HF2 := Lib.hid (f2.mono (B := w.heap.size + 1) (by omega))
    clear f2 q0 q1
    replace HG := Lib.hid (below_block b2 HG.out (Array.getElem?_eq_some_iff.1 HG.out).1)
    replace HB := Lib.hid (HB.out.trans (b2.mono HB.out.size))
    clear b2
    have hg2 := HG.out
    have q0 := Lib.cell_of_heap hg2 0
    have q1 := Lib.cell_of_heap hg2 1
    simp at q0 q1
    have hlt2 : w.heap.size < w2.heap.size := (Array.getElem?_eq_some_iff.1 hg2).1
    clear hg2
    go_wp2_with (go_at_call 21; go_must (refine (put_any _ _ [] n (reads_nil _) (by decide) (by omega)).mono ?_))
    rintro e w3 ⟨v3, rfl, f3, b3⟩
    rw [List.nil_append] at f3
    have f2 := HF2.out.keep b3
    clear q0 q1 HF2
    replace HG := Lib.hid (below_block b3 HG.out (Array.getElem?_eq_some_iff.1 HG.out).1)
    replace HB := Lib.hid (HB.out.trans (b3.mono HB.out.size))
    clear b3
    have hsrc := f3.1.src (P := Tryd.prog) (tx := 28) Tryd.underlying28 (bcells_one _)
    have hel1 := enc_length_le 9 rev (by omega)
    have hel2 := enc_length_le 9 n (by omega)
    have hlt3 : w.heap.size < w3.heap.size := (Array.getElem?_eq_some_iff.1 HG.out).1
    go_wp2_with (at_builtin; go_must (refine wpList_append_fresh rfl _ _ 28 28 rfl (w.heap.size + 1) 5 i0 (.int .u8 0) 1 1 Tryd.underlying28 hi hz0 hz1 hz2 rfl _ _ _ rfl f2 _ _ _ rfl hsrc ?_ ?_ ?_ ?_))
    · unfold maxLen; omega
    · omega
    · omega
    intro v4 w4 f4 g4 b4 _
    rw [← bcells_append, ← List.length_append] at f4
    have hg4 := below_block b4 HG.out (by omega)
    have hb4 := HB.out.trans (b4.mono (by omega))
    have HF4 := Lib.hid f4
    have HG4 := Lib.hid hg4
    have HB4 := Lib.hid hb4
    have q0 := Lib.cell_of_heap hg4 0
    have q1 := Lib.cell_of_heap hg4 1
    simp at q0 q1
    have hlt4 : w.heap.size < w4.heap.size := (Array.getElem?_eq_some_iff.1 hg4).1
    clear f4 g4 b4 hg4 hb4 HG HB f2 f3 hsrc hlt0 hlt2 hlt3
    go_wp2
    go_loopw [4, 24] (fun bv i wr => EncRel w rev n (.slice a n cap) l bv i wr) (fun _ i _ => n - (intOf i).toNat)
    case atStart =>
      refine ⟨0, rfl, Nat.zero_le _, ?_, HB4.out, HG4.out⟩
      have e : recTo rev n (l.take 0) = enc rev ++ enc n := by simp [recTo]
      rw [e]
      exact HF4.out
    case round =>
      obtain ⟨k, rfl, hk, hfr, hb, hg⟩ := hrel
      clear q0 q1 hlt4 HF4 HG4 HB4
      have hlen : (recTo rev n (l.take k)).length ≤ 20000000 := recTo_le hrv hn256 (by rw [List.length_take, HL.out]; omega) (fun x hx => HK6.out x (List.mem_of_mem_take hx))
      have hpos : 0 < (recTo rev n (l.take k)).length := by
        have := enc_pos rev
        unfold recTo
        simp only [List.length_append]
        omega
      have hlt0 : w.heap.size < wr.heap.size := (Array.getElem?_eq_some_iff.1 hg).1
      have HB := Lib.hid hb
      have HG := Lib.hid hg
      have HF := Lib.hid hfr
      clear hb hg hfr
      by_cases hlt : k < n
      · obtain ⟨x, hx⟩ : ∃ x, l[k]? = some x := ⟨l[k]'(by rw [HL.out]; exact hlt), List.getElem?_eq_getElem _⟩
        obtain ⟨g, off, rfl, hgl, c0, c1, c2⟩ := ent_cells (HR.out.below' HB.out) hx
        have hsz := HK6.out x (List.mem_of_getElem? hx)
        have hsu := recTo_succ (rev := rev) (n := n) hx
        have hkI : (k : Int) < n := by omega
        obtain ⟨key, r, d⟩ := x
        dsimp only at c0 c1 c2 hsz hsu
        have HSu := Lib.hid hsu
        clear hsu hx
        generalize hT : recTo rev n (l.take k) = T at *
        generalize hT1 : recTo rev n (l.take (k + 1)) = T1 at *
        have HT1 := Lib.hid hT1
        clear hT hT1
        have hbx : Below w.heap.size w (wr.alloc (.cells #[.string key, .int .u64 (r : Int), .bool d] 48)) := HB.out.alloc (by omega) _
        have hfx := HF.out.alloc (.cells #[.string key, .int .u64 (r : Int), .bool d] 48)
        have hgx := (heap_alloc_old wr (.cells #[.string key, .int .u64 (r : Int), .bool d] 48) hlt0).trans HG.out
        have hxx := heap_alloc_new wr (.cells #[.string key, .int .u64 (r : Int), .bool d] 48)
        have how := HF.out.1.own_lt hpos
        have HBx := Lib.hid hbx
        have HGx := Lib.hid hgx
        have HXx := Lib.hid hxx
        have HOw := Lib.hid how
        have hlx : (wr.alloc (.cells #[.string key, .int .u64 (r : Int), .bool d] 48)).heap.size = wr.heap.size + 1 := by simp
        have HLx := Lib.hid hlx
        clear hbx hgx hxx how hlx HF HG HB
        have hbit : ∃ bt : UInt8, bt = (if d then 1 else 0) := ⟨_, rfl⟩
        obtain ⟨bt, hbt⟩ := hbit
        rw [← hbt] at HSu
        have hbsx : w.heap.size + 1 ≤ (wr.alloc (.cells #[.string key, .int .u64 (r : Int), .bool d] 48)).heap.size := by simp; omega
        cases d
        · go_wp2_with (at_builtin; go_must (refine wpList_append_one_at (w0 := wr.alloc (.cells #[.string key, .int .u64 (r : Int), .bool false] 48)) rfl _ _ 28 rfl (w.heap.size + 1) 5 i0 (.int .u8 0) 1 Tryd.underlying28 hi hz0 hz1 hz2 rfl HLx.out hfx rfl rfl rfl ?_ ?_ hbsx ?_))
          · unfold maxLen; omega
          · omega
          intro v5 w5 f5 g5 b5 _
          have e5 : bcells T ++ [Value.int .u8 0] = bcells (T ++ [bt]) := bcells_snoc T bt (by rw [hbt]; rfl)
          have l5 : T.length + 1 = (T ++ [bt]).length := by simp
          rw [e5, l5] at f5
          have hg5 := below_block b5 HGx.out (by omega)
          have hx5 := (g5.block wr.heap.size (by rw [HLx.out]; omega) (fun h => by have := HOw.out _ h.symm; omega)).trans HXx.out
          have hb5 := HBx.out.trans (b5.mono (by omega))
          have d0 := Lib.cell_of_heap hx5 0
          simp at d0
          have HF5 := Lib.hid f5
          have HG5 := Lib.hid hg5
          have HB5 := Lib.hid hb5
          have hlt5 : wr.heap.size < w5.heap.size := (Array.getElem?_eq_some_iff.1 hx5).1
          have hw5 := hb5.size
          clear f5 g5 b5 hg5 hb5 hx5 hfx c0 c1 c2 e5 l5 HGx HBx HXx HOw
          go_wp2_with (go_at_call 22; go_must (refine (puttext_any _ _ [] key (reads_nil _) (by decide) (by omega)).mono ?_))
          rintro e w6 ⟨v6, rfl, f6, b6⟩
          rw [List.nil_append] at f6
          have f7 := HF5.out.keep b6
          have hg6 := below_block b6 HG5.out (by omega)
          have hb6 := HB5.out.trans (b6.mono HB5.out.size)
          have hsrc := f6.1.src (P := Tryd.prog) (tx := 28) Tryd.underlying28 (bcells_one _)
          have hw6 := hb6.size
          have hs6 := b6.size
          have hkz : (enc key.size ++ key.data.toList).length ≤ 70000 := by
            have h1 := enc_length_le 9 key.size (by omega)
            have h2 : key.data.toList.length = key.size := Array.length_toList
            rw [List.length_append]
            omega
          have htz : (T ++ [bt]).length ≤ 20000001 := by rw [List.length_append]; simp; omega
          have HB6 := Lib.hid hb6
          have HG6 := Lib.hid hg6
          have HF7 := Lib.hid f7
          have HS6 := Lib.hid hsrc
          clear d0 hb6 hg6 f6 HF5 HG5 HB5 b6 f7 hsrc
          generalize enc key.size ++ key.data.toList = KT at *
          generalize hTB : T ++ [bt] = TB at *
          have HTB := Lib.hid hTB
          clear hTB
          go_wp2_with (at_builtin; go_must (refine wpList_append_fresh rfl _ _ 28 28 rfl (w.heap.size + 1) 5 i0 (.int .u8 0) 1 1 Tryd.underlying28 hi hz0 hz1 hz2 rfl _ _ _ rfl HF7.out _ _ _ rfl HS6.out ?_ ?_ ?_ ?_))
          · unfold maxLen; omega
          · omega
          · omega
          intro v8 w8 f8 g8 b8 _
          rw [← bcells_append, ← List.length_append] at f8
          have HF8 := Lib.hid f8
          have HG8 := Lib.hid (below_block b8 HG6.out (by omega))
          have HB8 := Lib.hid (HB6.out.trans (b8.mono (by omega)))
          clear f8 g8 b8 HF7 HS6 HG6 HB6
          go_wp2
          refine ⟨⟨k + 1, by go_num, by omega, ?_, HB8.out, HG8.out⟩, by simp [intOf]; omega⟩
          rw [HT1.out, HSu.out]
          exact HF8.out
        · go_wp2_with (at_builtin; go_must (refine wpList_append_one_at (w0 := wr.alloc (.cells #[.string key, .int .u64 (r : Int), .bool true] 48)) rfl _ _ 28 rfl (w.heap.size + 1) 5 i0 (.int .u8 0) 1 Tryd.underlying28 hi hz0 hz1 hz2 rfl HLx.out hfx rfl rfl rfl ?_ ?_ hbsx ?_))
          · unfold maxLen; omega
          · omega
          intro v5 w5 f5 g5 b5 _
          have e5 : bcells T ++ [Value.int .u8 1] = bcells (T ++ [bt]) := bcells_snoc T bt (by rw [hbt]; rfl)
          have l5 : T.length + 1 = (T ++ [bt]).length := by simp
          rw [e5, l5] at f5
          have hg5 := below_block b5 HGx.out (by omega)
          have hx5 := (g5.block wr.heap.size (by rw [HLx.out]; omega) (fun h => by have := HOw.out _ h.symm; omega)).trans HXx.out
          have hb5 := HBx.out.trans (b5.mono (by omega))
          have d0 := Lib.cell_of_heap hx5 0
          simp at d0
          have HF5 := Lib.hid f5
          have HG5 := Lib.hid hg5
          have HB5 := Lib.hid hb5
          have hlt5 : wr.heap.size < w5.heap.size := (Array.getElem?_eq_some_iff.1 hx5).1
          have hw5 := hb5.size
          clear f5 g5 b5 hg5 hb5 hx5 hfx c0 c1 c2 e5 l5 HGx HBx HXx HOw
          go_wp2_with (go_at_call 22; go_must (refine (puttext_any _ _ [] key (reads_nil _) (by decide) (by omega)).mono ?_))
          rintro e w6 ⟨v6, rfl, f6, b6⟩
          rw [List.nil_append] at f6
          have f7 := HF5.out.keep b6
          have hg6 := below_block b6 HG5.out (by omega)
          have hb6 := HB5.out.trans (b6.mono HB5.out.size)
          have hsrc := f6.1.src (P := Tryd.prog) (tx := 28) Tryd.underlying28 (bcells_one _)
          have hw6 := hb6.size
          have hs6 := b6.size
          have hkz : (enc key.size ++ key.data.toList).length ≤ 70000 := by
            have h1 := enc_length_le 9 key.size (by omega)
            have h2 : key.data.toList.length = key.size := Array.length_toList
            rw [List.length_append]
            omega
          have htz : (T ++ [bt]).length ≤ 20000001 := by rw [List.length_append]; simp; omega
          have HB6 := Lib.hid hb6
          have HG6 := Lib.hid hg6
          have HF7 := Lib.hid f7
          have HS6 := Lib.hid hsrc
          clear d0 hb6 hg6 f6 HF5 HG5 HB5 b6 f7 hsrc
          generalize enc key.size ++ key.data.toList = KT at *
          generalize hTB : T ++ [bt] = TB at *
          have HTB := Lib.hid hTB
          clear hTB
          go_wp2_with (at_builtin; go_must (refine wpList_append_fresh rfl _ _ 28 28 rfl (w.heap.size + 1) 5 i0 (.int .u8 0) 1 1 Tryd.underlying28 hi hz0 hz1 hz2 rfl _ _ _ rfl HF7.out _ _ _ rfl HS6.out ?_ ?_ ?_ ?_))
          · unfold maxLen; omega
          · omega
          · omega
          intro v8 w8 f8 g8 b8 _
          rw [← bcells_append, ← List.length_append] at f8
          have HF8 := Lib.hid f8
          have HG8 := Lib.hid (below_block b8 HG6.out (by omega))
          have HB8 := Lib.hid (HB6.out.trans (b8.mono (by omega)))
          clear f8 g8 b8 HF7 HS6 HG6 HB6
          go_wp2
          refine ⟨⟨k + 1, by go_num, by omega, ?_, HB8.out, HG8.out⟩, by simp [intOf]; omega⟩
          rw [HT1.out, HSu.out]
          exact HF8.out
      · obtain rfl : k = n := by omega
        have hkI : ¬ ((k : Int) < k) := by omega
        have htk : l.take k = l := by rw [← HL.out]; exact List.take_length
        rw [htk] at hlen
        have hf := HF.out
        rw [htk] at hf
        have hrl : recTo rev k l = recL rev l := by unfold recL; rw [HL.out]
        rw [hrl] at hf hlen
        have hrd := hf.1
        have hseal := seal_any wr _ _ _ hrd (by omega) (HS.out.below HB.out)
        have HSe := Lib.hid hseal
        clear htk hf hrl hrd hseal HF hpos
        go_wp2_with (go_at_call 23; go_must (refine HSe.out.mono ?_))
        rintro e w5 ⟨v5, rfl, f5, b5⟩
        have HF5 := Lib.hid (f5.mono (B := w.heap.size) (by omega))
        have HB5 := Lib.hid (HB.out.trans (b5.mono HB.out.size))
        clear f5 b5
        go_wp2
        go_ret2
        unfold EncPost
        rw [if_pos HRb.out]
        exact ⟨_, rfl, HF5.out, HB5.out⟩
end Go.Proofs.YtoibhkmlebcepaaDoor

namespace Go.Proofs.YtoibhkmlebcepaaDoor
open Go Go.RowKit

/-- One entry's key, Del and bytes. -/
def entGo (l : List UInt8) : Option (ByteArray × Bool × Nat) :=
  if (truthL l).2.2 = true then none
  else if (getText (l.drop 1)).2.2 = 0 then some (⟨(getText (l.drop 1)).1.toArray⟩, (truthL l).1, 1 + (getText (l.drop 1)).2.1) else none

/-- So many entries, and what is left. -/
def entsGo (rev : Nat) : Nat → List UInt8 → Option (List Ent × List UInt8)
  | 0, l => some ([], l)
  | m + 1, l => match entGo l with
    | none => none
    | some (key, del, k) => match entsGo rev m (l.drop k) with
      | none => none
      | some (es, r) => some (⟨key, rev, del⟩ :: es, r)

def finL (rev : Nat) (es : List Ent) : Option (List Ent × List UInt8) → Option (Nat × List Ent)
  | some (es2, []) => if rightB rev (es ++ es2) = true then some (rev, es ++ es2) else none
  | _ => none

/-- The commit that bytes are the record of. -/
def decL (b : List UInt8) : Option (Nat × List Ent) :=
  if (getGo 0 0 b).2.2 = 0 then
    if (getGo 0 0 (b.drop (getGo 0 0 b).2.1)).2.2 = 0 then
      finL (getGo 0 0 b).1 [] (entsGo (getGo 0 0 b).1 (getGo 0 0 (b.drop (getGo 0 0 b).2.1)).1 ((b.drop (getGo 0 0 b).2.1).drop (getGo 0 0 (b.drop (getGo 0 0 b).2.1)).2.1))
    else none
  else none

theorem right_long {rev : Nat} {es : List Ent} (h : 256 < es.length) : rightB rev es = false := by
  unfold rightB sizeOk
  rw [decide_eq_false (show ¬ es.length ≤ 256 by omega)]
  simp

theorem fin_long {rev : Nat} {es : List Ent} (o : Option (List Ent × List UInt8)) (h : 256 < es.length) : finL rev es o = none := by
  unfold finL
  split
  · rw [if_neg (by rw [right_long (by rw [List.length_append]; omega)]; decide)]
  · rfl

theorem fin_none (rev : Nat) (es : List Ent) : finL rev es none = none := rfl

theorem fin_step {rev m : Nat} {es : List Ent} {l : List UInt8} {key : ByteArray} {del : Bool} {k : Nat} (h : entGo l = some (key, del, k)) :
    finL rev es (entsGo rev (m + 1) l) = finL rev (es ++ [⟨key, rev, del⟩]) (entsGo rev m (l.drop k)) := by
  rw [entsGo, h]
  dsimp only
  cases h2 : entsGo rev m (l.drop k) with
  | none => rfl
  | some p =>
    obtain ⟨es2, r⟩ := p
    cases r with
    | nil => simp [finL]
    | cons c r => rfl

theorem fin_stop {rev m : Nat} {es : List Ent} {l : List UInt8} (h : entGo l = none) : finL rev es (entsGo rev (m + 1) l) = none := by
  rw [entsGo, h]
  rfl

theorem fin_end (rev : Nat) (es : List Ent) (l : List UInt8) : finL rev es (entsGo rev 0 l) = if l = [] ∧ rightB rev es = true then some (rev, es) else none := by
  rw [entsGo]
  cases l with
  | nil => simp [finL]
  | cons c r => simp [finL]

theorem truth_used (l : List UInt8) : (truthL l).2.1 ≤ l.length ∧ ((truthL l).2.2 = false → (truthL l).2.1 = 1) := by
  cases l with
  | nil => exact ⟨Nat.zero_le _, fun h => by cases h⟩
  | cons c r =>
    by_cases h : 1 < c.toNat
    · have e : truthL (c :: r) = (false, 0, true) := by unfold truthL; simp [h]
      rw [e]
      exact ⟨Nat.zero_le _, fun h => by cases h⟩
    · have e : truthL (c :: r) = (c == 1, 1, false) := by unfold truthL; simp [h]
      rw [e]
      exact ⟨by simp, fun _ => rfl⟩

theorem text_size (l : List UInt8) : (getText l).1.length ≤ l.length := by
  unfold getText
  split
  · split
    · exact Nat.zero_le _
    · show ((l.drop _).take _).length ≤ l.length
      rw [List.length_take, List.length_drop]
      omega
  · exact Nat.zero_le _

/-- How far a reader has come. -/
def DecInv (b : List UInt8) (rev M : Nat) (bad : Bool) (es : List Ent) (l : List UInt8) : Prop :=
  (bad = true → decL b = none) ∧ (bad = false → decL b = finL rev es (entsGo rev M l)) ∧ (∀ x ∈ es, x.key.size ≤ b.length) ∧ es.length ≤ 257 ∧ l.length ≤ b.length

theorem DecInv.step {b : List UInt8} {rev m : Nat} {es : List Ent} {l : List UInt8} (h : DecInv b rev (m + 1) false es l) (hes : es.length ≤ 256) :
    DecInv b rev m ((false || (truthL l).2.2) || decide ((getText (l.drop (truthL l).2.1)).2.2 ≠ 0)) (es ++ [⟨⟨(getText (l.drop (truthL l).2.1)).1.toArray⟩, rev, (truthL l).1⟩]) ((l.drop (truthL l).2.1).drop (getText (l.drop (truthL l).2.1)).2.1) := by
  obtain ⟨_, h2, h3, h4, h5⟩ := h
  have h2 := h2 rfl
  refine ⟨fun hb => ?_, fun hb => ?_, fun x hx => ?_, by rw [List.length_append]; simp; omega, by rw [List.length_drop, List.length_drop]; omega⟩
  · rw [h2]
    refine fin_stop ?_
    unfold entGo
    rcases Bool.eq_false_or_eq_true (truthL l).2.2 with ht | ht
    · rw [if_pos ht]
    · rw [if_neg (by rw [ht]; decide)]
      rw [ht, (truth_used l).2 ht] at hb
      simp only [Bool.false_or, decide_eq_true_eq] at hb
      rw [if_neg hb]
  · rw [h2]
    rcases Bool.eq_false_or_eq_true (truthL l).2.2 with ht | ht
    · rw [ht] at hb; simp at hb
    · rw [ht, (truth_used l).2 ht] at hb
      simp only [Bool.false_or, decide_eq_false_iff_not, Decidable.not_not] at hb
      have he : entGo l = some (⟨(getText (l.drop 1)).1.toArray⟩, (truthL l).1, 1 + (getText (l.drop 1)).2.1) := by
        unfold entGo
        rw [if_neg (by rw [ht]; decide), if_pos hb]
      rw [fin_step he, (truth_used l).2 ht, List.drop_drop]
  · rcases List.mem_append.1 hx with hx | hx
    · exact h3 x hx
    · simp at hx
      subst hx
      have h6 := text_size (l.drop (truthL l).2.1)
      rw [List.length_drop] at h6
      show (getText (l.drop (truthL l).2.1)).1.length ≤ b.length
      omega

theorem DecInv.start {b : List UInt8} : DecInv b (getGo 0 0 b).1 (getGo 0 0 (b.drop (getGo 0 0 b).2.1)).1 ((false || decide ((getGo 0 0 b).2.2 ≠ 0)) || decide ((getGo 0 0 (b.drop (getGo 0 0 b).2.1)).2.2 ≠ 0)) [] ((b.drop (getGo 0 0 b).2.1).drop (getGo 0 0 (b.drop (getGo 0 0 b).2.1)).2.1) := by
  refine ⟨fun hb => ?_, fun hb => ?_, fun x hx => by simp at hx, by simp, by rw [List.length_drop, List.length_drop]; omega⟩
  · unfold decL
    by_cases h1 : (getGo 0 0 b).2.2 = 0
    · rw [if_pos h1]
      by_cases h2 : (getGo 0 0 (b.drop (getGo 0 0 b).2.1)).2.2 = 0
      · simp [h1, h2] at hb
      · rw [if_neg h2]
    · rw [if_neg h1]
  · unfold decL
    by_cases h1 : (getGo 0 0 b).2.2 = 0
    · rw [if_pos h1]
      by_cases h2 : (getGo 0 0 (b.drop (getGo 0 0 b).2.1)).2.2 = 0
      · rw [if_pos h2]
      · simp [h2] at hb
    · simp [h1] at hb
end Go.Proofs.YtoibhkmlebcepaaDoor

namespace Go.Proofs.YtoibhkmlebcepaaDoor
open Go Go.RowKit

theorem get_enc {N : Nat} (h : N < 18446744073709551616) (r : List UInt8) : getGo 0 0 (enc N ++ r) = (N, (enc N).length, 0) := by
  have := getGo_enc_go 9 0 N 0 r (by omega) (by decide) (.inl rfl) (by omega)
  simpa using this

theorem text_enc (s r : List UInt8) (hs : s.length ≤ 65536) : getText (enc s.length ++ s ++ r) = (s, (enc s.length).length + s.length, 0) := by
  have e : (enc s.length ++ (s ++ r)).length - (enc s.length).length = s.length + r.length := by simp
  unfold getText
  rw [List.append_assoc, get_enc (by omega)]
  dsimp only
  rw [if_pos rfl, e, if_neg (by omega)]
  simp

theorem key_size (x : Ent) : x.key.data.toList.length = x.key.size := Array.length_toList

theorem entB_len (x : Ent) : (entB x).length = 1 + ((enc x.key.size).length + x.key.size) := by
  have h := key_size x
  unfold entB
  rw [List.length_cons, List.length_append, h]
  omega

theorem truth_bit (d : Bool) (r : List UInt8) : truthL ((if d then 1 else 0) :: r) = (d, 1, false) := by
  cases d <;> rfl

theorem entGo_entB (x : Ent) (r : List UInt8) (hx : x.key.size ≤ 65536) : entGo (entB x ++ r) = some (x.key, x.del, (entB x).length) := by
  have h := key_size x
  have e : entB x ++ r = (if x.del then 1 else 0) :: (enc x.key.size ++ x.key.data.toList ++ r) := by
    unfold entB
    rw [List.cons_append]
  have ht := text_enc x.key.data.toList r (by omega)
  rw [h] at ht
  rw [entB_len, e]
  unfold entGo
  rw [truth_bit]
  dsimp only
  rw [if_neg (by decide), List.drop_succ_cons, List.drop_zero, ht]
  dsimp only
  rw [if_pos rfl, Array.toArray_toList]

theorem entsGo_all (rev : Nat) (r : List UInt8) : ∀ l : List Ent, (∀ x ∈ l, x.key.size ≤ 65536) → (∀ x ∈ l, x.rev = rev) → entsGo rev l.length (l.flatMap entB ++ r) = some (l, r)
  | [], _, _ => rfl
  | x :: l, h1, h2 => by
    have ih := entsGo_all rev r l (fun y hy => h1 y (by simp [hy])) (fun y hy => h2 y (by simp [hy]))
    have hr := h2 x (by simp)
    rw [List.length_cons, entsGo, List.flatMap_cons, List.append_assoc, entGo_entB x _ (h1 x (by simp))]
    dsimp only
    rw [List.drop_left, ih]
    dsimp only
    subst hr
    rfl

theorem dec_rec {rev : Nat} {l : List Ent} (h : rightB rev l = true) (hr : rev < 18446744073709551616) : decL (recL rev l) = some (rev, l) := by
  obtain ⟨h1, h2, _, _, h3⟩ := right_keys h
  have ha := entsGo_all rev [] l h1 h2
  rw [List.append_nil] at ha
  unfold decL recL recTo
  rw [List.append_assoc, get_enc hr]
  dsimp only
  rw [if_pos rfl, List.drop_left, get_enc (by omega)]
  dsimp only
  rw [if_pos rfl, List.drop_left, ha]
  simp [finL, h]
end Go.Proofs.YtoibhkmlebcepaaDoor

namespace Go.Proofs.YtoibhkmlebcepaaDoor
open Go Go.RowKit

theorem info48 : (Tryd.prog.info? 48).map (fun i => (i.zero, i.size, i.bytes)) = some (some (.agg #[.string ⟨#[]⟩, .int .u64 0, .bool false]), 3, 32) := by kernel_rfl

theorem Touch.grown {w w' : World} {g : Nat} (h : Touch w w' [g]) : w.grownBy w' (some g) := ⟨h.os, h.tape, h.output, h.size, fun k hk hn => h.block k hk (fun e => hn (by simp at e; rw [e]))⟩

theorem owns_ne {w : World} {B n s g : Nat} {e : TypeId} {v : Value} {xs : List Value} (h : w.ownsRow B e s v n xs) (hg : g < B) : v.ownBlock ≠ some g := by
  rcases h.2 with ⟨rfl, _⟩ | ⟨g', cap, cur, rfl, hb, _⟩
  · simp [Value.ownBlock]
  · simp [Value.ownBlock]; omega

theorem owns_lt {w : World} {B n s g : Nat} {e : TypeId} {v : Value} {xs : List Value} (h : w.ownsRow B e s v n xs) (hg : v.ownBlock = some g) : g < w.heap.size := by
  rcases h.2 with ⟨rfl, _⟩ | ⟨g', cap, cur, rfl, hb, hh, _⟩
  · simp [Value.ownBlock] at hg
  · simp [Value.ownBlock] at hg
    subst hg
    exact (Array.getElem?_eq_some_iff.1 hh).1

theorem owns_mono {w : World} {B B' n s : Nat} {e : TypeId} {v : Value} {xs : List Value} (h : w.ownsRow B' e s v n xs) (hb : B ≤ B') : w.ownsRow B e s v n xs := by
  refine ⟨h.1, ?_⟩
  rcases h.2 with h2 | ⟨g, cap, cur, hv, hg, r⟩
  · exact .inl h2
  · exact .inr ⟨g, cap, cur, hv, Nat.le_trans hb hg, r⟩

theorem Touch.owns {w w' : World} {B n s g : Nat} {e : TypeId} {v : Value} {xs : List Value} (h : w.ownsRow B e s v n xs) (ht : Touch w w' [g]) (hg : g < B) : w'.ownsRow B e s v n xs :=
  h.kept ht.grown (.inr (owns_ne h hg))

theorem RdrAt.alloc {B g : Nat} {w : World} {l : List UInt8} {bad : Bool} (h : RdrAt B w g l bad) (o : Obj) : RdrAt B (w.alloc o) g l bad := by
  obtain ⟨v, hg, hs, hB⟩ := h
  have hlt := (Array.getElem?_eq_some_iff.1 hg).1
  exact ⟨v, (heap_alloc_old w o hlt).trans hg, hs.below (((Below.refl _ w).alloc (Nat.le_refl _) o).mono (by omega)), hB⟩

theorem RdrAt.setCell {B g : Nat} {w : World} {l : List UInt8} {bad : Bool} (h : RdrAt B w g l bad) {p : Addr} (hp : p.block ≠ g) (hpB : B ≤ p.block) (u : Value) : RdrAt B (w.setCell p u) g l bad := by
  obtain ⟨v, hg, hs, hB⟩ := h
  have ht : Touch w (w.setCell p u) [p.block] := (Touch.refl w [p.block]).setCell (.inl (by simp)) u
  exact ⟨v, ht.keep hg (by simpa using fun e => hp e.symm), ht.sl hs hpB, hB⟩

theorem RdrAt.grown {B g : Nat} {w w' : World} {l : List UInt8} {bad : Bool} {row : Option Nat} (h : RdrAt B w g l bad) (hg : w.grownBy w' row) (hr : row ≠ some g) (hrB : ∀ b, row = some b → B ≤ b) : RdrAt B w' g l bad := by
  obtain ⟨v, hh, hs, hB⟩ := h
  have hlt := (Array.getElem?_eq_some_iff.1 hh).1
  refine ⟨v, (hg.block g hlt (fun e => hr e.symm)).trans hh, ?_, hB⟩
  rcases hs with hs | ⟨b, off, cap, rfl, h1, h2, h3⟩
  · exact .inl hs
  · refine .inr ⟨b, off, cap, rfl, h1, fun hl => Nat.lt_of_lt_of_le (h2 hl) hg.size, ?_⟩
    by_cases hl : l = []
    · subst hl
      exact reads_none h3
    refine h3.grown hg (.inr ?_)
    intro e
    have := hrB b (by rw [← e]; simp [Value.ownBlock])
    have := h1 hl
    omega

theorem RdrAt.below {B B' g : Nat} {w w' : World} {l : List UInt8} {bad : Bool} (h : RdrAt B w g l bad) (hb : Below B' w w') (hg : g < B') : RdrAt B w' g l bad := by
  obtain ⟨v, hh, hs, hB⟩ := h
  exact ⟨v, (hb.block g hg).trans hh, hs.below (hb.mono (by omega)), hB⟩

theorem RdrAt.cell {B g : Nat} {w : World} {l : List UInt8} {bad : Bool} (h : RdrAt B w g l bad) : w.cell? ⟨g, 1, none⟩ = some (.bool bad) ∧ g < w.heap.size ∧ ∃ a cap, w.cell? ⟨g, 0, none⟩ = some (.slice a l.length cap) := by
  obtain ⟨v, hg, hs, hB⟩ := h
  refine ⟨Lib.cell_of_heap hg 1, (Array.getElem?_eq_some_iff.1 hg).1, ?_⟩
  rcases hs with ⟨⟨ax, rfl⟩, rfl⟩ | ⟨b, off, cap, rfl, _⟩
  · exact ⟨ax, 0, Lib.cell_of_heap hg 0⟩
  · exact ⟨_, cap, Lib.cell_of_heap hg 0⟩

/-- 'append(s, x)' of structs that have just been laid in block N. -/
theorem wpList_append_rows_at {P : Program} {w0 : World} {ops : Array Oper} {rest : List Oper} {o : Oper} {a : Act} {Q : Exit → Act → World → Prop} (hgd : o.guard = none) (s x : Operand) (t : TypeId)
    (ho : o.op = .call { callee := .builtin .append, args := #[s, x], argTypes := #[t, t] })
    (B : Nat) (e : TypeId) (i : TypeInfo) (z : Value) (size bytes : Nat) (ht : P.underlying t = some (.slice e)) (hi : P.info? e = some i) (hz : i.zero = some z)
    (hsize : i.size = size) (hby : i.bytes = bytes) (hzs : z.cells.size = size)
    {v : Value} {n : Nat} {xs : List Value} (us : List Value) (m : Nat) (hl : us.length = m * size) {N : Nat} (hN : w0.heap.size = N) (hown : w0.ownsRow B e size v n xs) (hs : a.eval s = v) (hx : a.eval x = .slice (some ⟨N, 0, none⟩) m m) (h1 : ∀ u ∈ us, u.oneCell' = true)
    (h63 : n + m ≤ maxLen) (hbytes : (n + m) * bytes ≤ 140737488355328) (hB : B ≤ w0.heap.size)
    (h : ∀ v' w', w'.ownsRow B e size v' (n + m) (xs ++ us) → w0.grownBy w' v.ownBlock → Below B w0 w' → Moves w0 v v' → wpList P ops Q rest (a.put o.dst v') w') : wpList P ops Q (o :: rest) a (w0.alloc (.cells us.toArray e)) := by
  subst hN
  exact wpList_append_rows_own hgd s x t ho B e i z size bytes ht hi hz hsize hby hzs us m hl hown hs hx h1 h63 hbytes hB h

def DecRel (w : World) (b : List UInt8) (rev gc : Nat) (mv : Value) (wr : World) : Prop :=
  ∃ (M : Nat) (bad : Bool) (es : List Ent) (l : List UInt8) (lv : Value), mv = .int .u64 (M : Int) ∧ M < 18446744073709551616 ∧ DecInv b rev M bad es l ∧ RdrAt w.heap.size wr (w.heap.size + 1) l bad ∧
    wr.heap[gc]? = some (.cells #[.int .u64 (rev : Int), lv] 25 (0, 0)) ∧ wr.ownsRow (gc + 1) 48 3 lv es.length (ecells es) ∧ Below w.heap.size w wr ∧
    wr.heap[w.heap.size]? = some (.cells #[.int .u64 0, .slice none 0 0] 25 (0, 0))

def DecYes (w : World) (rev : Nat) (es : List Ent) (e : Ending) (w' : World) : Prop :=
  ∃ a cap, e = .returned (.tuple #[.agg #[.int .u64 (rev : Int), .slice a es.length cap], .int .i64 0]) ∧ w'.ownsRow w.heap.size 48 3 (.slice a es.length cap) es.length (ecells es) ∧ Below w.heap.size w w'

def DecPost (w : World) (o : Option (Nat × List Ent)) (e : Ending) (w' : World) : Prop :=
  match o with
  | none => GivesVal w (.tuple #[.agg #[.int .u64 0, .slice none 0 0], .int .i64 9]) e w'
  | some (rev, es) => DecYes w rev es e w'

theorem Sl.form {B : Nat} {w : World} {v : Value} {l : List UInt8} (h : Sl B w v l) : ∃ a cap, v = .slice a l.length cap := by
  rcases h with ⟨⟨ax, rfl⟩, rfl⟩ | ⟨b, off, cap, rfl, _⟩
  · exact ⟨_, _, rfl⟩
  · exact ⟨_, _, rfl⟩

theorem getGo_lt (l : List UInt8) : (getGo 0 0 l).1 < 18446744073709551616 := by
  by_cases h : (getGo 0 0 l).2.2 = 0
  · have he : getGo 0 0 l = ((getGo 0 0 l).1, (getGo 0 0 l).2.1, 0) := Prod.ext rfl (Prod.ext rfl h)
    exact (getGo_ok l 0 0 _ _ (by decide) he).2.2.2
  · have : ∀ (l : List UInt8) (i V : Nat), ¬ (getGo i V l).2.2 = 0 → (getGo i V l).1 = 0 := by
      intro l
      induction l with
      | nil => intro i V _; rw [getGo]
      | cons c r ih =>
        intro i V h
        rw [getGo] at h ⊢
        split
        · rfl
        · rename_i h10
          rw [if_neg h10] at h
          split
          · rename_i hc
            rw [if_pos hc] at h
            exact ih _ _ h
          · rename_i hc
            rw [if_neg hc] at h
            split
            · rfl
            · rename_i hb
              rw [if_neg hb] at h
              exact absurd rfl h
    rw [this l 0 0 h]
    decide

theorem ret_commit {w' : World} {g n cap : Nat} {x : Int} {a : Option Addr} {fn : Func} {p q : Tmp} {tmps : Array Value} (hf : fn.results = #[.cell p 25, .tmp q]) (hp : tmps.getD p undef = .pointer (some ⟨g, 0, none⟩))
    (ht : w'.heap[g]? = some (.cells #[.int .u64 x, .slice a n cap] 25 (0, 0))) :
    (results fn tmps).run Tryd.prog w' = .ok (.tuple #[.agg #[.int .u64 x, .slice a n cap], tmps.getD q undef]) w' := by
  have hp' : tmps[p]?.getD undef = .pointer (some ⟨g, 0, none⟩) := by simpa using hp
  have hl := run_loadVar_row (P := Tryd.prog) w' g _ 25 _ _ _ ht Tryd.underlying25 rfl (by kernel_rfl)
  simp [results, hf, hp', asAddr, hl]

theorem dec_no {b : List UInt8} {rev M : Nat} {bad : Bool} {es : List Ent} {l : List UInt8} (h : DecInv b rev M bad es l) (hb : bad = true ∨ (0 < M ∧ 256 < es.length) ∨ (M = 0 ∧ ¬ (l = [] ∧ rightB rev es = true))) : decL b = none := by
  obtain ⟨h1, h2, _, _, _⟩ := h
  rcases hb with hb | hb
  · exact h1 hb
  · cases bad with
    | true => exact h1 rfl
    | false =>
      rw [h2 rfl]
      rcases hb with ⟨_, hb⟩ | ⟨rfl, hb⟩
      · exact fin_long _ hb
      · rw [fin_end, if_neg hb]

theorem dec_yes {b : List UInt8} {rev : Nat} {es : List Ent} (h : DecInv b rev 0 false es []) (hr : rightB rev es = true) : decL b = some (rev, es) := by
  rw [h.2.1 rfl, fin_end, if_pos ⟨rfl, hr⟩]

set_option maxRecDepth 100000 in
set_option maxHeartbeats 4000000 in
theorem decode_any (w : World) (v : Value) (b : List UInt8) (hs : Sl w.heap.size w v b) (hb : b.length ≤ 1000000) :
    Calls Tryd.prog 13 #[v] w (DecPost w (decL b)) := by
  obtain ⟨i0, hi, hz0, hz1, hz2⟩ := info_parts info48
  obtain ⟨va, vcap, rfl⟩ := hs.form
  have hz := heap_alloc_new w (.cells #[.int .u64 0, .slice none 0 0] 25)
  have hz1' := (heap_alloc_old (w.alloc (.cells #[.int .u64 0, .slice none 0 0] 25)) (.cells #[.slice va b.length vcap, .bool false] 57) (Array.getElem?_eq_some_iff.1 hz).1).trans hz
  have hb0 : Below w.heap.size w ((w.alloc (.cells #[.int .u64 0, .slice none 0 0] 25)).alloc (.cells #[.slice va b.length vcap, .bool false] 57)) := ((Below.refl _ w).alloc (Nat.le_refl _) _).alloc (by simp) _
  have hr0 : RdrAt w.heap.size ((w.alloc (.cells #[.int .u64 0, .slice none 0 0] 25)).alloc (.cells #[.slice va b.length vcap, .bool false] 57)) (w.heap.size + 1) b false :=
    ⟨.slice va b.length vcap, by
      have := heap_alloc_new (w.alloc (.cells #[.int .u64 0, .slice none 0 0] 25)) (.cells #[.slice va b.length vcap, .bool false] 57)
      simpa using this, hs.below hb0, by omega⟩
  have hstart := DecInv.start (b := b)
  have hlt1 := getGo_lt b
  have hlt2 := getGo_lt (b.drop (getGo 0 0 b).2.1)
  have hu1 := getGo_used b
  have HZ := Lib.hid hz1'
  have HB := Lib.hid hb0
  have HR := Lib.hid hr0
  have HSt := Lib.hid hstart
  clear hz hz1' hb0 hr0 hstart hs
  go_enter Tryd.func13, Tryd.ntmps13
  go_wp2_with (go_at_call 28; go_must (refine (rdnumber_any _ _ _ _ _ HR.out (by omega)).mono ?_))
  rintro e w1 ⟨rfl, r1, t1⟩
  have HR1 := Lib.hid r1
  have HZ1 := Lib.hid (t1.keep HZ.out (by simp))
  have HB1 := Lib.hid (HB.out.trans (t1.below (B := w.heap.size) HB.out.size (fun x hx => by simp at hx; omega)))
  have hlt0 : w.heap.size + 1 < w1.heap.size := r1.cell.2.1
  clear r1 t1 HR HZ HB
  generalize hrv : (getGo 0 0 b).1 = rev at *
  generalize hl1 : b.drop (getGo 0 0 b).2.1 = l1 at *
  have hl1l : l1.length ≤ b.length := by rw [← hl1, List.length_drop]; omega
  have hlt0' : w.heap.size < w1.heap.size := by omega
  have hr2 := HR1.out.alloc (.cells #[.int .u64 (rev : Int), .slice none 0 0] 25)
  have hg2 := heap_alloc_new w1 (.cells #[.int .u64 (rev : Int), .slice none 0 0] 25)
  have hz2 := (heap_alloc_old w1 (.cells #[.int .u64 (rev : Int), .slice none 0 0] 25) hlt0').trans HZ1.out
  have hb2 := HB1.out.alloc HB1.out.size (.cells #[.int .u64 (rev : Int), .slice none 0 0] 25)
  have HR2 := Lib.hid hr2
  have HG2 := Lib.hid hg2
  have HZ2 := Lib.hid hz2
  have HB2 := Lib.hid hb2
  have hgc : w.heap.size + 1 < w1.heap.size := hlt0
  clear hr2 hg2 hz2 hb2 HR1 HZ1 HB1
  go_wp2_with (go_at_call 28; go_must (refine (rdnumber_any _ _ _ _ _ HR2.out (by omega)).mono ?_))
  rintro e w3 ⟨rfl, r3, t3⟩
  have HR3 := Lib.hid r3
  have HG3 := Lib.hid (t3.keep HG2.out (by simp; omega))
  have HZ3 := Lib.hid (t3.keep HZ2.out (by simp))
  have HB3 := Lib.hid (HB2.out.trans (t3.below (B := w.heap.size) HB2.out.size (fun x hx => by simp at hx; omega)))
  clear r3 t3 HR2 HG2 HZ2 HB2
  generalize w1.heap.size = gc at *
  generalize hM0 : (getGo 0 0 l1).1 = M0 at *
  go_wp2
  go_loopw [6] (fun mv wr => DecRel w b rev gc mv wr) (fun mv _ => (intOf mv).toNat)
  case atStart =>
    exact ⟨M0, _, [], _, .slice none 0 0, rfl, hlt2, HSt.out, HR3.out, HG3.out, owns_nil _ _ _ _, HB3.out, HZ3.out⟩
  case round =>
    obtain ⟨M, bad, es, l, lv, rfl, hM, hinv, hrd, hg, hown, hbw, hzz⟩ := hrel
    obtain ⟨rc1, rlt, ra, rcap, rc0⟩ := hrd.cell
    have glt : gc < wr.heap.size := (Array.getElem?_eq_some_iff.1 hg).1
    have q0 := Lib.cell_of_heap hg 0
    have q1 := Lib.cell_of_heap hg 1
    have f1 := Lib.frozen_of_heap hg
    simp at q0 q1
    obtain ⟨la, lcap, rfl, hlc1, hlc2⟩ := (ownsRow.reads hown).le
    have hesl : es.length ≤ 257 := hinv.2.2.2.1
    have hll : l.length ≤ b.length := hinv.2.2.2.2
    unfold maxLen at hlc2
    have HI := Lib.hid hinv
    have HR := Lib.hid hrd
    have HG := Lib.hid hg
    have HO := Lib.hid hown
    have HB := Lib.hid hbw
    have HZ := Lib.hid hzz
    clear hinv hrd hg hown hbw hzz HSt HR3 HG3 HZ3 HB3
    by_cases hM0 : M = 0
    · subst hM0
      cases bad with
      | true =>
        have HN := Lib.hid (dec_no HI.out (.inl rfl))
        have z0 := Lib.cell_of_heap HZ.out 0
        have z1 := Lib.cell_of_heap HZ.out 1
        have zf := Lib.frozen_of_heap HZ.out
        simp at z0 z1
        clear HI HR HG HO
        go_wp2
        have hst := two_stored HZ.out (.int .u64 0) (.slice none 0 0)
        refine bodyPost_ret (ret_commit rfl rfl hst) rfl ?_
        rw [HN.out]
        exact ⟨rfl, (HB.out.setCell (p := ⟨w.heap.size, 0, none⟩) (Nat.le_refl _) _).setCell (p := ⟨w.heap.size, 1, none⟩) (Nat.le_refl _) _⟩
      | false =>
        by_cases hl0 : l.length = 0
        · obtain rfl : l = [] := List.eq_nil_of_length_eq_zero hl0
          have hks : ∀ x ∈ es, x.key.size ≤ maxLen := fun x hx => by
            have := HI.out.2.2.1 x hx
            unfold maxLen
            omega
          have hmay := maybe_any wr rev la es.length lcap es (ownsRow.reads HO.out) rfl ⟨hlc1, by unfold maxLen; omega⟩ hks
          have HMa := Lib.hid hmay
          clear hmay hks
          go_wp2_with (go_at_call 20; go_must (refine HMa.out.mono ?_))
          rintro e w7 ⟨rfl, b7⟩
          have HZ7 := Lib.hid (below_block b7 HZ.out (by omega))
          have HG7 := Lib.hid (below_block b7 HG.out glt)
          have HO7 := Lib.hid (owns_below HO.out b7)
          have HB7 := Lib.hid (HB.out.trans (b7.mono HB.out.size))
          have z0 := Lib.cell_of_heap HZ7.out 0
          have z1 := Lib.cell_of_heap HZ7.out 1
          have zf := Lib.frozen_of_heap HZ7.out
          have y0 := Lib.cell_of_heap HG7.out 0
          have y1 := Lib.cell_of_heap HG7.out 1
          simp at z0 z1 y0 y1
          clear b7 HZ HG HO HB HR rc0 rc1 q0 q1 f1
          cases hrb : rightB rev es with
          | false =>
            have HN := Lib.hid (dec_no HI.out (.inr (.inr ⟨rfl, fun h => by rw [hrb] at h; exact absurd h.2 (by decide)⟩)))
            clear hrb HI
            go_wp2
            have hst := two_stored HZ7.out (.int .u64 0) (.slice none 0 0)
            refine bodyPost_ret (ret_commit rfl rfl hst) rfl ?_
            rw [HN.out]
            exact ⟨rfl, (HB7.out.setCell (p := ⟨w.heap.size, 0, none⟩) (Nat.le_refl _) _).setCell (p := ⟨w.heap.size, 1, none⟩) (Nat.le_refl _) _⟩
          | true =>
            have HY := Lib.hid (dec_yes HI.out hrb)
            clear hrb HI
            go_wp2
            have hst := two_stored HZ7.out (.int .u64 (rev : Int)) (.slice la es.length lcap)
            refine bodyPost_ret (ret_commit rfl rfl hst) rfl ?_
            rw [HY.out]
            have ho := ownsRow_setCell_other (ownsRow_setCell_other HO7.out (a := ⟨w.heap.size, 0, none⟩) (owns_ne HO7.out (show w.heap.size < gc + 1 by omega)) (.int .u64 (rev : Int))) (a := ⟨w.heap.size, 1, none⟩) (owns_ne HO7.out (show w.heap.size < gc + 1 by omega)) (.slice la es.length lcap)
            exact ⟨la, lcap, rfl, owns_mono ho (by omega), (HB7.out.setCell (p := ⟨w.heap.size, 0, none⟩) (Nat.le_refl _) _).setCell (p := ⟨w.heap.size, 1, none⟩) (Nat.le_refl _) _⟩
        · have hl0I : (0 : Int) < l.length := by omega
          have HN := Lib.hid (dec_no HI.out (.inr (.inr ⟨rfl, fun h => hl0 (by rw [h.1]; rfl)⟩)))
          have z0 := Lib.cell_of_heap HZ.out 0
          have z1 := Lib.cell_of_heap HZ.out 1
          have zf := Lib.frozen_of_heap HZ.out
          simp at z0 z1
          clear HI HR HG HO
          go_wp2
          have hst := two_stored HZ.out (.int .u64 0) (.slice none 0 0)
          refine bodyPost_ret (ret_commit rfl rfl hst) rfl ?_
          rw [HN.out]
          exact ⟨rfl, (HB.out.setCell (p := ⟨w.heap.size, 0, none⟩) (Nat.le_refl _) _).setCell (p := ⟨w.heap.size, 1, none⟩) (Nat.le_refl _) _⟩
    · have hMI : (0 : Int) < M := by omega
      cases bad with
      | true =>
        have HN := Lib.hid (dec_no HI.out (.inl rfl))
        have z0 := Lib.cell_of_heap HZ.out 0
        have z1 := Lib.cell_of_heap HZ.out 1
        have zf := Lib.frozen_of_heap HZ.out
        simp at z0 z1
        clear HI HR HG HO
        go_wp2
        have hst := two_stored HZ.out (.int .u64 0) (.slice none 0 0)
        refine bodyPost_ret (ret_commit rfl rfl hst) rfl ?_
        rw [HN.out]
        exact ⟨rfl, (HB.out.setCell (p := ⟨w.heap.size, 0, none⟩) (Nat.le_refl _) _).setCell (p := ⟨w.heap.size, 1, none⟩) (Nat.le_refl _) _⟩
      | false =>
        by_cases h256 : es.length ≤ 256
        · have h256I : (es.length : Int) ≤ 256 := by omega
          clear hlt0'
          obtain ⟨m, rfl⟩ : ∃ m, M = m + 1 := ⟨M - 1, by omega⟩
          have hinv := HI.out.step h256
          have htu := truth_used l
          have HR4 := Lib.hid (HR.out.alloc (.cells #[.string ⟨#[]⟩, .int .u64 (rev : Int), .bool false] 48))
          have HG4 := Lib.hid ((heap_alloc_old wr (.cells #[.string ⟨#[]⟩, .int .u64 (rev : Int), .bool false] 48) glt).trans HG.out)
          have HX4 := Lib.hid (heap_alloc_new wr (.cells #[.string ⟨#[]⟩, .int .u64 (rev : Int), .bool false] 48))
          have HO4 := Lib.hid (HO.out.alloc (.cells #[.string ⟨#[]⟩, .int .u64 (rev : Int), .bool false] 48))
          have HZ4 := Lib.hid ((heap_alloc_old wr (.cells #[.string ⟨#[]⟩, .int .u64 (rev : Int), .bool false] 48) (by omega)).trans HZ.out)
          have HB4 := Lib.hid (HB.out.alloc HB.out.size (.cells #[.string ⟨#[]⟩, .int .u64 (rev : Int), .bool false] 48))
          have hol := fun g (h : (Value.slice la es.length lcap).ownBlock = some g) => owns_lt HO.out h
          have HOl := Lib.hid hol
          have HI5 := Lib.hid hinv
          clear hinv hol HI HR HG HO HB HZ
          go_wp2_with (go_at_call 29; go_must (refine (truth_any _ _ _ _ _ HR4.out (by omega)).mono ?_))
          rintro e w4 ⟨rfl, r4, t4⟩
          have hge : wr.heap.size ≠ w.heap.size + 1 := by omega
          have HR5 := Lib.hid r4
          have HG5 := Lib.hid (t4.keep HG4.out (by simp; omega))
          have HX5 := Lib.hid (t4.keep HX4.out (by simp; omega))
          have HO5 := Lib.hid (t4.owns HO4.out (by omega))
          have HZ5 := Lib.hid (t4.keep HZ4.out (by simp))
          have HB5 := Lib.hid (HB4.out.trans (t4.below (B := w.heap.size) HB4.out.size (fun x hx => by simp at hx; omega)))
          clear r4 t4 HR4 HG4 HX4 HO4 HZ4 HB4 rc1 rlt rc0 q0 q1 f1
          generalize hge' : wr.heap.size = ge at *
          have hx5 := HX5.out
          have d1 := Lib.cell_of_heap hx5 1
          have d2 := Lib.cell_of_heap hx5 2
          have df := Lib.frozen_of_heap hx5
          simp at d1 d2
          generalize htl : truthL l = tl at *
          obtain ⟨tb, k1, wb⟩ := tl
          dsimp only at HR5 HI5 htu ⊢
          generalize hl5 : l.drop k1 = l5 at *
          have hl5l : l5.length ≤ b.length := by rw [← hl5, List.length_drop]; omega
          have HR6 := Lib.hid (HR5.out.setCell (p := ⟨ge, 2, none⟩) hge (show w.heap.size ≤ ge by omega) (.bool tb))
          have HG6 := Lib.hid ((heap_setCell_other w4 ⟨ge, 2, none⟩ gc (.bool tb) (show gc ≠ ge by omega)).trans HG5.out)
          have HX6 := Lib.hid (heap_setCell_same w4 ge 2 _ _ (.bool tb) hx5)
          have HO6 := Lib.hid (ownsRow_setCell_other HO5.out (a := ⟨ge, 2, none⟩) (fun h => absurd (HOl.out _ h) (Nat.lt_irrefl _)) (.bool tb))
          have HZ6 := Lib.hid ((heap_setCell_other w4 ⟨ge, 2, none⟩ w.heap.size (.bool tb) (show w.heap.size ≠ ge by omega)).trans HZ5.out)
          have HB6 := Lib.hid (HB5.out.setCell (p := ⟨ge, 2, none⟩) (show w.heap.size ≤ ge by omega) (.bool tb))
          clear hx5 HR5 HG5 HX5 HO5 HZ5 HB5
          go_wp2_with (go_at_call 30; go_must (refine (text_any _ _ _ _ _ HR6.out (by omega)).mono ?_))
          rintro e w5 ⟨rfl, r5, t5⟩
          have HR7 := Lib.hid r5
          have HG7 := Lib.hid (t5.keep HG6.out (by simp; omega))
          have HX7 := Lib.hid (t5.keep HX6.out (by simp; omega))
          have HO7 := Lib.hid (t5.owns HO6.out (by omega))
          have HZ7 := Lib.hid (t5.keep HZ6.out (by simp))
          have HB7 := Lib.hid (HB6.out.trans (t5.below (B := w.heap.size) HB6.out.size (fun x hx => by simp at hx; omega)))
          clear r5 t5 HR6 HG6 HX6 HO6 HZ6 HB6 d1 d2 df
          generalize htx : getText l5 = tx at *
          obtain ⟨S, k2, te⟩ := tx
          dsimp only at HR7 HI5 ⊢
          generalize hSb : (⟨S.toArray⟩ : ByteArray) = SB at *
          have hx7 := HX7.out
          have d0 := Lib.cell_of_heap hx7 0
          have d1 := Lib.cell_of_heap hx7 1
          have d2 := Lib.cell_of_heap hx7 2
          have df := Lib.frozen_of_heap hx7
          simp at d0 d1 d2
          have hg7 := HG7.out
          have q0 := Lib.cell_of_heap hg7 0
          have q1 := Lib.cell_of_heap hg7 1
          have qf := Lib.frozen_of_heap hg7
          simp at q0 q1
          have hgne : gc ≠ ge := by omega
          have hgel : ge < w5.heap.size := (Array.getElem?_eq_some_iff.1 hx7).1
          have hgcl : gc < w5.heap.size := by omega
          have HR8 := Lib.hid (HR7.out.setCell (p := ⟨ge, 0, none⟩) hge (show w.heap.size ≤ ge by omega) (.string SB))
          have HG8 := Lib.hid ((heap_setCell_other w5 ⟨ge, 0, none⟩ gc (.string SB) (show gc ≠ ge by omega)).trans HG7.out)
          have HO8 := Lib.hid (ownsRow_setCell_other HO7.out (a := ⟨ge, 0, none⟩) (fun h => absurd (HOl.out _ h) (Nat.lt_irrefl _)) (.string SB))
          have HZ8 := Lib.hid ((heap_setCell_other w5 ⟨ge, 0, none⟩ w.heap.size (.string SB) (show w.heap.size ≠ ge by omega)).trans HZ7.out)
          have HB8 := Lib.hid (HB7.out.setCell (p := ⟨ge, 0, none⟩) (show w.heap.size ≤ ge by omega) (.string SB))
          have hN : (w5.setCell ⟨ge, 0, none⟩ (.string SB)).heap.size = w5.heap.size := by simp [World.setCell]
          have HN := Lib.hid hN
          have hBN : gc + 1 ≤ (w5.setCell ⟨ge, 0, none⟩ (.string SB)).heap.size := by rw [hN]; omega
          clear hx7 hg7 HR7 HG7 HX7 HO7 HZ7 HB7 hN
          go_wp2_with (at_builtin; go_must (refine wpList_append_rows_at (w0 := w5.setCell ⟨ge, 0, none⟩ (.string SB)) rfl _ _ 23 rfl (gc + 1) 48 i0 _ 3 32 Tryd.underlying23 hi hz0 hz1 hz2 rfl (ecell ⟨SB, rev, tb⟩) 1 rfl HN.out HO8.out rfl rfl ?_ ?_ ?_ hBN ?_))
          · intro u hu
            simp [ecell] at hu
            rcases hu with rfl | rfl | rfl <;> rfl
          · unfold maxLen; omega
          · omega
          intro v6 w6 o6 g6 b6 _
          have e6 : ecells es ++ ecell ⟨SB, rev, tb⟩ = ecells (es ++ [⟨SB, rev, tb⟩]) := by simp [ecells]
          have e7 : (es ++ [(⟨SB, rev, tb⟩ : Ent)]).length = es.length + 1 := by simp
          have E7 := Lib.hid e7
          rw [e6] at o6
          obtain ⟨na, ncap, rfl, _, _⟩ := (ownsRow.reads o6).le
          have hno := owns_ne HO8.out (g := gc) (by omega)
          have hno1 := owns_ne HO8.out (g := w.heap.size + 1) (by omega)
          have hno0 := owns_ne HO8.out (g := w.heap.size) (by omega)
          have hgB : ∀ bb, (Value.slice la es.length lcap).ownBlock = some bb → w.heap.size ≤ bb := fun bb hbb => by
            rcases Nat.lt_or_ge bb (gc + 1) with h | h
            · exact absurd hbb (owns_ne HO8.out h)
            · omega
          have hg9 := (g6.block gc (by omega) (fun h => hno h.symm)).trans HG8.out
          have hz9 := (g6.block w.heap.size (by omega) (fun h => hno0 h.symm)).trans HZ8.out
          have hr9 := HR8.out.grown g6 hno1 hgB
          have hb9 := HB8.out.trans (b6.mono (by omega))
          have hgl9 : gc < w6.heap.size := (Array.getElem?_eq_some_iff.1 hg9).1
          have HR10 := Lib.hid (hr9.setCell (p := ⟨gc, 1, none⟩) (show gc ≠ w.heap.size + 1 by omega) (show w.heap.size ≤ gc by omega) (.slice na (es.length + 1) ncap))
          have HG10 := Lib.hid (heap_setCell_same w6 gc 1 _ _ (.slice na (es.length + 1) ncap) hg9)
          have HO10 := Lib.hid (ownsRow_setCell_other o6 (a := ⟨gc, 1, none⟩) (owns_ne o6 (show gc < gc + 1 by omega)) (.slice na (es.length + 1) ncap))
          have HZ10 := Lib.hid ((heap_setCell_other w6 ⟨gc, 1, none⟩ w.heap.size (.slice na (es.length + 1) ncap) (show w.heap.size ≠ gc by omega)).trans hz9)
          have HB10 := Lib.hid (hb9.setCell (p := ⟨gc, 1, none⟩) (show w.heap.size ≤ gc by omega) (.slice na (es.length + 1) ncap))
          have x1 := Lib.cell_of_heap hg9 1
          have xf := Lib.frozen_of_heap hg9
          simp at x1
          clear e6 e7 hno hno1 hno0 hgB hz9 hr9 hb9 o6 g6 b6 HR8 HG8 HO8 HZ8 HB8 d0 d1 d2 df q0 q1 qf hg9
          go_wp2
          refine ⟨⟨m, _, _, _, _, by simp, by omega, HI5.out, HR10.out, HG10.out, by rw [E7.out]; exact HO10.out, HB10.out, HZ10.out⟩, by simp [intOf]⟩
        · have h256I : ¬ (es.length : Int) ≤ 256 := by omega
          have HN := Lib.hid (dec_no HI.out (.inr (.inl ⟨by omega, by omega⟩)))
          have z0 := Lib.cell_of_heap HZ.out 0
          have z1 := Lib.cell_of_heap HZ.out 1
          have zf := Lib.frozen_of_heap HZ.out
          simp at z0 z1
          clear HI HR HG HO
          go_wp2
          have hst := two_stored HZ.out (.int .u64 0) (.slice none 0 0)
          refine bodyPost_ret (ret_commit rfl rfl hst) rfl ?_
          rw [HN.out]
          exact ⟨rfl, (HB.out.setCell (p := ⟨w.heap.size, 0, none⟩) (Nat.le_refl _) _).setCell (p := ⟨w.heap.size, 1, none⟩) (Nat.le_refl _) _⟩
end Go.Proofs.YtoibhkmlebcepaaDoor

namespace Go.Proofs.YtoibhkmlebcepaaDoor
open Go Go.RowKit

theorem next_seal {l : List UInt8} (h : l.length < 4294967296) (r : List UInt8) : nextL (sealL l ++ r) = (0, l) := by
  have e0 : sealL l ++ r = be4 l.length ++ (be4 (sumL l) ++ l ++ r) := by simp [sealL]
  have e1 : num4 (sealL l ++ r) = l.length := by rw [e0, num4_be4 h]
  have e2 : (sealL l ++ r).length = 8 + l.length + r.length := by rw [List.length_append, sealL_length]
  have e3 : (sealL l ++ r).drop 8 = l ++ r := by simp [sealL, be4]
  have e4 : (sealL l ++ r).drop 4 = be4 (sumL l) ++ (l ++ r) := by simp [sealL, be4]
  unfold nextL
  rw [e1, e2, if_neg (by omega), e3, e4, num4_be4 (sumL_lt l), List.take_left, if_pos rfl]

theorem nextN_seal {l : List UInt8} (h : l.length < 4294967296) (r : List UInt8) : nextN (sealL l ++ r) = 8 + l.length := by
  rw [nextN, next_seal h]; rfl

theorem sum_fixed : sumL [49, 50, 51, 52, 53, 54, 55, 56, 57] = 3421780262 := by decide +kernel

theorem lits_read (w : World) (l : List UInt8) (n : Nat) (fr : Nat × Nat) (hl : l.length = n) (hn : n ≤ maxLen) : Reads (w.alloc (.cells (bcells l).toArray 5 fr)) 1 (.slice (some ⟨w.heap.size, 0, none⟩) n n) n (bcells l) := by
  refine ⟨by rw [bcells_length]; omega, _, n, rfl, Nat.le_refl _, hn, fun j u hj => ⟨_, _, rfl, by simp, ?_⟩⟩
  rw [show (0 + j) = j by omega, World.cell?_alloc_mark w _ _ fr j]
  simpa using hj
end Go.Proofs.YtoibhkmlebcepaaDoor
