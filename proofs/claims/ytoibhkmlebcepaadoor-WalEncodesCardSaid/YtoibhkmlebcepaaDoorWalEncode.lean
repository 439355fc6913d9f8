import Derived.Test.YtoibhkmlebcepaaDoorWalMay
import Derived.Test.YtoibhkmlebcepaaDoorFrameNext2
import Derived.Test.YtoibhkmlebcepaaDoorTextsGet
namespace Go.Proofs.YtoibhkmlebcepaaDoor
open Go Go.RowKit

def entB (x : Ent) : List UInt8 := (if x.del then 1 else 0) :: (enc x.key.size ++ x.key.data.toList)
def recTo (rev n : Nat) (l : List Ent) : List UInt8 := enc rev ++ enc n ++ l.flatMap entB
def recL (rev : Nat) (l : List Ent) : List UInt8 := recTo rev l.length l

theorem recTo_succ {rev n k : Nat} {l : List Ent} {x : Ent} (h : l[k]? = some x) : recTo rev n (l.take (k + 1)) = recTo rev n (l.take k) ++ [if x.del then 1 else 0] ++ (enc x.key.size ++ x.key.data.toList) := by
  rw [List.take_add_one, h]
  simp [recTo, entB]

theorem entB_length (x : Ent) (h : x.key.size ≤ 65536) : (entB x).length ≤ 65547 := by
  have h1 := enc_length_le 9 x.key.size (by omega)
  have h2 : x.key.data.toList.length = x.key.size := Array.length_toList
  simp [entB] at h2 ⊢
  omega

theorem flat_le (l : List Ent) (h : ∀ x ∈ l, x.key.size ≤ 65536) : (l.flatMap entB).length ≤ l.length * 65547 := by
  induction l with
  | nil => simp
  | cons x l ih =>
    have h1 := entB_length x (h x (List.mem_cons_self ..))
    have h2 := ih (fun y hy => h y (List.mem_cons_of_mem _ hy))
    rw [List.flatMap_cons, List.length_append, List.length_cons, Nat.add_mul]
    omega

theorem recTo_le {rev n : Nat} {l : List Ent} (hr : rev < 18446744073709551616) (hn : n ≤ 256) (hl : l.length ≤ 256) (h : ∀ x ∈ l, x.key.size ≤ 65536) : (recTo rev n l).length ≤ 20000000 := by
  have h1 := enc_length_le 9 rev (by omega)
  have h2 := enc_length_le 9 n (by omega)
  have h3 := flat_le l h
  have h4 := Nat.mul_le_mul_right 65547 hl
  unfold recTo
  simp only [List.length_append]
  omega

theorem right_keys {rev : Nat} {l : List Ent} (h : rightB rev l = true) : (∀ x ∈ l, x.key.size ≤ 65536) ∧ (∀ x ∈ l, x.rev = rev) ∧ 1 ≤ rev ∧ 1 ≤ l.length ∧ l.length ≤ 256 := by
  unfold rightB sizeOk at h
  simp only [Bool.and_eq_true, decide_eq_true_eq, List.all_eq_true] at h
  obtain ⟨h1, h2, h3, h4⟩ := h
  unfold entOk at h1
  simp only [Bool.and_eq_true, decide_eq_true_eq] at h1
  exact ⟨fun x hx => (h1 x hx).2, fun x hx => (h1 x hx).1, h2, h3, h4⟩

theorem Fresh.keep {B : Nat} {w w' : World} {e : TypeId} {size n : Nat} {v : Value} {xs : List Value} (h : Fresh B w e size v n xs) (hb : Below w.heap.size w w') : Fresh B w' e size v n xs :=
  h.grown (row := none) ⟨hb.os, hb.tape, hb.output, hb.size, fun k hk _ => hb.block k hk⟩ (by cases v.ownBlock <;> simp)

theorem Reads.own_lt {w : World} {n : Nat} {v : Value} {l : List UInt8} (h : Reads w 1 v n (bcells l)) (hn : 0 < n) : ∀ b, v.ownBlock = some b → b < w.heap.size := by
  obtain ⟨b, off, cap, rfl, _, _, hl, hc⟩ := h.head hn
  intro b' hb'
  simp [Value.ownBlock] at hb'
  subst hb'
  exact World.block_lt_of_cell? _ _ (hc 0 hn)

theorem reads_nil (w : World) : Reads w 1 (.slice none 0 0) ([] : List UInt8).length (bcells []) := (fresh_none 0 w 5 1).1

/-- 'append(s, x)' of one cell that has just been laid in block N. -/
theorem wpList_append_one_at {P : Program} {w0 : World} {ops : Array Oper} {rest : List Oper} {o : Oper} {a : Act} {Q : Exit → Act → World → Prop} (hgd : o.guard = none) (s x : Operand) (t : TypeId)
    (ho : o.op = .call { callee := .builtin .append, args := #[s, x], argTypes := #[t, t] })
    (B : Nat) (e : TypeId) (i : TypeInfo) (z : Value) (bytes : Nat) (ht : P.underlying t = some (.slice e)) (hi : P.info? e = some i) (hz : i.zero = some z)
    (hsize : i.size = 1) (hby : i.bytes = bytes) (hzs : z.cells.size = 1)
    {v : Value} {n : Nat} {xs : List Value} {u : Value} {N : Nat} (hN : w0.heap.size = N) (hown : Fresh B w0 e 1 v n xs) (hs : a.eval s = v) (hx : a.eval x = .slice (some ⟨N, 0, none⟩) 1 1) (h1 : u.oneCell' = true)
    (h63 : n + 1 ≤ maxLen) (hbytes : (n + 1) * bytes ≤ 140737488355328) (hB : B ≤ w0.heap.size)
    (h : ∀ v' w', Fresh B w' e 1 v' (n + 1) (xs ++ [u]) → w0.grownBy w' v.ownBlock → Below B w0 w' → Moves w0 v v' → wpList P ops Q rest (a.put o.dst v') w') : wpList P ops Q (o :: rest) a (w0.alloc (.cells #[u] e)) := by
  subst hN
  exact wpList_append_one hgd s x t ho B e i z bytes ht hi hz hsize hby hzs hown hs hx h1 h63 hbytes hB h

def EncRel (w : World) (rev n : Nat) (sv : Value) (l : List Ent) (bv i : Value) (wr : World) : Prop :=
  ∃ k : Nat, i = .int .i64 (k : Int) ∧ k ≤ n ∧ Fresh (w.heap.size + 1) wr 5 1 bv (recTo rev n (l.take k)).length (bcells (recTo rev n (l.take k))) ∧ Below w.heap.size w wr ∧ wr.heap[w.heap.size]? = some (.cells #[.int .u64 (rev : Int), sv] 25 (0, 0))

def EncYes (w : World) (r : List UInt8) (e : Ending) (w' : World) : Prop :=
  ∃ v, e = .returned (.tuple #[v, .int .i64 0]) ∧ Fresh w.heap.size w' 5 1 v r.length (bcells r) ∧ Below w.heap.size w w'

def EncPost (w : World) (rev : Nat) (l : List Ent) (e : Ending) (w' : World) : Prop :=
  if rightB rev l = true then EncYes w (sealL (recL rev l)) e w' else GivesVal w (.tuple #[.slice none 0 0, .int .i64 9]) e w'

set_option maxRecDepth 100000 in
set_option maxHeartbeats 1000000 in
theorem encode_any (w : World) (rev : Nat) (a : Option Addr) (n cap : Nat) (l : List Ent) (h : Reads w 3 (.slice a n cap) n (ecells l)) (hl : l.length = n) (hcap : n ≤ cap ∧ cap ≤ maxLen) (hks : ∀ x ∈ l, x.key.size ≤ maxLen) (hrv : rev < 18446744073709551616) (hst : Steps w) :
    Calls Tryd.prog 9 #[.agg #[.int .u64 (rev : Int), .slice a n cap]] w (EncPost w rev l) := by
  obtain ⟨i0, hi, hz0, hz1, hz2⟩ := info_parts info5
  have hmay := fun w h => maybe_any w rev a n cap l h hl hcap hks
  have HM := Lib.hid hmay
  have HL := Lib.hid hl
  have HK := Lib.hid hks
  unfold maxLen at hcap
  have hb0 : Below w.heap.size w (w.alloc (.cells #[.int .u64 (rev : Int), .slice a n cap] 25)) := (Below.refl _ w).alloc (Nat.le_refl _) _
  have HR := Lib.hid h
  have HS := Lib.hid hst
  have HG := Lib.hid (heap_alloc_new w (.cells #[.int .u64 (rev : Int), .slice a n cap] 25))
  have HB := Lib.hid hb0
  clear h hl hks hb0 hst hmay
  go_enter Tryd.func9, Tryd.ntmps9
  go_wp2_with (go_at_call 20; go_must (refine (HM.out _ (HR.out.below' HB.out)).mono ?_))
  rintro e w1 ⟨rfl, b1⟩
  replace HG := Lib.hid (below_block b1 HG.out (Array.getElem?_eq_some_iff.1 HG.out).1)
  replace HB := Lib.hid (HB.out.trans (b1.mono HB.out.size))
  clear b1
  have hg1 := HG.out
  have q0 := Lib.cell_of_heap hg1 0
  have q1 := Lib.cell_of_heap hg1 1
  simp at q0 q1
  have hlt0 : w.heap.size < w1.heap.size := (Array.getElem?_eq_some_iff.1 hg1).1
  clear hg1
  cases hrb : rightB rev l with
  | false =>
    have HRb := Lib.hid hrb
    clear hlt0 hrb
    go_wp2
    go_ret2
    unfold EncPost
    rw [if_neg (by rw [HRb.out]; decide)]
    exact ⟨rfl, HB.out⟩
  | true =>
    obtain ⟨hk6, _, _, _, hn6⟩ := right_keys hrb
    have HK6 := Lib.hid hk6
    have HRb := Lib.hid hrb
    have hn256 : n ≤ 256 := by rw [← HL.out]; exact hn6
    clear hrb hk6 hn6 HM HK
    go_wp2_with (go_at_call 21; go_must (refine (put_any _ _ [] rev (reads_nil _) (by decide) hrv).mono ?_))
    rintro e w2 ⟨v2, rfl, f2, b2⟩
    rw [List.nil_append] at f2
    have HF2 := Lib.hid (f2.mono (B := w.heap.size + 1) (by omega))
    clear f2 q0 q1
    replace HG := Lib.hid (below_block b2 HG.out (Array.getElem?_eq_some_iff.1 HG.out).1)
    replace HB := Lib.hid (HB.out.trans (b2.mono HB.out.size))
    clear b2
    have hg2 := HG.out
    have q0 := Lib.cell_of_heap hg2 0
    have q1 := Lib.cell_of_heap hg2 1
    simp at q0 q1
    have hlt2 : w.heap.size < w2.heap.size := (Array.getElem?_eq_some_iff.1 hg2).1
    clear hg2
    go_wp2_with (go_at_call 21; go_must (refine (put_any _ _ [] n (reads_nil _) (by decide) (by omega)).mono ?_))
    rintro e w3 ⟨v3, rfl, f3, b3⟩
    rw [List.nil_append] at f3
    have f2 := HF2.out.keep b3
    clear q0 q1 HF2
    replace HG := Lib.hid (below_block b3 HG.out (Array.getElem?_eq_some_iff.1 HG.out).1)
    replace HB := Lib.hid (HB.out.trans (b3.mono HB.out.size))
    clear b3
    have hsrc := f3.1.src (P := Tryd.prog) (tx := 28) Tryd.underlying28 (bcells_one _)
    have hel1 := enc_length_le 9 rev (by omega)
    have hel2 := enc_length_le 9 n (by omega)
    have hlt3 : w.heap.size < w3.heap.size := (Array.getElem?_eq_some_iff.1 HG.out).1
    go_wp2_with (at_builtin; go_must (refine wpList_append_fresh rfl _ _ 28 28 rfl (w.heap.size + 1) 5 i0 (.int .u8 0) 1 1 Tryd.underlying28 hi hz0 hz1 hz2 rfl _ _ _ rfl f2 _ _ _ rfl hsrc ?_ ?_ ?_ ?_))
    · unfold maxLen; omega
    · omega
    · omega
    intro v4 w4 f4 g4 b4 _
    rw [← bcells_append, ← List.length_append] at f4
    have hg4 := below_block b4 HG.out (by omega)
    have hb4 := HB.out.trans (b4.mono (by omega))
    have HF4 := Lib.hid f4
    have HG4 := Lib.hid hg4
    have HB4 := Lib.hid hb4
    have q0 := Lib.cell_of_heap hg4 0
    have q1 := Lib.cell_of_heap hg4 1
    simp at q0 q1
    have hlt4 : w.heap.size < w4.heap.size := (Array.getElem?_eq_some_iff.1 hg4).1
    clear f4 g4 b4 hg4 hb4 HG HB f2 f3 hsrc hlt0 hlt2 hlt3
    go_wp2
    go_loopw [4, 24] (fun bv i wr => EncRel w rev n (.slice a n cap) l bv i wr) (fun _ i _ => n - (intOf i).toNat)
    case atStart =>
      refine ⟨0, rfl, Nat.zero_le _, ?_, HB4.out, HG4.out⟩
      have e : recTo rev n (l.take 0) = enc rev ++ enc n := by simp [recTo]
      rw [e]
      exact HF4.out
    case round =>
      obtain ⟨k, rfl, hk, hfr, hb, hg⟩ := hrel
      clear q0 q1 hlt4 HF4 HG4 HB4
      have hlen : (recTo rev n (l.take k)).length ≤ 20000000 := recTo_le hrv hn256 (by rw [List.length_take, HL.out]; omega) (fun x hx => HK6.out x (List.mem_of_mem_take hx))
      have hpos : 0 < (recTo rev n (l.take k)).length := by
        have := enc_pos rev
        unfold recTo
        simp only [List.length_append]
        omega
      have hlt0 : w.heap.size < wr.heap.size := (Array.getElem?_eq_some_iff.1 hg).1
      have HB := Lib.hid hb
      have HG := Lib.hid hg
      have HF := Lib.hid hfr
      clear hb hg hfr
      by_cases hlt : k < n
      · obtain ⟨x, hx⟩ : ∃ x, l[k]? = some x := ⟨l[k]'(by rw [HL.out]; exact hlt), List.getElem?_eq_getElem _⟩
        obtain ⟨g, off, rfl, hgl, c0, c1, c2⟩ := ent_cells (HR.out.below' HB.out) hx
        have hsz := HK6.out x (List.mem_of_getElem? hx)
        have hsu := recTo_succ (rev := rev) (n := n) hx
        have hkI : (k : Int) < n := by omega
        obtain ⟨key, r, d⟩ := x
        dsimp only at c0 c1 c2 hsz hsu
        have HSu := Lib.hid hsu
        clear hsu hx
        generalize hT : recTo rev n (l.take k) = T at *
        generalize hT1 : recTo rev n (l.take (k + 1)) = T1 at *
        have HT1 := Lib.hid hT1
        clear hT hT1
        have hbx : Below w.heap.size w (wr.alloc (.cells #[.string key, .int .u64 (r : Int), .bool d] 48)) := HB.out.alloc (by omega) _
        have hfx := HF.out.alloc (.cells #[.string key, .int .u64 (r : Int), .bool d] 48)
        have hgx := (heap_alloc_old wr (.cells #[.string key, .int .u64 (r : Int), .bool d] 48) hlt0).trans HG.out
        have hxx := heap_alloc_new wr (.cells #[.string key, .int .u64 (r : Int), .bool d] 48)
        have how := HF.out.1.own_lt hpos
        have HBx := Lib.hid hbx
        have HGx := Lib.hid hgx
        have HXx := Lib.hid hxx
        have HOw := Lib.hid how
        have hlx : (wr.alloc (.cells #[.string key, .int .u64 (r : Int), .bool d] 48)).heap.size = wr.heap.size + 1 := by simp
        have HLx := Lib.hid hlx
        clear hbx hgx hxx how hlx HF HG HB
        have hbit : ∃ bt : UInt8, bt = (if d then 1 else 0) := ⟨_, rfl⟩
        obtain ⟨bt, hbt⟩ := hbit
        rw [← hbt] at HSu
        have hbsx : w.heap.size + 1 ≤ (wr.alloc (.cells #[.string key, .int .u64 (r : Int), .bool d] 48)).heap.size := by simp; omega
        cases d
        · go_wp2_with (at_builtin; go_must (refine wpList_append_one_at (w0 := wr.alloc (.cells #[.string key, .int .u64 (r : Int), .bool false] 48)) rfl _ _ 28 rfl (w.heap.size + 1) 5 i0 (.int .u8 0) 1 Tryd.underlying28 hi hz0 hz1 hz2 rfl HLx.out hfx rfl rfl rfl ?_ ?_ hbsx ?_))
          · unfold maxLen; omega
          · omega
          intro v5 w5 f5 g5 b5 _
          have e5 : bcells T ++ [Value.int .u8 0] = bcells (T ++ [bt]) := bcells_snoc T bt (by rw [hbt]; rfl)
          have l5 : T.length + 1 = (T ++ [bt]).length := by simp
          rw [e5, l5] at f5
          have hg5 := below_block b5 HGx.out (by omega)
          have hx5 := (g5.block wr.heap.size (by rw [HLx.out]; omega) (fun h => by have := HOw.out _ h.symm; omega)).trans HXx.out
          have hb5 := HBx.out.trans (b5.mono (by omega))
          have d0 := Lib.cell_of_heap hx5 0
          simp at d0
          have HF5 := Lib.hid f5
          have HG5 := Lib.hid hg5
          have HB5 := Lib.hid hb5
          have hlt5 : wr.heap.size < w5.heap.size := (Array.getElem?_eq_some_iff.1 hx5).1
          have hw5 := hb5.size
          clear f5 g5 b5 hg5 hb5 hx5 hfx c0 c1 c2 e5 l5 HGx HBx HXx HOw
          go_wp2_with (go_at_call 22; go_must (refine (puttext_any _ _ [] key (reads_nil _) (by decide) (by omega)).mono ?_))
          rintro e w6 ⟨v6, rfl, f6, b6⟩
          rw [List.nil_append] at f6
          have f7 := HF5.out.keep b6
          have hg6 := below_block b6 HG5.out (by omega)
          have hb6 := HB5.out.trans (b6.mono HB5.out.size)
          have hsrc := f6.1.src (P := Tryd.prog) (tx := 28) Tryd.underlying28 (bcells_one _)
          have hw6 := hb6.size
          have hs6 := b6.size
          have hkz : (enc key.size ++ key.data.toList).length ≤ 70000 := by
            have h1 := enc_length_le 9 key.size (by omega)
            have h2 : key.data.toList.length = key.size := Array.length_toList
            rw [List.length_append]
            omega
          have htz : (T ++ [bt]).length ≤ 20000001 := by rw [List.length_append]; simp; omega
          have HB6 := Lib.hid hb6
          have HG6 := Lib.hid hg6
          have HF7 := Lib.hid f7
          have HS6 := Lib.hid hsrc
          clear d0 hb6 hg6 f6 HF5 HG5 HB5 b6 f7 hsrc
          generalize enc key.size ++ key.data.toList = KT at *
          generalize hTB : T ++ [bt] = TB at *
          have HTB := Lib.hid hTB
          clear hTB
          go_wp2_with (at_builtin; go_must (refine wpList_append_fresh rfl _ _ 28 28 rfl (w.heap.size + 1) 5 i0 (.int .u8 0) 1 1 Tryd.underlying28 hi hz0 hz1 hz2 rfl _ _ _ rfl HF7.out _ _ _ rfl HS6.out ?_ ?_ ?_ ?_))
          · unfold maxLen; omega
          · omega
          · omega
          intro v8 w8 f8 g8 b8 _
          rw [← bcells_append, ← List.length_append] at f8
          have HF8 := Lib.hid f8
          have HG8 := Lib.hid (below_block b8 HG6.out (by omega))
          have HB8 := Lib.hid (HB6.out.trans (b8.mono (by omega)))
          clear f8 g8 b8 HF7 HS6 HG6 HB6
          go_wp2
          refine ⟨⟨k + 1, by go_num, by omega, ?_, HB8.out, HG8.out⟩, by simp [intOf]; omega⟩
          rw [HT1.out, HSu.out]
          exact HF8.out
        · go_wp2_with (at_builtin; go_must (refine wpList_append_one_at (w0 := wr.alloc (.cells #[.string key, .int .u64 (r : Int), .bool true] 48)) rfl _ _ 28 rfl (w.heap.size + 1) 5 i0 (.int .u8 0) 1 Tryd.underlying28 hi hz0 hz1 hz2 rfl HLx.out hfx rfl rfl rfl ?_ ?_ hbsx ?_))
          · unfold maxLen; omega
          · omega
          intro v5 w5 f5 g5 b5 _
          have e5 : bcells T ++ [Value.int .u8 1] = bcells (T ++ [bt]) := bcells_snoc T bt (by rw [hbt]; rfl)
          have l5 : T.length + 1 = (T ++ [bt]).length := by simp
          rw [e5, l5] at f5
          have hg5 := below_block b5 HGx.out (by omega)
          have hx5 := (g5.block wr.heap.size (by rw [HLx.out]; omega) (fun h => by have := HOw.out _ h.symm; omega)).trans HXx.out
          have hb5 := HBx.out.trans (b5.mono (by omega))
          have d0 := Lib.cell_of_heap hx5 0
          simp at d0
          have HF5 := Lib.hid f5
          have HG5 := Lib.hid hg5
          have HB5 := Lib.hid hb5
          have hlt5 : wr.heap.size < w5.heap.size := (Array.getElem?_eq_some_iff.1 hx5).1
          have hw5 := hb5.size
          clear f5 g5 b5 hg5 hb5 hx5 hfx c0 c1 c2 e5 l5 HGx HBx HXx HOw
          go_wp2_with (go_at_call 22; go_must (refine (puttext_any _ _ [] key (reads_nil _) (by decide) (by omega)).mono ?_))
          rintro e w6 ⟨v6, rfl, f6, b6⟩
          rw [List.nil_append] at f6
          have f7 := HF5.out.keep b6
          have hg6 := below_block b6 HG5.out (by omega)
          have hb6 := HB5.out.trans (b6.mono HB5.out.size)
          have hsrc := f6.1.src (P := Tryd.prog) (tx := 28) Tryd.underlying28 (bcells_one _)
          have hw6 := hb6.size
          have hs6 := b6.size
          have hkz : (enc key.size ++ key.data.toList).length ≤ 70000 := by
            have h1 := enc_length_le 9 key.size (by omega)
            have h2 : key.data.toList.length = key.size := Array.length_toList
            rw [List.length_append]
            omega
          have htz : (T ++ [bt]).length ≤ 20000001 := by rw [List.length_append]; simp; omega
          have HB6 := Lib.hid hb6
          have HG6 := Lib.hid hg6
          have HF7 := Lib.hid f7
          have HS6 := Lib.hid hsrc
          clear d0 hb6 hg6 f6 HF5 HG5 HB5 b6 f7 hsrc
          generalize enc key.size ++ key.data.toList = KT at *
          generalize hTB : T ++ [bt] = TB at *
          have HTB := Lib.hid hTB
          clear hTB
          go_wp2_with (at_builtin; go_must (refine wpList_append_fresh rfl _ _ 28 28 rfl (w.heap.size + 1) 5 i0 (.int .u8 0) 1 1 Tryd.underlying28 hi hz0 hz1 hz2 rfl _ _ _ rfl HF7.out _ _ _ rfl HS6.out ?_ ?_ ?_ ?_))
          · unfold maxLen; omega
          · omega
          · omega
          intro v8 w8 f8 g8 b8 _
          rw [← bcells_append, ← List.length_append] at f8
          have HF8 := Lib.hid f8
          have HG8 := Lib.hid (below_block b8 HG6.out (by omega))
          have HB8 := Lib.hid (HB6.out.trans (b8.mono (by omega)))
          clear f8 g8 b8 HF7 HS6 HG6 HB6
          go_wp2
          refine ⟨⟨k + 1, by go_num, by omega, ?_, HB8.out, HG8.out⟩, by simp [intOf]; omega⟩
          rw [HT1.out, HSu.out]
          exact HF8.out
      · obtain rfl : k = n := by omega
        have hkI : ¬ ((k : Int) < k) := by omega
        have htk : l.take k = l := by rw [← HL.out]; exact List.take_length
        rw [htk] at hlen
        have hf := HF.out
        rw [htk] at hf
        have hrl : recTo rev k l = recL rev l := by unfold recL; rw [HL.out]
        rw [hrl] at hf hlen
        have hrd := hf.1
        have hseal := seal_any wr _ _ _ hrd (by omega) (HS.out.below HB.out)
        have HSe := Lib.hid hseal
        clear htk hf hrl hrd hseal HF hpos
        go_wp2_with (go_at_call 23; go_must (refine HSe.out.mono ?_))
        rintro e w5 ⟨v5, rfl, f5, b5⟩
        have HF5 := Lib.hid (f5.mono (B := w.heap.size) (by omega))
        have HB5 := Lib.hid (HB.out.trans (b5.mono HB.out.size))
        clear f5 b5
        go_wp2
        go_ret2
        unfold EncPost
        rw [if_pos HRb.out]
        exact ⟨_, rfl, HF5.out, HB5.out⟩
end Go.Proofs.YtoibhkmlebcepaaDoor
