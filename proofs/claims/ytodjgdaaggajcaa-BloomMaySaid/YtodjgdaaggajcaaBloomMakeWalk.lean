import Derived.Test.YtodjgdaaggajcaaBloomMayWalk
import Derived.Lib.MinMax
namespace Go.Proofs.Ytodjgdaaggajcaa
open Go Go.RowKit

theorem setAll_succ {b k j : Nat} {f : List UInt8} {ks : List ByteArray} {s : ByteArray} (h : ks[j]? = some s) :
    setAll b k f ((ks.map fun k => k.data.toList).take (j + 1)) = setKey b k (setAll b k f ((ks.map fun k => k.data.toList).take j)) s.data.toList := by
  unfold setAll
  have : (ks.map fun k => k.data.toList).take (j + 1) = (ks.map fun k => k.data.toList).take j ++ [s.data.toList] := by
    rw [List.take_add_one]
    simp [h]
  rw [this, List.foldl_append, List.foldl_cons, List.foldl_nil]

theorem or_bit (c : UInt8) (p : Nat) : bits BinOp.or .u8 (c.toNat : Int) ((2 : Int) ^ (p % 8)) = ((UInt8.ofNat (c.toNat ||| 2 ^ (p % 8))).toNat : Int) := by
  have h2 : 2 ^ (p % 8) < 2 ^ 8 := Nat.pow_lt_pow_right (by decide) (Nat.mod_lt _ (by decide))
  have hc := c.toNat_lt
  have h3 := or_bit_lt c p
  rw [show ((2 : Int) ^ (p % 8)) = ((2 ^ (p % 8) : Nat) : Int) from by simp]
  generalize 2 ^ (p % 8) = m at *
  rw [u8_or_nat c.toNat m (by omega) (by omega)]
  simp only [UInt8.toNat_ofNat']
  rw [Nat.mod_eq_of_lt (by omega)]

theorem set_last {f : List UInt8} {c : UInt8} (g : List UInt8) {j : Nat} {z : Int} (hz : z = (c.toNat : Int)) (hj : j < f.length) : (bcells (f ++ g)).set j (.int .u8 z) = bcells (f.set j c ++ g) := by
  subst hz
  simp only [bcells, List.map_append, List.map_set]
  rw [List.set_append_left _ _ (by simpa using hj)]

theorem bcells_at {f : List UInt8} (g : List UInt8) {j : Nat} (h : j < f.length) : (bcells (f ++ g))[j]? = some (.int .u8 ((f.getD j 0).toNat : Int)) := by
  simp only [bcells, List.getElem?_map, List.getElem?_append_left h, List.getElem?_eq_getElem h, Option.map_some, List.getD, Option.getD_some]

def MkRow (w : World) (F : List UInt8) (S : Nat) (wr : World) : Prop :=
  wr.ownsRow w.heap.size 5 1 (.slice (some ⟨w.heap.size, 0, none⟩) (S + 1) (S + 1)) (S + 1) (bcells (F ++ [0]))

def MkRel (w : World) (ks : List ByteArray) (S kk n : Nat) (c : Value) (wr : World) : Prop :=
  ∃ j : Nat, c = .int .i64 (j : Int) ∧ j ≤ n ∧ MkRow w (setAll (8 * S) kk (List.replicate S 0) ((ks.map fun k => k.data.toList).take j)) S wr ∧ Below w.heap.size w wr

def MkIn (w : World) (F : List UInt8) (S kk x y g : Nat) (c : Value) (wr : World) : Prop :=
  ∃ i : Nat, c = .int .i64 (i : Int) ∧ i ≤ kk ∧ MkRow w (setK F x y (8 * S) i) S wr ∧
    wr.heap[g]? = some (.cells #[.int .u64 ((x + i * y : Nat) : Int), .int .u64 (y : Int), .int .u64 ((8 * S : Nat) : Int)] 33 (0, 0)) ∧ Below w.heap.size w wr

def MakePost (w : World) (l : List UInt8) (e : Ending) (w' : World) : Prop :=
  ∃ g, e = .returned (.slice (some ⟨g, 0, none⟩) l.length l.length) ∧ w'.ownsRow w.heap.size 5 1 (.slice (some ⟨g, 0, none⟩) l.length l.length) l.length (bcells l) ∧ Below w.heap.size w w'

set_option maxRecDepth 100000 in
set_option maxHeartbeats 1000000 in
theorem make_any (w : World) (v : Value) (n : Nat) (ks : List ByteArray) (B : Int) (h : Reads w 1 v n (scells ks)) (hn : n ≤ 1000) (hs : ∀ k ∈ ks, k.size ≤ 1000000000)
    (hB : -9223372036854775808 ≤ B ∧ B ≤ 9223372036854775807) :
    Calls Try.prog 9 #[v, .int .i64 B] w (MakePost w (makeL (ks.map fun k => k.data.toList) B)) := by
  obtain ⟨i0, hi, hz0, hz1, hz2⟩ := info_parts info5
  obtain ⟨a, cap, rfl, h1, h2⟩ := h.le
  unfold maxLen at h2
  have hb := bOf_le B
  have hk := kOf_le B
  have hsz := sizeOf'_ge n B
  have hsz' := sizeOf'_le n B
  have q1 : min (max B 1) 40 = (bOf B : Int) := by unfold bOf; omega
  have q2 : min (max (69 * (bOf B : Int) / 100) 1) 30 = (kOf B : Int) := by unfold kOf; omega
  have q3 : ((max ((n : Int) * (bOf B : Int)) 64) + 7) / 8 = (sizeOf' n B : Int) := by
    unfold sizeOf'
    have e : (n : Int) * (bOf B : Int) = ((n * bOf B : Nat) : Int) := (Int.natCast_mul _ _).symm
    rw [e]
    omega
  have hnb : n * bOf B ≤ 1000 * 40 := Nat.mul_le_mul hn hb.2
  have hml : makeL (ks.map fun k => k.data.toList) B = setAll (8 * sizeOf' n B) (kOf B) (List.replicate (sizeOf' n B) 0) (ks.map fun k => k.data.toList) ++ [UInt8.ofNat (kOf B)] := by
    unfold makeL
    rw [List.length_map]
    have : ks.length = n := by have := h.1; simpa [scells] using this
    rw [this]
  rw [hml]
  clear hml
  generalize hbo : bOf B = bb at *
  generalize hko : kOf B = kk at *
  generalize hso : sizeOf' n B = S at *
  have Hs := Lib.hid hs
  have HR := Lib.hid h
  clear hbo hko hso hs h
  have hnb' : (n : Int) * bb ≤ 40000 := by
    rw [← Int.natCast_mul]
    omega
  have hnb0 : (0 : Int) ≤ (n : Int) * bb := Int.mul_nonneg (by omega) (by omega)
  go_enter Try.func9, Try.ntmps9
  go_wp2_with (at_make; go_must (refine wpList_make_full _ rfl _ _ 25 rfl w.heap.size 5 i0 (.int .u8 0) 1 Try.underlying25 hi hz0 hz1 .i64 .i64 _ _ (S + 1) rfl rfl ?_ ?_ ?_ ?_ ?_ ?_))
  · omega
  · omega
  · rw [hz2]; omega
  · unfold maxLen; omega
  · exact Nat.le_refl _
  intro w1 own1 gr1
  have b1 : Below w.heap.size w w1 := (Below.refl _ _).grown gr1 (Nat.le_refl _) (fun k hk => by cases hk)
  have own1' : MkRow w (List.replicate S 0) S w1 := by
    have e : (madeCells #[Value.int IntKind.u8 0] (S + 1)).toList = bcells (List.replicate S 0 ++ [0]) := by
      rw [toList_madeCells_one, ← List.replicate_succ']
      simp [bcells]
    rw [e] at own1
    exact own1
  clear own1 q1 q2 q3 gr1
  go_wp2
  go_loopw [33] (fun c wr => MkRel w ks S kk n c wr) (fun c _ => n - (intOf c).toNat)
  case atStart => exact ⟨0, rfl, Nat.zero_le _, own1', b1⟩
  case round =>
    obtain ⟨j, rfl, hj, hrow, hb⟩ := hrel
    clear own1' b1
    by_cases hlt : j < n
    · obtain ⟨b, off, s, rfl, hs, hbs, hcs⟩ := HR.out.scell j hlt
      have hcs' := (hb.cell (p := ⟨b, off + j, none⟩) hbs).trans hcs
      have hsz1 := Hs.out s (List.mem_of_getElem? hs)
      have hsucc := setAll_succ (b := 8 * S) (k := kk) (f := List.replicate S 0) hs
      have hFl := setAll_length (8 * S) kk ((ks.map fun k => k.data.toList).take j) (List.replicate S 0)
      rw [List.length_replicate] at hFl
      generalize setAll (8 * S) kk (List.replicate S 0) ((ks.map fun k => k.data.toList).take j) = F at *
      have Hsucc := Lib.hid hsucc
      have HFl := Lib.hid hFl
      have HS := Lib.hid hs
      clear hcs hsucc hFl hs
      have hlt' : (j : Int) < n := by omega
      go_wp2_with (go_at_call 15; go_must (refine (start_any wr s _ (8 * S) ?_ hsz1 ?_).mono ?_))
      · omega
      · omega
      rintro e w2 ⟨rfl, b2⟩
      have hx := atOf_lt (hashL s.data.toList)
      have hy := stepOf_lt (hashL_lt s.data.toList)
      have hset : setKey (8 * S) kk F s.data.toList = setK F (atOf (hashL s.data.toList)) (stepOf (hashL s.data.toList)) (8 * S) kk := rfl
      generalize atOf (hashL s.data.toList) = x at *
      generalize stepOf (hashL s.data.toList) = y at *
      have hws := hb.size
      have hg0 : w.heap.size < wr.heap.size := (hrow.lt w.heap.size rfl).2
      have hws2 := b2.size
      have hrow2 : MkRow w F S (w2.alloc (.cells #[.int .u64 (x : Int), .int .u64 (y : Int), .int .u64 ((8 * S : Nat) : Int)] 33)) := by
        refine World.ownsRow.alloc ?_ _
        exact hrow.kept (row := none) ⟨b2.os, b2.tape, b2.output, b2.size, fun k hk _ => b2.block k hk⟩ (.inr (by simp [Value.ownBlock]))
      have hb2 : Below w.heap.size w (w2.alloc (.cells #[.int .u64 (x : Int), .int .u64 (y : Int), .int .u64 ((8 * S : Nat) : Int)] 33)) := (hb.trans (b2.mono hws)).alloc (by omega) _
      have hg2 := heap_alloc_new w2 (.cells #[.int .u64 (x : Int), .int .u64 (y : Int), .int .u64 ((8 * S : Nat) : Int)] 33)
      have Hset := Lib.hid hset
      have Hg2 := Lib.hid hg2
      clear hset hg2 hcs' hrow hb b2
      go_wp2
      go_loopw [42] (fun c wi => MkIn w F S kk x y w2.heap.size c wi) (fun c _ => kk - (intOf c).toNat)
      case atStart => exact ⟨0, rfl, Nat.zero_le _, hrow2, by rw [Nat.zero_mul, Nat.add_zero]; exact Hg2.out, hb2⟩
      case round =>
        obtain ⟨i, rfl, hi', hri, hgi, hbi⟩ := hrel
        clear hrow2 hb2
        by_cases hik : i < kk
        · have him : i * y ≤ 30 * y := Nat.mul_le_mul_right _ (by omega)
          go_wp2_with (go_at_call 16; go_must (refine (next_any wr w2.heap.size (x + i * y) y (8 * S) hgi (by omega) (by omega) (by omega)).mono ?_))
          rintro e w3 ⟨rfl, hg3, gr3⟩
          have hpl : (x + i * y) % (8 * S) < 8 * S := Nat.mod_lt _ (by omega)
          have hp8 : (x + i * y) % (8 * S) / 8 < S := by omega
          have hwi := hbi.size
          have hb3 : Below w.heap.size w w3 := hbi.grown gr3 hwi (fun k hk => by cases hk; omega)
          have hsum : x + i * y + y = x + (i + 1) * y := by rw [Nat.add_mul]; omega
          rw [hsum] at hg3
          have hr3 : MkRow w (setK F x y (8 * S) i) S w3 := World.ownsRow.kept hri gr3 (.inr (by simp [Value.ownBlock]; omega))
          have hKl := setK_length F x y (8 * S) i
          rw [HFl.out] at hKl
          have hset1 : setK F x y (8 * S) (i + 1) = setBit (setK F x y (8 * S) i) ((x + i * y) % (8 * S)) := rfl
          unfold setBit at hset1
          generalize setK F x y (8 * S) i = G at *
          generalize (x + i * y) % (8 * S) = p at *
          have cp := hr3.cellAt (p / 8) (by omega)
          have hGp := bcells_at [0] (show p / 8 < G.length by omega)
          rw [hGp] at cp
          have fp := hr3.frozenAt (p / 8)
          have st := fun u => World.ownsRow.stored hr3 (p / 8) u
          have hor := or_bit (G.getD (p / 8) 0) p
          have hsl := fun z hz => set_last (f := G) (c := UInt8.ofNat ((G.getD (p / 8) 0).toNat ||| 2 ^ (p % 8))) [0] (j := p / 8) (z := z) hz (by omega)
          rw [← hset1] at hsl
          generalize G.getD (p / 8) 0 = c at *
          have Hor := Lib.hid hor
          have St := Lib.hid st
          have Hsl := Lib.hid hsl
          have Hg3 := Lib.hid hg3
          clear hor st hsl hset1 hGp hsum hg3 hgi hri hbi gr3 hr3
          go_wp2
          have h1 := St.out (.int .u8 (bits BinOp.or .u8 (c.toNat : Int) ((2 : Int) ^ (p % 8))))
          rw [Hsl.out _ Hor.out] at h1
          refine ⟨⟨i + 1, by go_num, by omega, h1.1, ?_, ?_⟩, by simp [intOf]; omega⟩
          · exact (heap_setCell_other _ ⟨w.heap.size, p / 8, none⟩ w2.heap.size _ (by simp; omega)).trans Hg3.out
          · exact hb3.grown h1.2 hb3.size (fun k hk => by cases hk; exact Nat.le_refl _)
        · obtain rfl : i = kk := by omega
          have hik' : ¬ ((i : Int) < i) := by omega
          have hr4 := Lib.hid hri
          clear hri hgi
          go_wp2
          refine ⟨⟨j + 1, by go_num, by omega, ?_, hbi⟩, by simp [intOf]; omega⟩
          rw [Hsucc.out, Hset.out]
          exact hr4.out
    · obtain rfl : j = n := by omega
      have hlen : (ks.map fun k => k.data.toList).length = j := by
        rw [List.length_map]
        have := HR.out.1
        simpa [scells] using this
      rw [List.take_of_length_le (by omega)] at hrow
      have hFl := setAll_length (8 * S) kk (ks.map fun k => k.data.toList) (List.replicate S 0)
      rw [List.length_replicate] at hFl
      generalize hF : setAll (8 * S) kk (List.replicate S 0) (ks.map fun k => k.data.toList) = F at hrow hFl
      have HF := Lib.hid hF
      clear hF
      have cS := hrow.cellAt S (by omega)
      have hcS : (bcells (F ++ [0]))[S]? = some (.int .u8 0) := by
        simp [bcells, ← hFl]
      rw [hcS] at cS
      have fS := hrow.frozenAt S
      obtain ⟨own9, gr9⟩ := World.ownsRow.stored hrow S (.int .u8 (kk : Int))
      have hs9 : (bcells (F ++ [0])).set S (.int .u8 (kk : Int)) = bcells (F ++ [UInt8.ofNat kk]) := by
        have e : ((UInt8.ofNat kk).toNat : Int) = kk := by simp; omega
        simp only [bcells, List.map_append, List.map_cons, List.map_nil, e]
        rw [List.set_append_right _ _ (by simp [hFl])]
        simp [hFl]
      rw [hs9] at own9
      have hl9 : (F ++ [UInt8.ofNat kk]).length = S + 1 := by simp [hFl]
      have hb9 : Below w.heap.size w (wr.setCell ⟨w.heap.size, S, none⟩ (.int .u8 (kk : Int))) := hb.grown gr9 hb.size (fun k hk => by cases hk; exact Nat.le_refl _)
      have Own9 := Lib.hid own9
      have Hl9 := Lib.hid hl9
      have Hb9 := Lib.hid hb9
      have hlt' : ¬ ((j : Int) < j) := by omega
      clear own9 hl9 hb9 hs9 gr9 hcS hrow hb hlen hFl
      go_wp2
      go_ret
      refine ⟨w.heap.size, ?_, ?_, Hb9.out⟩
      · rw [HF.out, Hl9.out]
        rfl
      · rw [HF.out, Hl9.out]
        exact Own9.out
end Go.Proofs.Ytodjgdaaggajcaa
