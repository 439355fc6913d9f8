/- What the proof stands on, part 9. -/
import Derived.Test.YtfhdonidgegebaaDoorMg8
import Derived.Lib.MinMax
import Derived.Deep.AppendLies
import Derived.Deep.RegionLaw
namespace Go.Proofs.YtfhdonidgegebaaDoor
open Go Go.RowKit

theorem and_two_pow (n i : Nat) : n &&& 2 ^ i = if n.testBit i then 2 ^ i else 0 := by
  apply Nat.eq_of_testBit_eq
  intro j
  rw [Nat.testBit_and, Nat.testBit_two_pow]
  by_cases h : i = j
  · subst h
    by_cases hb : n.testBit i = true
    · simp [hb]
    · simp at hb; simp [hb]
  · by_cases hb : n.testBit i = true
    · simp [h, hb]
    · simp [h, hb]

theorem and_bit (c : UInt8) (p : Nat) : bits BinOp.and .u8 (c.toNat : Int) ((2 ^ (p % 8) : Nat) : Int) = if c.toNat.testBit (p % 8) then ((2 ^ (p % 8) : Nat) : Int) else 0 := by
  have h2 : 2 ^ (p % 8) < 2 ^ 8 := Nat.pow_lt_pow_right (by decide) (Nat.mod_lt _ (by decide))
  have hc := c.toNat_lt
  rw [u8_and_nat c.toNat _ (by omega) (by simpa using h2), and_two_pow]
  by_cases hb : c.toNat.testBit (p % 8) = true
  · rw [if_pos hb, if_pos hb]
  · rw [if_neg hb, if_neg hb]; rfl

theorem bit_is (f : List UInt8) (p : Nat) (h : bitAt f p = true) : (bits BinOp.and .u8 ((f.getD (p / 8) 0).toNat : Int) ((2 : Int) ^ (p % 8)) == 0) = false := by
  unfold bitAt at h
  rw [show ((2 : Int) ^ (p % 8)) = ((2 ^ (p % 8) : Nat) : Int) from by simp]
  rw [and_bit, if_pos h]
  have : 0 < 2 ^ (p % 8) := Nat.pow_pos (by decide)
  have h0 : ¬ (2 : Nat) ^ (p % 8) = 0 := by omega
  rw [beq_eq_false_iff_ne]
  exact_mod_cast h0

theorem bit_not (f : List UInt8) (p : Nat) (h : bitAt f p = false) : (bits BinOp.and .u8 ((f.getD (p / 8) 0).toNat : Int) ((2 : Int) ^ (p % 8)) == 0) = true := by
  unfold bitAt at h
  rw [show ((2 : Int) ^ (p % 8)) = ((2 ^ (p % 8) : Nat) : Int) from by simp]
  rw [and_bit, if_neg (by rw [h]; decide)]
  rfl

/-- A walk's struct that has just been stored. -/
theorem walk_stored (w : World) (z0 z1 z2 a b c : Value) (t : TypeId) :
    ((((w.alloc (.cells #[z0, z1, z2] t)).setCell ⟨w.heap.size, 0, none⟩ a).setCell ⟨w.heap.size, 1, none⟩ b).setCell ⟨w.heap.size, 2, none⟩ c).heap[w.heap.size]? = some (.cells #[a, b, c] t (0, 0)) := by
  have h0 := heap_alloc_new w (.cells #[z0, z1, z2] t)
  have h1 := heap_setCell_same _ _ 0 _ _ a h0
  have h2 := heap_setCell_same _ _ 1 _ _ b h1
  have h3 := heap_setCell_same _ _ 2 _ _ c h2
  rw [h3]
  simp

def MayRel (w : World) (f : List UInt8) (g x y n : Nat) (c : Value) (wr : World) : Prop :=
  ∃ i : Nat, c = .int .u8 (i : Int) ∧ i ≤ (f.getD (f.length - 1) 0).toNat ∧ allSet f x y n i = true ∧
    wr.heap[g]? = some (.cells #[.int .u64 ((x + i * y : Nat) : Int), .int .u64 (y : Int), .int .u64 (n : Int)] 100 (0, 0)) ∧ Below w.heap.size w wr

set_option maxRecDepth 100000 in
set_option maxHeartbeats 1000000 in
theorem may_any (w : World) (v : Value) (n : Nat) (f : List UInt8) (s : ByteArray) (h : Reads w 1 v n (bcells f)) (hn : n ≤ 1000000) (hs : s.size ≤ 1000000000) :
    Calls Tryd.prog 49 #[v, .string s] w (GivesBool w (mayL f s.data.toList)) := by
  have hfl : f.length = n := by have := h.1; simpa [bcells_length] using this
  by_cases h9 : n < 9
  · have hm : mayL f s.data.toList = true := by unfold mayL; rw [if_pos (by omega)]
    rw [hm]
    obtain ⟨a, cap, rfl, h1, h2⟩ := h.le
    unfold maxLen at h2
    clear hm h hfl
    have h9' : (n : Int) < 9 := by omega
    go_enter Tryd.func49, Tryd.ntmps49
    go_wp2
    go_ret
    exact ⟨rfl, Below.refl _ _⟩
  · obtain ⟨b, off, cap, rfl, h1, h2, hfl', hcell⟩ := h.head (by omega)
    clear hfl'
    unfold maxLen at h2
    have cl := hcell (n - 1) (by omega)
    rw [show (((off + (n - 1) : Nat))) = off + (n - 1) from rfl] at cl
    have hb0 : b < w.heap.size := World.block_lt_of_cell? _ _ cl
    have h9' : ¬ (n : Int) < 9 := by omega
    have e1 : ((n : Int) - 1).toNat = n - 1 := by omega
    generalize hK : (f.getD (n - 1) 0) = K at cl
    by_cases hk1 : K.toNat < 1
    · have hm : mayL f s.data.toList = true := by unfold mayL; rw [hfl, hK, if_pos (by omega)]
      rw [hm]
      clear hm h hfl hcell hK h9
      have hk' : (K.toNat : Int) < 1 := by omega
      go_enter Tryd.func49, Tryd.ntmps49
      go_wp2
      go_ret
      exact ⟨rfl, Below.refl _ _⟩
    · by_cases hk2 : 30 < K.toNat
      · have hm : mayL f s.data.toList = true := by unfold mayL; rw [hfl, hK, if_pos (by omega)]
        rw [hm]
        clear hm h hfl hcell hK h9
        have hk' : ¬ (K.toNat : Int) < 1 := by omega
        have hk3 : (30 : Int) < K.toNat := by omega
        go_enter Tryd.func49, Tryd.ntmps49
        go_wp2
        go_ret
        exact ⟨rfl, Below.refl _ _⟩
      · have hm : mayL f s.data.toList = allSet f (atOf (hashL s.data.toList)) (stepOf (hashL s.data.toList)) (8 * (n - 1)) K.toNat := by unfold mayL; rw [hfl, hK, if_neg (by omega)]
        rw [hm]
        clear hm
        have hh := hashL_lt s.data.toList
        have hx := atOf_lt (hashL s.data.toList)
        have hy := stepOf_lt hh
        have hst := fun w N hN => start_any w s N (8 * (n - 1)) hN hs (by omega)
        generalize atOf (hashL s.data.toList) = x at *
        generalize stepOf (hashL s.data.toList) = y at *
        have hk' : ¬ (K.toNat : Int) < 1 := by omega
        have hk3 : ¬ (30 : Int) < K.toNat := by omega
        have Hst := Lib.hid hst
        have Hfl := Lib.hid hfl
        have HK := Lib.hid hK
        have HR := Lib.hid h
        clear hst hh h hcell hfl hK
        generalize hN8 : 8 * (n - 1) = M at *
        have HN8 := Lib.hid hN8
        clear hN8
        go_enter Tryd.func49, Tryd.ntmps49
        go_wp2_with (go_at_call 58; go_must (refine (Hst.out _ _ ?_).mono ?_))
        · have := HN8.out; omega
        rintro e w1 ⟨rfl, b1⟩
        have hs1 := b1.size
        have cl1 := (b1.cell (p := ⟨b, off + (n - 1), none⟩) hb0).trans cl
        have b2 : Below w.heap.size w (w1.alloc (.cells #[.int .u64 (x : Int), .int .u64 (y : Int), .int .u64 (M : Int)] 100)) := b1.alloc (b1.size) _
        have cl2 := (b2.cell (p := ⟨b, off + (n - 1), none⟩) hb0).trans cl
        have B2 := Lib.hid b2
        clear b1 b2 cl1
        go_wp2
        go_loopw [37] (fun c wr => MayRel w f w1.heap.size x y M c wr) (fun c _ => 255 - (intOf c).toNat)
        case atStart =>
          exact ⟨0, rfl, Nat.zero_le _, rfl, by simpa using heap_alloc_new w1 _, B2.out⟩
        case round =>
          obtain ⟨i, rfl, hi, hall, hg, hb⟩ := hrel
          rw [Hfl.out, HK.out] at hi
          have hall' := Lib.hid hall
          clear hall
          by_cases hlt : i < K.toNat
          · have hlt' : (i : Int) < K.toNat := by omega
            have hM := HN8.out
            have him : i * y ≤ 30 * y := Nat.mul_le_mul_right _ (by omega)
            clear cl cl2
            go_wp2_with (go_at_call 59; go_must (refine (next_any wr w1.heap.size (x + i * y) y M hg (by omega) (by omega) (by omega)).mono ?_))
            rintro e w2 ⟨rfl, hg2, gr2⟩
            have hpl : (x + i * y) % M < M := Nat.mod_lt _ (by omega)
            have hp8 : (x + i * y) % M / 8 < n := by omega
            have hb2 : Below w.heap.size w w2 := hb.grown gr2 (by have := hb.size; omega) (fun k hk => by cases hk; omega)
            have hsum : x + i * y + y = x + (i + 1) * y := by rw [Nat.add_mul]; omega
            rw [hsum] at hg2
            have cp := (HR.out.below hb2 (fun b' hb' => by cases hb'; exact hb0)).bcell ((x + i * y) % M / 8) hp8
            have hall1 : allSet f x y M (i + 1) = (allSet f x y M i && bitAt f ((x + i * y) % M)) := rfl
            have bi := bit_is f ((x + i * y) % M)
            have bn := bit_not f ((x + i * y) % M)
            generalize (x + i * y) % M = p at *
            generalize f.getD (p / 8) 0 = c at cp bi bn
            have Hall1 := Lib.hid hall1
            have HM8 := Lib.hid hM
            clear hall1 hsum hM hg hb gr2 him
            by_cases hbit : bitAt f p = true
            · have bi' := bi hbit
              have Hbit := Lib.hid hbit
              clear bi bn hbit
              go_wp2
              refine ⟨⟨i + 1, by go_num, by rw [Hfl.out, HK.out]; omega, ?_, hg2, hb2⟩, by simp [intOf]; omega⟩
              rw [Hall1.out, hall'.out, Hbit.out]; rfl
            · have hbf : bitAt f p = false := by simpa using hbit
              have bi' := bn hbf
              have Hbit := Lib.hid hbf
              have hKle : allSet f x y M K.toNat = false := by
                cases hc : allSet f x y M K.toNat with
                | false => rfl
                | true =>
                  have h1 := (allSet_iff _).1 hc
                  have h2 : allSet f x y M (i + 1) = true := (allSet_iff _).2 fun j hj => h1 j (by omega)
                  rw [Hall1.out, hbf] at h2
                  simp at h2
              have HKle := Lib.hid hKle
              clear bi bn hbit hbf hKle
              go_wp2
              go_ret
              rw [HKle.out]
              exact ⟨rfl, hb2⟩
          · obtain rfl : i = K.toNat := by omega
            have hlt' : ¬ (K.toNat : Int) < K.toNat := by omega
            clear hg
            go_wp2
            go_ret
            rw [hall'.out]
            exact ⟨rfl, hb⟩
end Go.Proofs.YtfhdonidgegebaaDoor

namespace Go.Proofs.YtfhdonidgegebaaDoor
open Go Go.RowKit

theorem setAll_succ {b k j : Nat} {f : List UInt8} {ks : List ByteArray} {s : ByteArray} (h : ks[j]? = some s) :
    setAll b k f ((ks.map fun k => k.data.toList).take (j + 1)) = setKey b k (setAll b k f ((ks.map fun k => k.data.toList).take j)) s.data.toList := by
  unfold setAll
  have : (ks.map fun k => k.data.toList).take (j + 1) = (ks.map fun k => k.data.toList).take j ++ [s.data.toList] := by
    rw [List.take_add_one]
    simp [h]
  rw [this, List.foldl_append, List.foldl_cons, List.foldl_nil]

theorem or_bit (c : UInt8) (p : Nat) : bits BinOp.or .u8 (c.toNat : Int) ((2 : Int) ^ (p % 8)) = ((UInt8.ofNat (c.toNat ||| 2 ^ (p % 8))).toNat : Int) := by
  have h2 : 2 ^ (p % 8) < 2 ^ 8 := Nat.pow_lt_pow_right (by decide) (Nat.mod_lt _ (by decide))
  have hc := c.toNat_lt
  have h3 := or_bit_lt c p
  rw [show ((2 : Int) ^ (p % 8)) = ((2 ^ (p % 8) : Nat) : Int) from by simp]
  generalize 2 ^ (p % 8) = m at *
  rw [u8_or_nat c.toNat m (by omega) (by omega)]
  simp only [UInt8.toNat_ofNat']
  rw [Nat.mod_eq_of_lt (by omega)]

theorem set_last {f : List UInt8} {c : UInt8} (g : List UInt8) {j : Nat} {z : Int} (hz : z = (c.toNat : Int)) (hj : j < f.length) : (bcells (f ++ g)).set j (.int .u8 z) = bcells (f.set j c ++ g) := by
  subst hz
  simp only [bcells, List.map_append, List.map_set]
  rw [List.set_append_left _ _ (by simpa using hj)]

theorem bcells_at {f : List UInt8} (g : List UInt8) {j : Nat} (h : j < f.length) : (bcells (f ++ g))[j]? = some (.int .u8 ((f.getD j 0).toNat : Int)) := by
  simp only [bcells, List.getElem?_map, List.getElem?_append_left h, List.getElem?_eq_getElem h, Option.map_some, List.getD, Option.getD_some]

def MkRow (w : World) (F : List UInt8) (S : Nat) (wr : World) : Prop :=
  wr.ownsRow w.heap.size 5 1 (.slice (some ⟨w.heap.size, 0, none⟩) (S + 1) (S + 1)) (S + 1) (bcells (F ++ [0]))

def MkRel (w : World) (ks : List ByteArray) (S kk n : Nat) (c : Value) (wr : World) : Prop :=
  ∃ j : Nat, c = .int .i64 (j : Int) ∧ j ≤ n ∧ MkRow w (setAll (8 * S) kk (List.replicate S 0) ((ks.map fun k => k.data.toList).take j)) S wr ∧ Below w.heap.size w wr

def MkIn (w : World) (F : List UInt8) (S kk x y g : Nat) (c : Value) (wr : World) : Prop :=
  ∃ i : Nat, c = .int .i64 (i : Int) ∧ i ≤ kk ∧ MkRow w (setK F x y (8 * S) i) S wr ∧
    wr.heap[g]? = some (.cells #[.int .u64 ((x + i * y : Nat) : Int), .int .u64 (y : Int), .int .u64 ((8 * S : Nat) : Int)] 100 (0, 0)) ∧ Below w.heap.size w wr

def MakePost (w : World) (l : List UInt8) (e : Ending) (w' : World) : Prop :=
  ∃ g, e = .returned (.slice (some ⟨g, 0, none⟩) l.length l.length) ∧ w'.ownsRow w.heap.size 5 1 (.slice (some ⟨g, 0, none⟩) l.length l.length) l.length (bcells l) ∧ Below w.heap.size w w'

set_option maxRecDepth 100000 in
set_option maxHeartbeats 1000000 in
theorem make_any (w : World) (v : Value) (n : Nat) (ks : List ByteArray) (B : Int) (h : Reads w 1 v n (scells ks)) (hn : n ≤ 1000) (hs : ∀ k ∈ ks, k.size ≤ 1000000000)
    (hB : -9223372036854775808 ≤ B ∧ B ≤ 9223372036854775807) :
    Calls Tryd.prog 30 #[v, .int .i64 B] w (MakePost w (makeL (ks.map fun k => k.data.toList) B)) := by
  obtain ⟨i0, hi, hz0, hz1, hz2⟩ := info_parts info5
  obtain ⟨a, cap, rfl, h1, h2⟩ := h.le
  unfold maxLen at h2
  have hb := bOf_le B
  have hk := kOf_le B
  have hsz := sizeOf'_ge n B
  have hsz' := sizeOf'_le n B
  have q1 : min (max B 1) 40 = (bOf B : Int) := by unfold bOf; omega
  have q2 : min (max (69 * (bOf B : Int) / 100) 1) 30 = (kOf B : Int) := by unfold kOf; omega
  have q3 : ((max ((n : Int) * (bOf B : Int)) 64) + 7) / 8 = (sizeOf' n B : Int) := by
    unfold sizeOf'
    have e : (n : Int) * (bOf B : Int) = ((n * bOf B : Nat) : Int) := (Int.natCast_mul _ _).symm
    rw [e]
    omega
  have hnb : n * bOf B ≤ 1000 * 40 := Nat.mul_le_mul hn hb.2
  have hml : makeL (ks.map fun k => k.data.toList) B = setAll (8 * sizeOf' n B) (kOf B) (List.replicate (sizeOf' n B) 0) (ks.map fun k => k.data.toList) ++ [UInt8.ofNat (kOf B)] := by
    unfold makeL
    rw [List.length_map]
    have : ks.length = n := by have := h.1; simpa [scells] using this
    rw [this]
  rw [hml]
  clear hml
  generalize hbo : bOf B = bb at *
  generalize hko : kOf B = kk at *
  generalize hso : sizeOf' n B = S at *
  have Hs := Lib.hid hs
  have HR := Lib.hid h
  clear hbo hko hso hs h
  have hnb' : (n : Int) * bb ≤ 40000 := by
    rw [← Int.natCast_mul]
    omega
  have hnb0 : (0 : Int) ≤ (n : Int) * bb := Int.mul_nonneg (by omega) (by omega)
  go_enter Tryd.func30, Tryd.ntmps30
  go_wp2_with (at_make; go_must (refine wpList_make_full _ rfl _ _ 24 rfl w.heap.size 5 i0 (.int .u8 0) 1 Tryd.underlying24 hi hz0 hz1 .i64 .i64 _ _ (S + 1) rfl rfl ?_ ?_ ?_ ?_ ?_ ?_))
  · omega
  · omega
  · rw [hz2]; omega
  · unfold maxLen; omega
  · exact Nat.le_refl _
  intro w1 own1 gr1
  have b1 : Below w.heap.size w w1 := (Below.refl _ _).grown gr1 (Nat.le_refl _) (fun k hk => by cases hk)
  have own1' : MkRow w (List.replicate S 0) S w1 := by
    have e : (madeCells #[Value.int IntKind.u8 0] (S + 1)).toList = bcells (List.replicate S 0 ++ [0]) := by
      rw [toList_madeCells_one, ← List.replicate_succ']
      simp [bcells]
    rw [e] at own1
    exact own1
  clear own1 q1 q2 q3 gr1
  go_wp2
  go_loopw [33] (fun c wr => MkRel w ks S kk n c wr) (fun c _ => n - (intOf c).toNat)
  case atStart => exact ⟨0, rfl, Nat.zero_le _, own1', b1⟩
  case round =>
    obtain ⟨j, rfl, hj, hrow, hb⟩ := hrel
    clear own1' b1
    by_cases hlt : j < n
    · obtain ⟨b, off, s, rfl, hs, hbs, hcs⟩ := HR.out.scell j hlt
      have hcs' := (hb.cell (p := ⟨b, off + j, none⟩) hbs).trans hcs
      have hsz1 := Hs.out s (List.mem_of_getElem? hs)
      have hsucc := setAll_succ (b := 8 * S) (k := kk) (f := List.replicate S 0) hs
      have hFl := setAll_length (8 * S) kk ((ks.map fun k => k.data.toList).take j) (List.replicate S 0)
      rw [List.length_replicate] at hFl
      generalize setAll (8 * S) kk (List.replicate S 0) ((ks.map fun k => k.data.toList).take j) = F at *
      have Hsucc := Lib.hid hsucc
      have HFl := Lib.hid hFl
      have HS := Lib.hid hs
      clear hcs hsucc hFl hs
      have hlt' : (j : Int) < n := by omega
      go_wp2_with (go_at_call 58; go_must (refine (start_any wr s _ (8 * S) ?_ hsz1 ?_).mono ?_))
      · omega
      · omega
      rintro e w2 ⟨rfl, b2⟩
      have hx := atOf_lt (hashL s.data.toList)
      have hy := stepOf_lt (hashL_lt s.data.toList)
      have hset : setKey (8 * S) kk F s.data.toList = setK F (atOf (hashL s.data.toList)) (stepOf (hashL s.data.toList)) (8 * S) kk := rfl
      generalize atOf (hashL s.data.toList) = x at *
      generalize stepOf (hashL s.data.toList) = y at *
      have hws := hb.size
      have hg0 : w.heap.size < wr.heap.size := (hrow.lt w.heap.size rfl).2
      have hws2 := b2.size
      have hrow2 : MkRow w F S (w2.alloc (.cells #[.int .u64 (x : Int), .int .u64 (y : Int), .int .u64 ((8 * S : Nat) : Int)] 100)) := by
        refine World.ownsRow.alloc ?_ _
        exact hrow.kept (row := none) ⟨b2.os, b2.tape, b2.output, b2.size, fun k hk _ => b2.block k hk⟩ (.inr (by simp [Value.ownBlock]))
      have hb2 : Below w.heap.size w (w2.alloc (.cells #[.int .u64 (x : Int), .int .u64 (y : Int), .int .u64 ((8 * S : Nat) : Int)] 100)) := (hb.trans (b2.mono hws)).alloc (by omega) _
      have hg2 := heap_alloc_new w2 (.cells #[.int .u64 (x : Int), .int .u64 (y : Int), .int .u64 ((8 * S : Nat) : Int)] 100)
      have Hset := Lib.hid hset
      have Hg2 := Lib.hid hg2
      clear hset hg2 hcs' hrow hb b2
      go_wp2
      go_loopw [42] (fun c wi => MkIn w F S kk x y w2.heap.size c wi) (fun c _ => kk - (intOf c).toNat)
      case atStart => exact ⟨0, rfl, Nat.zero_le _, hrow2, by rw [Nat.zero_mul, Nat.add_zero]; exact Hg2.out, hb2⟩
      case round =>
        obtain ⟨i, rfl, hi', hri, hgi, hbi⟩ := hrel
        clear hrow2 hb2
        by_cases hik : i < kk
        · have him : i * y ≤ 30 * y := Nat.mul_le_mul_right _ (by omega)
          go_wp2_with (go_at_call 59; go_must (refine (next_any wr w2.heap.size (x + i * y) y (8 * S) hgi (by omega) (by omega) (by omega)).mono ?_))
          rintro e w3 ⟨rfl, hg3, gr3⟩
          have hpl : (x + i * y) % (8 * S) < 8 * S := Nat.mod_lt _ (by omega)
          have hp8 : (x + i * y) % (8 * S) / 8 < S := by omega
          have hwi := hbi.size
          have hb3 : Below w.heap.size w w3 := hbi.grown gr3 hwi (fun k hk => by cases hk; omega)
          have hsum : x + i * y + y = x + (i + 1) * y := by rw [Nat.add_mul]; omega
          rw [hsum] at hg3
          have hr3 : MkRow w (setK F x y (8 * S) i) S w3 := World.ownsRow.kept hri gr3 (.inr (by simp [Value.ownBlock]; omega))
          have hKl := setK_length F x y (8 * S) i
          rw [HFl.out] at hKl
          have hset1 : setK F x y (8 * S) (i + 1) = setBit (setK F x y (8 * S) i) ((x + i * y) % (8 * S)) := rfl
          unfold setBit at hset1
          generalize setK F x y (8 * S) i = G at *
          generalize (x + i * y) % (8 * S) = p at *
          have cp := hr3.cellAt (p / 8) (by omega)
          have hGp := bcells_at [0] (show p / 8 < G.length by omega)
          rw [hGp] at cp
          have fp := hr3.frozenAt (p / 8)
          have st := fun u => World.ownsRow.stored hr3 (p / 8) u
          have hor := or_bit (G.getD (p / 8) 0) p
          have hsl := fun z hz => set_last (f := G) (c := UInt8.ofNat ((G.getD (p / 8) 0).toNat ||| 2 ^ (p % 8))) [0] (j := p / 8) (z := z) hz (by omega)
          rw [← hset1] at hsl
          generalize G.getD (p / 8) 0 = c at *
          have Hor := Lib.hid hor
          have St := Lib.hid st
          have Hsl := Lib.hid hsl
          have Hg3 := Lib.hid hg3
          clear hor st hsl hset1 hGp hsum hg3 hgi hri hbi gr3 hr3
          go_wp2
          have h1 := St.out (.int .u8 (bits BinOp.or .u8 (c.toNat : Int) ((2 : Int) ^ (p % 8))))
          rw [Hsl.out _ Hor.out] at h1
          refine ⟨⟨i + 1, by go_num, by omega, h1.1, ?_, ?_⟩, by simp [intOf]; omega⟩
          · exact (heap_setCell_other _ ⟨w.heap.size, p / 8, none⟩ w2.heap.size _ (by simp; omega)).trans Hg3.out
          · exact hb3.grown h1.2 hb3.size (fun k hk => by cases hk; exact Nat.le_refl _)
        · obtain rfl : i = kk := by omega
          have hik' : ¬ ((i : Int) < i) := by omega
          have hr4 := Lib.hid hri
          clear hri hgi
          go_wp2
          refine ⟨⟨j + 1, by go_num, by omega, ?_, hbi⟩, by simp [intOf]; omega⟩
          rw [Hsucc.out, Hset.out]
          exact hr4.out
    · obtain rfl : j = n := by omega
      have hlen : (ks.map fun k => k.data.toList).length = j := by
        rw [List.length_map]
        have := HR.out.1
        simpa [scells] using this
      rw [List.take_of_length_le (by omega)] at hrow
      have hFl := setAll_length (8 * S) kk (ks.map fun k => k.data.toList) (List.replicate S 0)
      rw [List.length_replicate] at hFl
      generalize hF : setAll (8 * S) kk (List.replicate S 0) (ks.map fun k => k.data.toList) = F at hrow hFl
      have HF := Lib.hid hF
      clear hF
      have cS := hrow.cellAt S (by omega)
      have hcS : (bcells (F ++ [0]))[S]? = some (.int .u8 0) := by
        simp [bcells, ← hFl]
      rw [hcS] at cS
      have fS := hrow.frozenAt S
      obtain ⟨own9, gr9⟩ := World.ownsRow.stored hrow S (.int .u8 (kk : Int))
      have hs9 : (bcells (F ++ [0])).set S (.int .u8 (kk : Int)) = bcells (F ++ [UInt8.ofNat kk]) := by
        have e : ((UInt8.ofNat kk).toNat : Int) = kk := by simp; omega
        simp only [bcells, List.map_append, List.map_cons, List.map_nil, e]
        rw [List.set_append_right _ _ (by simp [hFl])]
        simp [hFl]
      rw [hs9] at own9
      have hl9 : (F ++ [UInt8.ofNat kk]).length = S + 1 := by simp [hFl]
      have hb9 : Below w.heap.size w (wr.setCell ⟨w.heap.size, S, none⟩ (.int .u8 (kk : Int))) := hb.grown gr9 hb.size (fun k hk => by cases hk; exact Nat.le_refl _)
      have Own9 := Lib.hid own9
      have Hl9 := Lib.hid hl9
      have Hb9 := Lib.hid hb9
      have hlt' : ¬ ((j : Int) < j) := by omega
      clear own9 hl9 hb9 hs9 gr9 hcS hrow hb hlen hFl
      go_wp2
      go_ret
      refine ⟨w.heap.size, ?_, ?_, Hb9.out⟩
      · rw [HF.out, Hl9.out]
        rfl
      · rw [HF.out, Hl9.out]
        exact Own9.out
end Go.Proofs.YtfhdonidgegebaaDoor

/- Rows of bytes in rows. -/
namespace Go.Proofs.YtfhdonidgegebaaDoor
open Go Go.RowKit

theorem info22 : (Tryd.prog.info? 24).map (fun i => (i.zero, i.size, i.bytes)) = some (some (.slice none 0 0), 1, 24) := by kernel_rfl

/-- The slice v has n rows of bytes: ps. -/
def RowsOf (w : World) (v : Value) (n : Nat) (ps : List (List UInt8)) : Prop :=
  ∃ vs : List Value, Reads w 1 v n vs ∧ ps.length = n ∧ ∀ (i : Nat) (p : List UInt8), ps[i]? = some p → ∃ u, vs[i]? = some u ∧ Reads w 1 u p.length (bcells p)

theorem RowsOf.below' {w w' : World} {v : Value} {n : Nat} {ps : List (List UInt8)} (h : RowsOf w v n ps) (hb : Below w.heap.size w w') : RowsOf w' v n ps := by
  obtain ⟨vs, h1, h2, h3⟩ := h
  exact ⟨vs, h1.below' hb, h2, fun i p hp => by
    obtain ⟨u, e, hu⟩ := h3 i p hp
    exact ⟨u, e, hu.below' hb⟩⟩

theorem RowsOf.nil (w : World) (v : Value) (hv : v = .slice none 0 0) : RowsOf w v 0 [] := by
  subst hv
  exact ⟨[], ⟨by simp, none, 0, rfl, Nat.le_refl _, Nat.zero_le _, fun j u h => by simp at h⟩, rfl, fun i p h => by simp at h⟩

/-- One row of them. -/
theorem RowsOf.row {w : World} {a : Option Addr} {n cap : Nat} {ps : List (List UInt8)} (h : RowsOf w (.slice a n cap) n ps) {j : Nat} (hj : j < n) :
    ∃ b off p u, a = some ⟨b, off, none⟩ ∧ ps[j]? = some p ∧ b < w.heap.size ∧ w.cell? ⟨b, off + j, none⟩ = some u ∧ Reads w 1 u p.length (bcells p) := by
  obtain ⟨vs, ⟨hl, a', cap', hv, _, _, hc⟩, h2, h3⟩ := h
  cases hv
  have hp : ps[j]? = some (ps[j]'(by omega)) := List.getElem?_eq_getElem (by omega)
  obtain ⟨u, e, hu⟩ := h3 j _ hp
  obtain ⟨b, off, rfl, hb, hcell⟩ := hc j u e
  exact ⟨b, off, _, u, rfl, hp, hb, hcell, hu⟩

/-- The first k rows. -/
theorem RowsOf.take {w : World} {a : Option Addr} {n cap : Nat} {ps : List (List UInt8)} (h : RowsOf w (.slice a n cap) n ps) (k : Nat) (hk : k ≤ n) : RowsOf w (.slice a k cap) k (ps.take k) := by
  obtain ⟨vs, ⟨hl, a', cap', hv, h1, h4, hc⟩, h2, h3⟩ := h
  cases hv
  refine ⟨vs.take k, ⟨by rw [List.length_take]; omega, a, cap, rfl, by omega, h4, fun j u hj => hc j u ?_⟩, by rw [List.length_take]; omega, fun i p hp => ?_⟩
  · rw [List.getElem?_take] at hj
    split at hj
    · exact hj
    · cases hj
  · rw [List.getElem?_take] at hp
    split at hp
    · next hik =>
      obtain ⟨u, e, hu⟩ := h3 i p hp
      exact ⟨u, by rw [List.getElem?_take, if_pos hik]; exact e, hu⟩
    · cases hp

/-- Rows of two types lie in two blocks. -/
theorem rows_apart {w : World} {B1 B2 n1 n2 s1 s2 : Nat} {e1 e2 : TypeId} {v1 v2 : Value} {xs1 xs2 : List Value} (h1 : w.ownsRow B1 e1 s1 v1 n1 xs1) (h2 : w.ownsRow B2 e2 s2 v2 n2 xs2) (hne : e1 ≠ e2) : v1.ownBlock = none ∨ v1.ownBlock ≠ v2.ownBlock := by
  rcases h1.2 with ⟨rfl, _⟩ | ⟨g1, c1, cur1, rfl, _, hg1, _⟩
  · exact .inl rfl
  · rcases h2.2 with ⟨rfl, _⟩ | ⟨g2, c2, cur2, rfl, _, hg2, _⟩
    · exact .inr (by simp [Value.ownBlock])
    · right
      intro e
      simp [Value.ownBlock] at e
      subst e
      rw [hg1] at hg2
      simp at hg2
      exact hne hg2.2

/-- A row of rows that the call makes, and its rows are the call's own, too. -/
def ORows (B : Nat) (w : World) (v : Value) (k : Nat) (ps : List (List UInt8)) : Prop :=
  ∃ vs : List Value, w.ownsRow B 24 1 v k vs ∧ ps.length = k ∧ ∀ (i : Nat) (p : List UInt8), ps[i]? = some p → ∃ u, vs[i]? = some u ∧ w.ownsRow B 5 1 u p.length (bcells p)

theorem ORows.nil (B : Nat) (w : World) : ORows B w (.slice none 0 0) 0 [] :=
  ⟨[], World.ownsRow_nil _ _ _ _, rfl, fun i p h => by simp at h⟩

theorem ORows.below' {B : Nat} {w w' : World} {v : Value} {k : Nat} {ps : List (List UInt8)} (h : ORows B w v k ps) (hb : Below w.heap.size w w') : ORows B w' v k ps := by
  obtain ⟨vs, h1, h2, h3⟩ := h
  refine ⟨vs, owns_below h1 hb, h2, fun i p hp => ?_⟩
  obtain ⟨u, e, hu⟩ := h3 i p hp
  exact ⟨u, e, owns_below hu hb⟩

theorem ORows.rows {B : Nat} {w : World} {v : Value} {k : Nat} {ps : List (List UInt8)} (h : ORows B w v k ps) : RowsOf w v k ps := by
  obtain ⟨vs, h1, h2, h3⟩ := h
  exact ⟨vs, ownsRow.reads h1, h2, fun i p hp => by
    obtain ⟨u, e, hu⟩ := h3 i p hp
    exact ⟨u, e, ownsRow.reads hu⟩⟩

/-- A row more. -/
theorem ORows.snoc {B : Nat} {w w' : World} {v v' u : Value} {k : Nat} {ps : List (List UInt8)} {p : List UInt8} {vs : List Value} (h1 : w.ownsRow B 24 1 v k vs) (h2 : ps.length = k)
    (h3 : ∀ (i : Nat) (p : List UInt8), ps[i]? = some p → ∃ u, vs[i]? = some u ∧ w.ownsRow B 5 1 u p.length (bcells p)) (hu : w.ownsRow B 5 1 u p.length (bcells p))
    (hown : w'.ownsRow B 24 1 v' (k + 1) (vs ++ [u])) (hg : w.grownBy w' v.ownBlock) : ORows B w' v' (k + 1) (ps ++ [p]) := by
  have hvl : vs.length = k := by have := h1.1; simpa using this
  refine ⟨vs ++ [u], hown, by simp [h2], fun i q hq => ?_⟩
  by_cases hi : i < k
  · rw [List.getElem?_append_left (by omega)] at hq
    obtain ⟨x, e, hx⟩ := h3 i q hq
    exact ⟨x, by rw [List.getElem?_append_left (by omega)]; exact e, hx.kept hg (rows_apart hx h1 (by decide))⟩
  · rw [List.getElem?_append_right (by omega)] at hq
    have hi0 : i - ps.length = 0 := by
      have := (List.getElem?_eq_some_iff.1 hq).1
      simp at this
      omega
    rw [hi0] at hq
    obtain rfl : p = q := by simpa using hq
    refine ⟨u, ?_, hu.kept hg (rows_apart hu h1 (by decide))⟩
    rw [List.getElem?_append_right (by omega), show i - vs.length = 0 by omega]
    rfl

/-- A row of rows that the call makes; its rows lie in old memory. -/
def HRows (B : Nat) (w : World) (v : Value) (k : Nat) (ps : List (List UInt8)) : Prop :=
  ∃ vs : List Value, w.ownsRow B 24 1 v k vs ∧ ps.length = k ∧ ∀ (i : Nat) (p : List UInt8), ps[i]? = some p → ∃ u, vs[i]? = some u ∧ Reads w 1 u p.length (bcells p) ∧ (u.ownBlock = none ∨ ∃ b, u.ownBlock = some b ∧ b < B)

theorem HRows.nil (B : Nat) (w : World) : HRows B w (.slice none 0 0) 0 [] :=
  ⟨[], World.ownsRow_nil _ _ _ _, rfl, fun i p h => by simp at h⟩

theorem HRows.below' {B : Nat} {w w' : World} {v : Value} {k : Nat} {ps : List (List UInt8)} (h : HRows B w v k ps) (hb : Below w.heap.size w w') : HRows B w' v k ps := by
  obtain ⟨vs, h1, h2, h3⟩ := h
  refine ⟨vs, owns_below h1 hb, h2, fun i p hp => ?_⟩
  obtain ⟨u, e, hu, ho⟩ := h3 i p hp
  exact ⟨u, e, hu.below' hb, ho⟩

theorem HRows.rows {B : Nat} {w : World} {v : Value} {k : Nat} {ps : List (List UInt8)} (h : HRows B w v k ps) : RowsOf w v k ps := by
  obtain ⟨vs, h1, h2, h3⟩ := h
  exact ⟨vs, ownsRow.reads h1, h2, fun i p hp => by
    obtain ⟨u, e, hu, _⟩ := h3 i p hp
    exact ⟨u, e, hu⟩⟩

/-- A row more, out of old memory. -/
theorem HRows.snoc {B : Nat} {w w' : World} {v v' u : Value} {k : Nat} {ps : List (List UInt8)} {p : List UInt8} {vs : List Value} (h1 : w.ownsRow B 24 1 v k vs) (h2 : ps.length = k)
    (h3 : ∀ (i : Nat) (p : List UInt8), ps[i]? = some p → ∃ u, vs[i]? = some u ∧ Reads w 1 u p.length (bcells p) ∧ (u.ownBlock = none ∨ ∃ b, u.ownBlock = some b ∧ b < B)) (hu : Reads w 1 u p.length (bcells p)) (hub : u.ownBlock = none ∨ ∃ b, u.ownBlock = some b ∧ b < B)
    (hown : w'.ownsRow B 24 1 v' (k + 1) (vs ++ [u])) (hg : w.grownBy w' v.ownBlock) : HRows B w' v' (k + 1) (ps ++ [p]) := by
  have hvl : vs.length = k := by have := h1.1; simpa using this
  have apart : ∀ x : Value, (x.ownBlock = none ∨ ∃ b, x.ownBlock = some b ∧ b < B) → x.ownBlock = none ∨ x.ownBlock ≠ v.ownBlock := by
    rintro x (h | ⟨b, h, hlt⟩)
    · exact .inl h
    · right
      rw [h]
      intro e
      have := (h1.lt b e.symm).1
      omega
  refine ⟨vs ++ [u], hown, by simp [h2], fun i q hq => ?_⟩
  by_cases hi : i < k
  · rw [List.getElem?_append_left (by omega)] at hq
    obtain ⟨x, e, hx, ho⟩ := h3 i q hq
    exact ⟨x, by rw [List.getElem?_append_left (by omega)]; exact e, hx.grown hg (apart x ho), ho⟩
  · rw [List.getElem?_append_right (by omega)] at hq
    have hi0 : i - ps.length = 0 := by
      have := (List.getElem?_eq_some_iff.1 hq).1
      simp at this
      omega
    rw [hi0] at hq
    obtain rfl : p = q := by simpa using hq
    refine ⟨u, ?_, hu.grown hg (apart u hub), hub⟩
    rw [List.getElem?_append_right (by omega), show i - vs.length = 0 by omega]
    rfl
end Go.Proofs.YtfhdonidgegebaaDoor

/- Build. -/
namespace Go.Proofs.YtfhdonidgegebaaDoor
open Go Go.RowKit

theorem info67 : (Tryd.prog.info? 67).map (fun i => (i.zero, i.size, i.bytes)) = some (some (.agg #[.string ⟨#[]⟩, .int .i64 0, .int .i64 0]), 3, 32) := by kernel_rfl

/-- An index of one's own, in block g, whose rows are one's own. -/
def OIdx (B : Nat) (w : World) (g : Nat) (sp : List Span) : Prop :=
  ∃ v, w.heap[g]? = some (.cells #[v] 62 (0, 0)) ∧ w.ownsRow B 67 3 v sp.length (spcells sp) ∧ B ≤ g

theorem OIdx.idx {B : Nat} {w : World} {g : Nat} {sp : List Span} (h : OIdx B w g sp) : IdxAt w g sp := by
  obtain ⟨v, h1, h2, _⟩ := h
  obtain ⟨a, cap, rfl, _, _⟩ := (ownsRow.reads h2).le
  exact ⟨a, cap, h1, ownsRow.reads h2⟩

theorem OIdx.after {B : Nat} {w w' : World} {g : Nat} {sp : List Span} (h : OIdx B w g sp) (b : Below w.heap.size w w') : OIdx B w' g sp := by
  obtain ⟨v, h1, h2, h3⟩ := h
  exact ⟨v, below_block b h1 (Array.getElem?_eq_some_iff.1 h1).1, owns_below h2 b, h3⟩

/-- It stays as bytes of one's own grow. -/
theorem OIdx.grown {B n g : Nat} {w w' : World} {v : Value} {xs : List Value} {sp : List Span} (h : OIdx B w g sp) (ho : w.ownsRow B 5 1 v n xs) (gr : w.grownBy w' v.ownBlock) : OIdx B w' g sp := by
  obtain ⟨u, h1, h2, h3⟩ := h
  refine ⟨u, grown_other ho gr h1 (by decide), h2.kept gr ?_, h3⟩
  rcases h2.2 with ⟨rfl, _⟩ | ⟨q, cap, cur, rfl, _, hh, _⟩
  · exact .inl rfl
  · exact .inr fun e => owns_other ho hh (by decide) e.symm

def TBuildPost (w : World) (ks : List ByteArray) (split bits : Int) (e : Ending) (w' : World) : Prop :=
  (checkL ks split ≠ 0 ∧ e = .returned (.tuple #[.slice none 0 0, .int .i64 (checkL ks split : Int)]) ∧ Below w.heap.size w w') ∨
    (checkL ks split = 0 ∧ ∃ v, e = .returned (.tuple #[v, .int .i64 0]) ∧ w'.ownsRow w.heap.size 5 1 v (tabL (blocksL split ks) (stemsB ks) ks.length bits).length (bcells (tabL (blocksL split ks) (stemsB ks) ks.length bits)) ∧ Below w.heap.size w w')

theorem seal_small {ks : List ByteArray} (hs : ∀ x ∈ ks, x.size ≤ 60000) (h0 : 0 < ks.length) : (sealL (buildL ks)).length ≤ ks.length * 100000 := by
  have h1 := bodyTo_length hs ks.length
  have h2 := placesTo_length ks ks.length
  rw [sealL_length]
  unfold buildL
  rw [List.length_append, List.length_append]
  simp only [be4, List.length_cons, List.length_nil]
  omega

theorem firstK_take {l : List ByteArray} {n : Nat} {x : ByteArray} (h : l[0]? = some x) (hn : 0 < n) : firstK (l.take n) = x := by
  unfold firstK
  rw [List.getD_eq_getElem?_getD, List.getElem?_take_of_lt hn, h]
  rfl

theorem firstK_le {b : List ByteArray} (h : ∀ x ∈ b, x.size ≤ 60000) : (firstK b).size ≤ 60000 := by
  unfold firstK
  cases b with
  | nil => decide
  | cons x r => exact h x (by simp)

theorem spans_small : ∀ (bs : List (List ByteArray)) (a : Nat), (∀ b ∈ bs, ∀ x ∈ b, x.size ≤ 60000) → a + (dataL bs).length < 4611686018427387904 → SmallS (spansF a bs)
  | [], a, _, _ => fun s hs => by simp [spansF] at hs
  | b :: bs, a, h1, h2 => fun s hs => by
    rw [dataL_cons, List.length_append] at h2
    rw [spansF] at hs
    rcases List.mem_cons.1 hs with rfl | hs
    · exact ⟨firstK_le (h1 b (by simp)), by show a < _; omega, by show (sealL (buildL b)).length < _; omega⟩
    · exact spans_small bs _ (fun b' hb' => h1 b' (by simp [hb'])) (by omega) s hs

/-- How far Build has come. -/
def TBRel (w : World) (ks : List ByteArray) (split : Int) (gx : Nat) (bv lv : Value) (wr : World) : Prop :=
  ∃ (bs : List (List ByteArray)) (left : List ByteArray) (a : Option Addr) (cap : Nat), lv = .slice a left.length cap ∧ Reads w 1 (.slice a left.length cap) left.length (scells left) ∧ blocksL split ks = bs ++ blocksL split left ∧ left <:+ ks ∧
    wr.ownsRow w.heap.size 5 1 bv (dataL bs).length (bcells (dataL bs)) ∧ OIdx w.heap.size wr gx (spansF 0 bs) ∧ (dataL bs).length + left.length * 100000 ≤ ks.length * 100000 ∧ bs.length + left.length ≤ ks.length ∧ Below w.heap.size w wr

theorem span_cells (W : World) (x y z : Value) : ∀ j u, [x, y, z][j]? = some u → (W.alloc (.cells #[x, y, z] 67)).cell? ((⟨W.heap.size, 0, none⟩ : Addr).add j) = some u := by
  intro j u hj
  rw [Addr.add_lit, show 0 + j = j by omega, World.cell?_alloc_new W _ _ j]
  simpa using hj

theorem below_grown {B n s : Nat} {w w' : World} {e : TypeId} {v : Value} {xs : List Value} (h : w.ownsRow B e s v n xs) (g : w.grownBy w' v.ownBlock) (hB : B ≤ w.heap.size) : Below B w w' := by
  refine ⟨g.os, g.tape, g.output, g.size, fun k hk => ?_⟩
  refine g.block k (by omega) fun he => ?_
  rcases h.2 with ⟨rfl, _⟩ | ⟨q, cap, cur, rfl, hq, _⟩
  · simp [Value.ownBlock] at he
  · simp [Value.ownBlock] at he
    omega

theorem owns_drew {B n s : Nat} {w : World} {e : TypeId} {v : Value} {xs : List Value} (h : w.ownsRow B e s v n xs) : w.drew.ownsRow B e s v n xs := h
theorem heap_drew {w : World} {g : Nat} {o : Option Obj} (h : w.heap[g]? = o) : w.drew.heap[g]? = o := h

def leftLen (v : Value) : Nat := match v with | .slice _ n _ => n | _ => 0

set_option maxRecDepth 100000 in
set_option maxHeartbeats 4000000 in
theorem tbuild_any (w : World) (a : Option Addr) (n cap : Nat) (ks : List ByteArray) (split bits : Int) (h : Reads w 1 (.slice a n cap) n (scells ks)) (hn : n ≤ 1000) (hsz : ∀ x ∈ ks, x.size ≤ 60000)
    (hB : -9223372036854775808 ≤ bits ∧ bits ≤ 9223372036854775807) (hst : Steps w) :
    Calls Tryd.prog 9 #[.slice a n cap, .int .i64 split, .int .i64 bits] w (TBuildPost w ks split bits) := by
  obtain ⟨i0, hi, hz0, hz1, hz2⟩ := info_parts info5
  obtain ⟨i3, hi3, hz30, hz31, hz32⟩ := info_parts info67
  have hkl : ks.length = n := by have := h.1; rw [scells_length] at this; omega
  have HR := Lib.hid h
  have HL := Lib.hid hkl
  have HSz := Lib.hid hsz
  have HSt := Lib.hid hst
  have HBits := Lib.hid hB
  have HC := Lib.hid (check_any w a n cap ks split h (by omega) hsz)
  obtain ⟨c, hc⟩ : ∃ c, checkL ks split = c := ⟨_, rfl⟩
  rw [hc] at HC
  have HCc := Lib.hid hc
  clear h hkl hsz hst hB hc
  by_cases hc0 : c = 0
  case neg =>
    have hcI : ((c : Int) != 0) = true := by simp; omega
    go_enter Tryd.func9, Tryd.ntmps9
    go_wp2_with (go_at_call 25; go_must (refine HC.out.mono ?_))
    rintro e w1 ⟨rfl, b1⟩
    go_wp2
    go_ret2
    exact .inl ⟨by rw [HCc.out]; exact hc0, by rw [HCc.out]; rfl, b1⟩
  case pos =>
    subst hc0
    obtain ⟨hne, hsp, hout, hri⟩ := check_rises HCc.out
    have HNe := Lib.hid hne
    have HRi := Lib.hid hri
    clear hne hout hri
    go_enter Tryd.func9, Tryd.ntmps9
    go_wp2_with (go_at_call 25; go_must (refine HC.out.mono ?_))
    rintro e w1 ⟨rfl, b1⟩
    have HB1 := Lib.hid b1
    clear b1 HC
    go_wp2
    have hx0 : (w1.alloc (Obj.cells #[Value.slice none 0 0] 62)).heap[w1.heap.size]? = some (Obj.cells #[Value.slice none 0 0] 62) := heap_alloc_new _ _
    have HOx := Lib.hid (show OIdx w.heap.size (w1.alloc (Obj.cells #[Value.slice none 0 0] 62)) w1.heap.size [] from ⟨_, hx0, owns_nil _ _ _ _, HB1.out.size⟩)
    have HB2 := Lib.hid (HB1.out.alloc HB1.out.size (Obj.cells #[Value.slice none 0 0] 62))
    clear hx0
    generalize w1.alloc (Obj.cells #[Value.slice none 0 0] 62) = w2 at *
    generalize w1.heap.size = gx at *
    clear HB1
    go_loopw [9, 11] (fun bv lv wr => TBRel w ks split gx bv lv wr) (fun _ lv _ => leftLen lv)
    case atStart => exact ⟨[], ks, a, cap, by rw [HL.out], by rw [HL.out]; exact HR.out, rfl, List.suffix_refl _, owns_nil _ _ _ _, HOx.out, by simp [dataL], by simp, HB2.out⟩
    case round =>
      obtain ⟨bs, left, la, lcap, rfl, hr, hbk, hsu, how, hox, hlen, hcnt, hb⟩ := hrel
      rw [HL.out] at hlen hcnt
      have hsz2 : ∀ x ∈ left, x.size ≤ 60000 := fun x hx => HSz.out x (hsu.subset hx)
      have hri2 : rises left := List.Pairwise.sublist hsu.sublist HRi.out
      have HR3 := Lib.hid hr
      have HBk := Lib.hid hbk
      have HSu := Lib.hid hsu
      have HO := Lib.hid how
      have HOi := Lib.hid hox
      have HB := Lib.hid hb
      have HSz2 := Lib.hid hsz2
      have HRi2 := Lib.hid hri2
      obtain ⟨_, _, hv, hlc1, hlc2⟩ := hr.le
      cases hv
      unfold maxLen at hlc2
      clear hr hbk hsu how hox hb hsz2 hri2
      by_cases hl0 : 0 < left.length
      · have hl0I : (0 : Int) < left.length := by omega
        have hlne : left ≠ [] := List.length_pos_iff.1 hl0
        obtain ⟨lb, lo, x0, rfl, hx0, hlb, hcx⟩ := HR3.out.scell 0 hl0
        have HRw := Lib.hid (HR3.out.below' HB.out)
        have hstep := blocksL_step split hlne
        have hcle := cutN_le split left 0
        have hcpos := cutN_pos split 0 hlne
        have HCut := Lib.hid (cut_any wr (some ⟨lb, lo, none⟩) left.length lcap left split HRw.out (by omega) HSz2.out)
        generalize cutN split 0 left = m at *
        have hfk := firstK_take (n := m) hx0 hcpos
        have htl : (left.take m).length = m := by rw [List.length_take]; omega
        have hsm := seal_small (ks := left.take m) (fun x hx => HSz2.out x (List.take_subset _ _ hx)) (by omega)
        have hrt := HRw.out.stake m hcle
        have hrd := HR3.out.sdrop m hcle
        rw [htl] at hsm
        have HStep := Lib.hid hstep
        have HFk := Lib.hid hfk
        have HRd := Lib.hid hrd
        have hmI : (m : Int) ≤ left.length := by omega
        have HBu := Lib.hid (build_any wr _ _ _ (left.take m) hrt (by omega) (fun x hx => HSz2.out x (List.take_subset _ _ hx)))
        have hri3 : rises (left.take m) := List.Pairwise.sublist (List.take_sublist _ _) HRi2.out
        have HRi3 := Lib.hid hri3
        clear hstep hfk hrt hrd hri3 hlne
        go_wp2_with (go_at_call 26; go_must (refine HCut.out.mono ?_))
        rintro e w3 ⟨rfl, rfl⟩
        go_wp2_with (go_at_call 27; go_must (refine HBu.out.mono ?_))
        rintro e w4 hp
        rcases hp with ⟨_, v4, rfl, o4, b4⟩ | ⟨hno, _⟩
        case inr => exact absurd HRi3.out hno
        have hbl4 : (buildL (left.take m)).length ≤ 100000000 := by
          rw [sealL_length] at hsm
          omega
        have hst4 := (HSt.out.below HB.out).below b4
        have HSe := Lib.hid (seal_own w4 v4 _ (buildL (left.take m)) (ownsRow.reads o4) hbl4 hst4)
        have HB4 := Lib.hid (HB.out.trans (b4.mono HB.out.size))
        have HO4 := Lib.hid (owns_below HO.out b4)
        have HOi4 := Lib.hid (HOi.out.after b4)
        clear o4 b4 hst4 HO HOi HCut HBu HB HRw
        go_wp2_with (go_at_call 28; go_must (refine HSe.out.mono ?_))
        rintro e w5 ⟨gs, scap, rfl, o5, b5⟩
        have HB5 := Lib.hid (HB4.out.trans (b5.mono HB4.out.size))
        have HO5 := Lib.hid (owns_below HO4.out b5)
        have HOi5 := Lib.hid (HOi4.out.after b5)
        have HS5 := Lib.hid o5
        have HR5 := Lib.hid (HR3.out.below' HB5.out)
        obtain ⟨ba, bcap, rfl, hbc1, hbc2⟩ := (ownsRow.reads HO5.out).le
        obtain ⟨xv, hx1, hx2, hx3⟩ := HOi5.out
        obtain ⟨xa, xcap, rfl, hxc1, hxc2⟩ := (ownsRow.reads hx2).le
        have hxc := Lib.cell_of_heap hx1 0
        have hxf := Lib.frozen_of_heap hx1 0
        simp at hxc
        have hgxlt : gx < w5.heap.size := (Array.getElem?_eq_some_iff.1 hx1).1
        have HX1 := Lib.hid hx1
        have HX2 := Lib.hid hx2
        have hsl : (spansF 0 bs).length ≤ 60000 := by rw [spansF_length]; omega
        have hs5 := HB5.out.size
        obtain ⟨lb', lo', x0', hlv, hx0', hlb', hcx'⟩ := HR5.out.scell 0 hl0
        cases hlv
        have hfk' : x0' = firstK (left.take m) := by rw [firstK_take hx0' hcpos]
        simp only [Nat.add_zero] at hcx'
        rw [hfk'] at hcx'
        have HSn := Lib.hid (spansF_snoc (left.take m) bs 0)
        clear HOi4 HB4 HSe hx1 hx2 o5 hx0' hx0 hfk' hcx HFk HR5 HO4 b5
        have hD : (dataL bs).length ≤ 1000 * 100000 := by omega
        obtain ⟨sn, hsn⟩ : ∃ sn, (spansF 0 bs).length = sn := ⟨_, rfl⟩
        rw [hsn] at hxc HX1 HX2 hsl hxc1
        have HSnl := Lib.hid hsn
        clear hsn
        go_upto_region 13 with fail
        have HXa := Lib.hid (owns_drew (HX2.out.alloc (.cells #[.string (firstK (left.take m)), .int .i64 ((dataL bs).length : Int), .int .i64 ((sealL (buildL (left.take m))).length : Int)] 67)))
        have HX1a := Lib.hid (heap_drew (below_block ((Below.refl w5.heap.size w5).alloc (Nat.le_refl _) (.cells #[.string (firstK (left.take m)), .int .i64 ((dataL bs).length : Int), .int .i64 ((sealL (buildL (left.take m))).length : Int)] 67)) HX1.out hgxlt))
        have HO5a := Lib.hid (owns_drew (HO5.out.alloc (.cells #[.string (firstK (left.take m)), .int .i64 ((dataL bs).length : Int), .int .i64 ((sealL (buildL (left.take m))).length : Int)] 67)))
        have HS5a := Lib.hid (owns_drew (HS5.out.alloc (.cells #[.string (firstK (left.take m)), .int .i64 ((dataL bs).length : Int), .int .i64 ((sealL (buildL (left.take m))).length : Int)] 67)))
        have HBa := Lib.hid (Below.drew (HB5.out.alloc hs5 (.cells #[.string (firstK (left.take m)), .int .i64 ((dataL bs).length : Int), .int .i64 ((sealL (buildL (left.take m))).length : Int)] 67)))
        go_region_law (first
          | (refine step_append_lies _ rfl _ _ 60 rfl w.heap.size 67 i3 (.agg #[.string ⟨#[]⟩, .int .i64 0, .int .i64 0]) 3 32 Tryd.underlying60 hi3 hz30 hz31 hz32 rfl (by decide) _ _ _ rfl HXa.out _ 1 1 [.string (firstK (left.take m)), .int .i64 ((dataL bs).length : Int), .int .i64 ((sealL (buildL (left.take m))).length : Int)] rfl rfl (span_cells _ _ _ _) (by intro u hu; simp at hu; rcases hu with rfl | rfl | rfl <;> rfl) (by decide) (by unfold maxLen; omega) (by omega) (by simp; omega) _ rfl ?_
             intro g6 cap6 w6 o6 gr6 _ hl6
             have HO6 := Lib.hid o6
             have hk6 := grown_other HXa.out gr6 HX1a.out (by decide)
             have HK6 := Lib.hid hk6
             have hc6 := Lib.cell_of_heap hk6 0
             have hf6 := Lib.frozen_of_heap hk6 0
             simp at hc6
             have hg6 : gx < w6.heap.size := (Array.getElem?_eq_some_iff.1 hk6).1
             have HOb6 := Lib.hid (HO5a.out.kept gr6 (rows_apart HO5a.out HXa.out (by decide)))
             have HOs6 := Lib.hid (HS5a.out.kept gr6 (rows_apart HS5a.out HXa.out (by decide)))
             have HB6 := Lib.hid (HBa.out.trans (below_grown HXa.out gr6 (by simp; omega)))
             clear o6 gr6 hk6))
        all_goals
          clear HXa HX1a HO5a HS5a HBa HX1 HX2 HO5 HS5 HB5 hxc hxf hc6 hf6 hcx'
          have hx7 : (w6.setCell ⟨gx, 0, none⟩ (.slice (some ⟨g6, 0, none⟩) (sn + 1) cap6)).heap[gx]? = some (.cells #[.slice (some ⟨g6, 0, none⟩) (sn + 1) cap6] 62 (0, 0)) := by
            rw [heap_setCell_same _ _ 0 _ _ _ HK6.out]
            rfl
          have hoi7 : OIdx w.heap.size (w6.setCell ⟨gx, 0, none⟩ (.slice (some ⟨g6, 0, none⟩) (sn + 1) cap6)) gx (spansF 0 (bs ++ [left.take m])) := by
            have hl2 : (spansF 0 (bs ++ [left.take m])).length = sn + 1 := by rw [HSn.out, List.length_append, HSnl.out]; rfl
            refine ⟨_, hx7, ?_, hx3⟩
            rw [hl2, HSn.out, spcells_snoc, Nat.zero_add]
            exact own_set_far HO6.out HK6.out (by decide) 0 _
          have HOi7 := Lib.hid hoi7
          have HO7 := Lib.hid (own_set_far HOb6.out HK6.out (by decide) 0 (.slice (some ⟨g6, 0, none⟩) (sn + 1) cap6))
          have HS7 := Lib.hid (own_set_far HOs6.out HK6.out (by decide) 0 (.slice (some ⟨g6, 0, none⟩) (sn + 1) cap6))
          have HB7 := Lib.hid (HB6.out.setCell (p := ⟨gx, 0, none⟩) hx3 (.slice (some ⟨g6, 0, none⟩) (sn + 1) cap6))
          have hlx : (w6.setCell ⟨gx, 0, none⟩ (.slice (some ⟨g6, 0, none⟩) (sn + 1) cap6)).heap.size = w6.heap.size := by simp
          clear hx7 hoi7 HO6 HK6 HOb6 HOs6 HB6 HSn HSnl hg6 hl6 hlx
          generalize w6.setCell ⟨gx, 0, none⟩ (.slice (some ⟨g6, 0, none⟩) (sn + 1) cap6) = w7 at *
          have hsrc7 := (ownsRow.reads HS7.out).src (P := Tryd.prog) (tx := 24) Tryd.underlying24 (bcells_one _)
          have HSrc := Lib.hid hsrc7
          have hdl : (left.drop m).length = left.length - m := List.length_drop
          have hds := dataL_snoc bs (left.take m)
          have hdsl : (dataL (bs ++ [left.take m])).length = (dataL bs).length + (sealL (buildL (left.take m))).length := by rw [hds, List.length_append]
          have HDs := Lib.hid hds
          have HDsl := Lib.hid hdsl
          have hle7 := HB7.out.size
          clear hsrc7 hds hdsl
          generalize sealL (buildL (left.take m)) = SL at *
          go_wp2_with (at_builtin; go_must (refine wpList_append_owns rfl _ _ 24 24 rfl w.heap.size 5 i0 (.int .u8 0) 1 1 Tryd.underlying24 hi hz0 hz1 hz2 rfl _ _ _ rfl HO7.out _ _ _ rfl HSrc.out ?_ ?_ hle7 ?_))
          · unfold maxLen; omega
          · omega
          intro v8 w8 o8 g8 b8 m8
          rw [← bcells_append, ← HDs.out, ← HDsl.out] at o8
          have HO8 := Lib.hid o8
          have HOi8 := Lib.hid (HOi7.out.grown HO7.out g8)
          have HB8 := Lib.hid (HB7.out.trans b8)
          clear o8 g8 b8 m8 HOi7 HO7 HB7 HS7 HSrc hle7
          have HFin : ∀ la' : Option Addr, la' = behind (some ⟨lb, lo, none⟩) m lcap → TBRel w ks split gx v8 (.slice la' (left.length - m) (lcap - m)) w8 := by
            rintro la' rfl
            refine ⟨bs ++ [left.take m], left.drop m, _, lcap - m, by rw [hdl], by rw [hdl]; exact HRd.out, ?_, (List.drop_suffix _ _).trans HSu.out, HO8.out, HOi8.out, ?_, ?_, HB8.out⟩
            · rw [HBk.out, HStep.out, List.append_assoc]
              rfl
            · rw [HDsl.out, hdl, HL.out]
              omega
            · rw [List.length_append, hdl, HL.out]
              simp only [List.length_cons, List.length_nil]
              omega
          have HFn := Lib.hid HFin
          clear HFin hdl
          by_cases hcm : lcap = m
          · have hcmI : ((lcap : Int) = m) := by omega
            go_wp2
            refine ⟨?_, by simp [leftLen]; omega⟩
            have h := HFn.out (some ⟨lb, lo, none⟩) (by unfold behind; rw [if_pos hcm])
            rw [show lcap - m = 0 by omega] at h
            exact h
          · have hcmI : ¬ ((lcap : Int) = m) := by omega
            go_wp2
            refine ⟨?_, by simp [leftLen]; omega⟩
            exact HFn.out _ (by unfold behind; rw [if_neg hcm]; simp [Addr.add]; omega)
      · have hl0I : ¬ (0 : Int) < left.length := by omega
        obtain rfl : left = [] := List.eq_nil_of_length_eq_zero (by omega)
        have hbs : blocksL split ks = bs := by rw [HBk.out, blocksL_nil, List.append_nil]
        have hmem : ∀ b ∈ bs, ∀ x ∈ b, x ∈ ks := fun b hb x hx => by
          rw [← blocksL_join split _ ks (Nat.le_refl _), hbs]
          exact List.mem_flatMap.2 ⟨b, hb, hx⟩
        have hsm : SmallS (spansF 0 bs) := spans_small bs 0 (fun b hb x hx => HSz.out x (hmem b hb x hx)) (by simp at hlen; omega)
        have hsl : (spansF 0 bs).length ≤ 1000 := by rw [spansF_length]; simp at hcnt; omega
        have hil : (indexL (spansF 0 bs)).length ≤ 61000000 := by
          have := encTo_length hsm (by omega) (spansF 0 bs).length
          rw [encTo_all] at this
          omega
        have hdl : (dataL bs).length ≤ 100000000 := by simp at hlen; omega
        have HEn := Lib.hid (encode_any wr gx (spansF 0 bs) HOi.out.idx hsm (by omega))
        have HBs := Lib.hid hbs
        obtain ⟨ba, bcap, rfl, hbc1, hbc2⟩ := (ownsRow.reads HO.out).le
        clear hbs hmem hsm HBk HSu HRi2 HSz2 HR3 HRi hlc1 hlc2 hlen hcnt
        go_wp2_with (go_at_call 29; go_must (refine HEn.out.mono ?_))
        rintro e w3 ⟨v3, rfl, f3, b3⟩
        have HB3 := Lib.hid (HB.out.trans (b3.mono HB.out.size))
        have HO3 := Lib.hid (owns_below HO.out b3)
        have HSe3 := Lib.hid (seal_own w3 v3 _ (indexL (spansF 0 bs)) f3.1 (by omega) (HSt.out.below HB3.out))
        clear f3 b3 HO HOi HB HEn
        go_wp2_with (go_at_call 28; go_must (refine HSe3.out.mono ?_))
        rintro e w4 ⟨g4, c4, rfl, o4, b4⟩
        have HB4 := Lib.hid (HB3.out.trans (b4.mono HB3.out.size))
        have HO4 := Lib.hid (owns_below HO3.out b4)
        have hsrc4 := (ownsRow.reads o4).src (P := Tryd.prog) (tx := 24) Tryd.underlying24 (bcells_one _)
        have HSrc4 := Lib.hid hsrc4
        have hL4 : (sealL (indexL (spansF 0 bs))).length ≤ 61000008 := by rw [sealL_length]; omega
        have hle4 := HB4.out.size
        obtain ⟨tab, htab⟩ : ∃ tab, tabL bs (stemsB ks) n bits = tab := ⟨_, rfl⟩
        have HTab := Lib.hid htab
        unfold tabL at htab
        have HTb := Lib.hid htab
        clear o4 b4 hsrc4 HSe3 HO3 HB3 htab
        obtain ⟨D, hD⟩ : ∃ D, dataL bs = D := ⟨_, rfl⟩
        obtain ⟨X, hX⟩ : ∃ X, sealL (indexL (spansF 0 bs)) = X := ⟨_, rfl⟩
        rw [hD, hX] at HTb
        rw [hD] at hdl HO4
        rw [hX] at hL4 HSrc4
        simp only [hD, hX]
        clear hD hX hil hsl
        go_wp2_with (at_builtin; go_must (refine wpList_append_owns rfl _ _ 24 24 rfl w.heap.size 5 i0 (.int .u8 0) 1 1 Tryd.underlying24 hi hz0 hz1 hz2 rfl _ _ _ rfl HO4.out _ _ _ rfl HSrc4.out ?_ ?_ hle4 ?_))
        · unfold maxLen; omega
        · omega
        intro v5 w5 o5 g5 b5 m5
        obtain ⟨Y, hY⟩ : ∃ Y, D ++ X = Y := ⟨_, rfl⟩
        have hl5 : Y.length = D.length + X.length := by rw [← hY, List.length_append]
        rw [← bcells_append, ← List.length_append, hY] at o5
        rw [hY, ← hl5] at HTb
        have hdx : Y.length ≤ 170000000 := by omega
        clear hY
        have HO5 := Lib.hid o5
        have HB5 := Lib.hid (HB4.out.trans b5)
        obtain ⟨ba5, bcap5, rfl, hbc51, hbc52⟩ := (ownsRow.reads o5).le
        have HStm := Lib.hid (stems_any w5 a n cap ks (HR.out.below' HB5.out) (by omega) (by have := List.length_pos_iff.2 HNe.out; rw [HL.out] at this; exact this) HSz.out)
        have HHl5 := Lib.hid hl5
        clear o5 g5 b5 m5 HO4 HB4 HSrc4 hle4 hl5
        go_wp2_with (go_at_call 31; go_must (refine HStm.out.mono ?_))
        rintro e w6 ⟨sa, scap, rfl, r6, b6⟩
        have HB6 := Lib.hid (HB5.out.trans (b6.mono HB5.out.size))
        have HO6 := Lib.hid (owns_below HO5.out b6)
        have hsn := stemsB_len ks
        rw [HL.out] at hsn
        have hssz : ∀ k ∈ stemsB ks, k.size ≤ 1000000000 := fun k hk => by
          unfold stemsB at hk
          obtain ⟨l, hl, rfl⟩ := List.mem_map.1 hk
          have := comp_mem hl
          obtain ⟨x, hx, rfl⟩ := List.mem_map.1 this
          have h9 := HSz.out x hx
          have h8 : (stemB x).data.toList.length ≤ x.size := by
            show (stemB x).data.toList.length ≤ x.size
            rw [Array.length_toList]
            show (stemB x).size ≤ x.size
            unfold stemB
            rw [ByteArray.size_extract]
            omega
          show ((stemB x).data.toList.toArray).size ≤ 1000000000
          simp only [List.size_toArray]
          omega
        have HMk := Lib.hid (make_any w6 (.slice sa (stemsB ks).length scap) _ (stemsB ks) bits r6 (by omega) hssz HBits.out)
        have hml := makeL_length ((stemsB ks).map fun k => k.data.toList) bits
        have hsz' := sizeOf'_le ((stemsB ks).map fun k => k.data.toList).length bits
        rw [List.length_map] at hml hsz'
        clear r6 b6 HO5 HB5 HStm hssz
        generalize makeL ((stemsB ks).map fun k => k.data.toList) bits = mk at *
        generalize (stemsB ks).length = sn at *
        go_wp2_with (go_at_call 30; go_must (refine HMk.out.mono ?_))
        rintro e w7 ⟨g7, rfl, o7, b7⟩
        have HB7 := Lib.hid (HB6.out.trans (b7.mono HB6.out.size))
        have HO7 := Lib.hid (owns_below HO6.out b7)
        have HSe7 := Lib.hid (seal_own w7 _ _ mk (ownsRow.reads o7) (by omega) (HSt.out.below HB7.out))
        have hL7 : (sealL mk).length ≤ 10000 := by rw [sealL_length]; omega
        clear o7 b7 HO6 HB6 HMk hml hsz'
        go_wp2_with (go_at_call 28; go_must (refine HSe7.out.mono ?_))
        rintro e w8 ⟨g8, c8, rfl, o8, b8⟩
        have HB8 := Lib.hid (HB7.out.trans (b8.mono HB7.out.size))
        have HO8 := Lib.hid (owns_below HO7.out b8)
        have hsrc8 := (ownsRow.reads o8).src (P := Tryd.prog) (tx := 24) Tryd.underlying24 (bcells_one _)
        have HSrc8 := Lib.hid hsrc8
        have hle8 := HB8.out.size
        generalize sealL mk = M at *
        clear o8 b8 hsrc8 HSe7 HO7 HB7
        go_wp2_with (at_builtin; go_must (refine wpList_append_owns rfl _ _ 24 24 rfl w.heap.size 5 i0 (.int .u8 0) 1 1 Tryd.underlying24 hi hz0 hz1 hz2 rfl _ _ _ rfl HO8.out _ _ _ rfl HSrc8.out ?_ ?_ hle8 ?_))
        · unfold maxLen; omega
        · omega
        intro v9 w9 o9 g9 b9 m9
        rw [← bcells_append, ← List.length_append] at o9
        have hl9 : (Y ++ M).length ≤ 180000000 := by rw [List.length_append]; omega
        have HO9 := Lib.hid o9
        have HB9 := Lib.hid (HB8.out.trans b9)
        have hns : Reads (w9.alloc (Obj.cells #[.int .i64 (D.length : Int), .int .i64 ((Y).length : Int), .int .i64 (n : Int)] 3)) 1 (.slice (some ⟨w9.heap.size, 0, none⟩) 3 3) 3 (icells [D.length, (Y).length, n]) :=
          ⟨rfl, _, 3, rfl, Nat.le_refl _, by unfold maxLen; omega, fun j u hj => ⟨_, 0, rfl, by simp, by
            rw [Nat.zero_add, World.cell?_alloc_new w9 _ _ j]
            simpa [icells] using hj⟩⟩
        have HFo := Lib.hid (footer_any _ _ 3 3 _ hns (by omega) (fun x hx => by simp at hx; rcases hx with rfl | rfl | rfl <;> omega))
        have HO9a := Lib.hid (o9.alloc (Obj.cells #[.int .i64 (D.length : Int), .int .i64 ((Y).length : Int), .int .i64 (n : Int)] 3))
        have HB9a := Lib.hid (HB9.out.alloc HB9.out.size (Obj.cells #[.int .i64 (D.length : Int), .int .i64 ((Y).length : Int), .int .i64 (n : Int)] 3))
        clear o9 g9 b9 m9 HO8 HB8 HSrc8 hle8 hns HO9 HB9
        go_wp2_with (go_at_call 32; go_must (refine HFo.out.mono ?_))
        rintro e w10 ⟨v10, rfl, f10, b10⟩
        have HB10 := Lib.hid (HB9a.out.trans (b10.mono HB9a.out.size))
        have HO10 := Lib.hid (owns_below HO9a.out b10)
        have hsrc10 := f10.1.src (P := Tryd.prog) (tx := 24) Tryd.underlying24 (bcells_one _)
        have HSrc10 := Lib.hid hsrc10
        have hle10 := HB10.out.size
        have hfl : (footL [D.length, (Y).length, n]).length = 28 := by
          unfold footL
          rw [List.length_append, flat8_length]
          rfl
        rw [hfl] at HSrc10
        have HFl := Lib.hid hfl
        clear f10 b10 hsrc10 HO9a HB9a HFo hfl
        go_wp2_with (at_builtin; go_must (refine wpList_append_owns rfl _ _ 24 24 rfl w.heap.size 5 i0 (.int .u8 0) 1 1 Tryd.underlying24 hi hz0 hz1 hz2 rfl _ _ _ rfl HO10.out _ _ _ rfl HSrc10.out ?_ ?_ hle10 ?_))
        · unfold maxLen; omega
        · omega
        intro v11 w11 o11 g11 b11 m11
        rw [← bcells_append] at o11
        have htot : Y ++ M ++ footL [D.length, (Y).length, n] = tab := by
          rw [← HTb.out]
        have htl : Y.length + M.length + 28 = tab.length := by
          have h0 : (Y ++ M ++ footL [D.length, Y.length, n]).length = (Y ++ M).length + (footL [D.length, Y.length, n]).length := List.length_append
          rw [htot, HFl.out, List.length_append] at h0
          exact h0.symm
        rw [htot, htl] at o11
        have HO11 := Lib.hid o11
        have HB11 := Lib.hid (HB10.out.trans b11)
        clear o11 g11 b11 m11 htot htl HO10 HB10 HSrc10 hle10
        go_wp2
        go_ret2
        refine .inr ⟨HCc.out, _, rfl, ?_, HB11.out⟩
        rw [HBs.out, HL.out, HTab.out]
        exact HO11.out
end Go.Proofs.YtfhdonidgegebaaDoor
