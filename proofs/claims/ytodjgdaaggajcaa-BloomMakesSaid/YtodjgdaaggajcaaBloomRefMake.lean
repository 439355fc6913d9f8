import Derived.Test.YtodjgdaaggajcaaBloomRefMay
import Derived.Lib.MinMax
namespace Go.Proofs.Ytodjgdaaggajcaa
open Go Go.RowKit

def TellsInt (w : World) (n : Nat) (e : Ending) (w' : World) : Prop := e = .returned (.int .i64 (n : Int)) ∧ w = w'

set_option maxRecDepth 100000 in
set_option maxHeartbeats 400000 in
theorem many_any (w : World) (b k : Nat) (hb : b ≤ 40) (hk : min (max (69 * (b : Int) / 100) 1) 30 = (k : Int)) :
    Calls Try.prog 19 #[.int .i64 b] w (TellsInt w k) := by
  go_enter Try.func19, Try.ntmps19
  go_wp2
  go_ret
  exact ⟨rfl, rfl⟩

def RkRow (w : World) (F : List UInt8) (S : Nat) (wr : World) : Prop :=
  wr.ownsRow w.heap.size 5 1 (.slice (some ⟨w.heap.size, 0, none⟩) S S) S (bcells F)

def RkRel (w : World) (ks : List ByteArray) (S kk n : Nat) (c : Value) (wr : World) : Prop :=
  ∃ j : Nat, c = .int .i64 (j : Int) ∧ j ≤ n ∧ RkRow w (setAll (8 * S) kk (List.replicate S 0) ((ks.map fun k => k.data.toList).take j)) S wr ∧ Below w.heap.size w wr

def RkIn (w : World) (F : List UInt8) (S kk x y : Nat) (P : Value) (c : Value) (wr : World) : Prop :=
  ∃ i : Nat, c = .int .i64 (i : Int) ∧ i ≤ kk ∧ RkRow w (setK F x y (8 * S) i) S wr ∧ Reads wr 1 P kk (ucells (placesL x y (8 * S) kk)) ∧ Below w.heap.size w wr

theorem set_at' {f : List UInt8} {c : UInt8} {j : Nat} {z : Int} (hz : z = (c.toNat : Int)) : (bcells f).set j (.int .u8 z) = bcells (f.set j c) := by
  subst hz
  simp only [bcells, List.map_set]

theorem bcells_get' {f : List UInt8} {j : Nat} (h : j < f.length) : (bcells f)[j]? = some (.int .u8 ((f.getD j 0).toNat : Int)) := by
  simp only [bcells, List.getElem?_map, List.getElem?_eq_getElem h, Option.map_some, List.getD, Option.getD_some]

set_option maxRecDepth 100000 in
set_option maxHeartbeats 1000000 in
theorem refmake_any (w : World) (v : Value) (n : Nat) (ks : List ByteArray) (B : Int) (h : Reads w 1 v n (scells ks)) (hn : n ≤ 1000) (hs : ∀ k ∈ ks, k.size ≤ 1000000000)
    (hB : -9223372036854775808 ≤ B ∧ B ≤ 9223372036854775807) :
    Calls Try.prog 14 #[v, .int .i64 B] w (GivesBytes w (makeL (ks.map fun k => k.data.toList) B)) := by
  obtain ⟨i0, hi, hz0, hz1, hz2⟩ := info_parts info5
  obtain ⟨a, cap, rfl, h1, h2⟩ := h.le
  unfold maxLen at h2
  have hb := bOf_le B
  have hk := kOf_le B
  have hsz := sizeOf'_ge n B
  have hsz' := sizeOf'_le n B
  have q1 : min (max B 1) 40 = (bOf B : Int) := by unfold bOf; omega
  have q2 : min (max (69 * (bOf B : Int) / 100) 1) 30 = (kOf B : Int) := by unfold kOf; omega
  have q3 : ((max ((n : Int) * (bOf B : Int)) 64) + 7) / 8 = (sizeOf' n B : Int) := by
    unfold sizeOf'
    have e : (n : Int) * (bOf B : Int) = ((n * bOf B : Nat) : Int) := (Int.natCast_mul _ _).symm
    rw [e]
    omega
  have hnb : n * bOf B ≤ 1000 * 40 := Nat.mul_le_mul hn hb.2
  have hml : makeL (ks.map fun k => k.data.toList) B = setAll (8 * sizeOf' n B) (kOf B) (List.replicate (sizeOf' n B) 0) (ks.map fun k => k.data.toList) ++ [UInt8.ofNat (kOf B)] := by
    unfold makeL
    rw [List.length_map]
    have : ks.length = n := by have := h.1; simpa [scells] using this
    rw [this]
  rw [hml]
  clear hml
  generalize hbo : bOf B = bb at *
  generalize hko : kOf B = kk at *
  generalize hso : sizeOf' n B = S at *
  have Q2 := Lib.hid q2
  have Hs := Lib.hid hs
  have HR := Lib.hid h
  clear q2 hbo hko hso hs h
  have hnb' : (n : Int) * bb ≤ 40000 := by
    rw [← Int.natCast_mul]
    omega
  have hnb0 : (0 : Int) ≤ (n : Int) * bb := Int.mul_nonneg (by omega) (by omega)
  go_enter Try.func14, Try.ntmps14
  go_wp2_with (at_make; go_must (refine wpList_make_full _ rfl _ _ 25 rfl w.heap.size 5 i0 (.int .u8 0) 1 Try.underlying25 hi hz0 hz1 .i64 .i64 _ _ S rfl rfl ?_ ?_ ?_ ?_ ?_ ?_))
  · first | rfl | exact q3
  · first | rfl | exact q3
  · rw [hz2]; omega
  · unfold maxLen; omega
  · exact Nat.le_refl _
  intro w1 own1 gr1
  have b1 : Below w.heap.size w w1 := (Below.refl _ _).grown gr1 (Nat.le_refl _) (fun k hk => by cases hk)
  have own1' : RkRow w (List.replicate S 0) S w1 := by
    have e : (madeCells #[Value.int IntKind.u8 0] S).toList = bcells (List.replicate S 0) := by
      rw [toList_madeCells_one]
      simp [bcells]
    first | rw [e] at own1 | (rw [Nat.mul_one, e] at own1)
    exact own1
  clear own1 q1 q3 gr1
  go_wp2
  go_loopw [23] (fun c wr => RkRel w ks S kk n c wr) (fun c _ => n - (intOf c).toNat)
  case atStart => exact ⟨0, rfl, Nat.zero_le _, own1', b1⟩
  case round =>
    obtain ⟨j, rfl, hj, hrow, hb⟩ := hrel
    clear own1' b1
    by_cases hlt : j < n
    · obtain ⟨b, off, s, rfl, hs, hbs, hcs⟩ := HR.out.scell j hlt
      have hcs' := (hb.cell (p := ⟨b, off + j, none⟩) hbs).trans hcs
      have hsz1 := Hs.out s (List.mem_of_getElem? hs)
      have hsucc := setAll_succ (b := 8 * S) (k := kk) (f := List.replicate S 0) hs
      have hFl := setAll_length (8 * S) kk ((ks.map fun k => k.data.toList).take j) (List.replicate S 0)
      rw [List.length_replicate] at hFl
      generalize setAll (8 * S) kk (List.replicate S 0) ((ks.map fun k => k.data.toList).take j) = F at *
      have Hsucc := Lib.hid hsucc
      have HFl := Lib.hid hFl
      have HS := Lib.hid hs
      clear hcs hsucc hFl hs
      have hlt' : (j : Int) < n := by omega
      have hset : setKey (8 * S) kk F s.data.toList = setK F (atOf (hashL s.data.toList)) (stepOf (hashL s.data.toList)) (8 * S) kk := rfl
      have hpl := fun w => places_any w s kk (8 * S) hsz1 (by omega) (by omega) (by omega)
      generalize atOf (hashL s.data.toList) = x at *
      generalize stepOf (hashL s.data.toList) = y at *
      have Hset := Lib.hid hset
      have Hpl := Lib.hid hpl
      clear hset hpl
      have hg0 : w.heap.size < wr.heap.size := (hrow.lt w.heap.size rfl).2
      have hws := hb.size
      go_wp2_with (go_at_call 19; go_must (refine (many_any wr bb kk (by omega) Q2.out).mono ?_))
      rintro e w2 ⟨rfl, rfl⟩
      go_wp2_with (go_at_call 17; go_must (refine (Hpl.out _).mono ?_))
      rintro e w2 ⟨vp, rfl, rp, b2, hob⟩
      obtain ⟨ap, cpp, rfl, hp1, hp2⟩ := rp.le
      unfold maxLen at hp2
      have hpl1 : (placesL x y (8 * S) kk).length = kk := by simp [placesL]
      rw [hpl1] at rp hp1 hob ⊢
      have hne : (Value.slice ap kk cpp).ownBlock ≠ some w.heap.size := hob _ hg0
      have hrow2 : RkRow w F S w2 := World.ownsRow.kept (row := none) hrow ⟨b2.os, b2.tape, b2.output, b2.size, fun k hk _ => b2.block k hk⟩ (.inr (by simp [Value.ownBlock]))
      have hb2 : Below w.heap.size w w2 := hb.trans (b2.mono hws)
      have Hne := Lib.hid hne
      have RP := Lib.hid rp
      clear hpl1 hob hne rp hrow hb b2 hcs'
      go_wp2
      go_loopw [36] (fun c wi => RkIn w F S kk x y (.slice ap kk cpp) c wi) (fun c _ => kk - (intOf c).toNat)
      case atStart => exact ⟨0, rfl, Nat.zero_le _, hrow2, RP.out, hb2⟩
      case round =>
        obtain ⟨i, rfl, hi', hri, hrp, hbi⟩ := hrel
        clear hrow2 hb2
        by_cases hik : i < kk
        · have hik' : (i : Int) < kk := by omega
          obtain ⟨bp, op, rfl, hbp, hcp⟩ := reads_at hrp (ucells_at hik)
          have hp8 : place x y (8 * S) i / 8 < S := place_lt rfl (by omega)
          have hKl := setK_length F x y (8 * S) i
          rw [HFl.out] at hKl
          have hset1 : setK F x y (8 * S) (i + 1) = setBit (setK F x y (8 * S) i) (place x y (8 * S) i) := rfl
          unfold setBit at hset1
          generalize setK F x y (8 * S) i = G at *
          generalize place x y (8 * S) i = p at *
          have cp := hri.cellAt (p / 8) (by omega)
          rw [bcells_get' (by omega)] at cp
          have fp := hri.frozenAt (p / 8)
          have st := fun u => World.ownsRow.stored hri (p / 8) u
          have hor := or_bit (G.getD (p / 8) 0) p
          have hsl := fun z hz => set_at' (f := G) (c := UInt8.ofNat ((G.getD (p / 8) 0).toNat ||| 2 ^ (p % 8))) (j := p / 8) (z := z) hz
          rw [← hset1] at hsl
          generalize G.getD (p / 8) 0 = c at *
          have hp8' : (p : Int) / 8 < S := by omega
          have hp8'' : ((p : Int) / 8).toNat = p / 8 := by omega
          have Hor := Lib.hid hor
          have St := Lib.hid st
          have Hsl := Lib.hid hsl
          have HRp := Lib.hid hrp
          have Hbi := Lib.hid hbi
          clear hor st hsl hset1 hrp hri hbi
          have hpw : (2 : Int) ^ (p % 8) % 256 = 2 ^ (p % 8) := by
            have h2 : 2 ^ (p % 8) < 2 ^ 8 := Nat.pow_lt_pow_right (by decide) (Nat.mod_lt _ (by decide))
            have h3 : 2 ^ (p % 8) % 256 = 2 ^ (p % 8) := Nat.mod_eq_of_lt (by simpa using h2)
            exact_mod_cast h3
          have Hpw := Lib.hid hpw
          clear hpw
          go_wp2
          rw [Hpw.out]
          have h1 := St.out (.int .u8 (bits BinOp.or .u8 (c.toNat : Int) ((2 : Int) ^ (p % 8))))
          rw [Hsl.out _ Hor.out] at h1
          refine ⟨⟨i + 1, by go_num, by omega, h1.1, HRp.out.grown h1.2 (.inr Hne.out), ?_⟩, by simp [intOf]; omega⟩
          exact Hbi.out.grown h1.2 Hbi.out.size (fun k hk => by cases hk; exact Nat.le_refl _)
        · obtain rfl : i = kk := by omega
          have hik' : ¬ ((i : Int) < i) := by omega
          have hr4 := Lib.hid hri
          clear hri hrp
          go_wp2
          refine ⟨⟨j + 1, by go_num, by omega, ?_, hbi⟩, by simp [intOf]; omega⟩
          rw [Hsucc.out, Hset.out]
          exact hr4.out
    · obtain rfl : j = n := by omega
      have hlen : (ks.map fun k => k.data.toList).length = j := by
        rw [List.length_map]
        have := HR.out.1
        simpa [scells] using this
      rw [List.take_of_length_le (by omega)] at hrow
      have hFl := setAll_length (8 * S) kk (ks.map fun k => k.data.toList) (List.replicate S 0)
      rw [List.length_replicate] at hFl
      generalize hF : setAll (8 * S) kk (List.replicate S 0) (ks.map fun k => k.data.toList) = F at hrow hFl
      have HF := Lib.hid hF
      clear hF hlen
      have hl9 : (F ++ [UInt8.ofNat kk]).length = S + 1 := by simp [hFl]
      have Hl9 := Lib.hid hl9
      clear hl9 hFl
      have hf : Fresh w.heap.size wr 5 1 (.slice (some ⟨w.heap.size, 0, none⟩) S S) S (bcells F) := ⟨ownsRow.reads hrow, .inr hrow⟩
      have hbs := hb.size
      have hlt' : ¬ ((j : Int) < j) := by omega
      clear hrow
      go_wp2_with (go_at_call 19; go_must (refine (many_any wr bb kk (by omega) Q2.out).mono ?_))
      rintro e w2 ⟨rfl, rfl⟩
      go_wp2_with (at_builtin; go_must (refine wpList_append_one (w0 := wr) rfl _ _ 25 rfl w.heap.size 5 i0 (.int .u8 0) 1 Try.underlying25 hi hz0 hz1 hz2 rfl hf rfl rfl rfl ?_ ?_ hbs ?_))
      · unfold maxLen; omega
      · omega
      intro v' w1 f1 g1 b1 m1
      rw [bcells_snoc F (UInt8.ofNat kk) (by simp; omega)] at f1
      have hb1 := hb.trans b1
      have F1 := Lib.hid f1
      clear f1 hb b1
      go_wp2
      go_ret
      refine ⟨_, rfl, ?_, hb1⟩
      rw [HF.out, Hl9.out]
      exact F1.out
end Go.Proofs.Ytodjgdaaggajcaa
