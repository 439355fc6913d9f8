/- What the proof stands on, part 18. -/
import Derived.Test.YtfhdonidgegebaaDoorMg17
import Derived.Lib.MinMax
namespace Go.Proofs.YtfhdonidgegebaaDoor
open Go Go.RowKit

def TellsInt (w : World) (n : Nat) (e : Ending) (w' : World) : Prop := e = .returned (.int .i64 (n : Int)) ∧ w = w'

set_option maxRecDepth 100000 in
set_option maxHeartbeats 400000 in
theorem many_any (w : World) (b k : Nat) (hb : b ≤ 40) (hk : min (max (69 * (b : Int) / 100) 1) 30 = (k : Int)) :
    Calls Tryd.prog 67 #[.int .i64 b] w (TellsInt w k) := by
  go_enter Tryd.func67, Tryd.ntmps67
  go_wp2
  go_ret
  exact ⟨rfl, rfl⟩

def RkRow (w : World) (F : List UInt8) (S : Nat) (wr : World) : Prop :=
  wr.ownsRow w.heap.size 5 1 (.slice (some ⟨w.heap.size, 0, none⟩) S S) S (bcells F)

def RkRel (w : World) (ks : List ByteArray) (S kk n : Nat) (c : Value) (wr : World) : Prop :=
  ∃ j : Nat, c = .int .i64 (j : Int) ∧ j ≤ n ∧ RkRow w (setAll (8 * S) kk (List.replicate S 0) ((ks.map fun k => k.data.toList).take j)) S wr ∧ Below w.heap.size w wr

def RkIn (w : World) (F : List UInt8) (S kk x y : Nat) (P : Value) (c : Value) (wr : World) : Prop :=
  ∃ i : Nat, c = .int .i64 (i : Int) ∧ i ≤ kk ∧ RkRow w (setK F x y (8 * S) i) S wr ∧ Reads wr 1 P kk (ucells (placesL x y (8 * S) kk)) ∧ Below w.heap.size w wr

theorem set_at' {f : List UInt8} {c : UInt8} {j : Nat} {z : Int} (hz : z = (c.toNat : Int)) : (bcells f).set j (.int .u8 z) = bcells (f.set j c) := by
  subst hz
  simp only [bcells, List.map_set]

theorem bcells_get' {f : List UInt8} {j : Nat} (h : j < f.length) : (bcells f)[j]? = some (.int .u8 ((f.getD j 0).toNat : Int)) := by
  simp only [bcells, List.getElem?_map, List.getElem?_eq_getElem h, Option.map_some, List.getD, Option.getD_some]

set_option maxRecDepth 100000 in
set_option maxHeartbeats 1000000 in
theorem refmake_any (w : World) (v : Value) (n : Nat) (ks : List ByteArray) (B : Int) (h : Reads w 1 v n (scells ks)) (hn : n ≤ 1000) (hs : ∀ k ∈ ks, k.size ≤ 1000000000)
    (hB : -9223372036854775808 ≤ B ∧ B ≤ 9223372036854775807) :
    Calls Tryd.prog 39 #[v, .int .i64 B] w (GivesBytes w (makeL (ks.map fun k => k.data.toList) B)) := by
  obtain ⟨i0, hi, hz0, hz1, hz2⟩ := info_parts info5
  obtain ⟨a, cap, rfl, h1, h2⟩ := h.le
  unfold maxLen at h2
  have hb := bOf_le B
  have hk := kOf_le B
  have hsz := sizeOf'_ge n B
  have hsz' := sizeOf'_le n B
  have q1 : min (max B 1) 40 = (bOf B : Int) := by unfold bOf; omega
  have q2 : min (max (69 * (bOf B : Int) / 100) 1) 30 = (kOf B : Int) := by unfold kOf; omega
  have q3 : ((max ((n : Int) * (bOf B : Int)) 64) + 7) / 8 = (sizeOf' n B : Int) := by
    unfold sizeOf'
    have e : (n : Int) * (bOf B : Int) = ((n * bOf B : Nat) : Int) := (Int.natCast_mul _ _).symm
    rw [e]
    omega
  have hnb : n * bOf B ≤ 1000 * 40 := Nat.mul_le_mul hn hb.2
  have hml : makeL (ks.map fun k => k.data.toList) B = setAll (8 * sizeOf' n B) (kOf B) (List.replicate (sizeOf' n B) 0) (ks.map fun k => k.data.toList) ++ [UInt8.ofNat (kOf B)] := by
    unfold makeL
    rw [List.length_map]
    have : ks.length = n := by have := h.1; simpa [scells] using this
    rw [this]
  rw [hml]
  clear hml
  generalize hbo : bOf B = bb at *
  generalize hko : kOf B = kk at *
  generalize hso : sizeOf' n B = S at *
  have Q2 := Lib.hid q2
  have Hs := Lib.hid hs
  have HR := Lib.hid h
  clear q2 hbo hko hso hs h
  have hnb' : (n : Int) * bb ≤ 40000 := by
    rw [← Int.natCast_mul]
    omega
  have hnb0 : (0 : Int) ≤ (n : Int) * bb := Int.mul_nonneg (by omega) (by omega)
  go_enter Tryd.func39, Tryd.ntmps39
  go_wp2_with (at_make; go_must (refine wpList_make_full _ rfl _ _ 24 rfl w.heap.size 5 i0 (.int .u8 0) 1 Tryd.underlying24 hi hz0 hz1 .i64 .i64 _ _ S rfl rfl ?_ ?_ ?_ ?_ ?_ ?_))
  · first | rfl | exact q3
  · first | rfl | exact q3
  · rw [hz2]; omega
  · unfold maxLen; omega
  · exact Nat.le_refl _
  intro w1 own1 gr1
  have b1 : Below w.heap.size w w1 := (Below.refl _ _).grown gr1 (Nat.le_refl _) (fun k hk => by cases hk)
  have own1' : RkRow w (List.replicate S 0) S w1 := by
    have e : (madeCells #[Value.int IntKind.u8 0] S).toList = bcells (List.replicate S 0) := by
      rw [toList_madeCells_one]
      simp [bcells]
    first | rw [e] at own1 | (rw [Nat.mul_one, e] at own1)
    exact own1
  clear own1 q1 q3 gr1
  go_wp2
  go_loopw [23] (fun c wr => RkRel w ks S kk n c wr) (fun c _ => n - (intOf c).toNat)
  case atStart => exact ⟨0, rfl, Nat.zero_le _, own1', b1⟩
  case round =>
    obtain ⟨j, rfl, hj, hrow, hb⟩ := hrel
    clear own1' b1
    by_cases hlt : j < n
    · obtain ⟨b, off, s, rfl, hs, hbs, hcs⟩ := HR.out.scell j hlt
      have hcs' := (hb.cell (p := ⟨b, off + j, none⟩) hbs).trans hcs
      have hsz1 := Hs.out s (List.mem_of_getElem? hs)
      have hsucc := setAll_succ (b := 8 * S) (k := kk) (f := List.replicate S 0) hs
      have hFl := setAll_length (8 * S) kk ((ks.map fun k => k.data.toList).take j) (List.replicate S 0)
      rw [List.length_replicate] at hFl
      generalize setAll (8 * S) kk (List.replicate S 0) ((ks.map fun k => k.data.toList).take j) = F at *
      have Hsucc := Lib.hid hsucc
      have HFl := Lib.hid hFl
      have HS := Lib.hid hs
      clear hcs hsucc hFl hs
      have hlt' : (j : Int) < n := by omega
      have hset : setKey (8 * S) kk F s.data.toList = setK F (atOf (hashL s.data.toList)) (stepOf (hashL s.data.toList)) (8 * S) kk := rfl
      have hpl := fun w => places_any w s kk (8 * S) hsz1 (by omega) (by omega) (by omega)
      generalize atOf (hashL s.data.toList) = x at *
      generalize stepOf (hashL s.data.toList) = y at *
      have Hset := Lib.hid hset
      have Hpl := Lib.hid hpl
      clear hset hpl
      have hg0 : w.heap.size < wr.heap.size := (hrow.lt w.heap.size rfl).2
      have hws := hb.size
      go_wp2_with (go_at_call 67; go_must (refine (many_any wr bb kk (by omega) Q2.out).mono ?_))
      rintro e w2 ⟨rfl, rfl⟩
      go_wp2_with (go_at_call 66; go_must (refine (Hpl.out _).mono ?_))
      rintro e w2 ⟨vp, rfl, rp, b2, hob⟩
      obtain ⟨ap, cpp, rfl, hp1, hp2⟩ := rp.le
      unfold maxLen at hp2
      have hpl1 : (placesL x y (8 * S) kk).length = kk := by simp [placesL]
      rw [hpl1] at rp hp1 hob ⊢
      have hne : (Value.slice ap kk cpp).ownBlock ≠ some w.heap.size := hob _ hg0
      have hrow2 : RkRow w F S w2 := World.ownsRow.kept (row := none) hrow ⟨b2.os, b2.tape, b2.output, b2.size, fun k hk _ => b2.block k hk⟩ (.inr (by simp [Value.ownBlock]))
      have hb2 : Below w.heap.size w w2 := hb.trans (b2.mono hws)
      have Hne := Lib.hid hne
      have RP := Lib.hid rp
      clear hpl1 hob hne rp hrow hb b2 hcs'
      go_wp2
      go_loopw [36] (fun c wi => RkIn w F S kk x y (.slice ap kk cpp) c wi) (fun c _ => kk - (intOf c).toNat)
      case atStart => exact ⟨0, rfl, Nat.zero_le _, hrow2, RP.out, hb2⟩
      case round =>
        obtain ⟨i, rfl, hi', hri, hrp, hbi⟩ := hrel
        clear hrow2 hb2
        by_cases hik : i < kk
        · have hik' : (i : Int) < kk := by omega
          obtain ⟨bp, op, rfl, hbp, hcp⟩ := reads_at hrp (ucells_at hik)
          have hp8 : place x y (8 * S) i / 8 < S := place_lt rfl (by omega)
          have hKl := setK_length F x y (8 * S) i
          rw [HFl.out] at hKl
          have hset1 : setK F x y (8 * S) (i + 1) = setBit (setK F x y (8 * S) i) (place x y (8 * S) i) := rfl
          unfold setBit at hset1
          generalize setK F x y (8 * S) i = G at *
          generalize place x y (8 * S) i = p at *
          have cp := hri.cellAt (p / 8) (by omega)
          rw [bcells_get' (by omega)] at cp
          have fp := hri.frozenAt (p / 8)
          have st := fun u => World.ownsRow.stored hri (p / 8) u
          have hor := or_bit (G.getD (p / 8) 0) p
          have hsl := fun z hz => set_at' (f := G) (c := UInt8.ofNat ((G.getD (p / 8) 0).toNat ||| 2 ^ (p % 8))) (j := p / 8) (z := z) hz
          rw [← hset1] at hsl
          generalize G.getD (p / 8) 0 = c at *
          have hp8' : (p : Int) / 8 < S := by omega
          have hp8'' : ((p : Int) / 8).toNat = p / 8 := by omega
          have Hor := Lib.hid hor
          have St := Lib.hid st
          have Hsl := Lib.hid hsl
          have HRp := Lib.hid hrp
          have Hbi := Lib.hid hbi
          clear hor st hsl hset1 hrp hri hbi
          have hpw : (2 : Int) ^ (p % 8) % 256 = 2 ^ (p % 8) := by
            have h2 : 2 ^ (p % 8) < 2 ^ 8 := Nat.pow_lt_pow_right (by decide) (Nat.mod_lt _ (by decide))
            have h3 : 2 ^ (p % 8) % 256 = 2 ^ (p % 8) := Nat.mod_eq_of_lt (by simpa using h2)
            exact_mod_cast h3
          have Hpw := Lib.hid hpw
          clear hpw
          go_wp2
          rw [Hpw.out]
          have h1 := St.out (.int .u8 (bits BinOp.or .u8 (c.toNat : Int) ((2 : Int) ^ (p % 8))))
          rw [Hsl.out _ Hor.out] at h1
          refine ⟨⟨i + 1, by go_num, by omega, h1.1, HRp.out.grown h1.2 (.inr Hne.out), ?_⟩, by simp [intOf]; omega⟩
          exact Hbi.out.grown h1.2 Hbi.out.size (fun k hk => by cases hk; exact Nat.le_refl _)
        · obtain rfl : i = kk := by omega
          have hik' : ¬ ((i : Int) < i) := by omega
          have hr4 := Lib.hid hri
          clear hri hrp
          go_wp2
          refine ⟨⟨j + 1, by go_num, by omega, ?_, hbi⟩, by simp [intOf]; omega⟩
          rw [Hsucc.out, Hset.out]
          exact hr4.out
    · obtain rfl : j = n := by omega
      have hlen : (ks.map fun k => k.data.toList).length = j := by
        rw [List.length_map]
        have := HR.out.1
        simpa [scells] using this
      rw [List.take_of_length_le (by omega)] at hrow
      have hFl := setAll_length (8 * S) kk (ks.map fun k => k.data.toList) (List.replicate S 0)
      rw [List.length_replicate] at hFl
      generalize hF : setAll (8 * S) kk (List.replicate S 0) (ks.map fun k => k.data.toList) = F at hrow hFl
      have HF := Lib.hid hF
      clear hF hlen
      have hl9 : (F ++ [UInt8.ofNat kk]).length = S + 1 := by simp [hFl]
      have Hl9 := Lib.hid hl9
      clear hl9 hFl
      have hf : Fresh w.heap.size wr 5 1 (.slice (some ⟨w.heap.size, 0, none⟩) S S) S (bcells F) := ⟨ownsRow.reads hrow, .inr hrow⟩
      have hbs := hb.size
      have hlt' : ¬ ((j : Int) < j) := by omega
      clear hrow
      go_wp2_with (go_at_call 67; go_must (refine (many_any wr bb kk (by omega) Q2.out).mono ?_))
      rintro e w2 ⟨rfl, rfl⟩
      go_wp2_with (at_builtin; go_must (refine wpList_append_one (w0 := wr) rfl _ _ 24 rfl w.heap.size 5 i0 (.int .u8 0) 1 Tryd.underlying24 hi hz0 hz1 hz2 rfl hf rfl rfl rfl ?_ ?_ hbs ?_))
      · unfold maxLen; omega
      · omega
      intro v' w1 f1 g1 b1 m1
      rw [bcells_snoc F (UInt8.ofNat kk) (by simp; omega)] at f1
      have hb1 := hb.trans b1
      have F1 := Lib.hid f1
      clear f1 hb b1
      go_wp2
      go_ret
      refine ⟨_, rfl, ?_, hb1⟩
      rw [HF.out, Hl9.out]
      exact F1.out
end Go.Proofs.YtfhdonidgegebaaDoor

/- What the reference's Build holds on its way: blocks that stay, bytes and an index that grow. -/
namespace Go.Proofs.YtfhdonidgegebaaDoor
open Go Go.RowKit

theorem SOwnA.below {B : Nat} {w w' : World} {v one : Value} {ls : List (List ByteArray)} (h : SOwnA B w v one ls) (b : Below w.heap.size w w') : SOwnA B w' v one ls := by
  obtain ⟨svs, k1, k2, k3⟩ := h
  exact ⟨svs, k1, owns_below k2 b, fun i l sv hi hs => ⟨owns_below (k3 i l sv hi hs).1 b, (k3 i l sv hi hs).2⟩⟩

theorem SOwnA.bytes {B n : Nat} {w w' : World} {v one u : Value} {ls : List (List ByteArray)} {xs : List Value} (h : SOwnA B w v one ls) (ho : w.ownsRow B 5 1 u n xs) (g : w.grownBy w' u.ownBlock) : SOwnA B w' v one ls := by
  obtain ⟨svs, k1, k2, k3⟩ := h
  exact ⟨svs, k1, k2.kept g (owns_two ho k2 (by decide)), fun i l sv hi hs => ⟨(k3 i l sv hi hs).1.kept g (owns_two ho (k3 i l sv hi hs).1 (by decide)), (k3 i l sv hi hs).2⟩⟩

theorem SOwnA.row {B : Nat} {w : World} {v one : Value} {ls : List (List ByteArray)} (h : SOwnA B w v one ls) : ∃ a cap, v = .slice a ls.length cap ∧ ls.length ≤ cap ∧ cap ≤ maxLen := by
  obtain ⟨svs, k1, k2, _⟩ := h
  exact (ownsRow.reads k2).le

/-- The block at a place: its cell, its row. -/
theorem SOwnA.at {B : Nat} {w : World} {a : Option Addr} {cap : Nat} {one : Value} {ls : List (List ByteArray)} (h : SOwnA B w (.slice a ls.length cap) one ls) {i : Nat} {l : List ByteArray} (hl : ls[i]? = some l) :
    ∃ g off la lcap, a = some ⟨g, off, none⟩ ∧ g < w.heap.size ∧ w.cell? ⟨g, off + i, none⟩ = some (.slice la l.length lcap) ∧ w.ownsRow B 9 1 (.slice la l.length lcap) l.length (scells l) := by
  obtain ⟨svs, k1, k2, k3⟩ := h
  have hi : i < svs.length := by
    have := (List.getElem?_eq_some_iff.1 hl).1
    omega
  have hs : svs[i]? = some svs[i] := List.getElem?_eq_getElem hi
  obtain ⟨g, off, rfl, hg, hc⟩ := (ownsRow.reads k2).at hs
  have ho := (k3 i l _ hl hs).1
  obtain ⟨la, lcap, he, _, _⟩ := (ownsRow.reads ho).le
  rw [he] at hc ho
  exact ⟨g, off, la, lcap, rfl, hg, hc, ho⟩

theorem dataL_take_le (bs : List (List ByteArray)) (i : Nat) : (dataL (bs.take i)).length ≤ (dataL bs).length := by
  have e : dataL bs = dataL (bs.take i) ++ dataL (bs.drop i) := by
    unfold dataL
    rw [← List.flatMap_append, List.take_append_drop]
  rw [e, List.length_append]
  omega

theorem dataL_next {bs : List (List ByteArray)} {i : Nat} {b : List ByteArray} (h : bs[i]? = some b) : dataL (bs.take (i + 1)) = dataL (bs.take i) ++ sealL (buildL b) := by
  rw [List.take_add_one, h, Option.toList_some, dataL_snoc]

/-- What blocks of few and small keys take. -/
structure SmallB (bs : List (List ByteArray)) : Prop where
  few : bs.length ≤ 1000
  len : ∀ b ∈ bs, b.length ≤ 1000 ∧ (∀ x ∈ b, x.size ≤ 60000) ∧ rises b ∧ b ≠ []
  data : (dataL bs).length ≤ 60036000

theorem small_blocks {ks : List ByteArray} (split : Int) (hr : rises ks) (hs : ∀ x ∈ ks, x.size ≤ 60000) (hn : ks.length ≤ 1000) : SmallB (blocksL split ks) := by
  have hg := blocks_good split hr hs hn
  have hd := data_small (Nat.le_refl 60000) (blocksL split ks) (fun b hb => ⟨(hg b hb).2.2.2, (hg b hb).2.1⟩)
  rw [blocksL_join split _ ks (Nat.le_refl _)] at hd
  refine ⟨Nat.le_trans (blocksL_count split _ ks (Nat.le_refl _)) hn, hg, ?_⟩
  have : ks.length * (60000 + 36) ≤ 1000 * (60000 + 36) := Nat.mul_le_mul_right _ hn
  omega

theorem SmallB.spans {bs : List (List ByteArray)} (h : SmallB bs) : SmallS (spansF 0 bs) := spans_small bs 0 (fun b hb => (h.len b hb).2.1) (by have := h.data; omega)

theorem SmallB.enc {bs : List (List ByteArray)} (h : SmallB bs) {i : Nat} (hi : i ≤ bs.length) : (encTo (spansF 0 bs) i).length ≤ 60030010 := by
  have h1 := encTo_length h.spans (by rw [spansF_length]; have := h.few; omega) i
  have h2 := h.few
  have : i * 60030 ≤ 1000 * 60030 := Nat.mul_le_mul_right _ (by omega)
  omega

theorem SmallB.built {bs : List (List ByteArray)} (h : SmallB bs) {b : List ByteArray} (hb : b ∈ bs) : (sealL (buildL b)).length ≤ 60036000 ∧ (buildL b).length ≤ 60036000 := by
  obtain ⟨h1, h2, _, h3⟩ := h.len b hb
  have h4 := seal_small2 (Nat.le_refl 60000) h2 (List.length_pos_iff.2 h3)
  have : b.length * (60000 + 36) ≤ 1000 * (60000 + 36) := Nat.mul_le_mul_right _ h1
  have h5 := sealL_length (buildL b)
  omega

theorem enc_next {bs : List (List ByteArray)} {i : Nat} {b : List ByteArray} (h : bs[i]? = some b) : encTo (spansF 0 bs) (i + 1) = ((encTo (spansF 0 bs) i ++ enc (firstK b).size ++ (firstK b).data.toList) ++ enc (dataL (bs.take i)).length) ++ enc (sealL (buildL b)).length := by
  have hs := spansF_at bs 0 i b h
  rw [encTo_succ hs]
  simp only [Nat.zero_add, List.append_assoc]

theorem enc_last (bs : List (List ByteArray)) : encTo (spansF 0 bs) bs.length = indexL (spansF 0 bs) := by
  have := encTo_all (spansF 0 bs)
  rwa [spansF_length] at this

theorem enc_none (bs : List (List ByteArray)) : encTo (spansF 0 bs) 0 = enc bs.length := by
  unfold encTo
  rw [spansF_length]
  simp

def RB1Rel (w : World) (bs : List (List ByteArray)) (blv ov xv iv : Value) (wr : World) : Prop :=
  ∃ i : Nat, iv = .int .i64 (i : Int) ∧ i ≤ bs.length ∧ wr.ownsRow w.heap.size 5 1 ov (dataL (bs.take i)).length (bcells (dataL (bs.take i))) ∧
    wr.ownsRow w.heap.size 5 1 xv (encTo (spansF 0 bs) i).length (bcells (encTo (spansF 0 bs) i)) ∧ ApartV ov xv ∧ SOwnA w.heap.size wr blv (.slice none 0 0) bs ∧ Below w.heap.size w wr

def RB2Rel (w wo : World) (ks : List ByteArray) (sv iv : Value) (wr : World) : Prop :=
  ∃ i : Nat, iv = .int .i64 (i : Int) ∧ i ≤ ks.length ∧ wr.ownsRow w.heap.size 9 1 sv (((ks.take i).map stemB).foldl putK []).length (scells (((ks.take i).map stemB).foldl putK [])) ∧ Below wo.heap.size wo wr

theorem puts_next {ks : List ByteArray} {i : Nat} {k : ByteArray} (h : ks[i]? = some k) : ((ks.take (i + 1)).map stemB).foldl putK [] = putK (((ks.take i).map stemB).foldl putK []) (stemB k) := by
  rw [List.take_add_one, h, Option.toList_some, List.map_append, List.foldl_append]
  rfl

theorem puts_len (ks : List ByteArray) (i : Nat) : (((ks.take i).map stemB).foldl putK []).length ≤ i := by
  obtain ⟨_, _, h⟩ := putsAll_ok ((ks.take i).map stemB) [] rises_nil
  rw [List.length_map, List.length_take] at h
  simp only [List.length_nil] at h
  omega
end Go.Proofs.YtfhdonidgegebaaDoor

/- sentryref14.Build. -/
namespace Go.Proofs.YtfhdonidgegebaaDoor
open Go Go.RowKit

theorem SOwnA.lower {B C : Nat} {w : World} {v one : Value} {ls : List (List ByteArray)} (h : SOwnA B w v one ls) (hc : C ≤ B) : SOwnA C w v one ls := by
  obtain ⟨svs, k1, k2, k3⟩ := h
  exact ⟨svs, k1, owns_lower k2 hc, fun i l sv hi hs => ⟨owns_lower (k3 i l sv hi hs).1 hc, (k3 i l sv hi hs).2⟩⟩

set_option maxRecDepth 100000 in
set_option maxHeartbeats 4000000 in
theorem refbuild14_any (w : World) (a : Option Addr) (n cap : Nat) (ks : List ByteArray) (split bits : Int) (h : Reads w 1 (.slice a n cap) n (scells ks)) (hn : n ≤ 1000) (hsz : ∀ x ∈ ks, x.size ≤ 60000)
    (hB : -9223372036854775808 ≤ bits ∧ bits ≤ 9223372036854775807) :
    Calls Tryd.prog 10 #[.slice a n cap, .int .i64 split, .int .i64 bits] w (TBuildPost w ks split bits) := by
  obtain ⟨i0, hi, hz0, hz1, hz2⟩ := info_parts info5
  have hkl : ks.length = n := by have := h.1; rw [scells_length] at this; omega
  obtain ⟨_, _, hv, hc1, hc2⟩ := h.le
  cases hv
  unfold maxLen at hc2
  have HR := Lib.hid h
  have HL := Lib.hid hkl
  have HSz := Lib.hid hsz
  have HBits := Lib.hid hB
  have HC := Lib.hid (refcheck_any w a n cap ks split h (by omega) hsz)
  obtain ⟨c, hc⟩ : ∃ c, checkL ks split = c := ⟨_, rfl⟩
  rw [hc] at HC
  have HCc := Lib.hid hc
  clear h hkl hsz hB hc
  by_cases hc0 : c = 0
  case neg =>
    have hcI : ((c : Int) != 0) = true := by simp; omega
    go_enter Tryd.func10, Tryd.ntmps10
    go_wp2_with (go_at_call 33; go_must (refine HC.out.mono ?_))
    rintro e w1 ⟨rfl, b1⟩
    go_wp2
    go_ret2
    exact .inl ⟨by rw [HCc.out]; exact hc0, by rw [HCc.out]; rfl, b1⟩
  case pos =>
    subst hc0
    obtain ⟨hne, hsp, hout, hri⟩ := check_rises HCc.out
    have HSB := Lib.hid (small_blocks split hri HSz.out (by rw [HL.out]; exact hn))
    have HStm := Lib.hid (stems_put hri hout)
    clear hne hout hri
    go_enter Tryd.func10, Tryd.ntmps10
    go_wp2_with (go_at_call 33; go_must (refine HC.out.mono ?_))
    rintro e w1 ⟨rfl, b1⟩
    have HB1 := Lib.hid b1
    have HCu := Lib.hid (refcut_any w1 a n cap ks split (HR.out.below' b1) (by omega) HSz.out)
    clear b1 HC
    go_wp2_with (go_at_call 14; go_must (refine HCu.out.mono ?_))
    rintro e w2 ⟨b2, bv, rfl, hA⟩
    have HB2 := Lib.hid (HB1.out.trans (b2.mono HB1.out.size))
    have hA2 := hA.lower HB1.out.size
    clear b2 hA HCu HB1
    obtain ⟨bs, hbs⟩ : ∃ bs, blocksL split ks = bs := ⟨_, rfl⟩
    have HBs := Lib.hid hbs
    rw [hbs] at HSB hA2
    obtain ⟨ba, bcap, rfl, hbc1, hbc2⟩ := hA2.row
    unfold maxLen at hbc2
    have hfew := HSB.out.few
    have hw0 : IntKind.u64.wrap (bs.length : Int) = (bs.length : Int) := by rw [IntKind.wrap_u64]; omega
    have HPt := Lib.hid (refputo_any w2 (.slice none 0 0) [] bs.length (nil_reads w2) (by decide) (by omega))
    have HA2 := Lib.hid hA2
    clear hA2 hbs
    go_wp2_with (go_at_call 34; go_must (refine HPt.out.mono ?_))
    rintro e w3 ⟨xv, rfl, o3, b3⟩
    rw [List.nil_append, ← enc_none] at o3
    have HB3 := Lib.hid (HB2.out.trans (b3.mono HB2.out.size))
    have HA3 := Lib.hid (HA2.out.below b3)
    have HX3 := Lib.hid (owns_lower o3 HB2.out.size)
    clear b3 o3 HPt HA2 HB2
    go_wp2
    go_loopw [10, 11, 37] (fun ov xv iv wr => RB1Rel w bs (.slice ba bs.length bcap) ov xv iv wr) (fun _ _ iv _ => bs.length - (intOf iv).toNat)
    case atStart => exact ⟨0, rfl, Nat.zero_le _, owns_nil _ _ _ _, HX3.out, fun g hg => by simp [Value.ownBlock] at hg, HA3.out, HB3.out⟩
    case round =>
      obtain ⟨i, rfl, hin, ho, hx, hap, hA, hb⟩ := hrel
      have HO := Lib.hid ho
      have HX := Lib.hid hx
      have HAp := Lib.hid hap
      have HA := Lib.hid hA
      have HB := Lib.hid hb
      have hdl := dataL_take_le bs i
      have hdt := HSB.out.data
      have hel := HSB.out.enc hin
      obtain ⟨oa, ocap, rfl, hoc1, hoc2⟩ := (ownsRow.reads ho).le
      obtain ⟨xa, xcap, rfl, hxc1, hxc2⟩ := (ownsRow.reads hx).le
      clear ho hx hap hA hb HX3 HA3 HB3
      by_cases hlt : i < bs.length
      · have hltI : (i : Int) < bs.length := by omega
        obtain ⟨b, hbi⟩ : ∃ b, bs[i]? = some b := ⟨bs[i], List.getElem?_eq_getElem hlt⟩
        obtain ⟨g, off, la, lcap, rfl, hg, hcx, hrow⟩ := HA.out.at hbi
        obtain ⟨hbl, hbz, hbr, hbn⟩ := HSB.out.len b (List.mem_of_getElem? hbi)
        obtain ⟨hs1, hs2⟩ := HSB.out.built (List.mem_of_getElem? hbi)
        have HRow := Lib.hid hrow
        have HBu := Lib.hid (refbuild_any wr la b.length lcap b (ownsRow.reads hrow) (by omega) hbz)
        have HBr := Lib.hid hbr
        have HDn := Lib.hid (dataL_next hbi)
        have HEn := Lib.hid (enc_next hbi)
        have hb0 : 0 < b.length := List.length_pos_iff.2 hbn
        have hb0I : (0 : Int) < b.length := by omega
        have hfk : b[0]? = some (firstK b) := by
          unfold firstK
          rw [List.getD_eq_getElem?_getD, List.getElem?_eq_getElem hb0]
          rfl
        have HFk := Lib.hid hfk
        have hfz : (firstK b).size ≤ 60000 := hbz _ (List.mem_of_getElem? hfk)
        clear hrow hbr hbi hbz hbn hfk
        generalize encTo (spansF 0 bs) i = E at *
        generalize dataL (bs.take i) = D at *
        go_wp2_with (go_at_call 35; go_must (refine HBu.out.mono ?_))
        rintro e w4 hp
        rcases hp with ⟨_, v4, rfl, o4, b4⟩ | ⟨hno, _⟩
        case inr => exact absurd HBr.out hno
        have HSe := Lib.hid (refseal_any w4 v4 _ (buildL b) (ownsRow.reads o4) (by omega))
        have HB4 := Lib.hid (HB.out.trans (b4.mono HB.out.size))
        have HO4 := Lib.hid (owns_below HO.out b4)
        have HX4 := Lib.hid (owns_below HX.out b4)
        have HA4 := Lib.hid (HA.out.below b4)
        have HRow4 := Lib.hid (owns_below HRow.out b4)
        clear o4 b4 HO HX HA HB HBu HRow HBr hcx
        go_wp2_with (go_at_call 36; go_must (refine HSe.out.mono ?_))
        rintro e w5 ⟨v5, rfl, f5, b5⟩
        have HB5 := Lib.hid (HB4.out.trans (b5.mono HB4.out.size))
        have HO5 := Lib.hid (owns_below HO4.out b5)
        have HX5 := Lib.hid (owns_below HX4.out b5)
        have HA5 := Lib.hid (HA4.out.below b5)
        have HF5 := Lib.hid f5.1
        obtain ⟨fa, fcap, rfl, hfc1, hfc2⟩ := f5.1.le
        obtain ⟨lg, loff, x0, rfl, hx0, hlg, hc0⟩ := (ownsRow.reads (owns_below HRow4.out b5)).scell 0 hb0
        rw [HFk.out] at hx0
        cases hx0
        simp only [Nat.add_zero] at hc0
        have HPx := Lib.hid (refputtexto_any w5 _ E (firstK b) (ownsRow.reads HX5.out) (by omega) (by omega))
        clear f5 b5 HO4 HX4 HA4 HB4 HSe HRow4 HFk
        go_wp2_with (go_at_call 37; go_must (refine HPx.out.mono ?_))
        rintro e w6 ⟨v6, rfl, o6, b6⟩
        have HB6 := Lib.hid (HB5.out.trans (b6.mono HB5.out.size))
        have HO6 := Lib.hid (owns_below HO5.out b6)
        have HA6 := Lib.hid (HA5.out.below b6)
        have HF6 := Lib.hid (HF5.out.below' b6)
        have e1 := enc_length_le 9 (firstK b).size (by omega)
        have hl6 : (E ++ enc (firstK b).size ++ (firstK b).data.toList).length ≤ 70000000 := by
          have h4 : (firstK b).data.toList.length = (firstK b).size := Array.length_toList
          simp only [List.length_append]
          omega
        generalize E ++ enc (firstK b).size ++ (firstK b).data.toList = E1 at *
        have hw1 : IntKind.u64.wrap (D.length : Int) = (D.length : Int) := by rw [IntKind.wrap_u64]; omega
        have HPy := Lib.hid (refputo_any w6 v6 E1 D.length (ownsRow.reads o6) (by omega) (by omega))
        clear o6 b6 HO5 HX5 HA5 HF5 HPx HB5 hc0
        go_wp2_with (go_at_call 34; go_must (refine HPy.out.mono ?_))
        rintro e w7 ⟨v7, rfl, o7, b7⟩
        have HB7 := Lib.hid (HB6.out.trans (b7.mono HB6.out.size))
        have HO7 := Lib.hid (owns_below HO6.out b7)
        have HA7 := Lib.hid (HA6.out.below b7)
        have HF7 := Lib.hid (HF6.out.below' b7)
        have e2 := enc_length_le 9 D.length (by omega)
        have hl7 : (E1 ++ enc D.length).length ≤ 80000000 := by
          rw [List.length_append]
          omega
        generalize E1 ++ enc D.length = E2 at *
        obtain ⟨S, hS⟩ : ∃ S, sealL (buildL b) = S := ⟨_, rfl⟩
        rw [hS] at hs1 HDn HEn HF7 hfc1
        have hw2 : IntKind.u64.wrap (S.length : Int) = (S.length : Int) := by rw [IntKind.wrap_u64]; omega
        have HPz := Lib.hid (refputo_any w7 v7 E2 S.length (ownsRow.reads o7) (by omega) (by omega))
        simp only [hS]
        clear o7 b7 HO6 HA6 HF6 HPy HB6 hS
        go_wp2_with (go_at_call 34; go_must (refine HPz.out.mono ?_))
        rintro e w8 ⟨v8, rfl, o8, b8⟩
        rw [← HEn.out] at o8
        have hap8 := (apart_new o8 HO7.out).symm
        have HO8 := Lib.hid (owns_below HO7.out b8)
        have HX8 := Lib.hid (owns_less o8 HB7.out.size)
        have HA8 := Lib.hid (HA7.out.below b8)
        have HB8 := Lib.hid (HB7.out.trans (b8.mono HB7.out.size))
        have HAp8 := Lib.hid hap8
        have hsrc8 := (HF7.out.below' b8).src (P := Tryd.prog) (tx := 24) Tryd.underlying24 (bcells_one _)
        have HSrc8 := Lib.hid hsrc8
        have hle8 := HB8.out.size
        clear o8 b8 hap8 hsrc8 HO7 HA7 HF7 HPz HB7 HEn
        go_wp2_with (at_builtin; go_must (refine wpList_append_owns rfl _ _ 24 24 rfl w.heap.size 5 i0 (.int .u8 0) 1 1 Tryd.underlying24 hi hz0 hz1 hz2 rfl _ _ _ rfl HO8.out _ _ _ rfl HSrc8.out ?_ ?_ hle8 ?_))
        · unfold maxLen; omega
        · omega
        intro v9 w9 o9 g9 b9 m9
        rw [← bcells_append, ← List.length_append, ← HDn.out] at o9
        have HO9 := Lib.hid o9
        have HX9 := Lib.hid (owns_apart HX8.out g9 HAp8.out)
        have HAp9 := Lib.hid (apart_moves HAp8.out HX8.out m9)
        have HA9 := Lib.hid (HA8.out.bytes HO8.out g9)
        have HB9 := Lib.hid (HB8.out.trans b9)
        clear o9 g9 b9 m9 HO8 HX8 HA8 HB8 HSrc8 HAp8 hle8 HDn
        go_wp2
        exact ⟨⟨i + 1, by go_num, by omega, HO9.out, HX9.out, HAp9.out, HA9.out, HB9.out⟩, by simp [intOf]; omega⟩
      · obtain rfl : i = bs.length := by omega
        have hltI : ¬ (bs.length : Int) < bs.length := by omega
        rw [List.take_of_length_le (Nat.le_refl _)] at HO hdl hoc1 ⊢
        rw [enc_last] at HX hel hxc1 ⊢
        have HIl := Lib.hid hel
        have hil : (indexL (spansF 0 bs)).length ≤ 60030010 := hel
        obtain ⟨tab, htab⟩ : ∃ tab, tabL bs (stemsB ks) n bits = tab := ⟨_, rfl⟩
        have HTab := Lib.hid htab
        unfold tabL at htab
        have HTb := Lib.hid htab
        clear HA hel htab HAp HSB
        generalize indexL (spansF 0 bs) = IL at *
        generalize dataL bs = D at *
        obtain ⟨wo, rfl⟩ : ∃ wo : World, wo = wr := ⟨_, rfl⟩
        go_wp2
        go_loopw [17, 69] (fun sv iv wr => RB2Rel w wo ks sv iv wr) (fun _ iv _ => n - (intOf iv).toNat)
        case atStart => exact ⟨0, rfl, Nat.zero_le _, owns_nil _ _ _ _, Below.refl _ _⟩
        case round =>
          obtain ⟨i, rfl, hin, ho, hbo⟩ := hrel
          rw [HL.out] at hin
          have hpl := puts_len ks i
          obtain ⟨sa, scap, rfl, hsc1, hsc2⟩ := (ownsRow.reads ho).le
          have HPs := Lib.hid ho
          have HBo := Lib.hid hbo
          have HBr := Lib.hid (HB.out.trans (hbo.mono HB.out.size))
          clear ho hbo
          by_cases hlt2 : i < n
          · have hlt2I : (i : Int) < n := by omega
            obtain ⟨g, off, x, rfl, hx, hg, hcx⟩ := (HR.out.below' HBr.out).scell i hlt2
            have hxs : x.size ≤ 60000 := HSz.out x (List.mem_of_getElem? hx)
            have HPn := Lib.hid (puts_next hx)
            have HSm := Lib.hid (refstem_any wr x (by omega))
            clear hx
            generalize ((ks.take i).map stemB).foldl putK [] = M at *
            have HPu := Lib.hid (puto_any wr w.heap.size sa M.length scap M (stemB x) HPs.out HBr.out.size (by omega))
            go_wp2_with (go_at_call 21; go_must (refine HSm.out.mono ?_))
            rintro e w6 ⟨rfl, rfl⟩
            go_wp2_with (go_at_call 38; go_must (refine HPu.out.mono ?_))
            rintro e w6 ⟨v6, b6, rfl, o6, bb6⟩
            have HO6 := Lib.hid o6
            have HB6 := Lib.hid (HBo.out.trans (bb6.mono HBo.out.size))
            clear o6 bb6 HPu HSm HPs
            go_wp2
            refine ⟨⟨i + 1, by go_num, by rw [HL.out]; omega, ?_, HB6.out⟩, by simp [intOf]; omega⟩
            rw [HPn.out]
            exact HO6.out
          · obtain rfl : i = n := by omega
            have hlt2I : ¬ (i : Int) < i := by omega
            have htk : ks.take i = ks := List.take_of_length_le (by rw [HL.out]; exact Nat.le_refl _)
            rw [htk, ← HStm.out] at HPs hpl hsc1 ⊢
            have hssz : ∀ k ∈ stemsB ks, k.size ≤ 1000000000 := fun k hk => by
              unfold stemsB at hk
              obtain ⟨l, hl, rfl⟩ := List.mem_map.1 hk
              have := comp_mem hl
              obtain ⟨x, hx, rfl⟩ := List.mem_map.1 this
              have h9 := HSz.out x hx
              have h8 : (stemB x).data.toList.length ≤ x.size := by
                show (stemB x).data.toList.length ≤ x.size
                rw [Array.length_toList]
                show (stemB x).size ≤ x.size
                unfold stemB
                rw [ByteArray.size_extract]
                omega
              show ((stemB x).data.toList.toArray).size ≤ 1000000000
              simp only [List.size_toArray]
              omega
            have HSs := Lib.hid hssz
            clear hssz htk HStm
            obtain ⟨ss, hse⟩ : ∃ ss, stemsB ks = ss := ⟨_, rfl⟩
            rw [hse] at HSs HTab HTb HPs hpl hsc1 ⊢
            have HSe := Lib.hid hse
            clear hse
            have HO1 := Lib.hid (owns_below HO.out HBo.out)
            have HS1 := Lib.hid (refseal_any wr _ IL.length IL (ownsRow.reads (owns_below HX.out HBo.out)) (by omega))
            have hXl : (sealL IL).length ≤ 60030018 := by rw [sealL_length]; omega
            obtain ⟨X, hX⟩ : ∃ X, sealL IL = X := ⟨_, rfl⟩
            rw [hX] at HS1 HTb hXl
            clear hX HO HX HBo HB
            go_wp2_with (go_at_call 36; go_must (refine HS1.out.mono ?_))
            rintro e w4 ⟨v4, rfl, f4, b4⟩
            have HB4 := Lib.hid (HBr.out.trans (b4.mono HBr.out.size))
            have HO4 := Lib.hid (owns_below HO1.out b4)
            have HP4 := Lib.hid (owns_below HPs.out b4)
            have HSrc4 := Lib.hid (f4.1.src (P := Tryd.prog) (tx := 24) Tryd.underlying24 (bcells_one _))
            have hle4 := HB4.out.size
            clear f4 b4 HO1 HPs HBr HS1
            go_wp2_with (at_builtin; go_must (refine wpList_append_owns rfl _ _ 24 24 rfl w.heap.size 5 i0 (.int .u8 0) 1 1 Tryd.underlying24 hi hz0 hz1 hz2 rfl _ _ _ rfl HO4.out _ _ _ rfl HSrc4.out ?_ ?_ hle4 ?_))
            · unfold maxLen; omega
            · omega
            intro v5 w5 o5 g5 b5 m5
            obtain ⟨Y, hY⟩ : ∃ Y, D ++ X = Y := ⟨_, rfl⟩
            have hl5 : Y.length = D.length + X.length := by rw [← hY, List.length_append]
            rw [← bcells_append, ← List.length_append, hY] at o5
            rw [hY, ← hl5] at HTb
            have HO5 := Lib.hid o5
            have HB5 := Lib.hid (HB4.out.trans b5)
            have HP5 := Lib.hid (HP4.out.kept g5 (owns_two HO4.out HP4.out (by decide)))
            obtain ⟨ya, ycap, rfl, hyc1, hyc2⟩ := (ownsRow.reads o5).le
            have hyl : Y.length ≤ 170000000 := by omega
            clear hl5
            have HMk := Lib.hid (refmake_any w5 _ _ ss bits (ownsRow.reads HP5.out) (by omega) HSs.out HBits.out)
            have hml := makeL_length (ss.map fun k => k.data.toList) bits
            have hsz' := sizeOf'_le (ss.map fun k => k.data.toList).length bits
            rw [List.length_map] at hml hsz'
            clear o5 g5 b5 m5 HO4 HP4 HB4 HSrc4 hle4 hY
            generalize makeL (ss.map fun k => k.data.toList) bits = mk at *
            have hmk : mk.length ≤ 100000 := by omega
            clear hsz' hml
            go_wp2_with (go_at_call 39; go_must (refine HMk.out.mono ?_))
            rintro e w6 ⟨v6, rfl, f6, b6⟩
            have HB6 := Lib.hid (HB5.out.trans (b6.mono HB5.out.size))
            have HO6 := Lib.hid (owns_below HO5.out b6)
            have HS6 := Lib.hid (refseal_any w6 v6 _ mk f6.1 (by omega))
            have hMl : (sealL mk).length ≤ 100008 := by rw [sealL_length]; omega
            obtain ⟨M, hM⟩ : ∃ M, sealL mk = M := ⟨_, rfl⟩
            rw [hM] at HS6 HTb hMl
            clear hM f6 b6 HO5 HB5 HMk HP5
            go_wp2_with (go_at_call 36; go_must (refine HS6.out.mono ?_))
            rintro e w7 ⟨v7, rfl, f7, b7⟩
            have HB7 := Lib.hid (HB6.out.trans (b7.mono HB6.out.size))
            have HO7 := Lib.hid (owns_below HO6.out b7)
            have HSrc7 := Lib.hid (f7.1.src (P := Tryd.prog) (tx := 24) Tryd.underlying24 (bcells_one _))
            have hle7 := HB7.out.size
            clear f7 b7 HO6 HB6 HS6
            go_wp2_with (at_builtin; go_must (refine wpList_append_owns rfl _ _ 24 24 rfl w.heap.size 5 i0 (.int .u8 0) 1 1 Tryd.underlying24 hi hz0 hz1 hz2 rfl _ _ _ rfl HO7.out _ _ _ rfl HSrc7.out ?_ ?_ hle7 ?_))
            · unfold maxLen; omega
            · omega
            intro v8 w8 o8 g8 b8 m8
            rw [← bcells_append, ← List.length_append] at o8
            have hz8 : (Y ++ M).length ≤ 180000000 := by rw [List.length_append]; omega
            generalize Y ++ M = Z at *
            have HO8 := Lib.hid o8
            have HB8 := Lib.hid (HB7.out.trans b8)
            obtain ⟨za, zcap, rfl, hzc1, hzc2⟩ := (ownsRow.reads o8).le
            have HE8 := Lib.hid (refeight_any w8 D.length)
            clear o8 g8 b8 m8 HO7 HB7 HSrc7 hle7
            go_wp2_with (go_at_call 40; go_must (refine HE8.out.mono ?_))
            rintro e w9 ⟨v9, rfl, f9, b9⟩
            have HB9 := Lib.hid (HB8.out.trans (b9.mono HB8.out.size))
            have HO9 := Lib.hid (owns_below HO8.out b9)
            have hsrc9 := f9.1.src (P := Tryd.prog) (tx := 24) Tryd.underlying24 (bcells_one _)
            rw [be8_length] at hsrc9
            have HSrc9 := Lib.hid hsrc9
            have hle9 := HB9.out.size
            clear f9 b9 hsrc9 HO8 HB8 HE8
            go_wp2_with (at_builtin; go_must (refine wpList_append_owns rfl _ _ 24 24 rfl w.heap.size 5 i0 (.int .u8 0) 1 1 Tryd.underlying24 hi hz0 hz1 hz2 rfl _ _ _ rfl HO9.out _ _ _ rfl HSrc9.out ?_ ?_ hle9 ?_))
            · unfold maxLen; omega
            · omega
            intro v10 w10 o10 g10 b10 m10
            rw [← bcells_append] at o10
            have HO10 := Lib.hid o10
            have HB10 := Lib.hid (HB9.out.trans b10)
            obtain ⟨pa10, pcap10, rfl, _, _⟩ := (ownsRow.reads o10).le
            clear o10 g10 b10 m10 HO9 HB9 HSrc9 hle9
            have HE10 := Lib.hid (refeight_any w10 Y.length)
            go_wp2_with (go_at_call 40; go_must (refine HE10.out.mono ?_))
            rintro e w11 ⟨v11, rfl, f11, b11⟩
            have HB11 := Lib.hid (HB10.out.trans (b11.mono HB10.out.size))
            have HO11 := Lib.hid (owns_below HO10.out b11)
            have hsrc11 := f11.1.src (P := Tryd.prog) (tx := 24) Tryd.underlying24 (bcells_one _)
            rw [be8_length] at hsrc11
            have HSrc11 := Lib.hid hsrc11
            have hle11 := HB11.out.size
            clear f11 b11 hsrc11 HO10 HB10 HE10
            go_wp2_with (at_builtin; go_must (refine wpList_append_owns rfl _ _ 24 24 rfl w.heap.size 5 i0 (.int .u8 0) 1 1 Tryd.underlying24 hi hz0 hz1 hz2 rfl _ _ _ rfl HO11.out _ _ _ rfl HSrc11.out ?_ ?_ hle11 ?_))
            · unfold maxLen; omega
            · omega
            intro v12 w12 o12 g12 b12 m12
            rw [← bcells_append] at o12
            have HO12 := Lib.hid o12
            have HB12 := Lib.hid (HB11.out.trans b12)
            obtain ⟨pa12, pcap12, rfl, _, _⟩ := (ownsRow.reads o12).le
            clear o12 g12 b12 m12 HO11 HB11 HSrc11 hle11
            have HE12 := Lib.hid (refeight_any w12 i)
            go_wp2_with (go_at_call 40; go_must (refine HE12.out.mono ?_))
            rintro e w13 ⟨v13, rfl, f13, b13⟩
            have HB13 := Lib.hid (HB12.out.trans (b13.mono HB12.out.size))
            have HO13 := Lib.hid (owns_below HO12.out b13)
            have hsrc13 := f13.1.src (P := Tryd.prog) (tx := 24) Tryd.underlying24 (bcells_one _)
            rw [be8_length] at hsrc13
            have HSrc13 := Lib.hid hsrc13
            have hle13 := HB13.out.size
            clear f13 b13 hsrc13 HO12 HB12 HE12
            go_wp2_with (at_builtin; go_must (refine wpList_append_owns rfl _ _ 24 24 rfl w.heap.size 5 i0 (.int .u8 0) 1 1 Tryd.underlying24 hi hz0 hz1 hz2 rfl _ _ _ rfl HO13.out _ _ _ rfl HSrc13.out ?_ ?_ hle13 ?_))
            · unfold maxLen; omega
            · omega
            intro v14 w14 o14 g14 b14 m14
            rw [← bcells_append] at o14
            have HO14 := Lib.hid o14
            have HB14 := Lib.hid (HB13.out.trans b14)
            obtain ⟨pa14, pcap14, rfl, _, _⟩ := (ownsRow.reads o14).le
            clear o14 g14 b14 m14 HO13 HB13 HSrc13 hle13
            have hsrc15 := Src.ofString (P := Tryd.prog) (w := w14) (tx := 9) Tryd.underlying9 ⟨#[116, 98, 108, 49]⟩
            rw [show (ByteArray.mk #[116, 98, 108, 49]).size = 4 from rfl] at hsrc15
            have HSrc15 := Lib.hid hsrc15
            have hle15 := HB14.out.size
            clear hsrc15
            go_wp2_with (at_builtin; go_must (refine wpList_append_owns rfl _ _ 24 9 rfl w.heap.size 5 i0 (.int .u8 0) 1 1 Tryd.underlying24 hi hz0 hz1 hz2 rfl _ _ _ rfl HO14.out _ _ _ rfl HSrc15.out ?_ ?_ hle15 ?_))
            · unfold maxLen; omega
            · omega
            intro v15 w15 o15 g15 b15 m15
            rw [bcells_byteCells, ← bcells_append] at o15
            have HB15 := Lib.hid (HB14.out.trans b15)
            have htot : Z ++ (be8 D.length ++ (be8 Y.length ++ be8 i)) ++ (ByteArray.mk #[116, 98, 108, 49]).data.toList = tab := by
              rw [← HTb.out]
              simp [footL]
            have htl : Z.length + 8 + 8 + 8 + 4 = tab.length := by
              rw [← htot]
              simp only [List.length_append, be8_length]
              rfl
            rw [htot, htl] at o15
            have HO15 := Lib.hid o15
            clear o15 g15 b15 m15 htot htl HO14 HB14 HSrc15 hle15
            go_wp2
            go_ret2
            refine .inr ⟨HCc.out, _, rfl, ?_, HB15.out⟩
            rw [HBs.out, HSe.out, HL.out, HTab.out]
            exact HO15.out
end Go.Proofs.YtfhdonidgegebaaDoor

/- The law TableBuilds' walk. -/
namespace Go.Proofs.YtfhdonidgegebaaDoor
open Go Go.RowKit

/-- A build's answer: bytes, or none and what is wrong. -/
def TB2 (w : World) (c : Nat) (l : List UInt8) (e : Ending) (w' : World) : Prop :=
  ∃ v, e = .returned (.tuple #[v, .int .i64 (c : Int)]) ∧ Reads w' 1 v l.length (bcells l) ∧ Below w.heap.size w w'

def builtL (ks : List ByteArray) (split bits : Int) : List UInt8 := if checkL ks split = 0 then tabL (blocksL split ks) (stemsB ks) ks.length bits else []

theorem tb2_of {w w' : World} {ks : List ByteArray} {split bits : Int} {e : Ending} (h : TBuildPost w ks split bits e w') : TB2 w (checkL ks split) (builtL ks split bits) e w' := by
  unfold builtL
  rcases h with ⟨h0, rfl, hb⟩ | ⟨h0, v, rfl, ho, hb⟩
  · rw [if_neg h0]
    exact ⟨_, rfl, nil_reads w', hb⟩
  · rw [if_pos h0, h0]
    exact ⟨_, rfl, ownsRow.reads ho, hb⟩

def Short200 (ks : List ByteArray) (v : Value) : Prop := ∃ i : Nat, v = .int .i64 (i : Int) ∧ i ≤ ks.length ∧ ∀ j x, j < i → ks[j]? = some x → x.size ≤ 200

set_option maxRecDepth 100000 in
set_option maxHeartbeats 4000000 in
theorem tableBuilds_walk (w : World) (a : Option Addr) (n cap : Nat) (ks : List ByteArray) (split bits : Int) (h : Reads w 1 (.slice a n cap) n (scells ks))
    (hB : -9223372036854775808 ≤ bits ∧ bits ≤ 9223372036854775807) (hst : Steps w) :
    Calls Tryd.prog 3 #[.slice a n cap, .int .i64 split, .int .i64 bits] w (SaysTrue w) := by
  have hkl : ks.length = n := by have := h.1; rw [scells_length] at this; omega
  have HF := Lib.hid (fixed_any w hst)
  have HSt := Lib.hid hst
  have HR := Lib.hid h
  have HL := Lib.hid hkl
  have HBits := Lib.hid hB
  obtain ⟨_, _, hv, hc1, hc2⟩ := h.le
  cases hv
  unfold maxLen at hc2
  clear hst h hkl hB
  go_enter Tryd.func3, Tryd.ntmps3
  go_wp2_with (go_at_call 8; go_must (refine HF.out.mono ?_))
  rintro e w1 ⟨rfl, b1⟩
  have HB1 := Lib.hid b1
  have HR1 := Lib.hid (HR.out.below' b1)
  clear b1 HF HR
  by_cases h80 : n ≤ 80
  case neg =>
    have h80I : (80 : Int) < n := by omega
    go_wp2
    go_ret
    exact ⟨rfl, HB1.out⟩
  have h80I : ¬ (80 : Int) < n := by omega
  go_wp2
  go_loop [20] (fun v => Short200 ks v) (fun v => n - (intOf v).toNat)
  case atStart => exact ⟨0, rfl, Nat.zero_le _, fun j x hj => by omega⟩
  case round =>
    obtain ⟨i, rfl, hin, hsh⟩ := hrel
    rw [HL.out] at hin
    have HSh := Lib.hid hsh
    clear hsh
    by_cases hlt : i < n
    · have hltI : (i : Int) < n := by omega
      obtain ⟨g, off, x, rfl, hx, hg, hcx⟩ := HR1.out.scell i hlt
      have HX := Lib.hid hx
      clear hx
      by_cases hxs : x.size ≤ 200
      · have hxI : ¬ (200 : Int) < x.size := by omega
        go_wp2
        refine ⟨⟨i + 1, by go_num, by rw [HL.out]; omega, fun j y hj hy => ?_⟩, by simp [intOf]; omega⟩
        by_cases hji : j = i
        · subst hji
          rw [HX.out] at hy
          cases hy
          exact hxs
        · exact HSh.out j y (by omega) hy
      · have hxI : (200 : Int) < x.size := by omega
        go_wp2
        go_ret
        exact ⟨rfl, HB1.out⟩
    · obtain rfl : i = n := by omega
      have hltI : ¬ (i : Int) < i := by omega
      have hall : ∀ x ∈ ks, x.size ≤ 60000 := fun x hx => by
        obtain ⟨j, hj, rfl⟩ := List.mem_iff_getElem.1 hx
        have := HSh.out j _ (by rw [HL.out] at hj; exact hj) (List.getElem?_eq_getElem hj)
        omega
      have HBu := Lib.hid ((tbuild_any w1 a i cap ks split bits HR1.out (by omega) hall HBits.out (HSt.out.below HB1.out)).mono fun e w' hp => tb2_of hp)
      have HAll := Lib.hid hall
      obtain ⟨L, hL⟩ : ∃ L, builtL ks split bits = L := ⟨_, rfl⟩
      obtain ⟨c, hc⟩ : ∃ c, checkL ks split = c := ⟨_, rfl⟩
      rw [hL, hc] at HBu
      have HLe := Lib.hid hL
      have HCe := Lib.hid hc
      clear hall hL hc HSh
      go_wp2_with (go_at_call 9; go_must (refine HBu.out.mono ?_))
      rintro e w2 ⟨v2, rfl, r2, b2⟩
      have HB2 := Lib.hid (HB1.out.trans (b2.mono HB1.out.size))
      have HR2 := Lib.hid (HR1.out.below' b2)
      have HV2 := Lib.hid r2
      have HBr := Lib.hid ((refbuild14_any w2 a i cap ks split bits HR2.out (by omega) HAll.out HBits.out).mono fun e w' hp => tb2_of hp)
      rw [HLe.out, HCe.out] at HBr
      clear r2 b2 HBu HR1 HB1
      go_wp2_with (go_at_call 10; go_must (refine HBr.out.mono ?_))
      rintro e w3 ⟨v3, rfl, r3, b3⟩
      have HB3 := Lib.hid (HB2.out.trans (b3.mono HB2.out.size))
      have hc1 := Reads.conv (P := Tryd.prog) (w := w3) (src := 24) (e := 5) (dst := 9) Tryd.underlying24 Tryd.underlying5 Tryd.underlying9 (HV2.out.below' b3)
      have hc2 := Reads.conv (P := Tryd.prog) (w := w3) (src := 24) (e := 5) (dst := 9) Tryd.underlying24 Tryd.underlying5 Tryd.underlying9 r3
      obtain ⟨a2, c2, rfl, _, _⟩ := HV2.out.le
      obtain ⟨a3, c3, rfl, _, _⟩ := r3.le
      generalize (ByteArray.mk L.toArray) = s at *
      have hcc : ((c : Int) == (c : Int)) = true := by simp
      have hss : (s.toList == s.toList) = true := by simp
      clear r3 b3 HV2 HBr HR2 HB2 HLe HCe HAll
      go_wp2
      go_ret
      exact ⟨rfl, HB3.out⟩
end Go.Proofs.YtfhdonidgegebaaDoor

/- sentrylaw14.keys: the walk; entries' inner keys make a table. -/
namespace Go.Proofs.YtfhdonidgegebaaDoor
open Go Go.RowKit

def Low14 (es : List Ent) : Prop := ∀ x ∈ es, x.key.size ≤ 100

def Keys14Rel (w : World) (es : List Ent) (ov iv : Value) (wr : World) : Prop :=
  ∃ k : Nat, iv = .int .i64 (k : Int) ∧ k ≤ es.length ∧ Low14 (es.take k) ∧ wr.ownsRow w.heap.size 9 1 ov (rowsL (es.take k)).length (scells (rowsL (es.take k))) ∧ Below w.heap.size w wr

def Keys14Post (w : World) (es : List Ent) (e : Ending) (w' : World) : Prop :=
  Below w.heap.size w w' ∧ ((Low14 es ∧ ∃ v, e = .returned (.tuple #[v, .bool (decide (es.length ≤ 100))]) ∧ w'.ownsRow w.heap.size 9 1 v (rowsL es).length (scells (rowsL es))) ∨
    (¬ Low14 es ∧ e = .returned (.tuple #[.slice none 0 0, .bool false])))

theorem low14_snoc {es : List Ent} {k : Nat} {y : Ent} (h : es[k]? = some y) (hy : y.key.size ≤ 100) (hl : Low14 (es.take k)) : Low14 (es.take (k + 1)) := by
  rw [List.take_add_one, h]
  intro x hx
  rcases List.mem_append.1 hx with hx | hx
  · exact hl x hx
  · simp at hx
    subst hx
    exact hy

theorem rowsL_next {es : List Ent} {k : Nat} {y : Ent} (h : es[k]? = some y) : rowsL (es.take (k + 1)) = putK (rowsL (es.take k)) (innB y) := by
  rw [List.take_add_one, h, Option.toList_some, rowsL_snoc]

set_option maxRecDepth 100000 in
set_option maxHeartbeats 2000000 in
theorem keys14_any (w : World) (a : Option Addr) (n cap : Nat) (es : List Ent) (h : Reads w 3 (.slice a n cap) n (ecells es)) (hl : es.length = n) (hn : n ≤ 5000000000000) (hks : ∀ x ∈ es, x.key.size ≤ maxLen ∧ x.rev < 18446744073709551616) :
    Calls Tryd.prog 11 #[.slice a n cap] w (Keys14Post w es) := by
  obtain ⟨_, _, hv, hc1, hc2⟩ := h.le
  cases hv
  unfold maxLen at hc2
  have HR := Lib.hid h
  have HL := Lib.hid hl
  have HK := Lib.hid hks
  clear h hl hks
  go_enter Tryd.func11, Tryd.ntmps11
  go_wp2
  go_loopw [4, 9] (fun o v wr => Keys14Rel w es o v wr) (fun _ v _ => n - (intOf v).toNat)
  case atStart => exact ⟨0, rfl, Nat.zero_le _, fun x hx => by simp at hx, owns_nil _ _ _ _, Below.refl _ _⟩
  case round =>
    obtain ⟨i, rfl, hil, hlow, hown, hb⟩ := hrel
    rw [HL.out] at hil
    obtain ⟨oa, ocap, rfl, ho1, ho2⟩ := (ownsRow.reads hown).le
    unfold maxLen at ho2
    have hol : (rowsL (es.take i)).length ≤ 5000000000000 := by
      have := (rowsL_all (es.take i)).2.1
      rw [List.length_take] at this
      omega
    have HB := Lib.hid hb
    have HO := Lib.hid hown
    have HLow := Lib.hid hlow
    clear hb hown hlow
    by_cases hin : i < n
    · have hinI : (i : Int) < n := by omega
      obtain ⟨y, hy⟩ : ∃ y, es[i]? = some y := ⟨es[i]'(by rw [HL.out]; exact hin), List.getElem?_eq_getElem _⟩
      obtain ⟨g2, off2, rfl, hgl2, c0, c1, c2⟩ := ent_cells (HR.out.below' HB.out) hy
      obtain ⟨hk1, hk2⟩ := HK.out y (List.mem_of_getElem? hy)
      unfold maxLen at hk1
      have hnext := rowsL_next hy
      have hsn := fun h => low14_snoc hy h HLow.out
      have hbad : ¬ y.key.size ≤ 100 → ¬ Low14 es := fun h hl => h (hl y (List.mem_of_getElem? hy))
      generalize rowsL (es.take i) = R at *
      obtain ⟨key, rev, del⟩ := y
      dsimp only at c0 c1 c2 hk1 hk2 hsn hbad
      have HN := Lib.hid hnext
      have HSn := Lib.hid hsn
      have HBad := Lib.hid hbad
      have hal := (Below.refl _ wr).alloc (Nat.le_refl _) (.cells #[.string key, .int .u64 (rev : Int), .bool del] 57)
      have HAl := Lib.hid hal
      clear hnext hy hal hsn hbad
      by_cases hk : key.size ≤ 100
      · have hkI : ¬ (100 : Int) < key.size := by omega
        have HI := Lib.hid (fun w' => refinner_any w' key rev del (by omega) hk2)
        go_wp2_with (go_at_call 24; go_must (refine (HI.out _).mono ?_))
        rintro e w1 ⟨rfl, b1⟩
        have hb1 : Below wr.heap.size wr w1 := HAl.out.trans (b1.mono (by simp))
        have HB1 := Lib.hid (HB.out.trans (hb1.mono HB.out.size))
        have hpk := puto_any w1 w.heap.size _ _ _ R (innB ⟨key, rev, del⟩) (owns_below HO.out hb1) HB1.out.size (by omega)
        have HP := Lib.hid hpk
        clear b1 hb1 hpk HI HAl c0 c1 c2
        have hinn : (⟨(inner key.data.toList rev del).toArray⟩ : ByteArray) = innB ⟨key, rev, del⟩ := rfl
        rw [hinn]
        clear hinn
        go_wp2_with (go_at_call 38; go_must (refine HP.out.mono ?_))
        rintro e w2 ⟨v2, b, rfl, r2, b2⟩
        have HB2 := Lib.hid (HB1.out.trans (b2.mono HB1.out.size))
        have HR2 := Lib.hid r2
        clear r2 b2 HP
        go_wp2
        refine ⟨⟨i + 1, by go_num, by rw [HL.out]; omega, HSn.out hk, ?_, HB2.out⟩, by simp [intOf]; omega⟩
        rw [HN.out]
        exact HR2.out
      · have hkI : (100 : Int) < key.size := by omega
        go_wp2
        go_ret2
        exact ⟨HB.out.trans (HAl.out.mono HB.out.size), .inr ⟨HBad.out hk, rfl⟩⟩
    · have hinI : ¬ ((i : Int) < n) := by omega
      have htk : es.take i = es := List.take_of_length_le (by rw [HL.out]; omega)
      rw [htk] at HO HLow ⊢
      by_cases h100 : n ≤ 100
      · have hI : (n : Int) ≤ 100 := by omega
        go_wp2
        go_ret2
        exact ⟨HB.out, .inl ⟨HLow.out, _, by rw [HL.out, decide_eq_true h100]; rfl, HO.out⟩⟩
      · have hI : ¬ (n : Int) ≤ 100 := by omega
        go_wp2
        go_ret2
        exact ⟨HB.out, .inl ⟨HLow.out, _, by rw [HL.out, decide_eq_false h100]; rfl, HO.out⟩⟩

theorem inn_size211 {x : Ent} (h : x.key.size ≤ 100) : (innB x).size ≤ 211 := by
  have h1 := esc_length x.key.data.toList
  have h2 : x.key.data.toList.length = x.key.size := Array.length_toList
  have h3 : (innB x).size = (inner x.key.data.toList x.rev x.del).length := by
    unfold innB
    show (inner x.key.data.toList x.rev x.del).toArray.size = _
    simp
  rw [h3, inner, List.length_append, innTo_length, List.length_singleton]
  omega

theorem good_rows {es : List Ent} (hl : Low14 es) (hn : es.length ≤ 100) (h0 : rowsL es ≠ []) : GoodK (rowsL es) 211 := by
  obtain ⟨h1, h2, h3⟩ := rowsL_all es
  refine ⟨h0, h1, fun k hk => ?_, by omega, by omega⟩
  obtain ⟨x, hx, rfl⟩ := h3 k hk
  exact inn_size211 (hl x hx)

theorem check_rows {es : List Ent} (hv : ∀ x ∈ es, x.rev < 18446744073709551616) (h0 : rowsL es ≠ []) {split : Int} (hs : 1 ≤ split) : checkL (rowsL es) split = 0 := by
  obtain ⟨h1, h2, h3⟩ := rowsL_all es
  unfold checkL
  rw [if_neg (by rintro (e | e); exact h0 e; omega), if_neg, if_neg]
  · intro h
    rw [List.any_eq_true] at h
    obtain ⟨i, hi, hb⟩ := h
    rw [List.mem_range] at hi
    have hi1 : i + 1 < (rowsL es).length := by omega
    have := steps_of_rises h1 (i + 1) (by omega) hi1 ((rowsL es).getD i ⟨#[]⟩) ((rowsL es).getD (i + 1) ⟨#[]⟩) (by
      rw [Nat.add_sub_cancel, List.getD_eq_getElem?_getD, List.getElem?_eq_getElem (by omega)]
      rfl) (by
      rw [List.getD_eq_getElem?_getD, List.getElem?_eq_getElem hi1]
      rfl)
    rw [this] at hb
    simp at hb
  · intro h
    rw [List.any_eq_true] at h
    obtain ⟨k, hk, hb⟩ := h
    obtain ⟨x, hx, rfl⟩ := h3 k hk
    unfold innB at hb
    rw [show (ByteArray.mk (inner x.key.data.toList x.rev x.del).toArray).data.toList = inner x.key.data.toList x.rev x.del by simp, outer_inner _ _ _ (hv x hx)] at hb
    simp at hb
end Go.Proofs.YtfhdonidgegebaaDoor
