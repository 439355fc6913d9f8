import Derived.Test.YtodjgdaaggajcaaDoorFrameRefAll
import Derived.Test.YtodjgdaaggajcaaDoorFrameSame
namespace Go.Proofs.YtodjgdaaggajcaaDoor
open Go Go.RowKit

/-- A row of rows of bytes, all the call's own, whatever bytes they are. -/
def WAll (B : Nat) (w : World) (v : Value) (K : Nat) (vs : List Value) : Prop :=
  w.ownsRow B 22 1 v K vs ∧ ∀ (i : Nat) (u : Value), vs[i]? = some u → ∃ (n : Nat) (zs : List UInt8), w.ownsRow B 5 1 u n (bcells zs)

theorem ORows.wall {B : Nat} {w : World} {v : Value} {k : Nat} {ps : List (List UInt8)} (h : ORows B w v k ps) : ∃ vs, WAll B w v k vs := by
  obtain ⟨vs, h1, h2, h3⟩ := h
  refine ⟨vs, h1, fun i u hu => ?_⟩
  have hvl : vs.length = k := by have := h1.1; simpa using this
  have hi := (List.getElem?_eq_some_iff.1 hu).1
  have hp : ps[i]? = some (ps[i]'(by omega)) := List.getElem?_eq_getElem (by omega)
  obtain ⟨x, e, hx⟩ := h3 i _ hp
  rw [hu] at e
  cases e
  exact ⟨_, _, hx⟩

theorem setCell_grown (w : World) (g j : Nat) (u : Value) : w.grownBy (w.setCell ⟨g, j, none⟩ u) (some g) :=
  ⟨rfl, rfl, rfl, by simp, fun k _ hk => heap_setCell_other w ⟨g, j, none⟩ k u (fun e => hk (by simp [e]))⟩

/-- A byte is stored into a row: it is a row of bytes still, and so is any other. -/
theorem wrow_stored {B : Nat} {w : World} {x : Value} {n : Nat} {zs : List UInt8} (h : w.ownsRow B 5 1 x n (bcells zs)) (g j : Nat) (c : UInt8) :
    ∃ zs', (w.setCell ⟨g, j, none⟩ (.int .u8 (c.toNat : Int))).ownsRow B 5 1 x n (bcells zs') := by
  by_cases hx : x.ownBlock = some g
  · rcases h.2 with ⟨rfl, _⟩ | ⟨g', cap, cur, rfl, _⟩
    · cases hx
    · simp [Value.ownBlock] at hx
      subst hx
      refine ⟨zs.set j c, ?_⟩
      have := (World.ownsRow.stored h j (.int .u8 (c.toNat : Int))).1
      simpa [bcells, List.map_set] using this
  · exact ⟨zs, h.kept (setCell_grown w g j _) (by cases hb : x.ownBlock with | none => exact .inl rfl | some b => exact .inr (by rw [hb] at hx; exact hx))⟩

theorem WAll.stored {B : Nat} {w : World} {v : Value} {K : Nat} {vs : List Value} (h : WAll B w v K vs) {x : Value} {g n : Nat} {zs : List UInt8} (hx : w.ownsRow B 5 1 x n (bcells zs)) (hxg : x.ownBlock = some g) (j : Nat) (c : UInt8) :
    WAll B (w.setCell ⟨g, j, none⟩ (.int .u8 (c.toNat : Int))) v K vs := by
  refine ⟨h.1.kept (setCell_grown w g j _) ?_, fun i u hu => ?_⟩
  · have := rows_apart h.1 hx (by decide)
    rwa [hxg] at this
  · obtain ⟨m, zs', hz⟩ := h.2 i u hu
    obtain ⟨zs2, h2⟩ := wrow_stored hz g j c
    exact ⟨m, zs2, h2⟩

/-- What was read ahead of the call reads as it did, behind writes to new blocks alone. -/
theorem old_reads {w w7 w' : World} {B n : Nat} {v : Value} {l : List UInt8} (h : Reads w 1 v n (bcells l)) (h7 : Below w.heap.size w w7) (hb : Below B w7 w') (hB : w.heap.size ≤ B) : Reads w' 1 v n (bcells l) :=
  h.below' (h7.trans (hb.mono hB))

def TurnOut (B : Nat) (w7 : World) (v : Value) (K : Nat) (vs : List Value) (c : Value) (wr : World) : Prop :=
  ∃ i : Nat, c = .int .i64 (i : Int) ∧ i ≤ K ∧ WAll B wr v K vs ∧ Below B w7 wr

def TurnIn (B : Nat) (w7 : World) (v : Value) (K m : Nat) (vs : List Value) (c : Value) (wr : World) : Prop :=
  ∃ j : Nat, c = .int .i64 (j : Int) ∧ j ≤ m ∧ WAll B wr v K vs ∧ Below B w7 wr

theorem plus_one (c : UInt8) : ∃ d : UInt8, IntKind.u8.wrap ((c.toNat : Int) + 1) = (d.toNat : Int) := by
  refine ⟨UInt8.ofNat (c.toNat + 1), ?_⟩
  rw [IntKind.wrap_u8]
  simp

set_option maxRecDepth 100000 in
set_option maxHeartbeats 2000000 in
theorem frameReads_walk (w : World) (a : Option Addr) (n cap : Nat) (l : List UInt8) (h : Reads w 1 (.slice a n cap) n (bcells l)) (hst : Steps w) :
    Calls Tryd.prog 4 #[.slice a n cap] w (SaysTrue w) := by
  obtain ⟨i0, hi, hz0, hz1, hz2⟩ := info_parts info5
  obtain ⟨_, _, hv, h1, h2⟩ := h.le
  cases hv
  unfold maxLen at h2
  have hl : l.length = n := by have := h.1; simpa [bcells_length] using this
  have Hl := Lib.hid hl
  have HR := Lib.hid h
  have ST := Lib.hid hst
  have HV0 := Lib.hid (show (n = 0 ∨ ∃ g off cp, Value.slice a n cap = .slice (some ⟨g, off, none⟩) n cp) from by
    by_cases hn : n = 0
    · exact .inl hn
    · obtain ⟨b, off, cp, hv, _⟩ := h.head (by omega)
      exact .inr ⟨b, off, cp, hv⟩)
  clear hl h hst
  by_cases hn : 3000 < n
  · have hn' : (3000 : Int) < n := by omega
    go_enter Tryd.func4, Tryd.ntmps4
    go_wp2_with (go_at_call 7; go_must (refine (frame_fixed w ST.out).mono ?_))
    rintro e w1 ⟨rfl, b1⟩
    go_wp2
    go_ret
    exact ⟨rfl, b1⟩
  · have hn' : ¬ (3000 : Int) < n := by omega
    go_enter Tryd.func4, Tryd.ntmps4
    go_wp2_with (go_at_call 7; go_must (refine (frame_fixed w ST.out).mono ?_))
    rintro e w1 ⟨rfl, b1⟩
    have r1 := HR.out.below' b1
    have bs1 := b1.size
    have hsrc := Reads.src (P := Tryd.prog) (tx := 22) Tryd.underlying22 (r1.alloc (.cells #[] 5)) (bcells_one l)
    have hf0 : (w1.alloc (.cells #[] 5)).ownsRow w1.heap.size 5 1 (.slice (some ⟨w1.heap.size, 0, none⟩) 0 0) 0 [] := World.ownsRow_lit w1 #[] 0 (Nat.le_refl _) (Nat.zero_le _) rfl
    go_wp2_with (at_builtin; go_must (refine wpList_append_owns rfl _ _ 22 22 rfl w1.heap.size 5 i0 (.int .u8 0) 1 1 Tryd.underlying22 hi hz0 hz1 hz2 rfl _ _ _ rfl hf0 _ _ _ rfl hsrc ?_ ?_ ?_ ?_))
    · unfold maxLen; omega
    · omega
    · simp
    intro v2 w2 o2 g2 b2 m2
    have b12 : Below w1.heap.size w1 w2 := ((Below.refl _ _).alloc (Nat.le_refl _) _).trans b2
    have b02 : Below w.heap.size w w2 := b1.trans (b12.mono bs1)
    have ho2 : v2 = .slice none 0 0 ∨ ∃ g off cp, v2 = .slice (some ⟨g, off, none⟩) n cp := by
      rcases o2.2 with ⟨hv, _⟩ | ⟨g, cp, cur, hv, _⟩
      · exact .inl hv
      · exact .inr ⟨g, 0, cp, hv⟩
    have hlt2 := o2.lt
    have O2 := Lib.hid (show w2.ownsRow w1.heap.size 5 1 v2 n (bcells l) from by simpa using o2)
    have HO2 := Lib.hid ho2
    have HLT2 := Lib.hid hlt2
    have R2 := Lib.hid (HR.out.below' b02)
    have S2 := Lib.hid (ST.out.below b02)
    have B02 := Lib.hid b02
    have bs2 := b02.size
    clear hsrc hf0 o2 g2 b2 m2 r1 b1 b12 b02 ho2 hlt2
    go_wp2_with (go_at_call 9; go_must (refine (fnext_any w2 v2 n l (ownsRow.reads O2.out) (by omega) S2.out).mono ?_))
    rintro e w3 ⟨v3, rfl, f3, b3⟩
    have R3 := Lib.hid (R2.out.below' b3)
    have P3 := Lib.hid (ownsRow.reads f3)
    have O3 := Lib.hid (owns_below O2.out b3)
    have S3 := Lib.hid (S2.out.below b3)
    have B03 := Lib.hid (B02.out.trans (b3.mono bs2))
    have bs3 := b3.size
    clear f3 b3
    go_wp2_with (go_at_call 13; go_must (refine (refnext_any w3 _ n l R3.out (by omega)).mono ?_))
    rintro e w4 ⟨v4, rfl, q4, hob4, b4⟩
    have R4 := Lib.hid (R3.out.below' b4)
    have P4 := Lib.hid (P3.out.below' b4)
    have Q4 := Lib.hid q4
    have O4 := Lib.hid (owns_below O3.out b4)
    have S4 := Lib.hid (S3.out.below b4)
    have B04 := Lib.hid (B03.out.trans (b4.mono (by omega)))
    have bs4 := b4.size
    clear q4 hob4 b4
    go_wp2_with (go_at_call 14; go_must (refine (all_any w4 v2 n l (ownsRow.reads O4.out) HO2.out (by omega) S4.out).mono ?_))
    rintro e w5 ⟨v5, rfl, l5, b5⟩
    have R5 := Lib.hid (R4.out.below' b5)
    have P5 := Lib.hid (P4.out.below' b5)
    have Q5 := Lib.hid (Q4.out.below' b5)
    have O5 := Lib.hid (owns_below O4.out b5)
    have L5 := Lib.hid l5
    have B05 := Lib.hid (B04.out.trans (b5.mono (by omega)))
    have B45 := Lib.hid b5
    have bs5 := b5.size
    clear l5 b5
    go_wp2_with (go_at_call 15; go_must (refine (refall_any w5 _ n l R5.out HV0.out (by omega)).mono ?_))
    rintro e w6 ⟨v6, rfl, k6, b6⟩
    have R6 := Lib.hid (R5.out.below' b6)
    have P6 := P5.out.below' b6
    have Q6 := Q5.out.below' b6
    have O6 := owns_below O5.out b6
    have L6 := Lib.hid (L5.out.below' b6)
    have K6 := Lib.hid k6.rows
    have B06 := Lib.hid (B05.out.trans (b6.mono (by omega)))
    have B46 := Lib.hid (B45.out.trans (b6.mono bs5))
    have bs6 := b6.size
    have cv1 := Reads.conv (P := Tryd.prog) (src := 22) (e := 5) (dst := 9) Tryd.underlying22 Tryd.underlying5 Tryd.underlying9 (ownsRow.reads O6)
    have cv2 := Reads.conv (P := Tryd.prog) (src := 22) (e := 5) (dst := 9) Tryd.underlying22 Tryd.underlying5 Tryd.underlying9 R6.out
    have cv3 := Reads.conv (P := Tryd.prog) (src := 22) (e := 5) (dst := 9) Tryd.underlying22 Tryd.underlying5 Tryd.underlying9 P6
    have cv4 := Reads.conv (P := Tryd.prog) (src := 22) (e := 5) (dst := 9) Tryd.underlying22 Tryd.underlying5 Tryd.underlying9 Q6
    have e1 : ((nextN l : Int) != (nextN l : Int)) = false := by simp
    have e2 : (((nextL l).1 : Int) != ((nextL l).1 : Int)) = false := by simp
    have e3 : (((allL l).2 : Int) != ((allL l).2 : Int)) = false := by simp
    have HO6 := Lib.hid O6
    clear P6 Q6 O6 k6 b6
    go_wp2_with (go_at_call 16; go_must (refine (same_any w6 _ _ _ (allL l).1 L6.out.rows K6.out).mono ?_))
    rintro e w7 ⟨rfl, b7⟩
    have L7 := L6.out.below' b7
    have B47 := Lib.hid (B46.out.trans (b7.mono (by omega)))
    have B07 := Lib.hid (B06.out.trans (b7.mono (by omega)))
    have HO7 := Lib.hid (owns_below HO6.out b7)
    have bs7 := b7.size
    obtain ⟨vs, hwl⟩ := L7.wall
    obtain ⟨a5, c5, rfl, hc5, hc5'⟩ := (ownsRow.reads hwl.1).le
    unfold maxLen at hc5'
    have HWL := Lib.hid hwl
    clear cv1 cv2 cv3 cv4 e1 e2 e3 L7 b7 hwl
    generalize (allL l).1.length = K at *
    go_wp2
    go_loopw [81] (fun c wr => TurnOut w4.heap.size w7 (.slice a5 K c5) K vs c wr) (fun c _ => K - (intOf c).toNat)
    case atStart => exact ⟨0, rfl, Nat.zero_le _, HWL.out, Below.refl _ _⟩
    case round =>
      obtain ⟨i, rfl, hi', hwa, hb⟩ := hrel
      by_cases hiK : i < K
      · have hiK' : (i : Int) < K := by omega
        obtain ⟨gl, rfl⟩ : ∃ gl, a5 = some ⟨gl, 0, none⟩ := by
          rcases hwa.1.2 with ⟨_, h0⟩ | ⟨g', cp', _, hv, _⟩
          · omega
          · cases hv
            exact ⟨g', rfl⟩
        have hvl : vs.length = K := by have := hwa.1.1; simpa using this
        have hu : vs[i]? = some (vs[i]'(by omega)) := List.getElem?_eq_getElem (by omega)
        generalize vs[i]'(by omega) = u at hu
        obtain ⟨m, zs0, hz0'⟩ := hwa.2 i u hu
        obtain ⟨ai, ci, rfl, hci, hci'⟩ := (ownsRow.reads hz0').le
        unfold maxLen at hci'
        have ci0 := hwa.1.cellAt i (by omega)
        rw [hu] at ci0
        have Hu := Lib.hid hu
        have Hwa := Lib.hid hwa
        have Hb := Lib.hid hb
        clear hz0' hvl hu hwa hb
        go_wp2
        go_loopw [89] (fun c wr => TurnIn w4.heap.size w7 (.slice (some ⟨gl, 0, none⟩) K c5) K m vs c wr) (fun c _ => m - (intOf c).toNat)
        case atStart => exact ⟨0, rfl, Nat.zero_le _, Hwa.out, Hb.out⟩
        case round =>
          obtain ⟨j, rfl, hj, hwa, hb⟩ := hrel
          by_cases hjm : j < m
          · have hjm' : (j : Int) < m := by omega
            obtain ⟨m2, zs, hz⟩ := hwa.2 i _ Hu.out
            obtain ⟨_, _, hv2, _, _⟩ := (ownsRow.reads hz).le
            cases hv2
            obtain ⟨g, rfl⟩ : ∃ g, ai = some ⟨g, 0, none⟩ := by
              rcases hz.2 with ⟨_, h0⟩ | ⟨g', cp', _, hv, _⟩
              · omega
              · cases hv
                exact ⟨g', rfl⟩
            have hzl : zs.length = m := by have := hz.1; simpa [bcells_length] using this
            have cl := hwa.1.cellAt i (by omega)
            rw [Hu.out] at cl
            have cj := hz.cellAt j (by omega)
            have hbg : (bcells zs)[j]? = some (.int .u8 ((zs.getD j 0).toNat : Int)) := by
              simp only [bcells, List.getElem?_map, List.getElem?_eq_getElem (show j < zs.length by omega), Option.map_some, List.getD, Option.getD_some]
            rw [hbg] at cj
            have fj := hz.frozenAt j
            have hlt := (hz.lt g rfl)
            obtain ⟨d, hd⟩ := plus_one (zs.getD j 0)
            generalize zs.getD j 0 = c at *
            have hst := hwa.stored hz rfl j d
            have hbz := hb.size
            have hbst : Below w4.heap.size w7 (wr.setCell ⟨g, j, none⟩ (.int .u8 (d.toNat : Int))) := hb.grown (setCell_grown wr g j _) (by omega) (fun k hk => by cases hk; omega)
            have Hst := Lib.hid hst
            have Hbst := Lib.hid hbst
            have Hd := Lib.hid hd
            clear hst hbst hd hbg hzl hwa hz hb ci0
            go_wp2
            have hde : ((c.toNat : Int) + 1) % 256 = (d.toNat : Int) := by
              have := Hd.out
              rwa [IntKind.wrap_u8] at this
            rw [hde]
            exact ⟨⟨j + 1, by go_num, by omega, Hst.out, Hbst.out⟩, by simp [intOf]; omega⟩
          · obtain rfl : j = m := by omega
            have hjm' : ¬ ((j : Int) < j) := by omega
            have Hwa2 := Lib.hid hwa
            clear hwa
            go_wp2
            exact ⟨⟨i + 1, by go_num, by omega, Hwa2.out, hb⟩, by simp [intOf]; omega⟩
      · obtain rfl : i = K := by omega
        have hiK' : ¬ ((i : Int) < i) := by omega
        have O8 := (ownsRow.reads HO7.out).below hb (fun x hx => by have := (HLT2.out x hx).2; omega)
        have R8 : Reads wr 1 (.slice a n cap) n (bcells l) := old_reads HR.out (B07.out) hb (by omega)
        have cv1 := Reads.conv (P := Tryd.prog) (src := 22) (e := 5) (dst := 9) Tryd.underlying22 Tryd.underlying5 Tryd.underlying9 O8
        have cv2 := Reads.conv (P := Tryd.prog) (src := 22) (e := 5) (dst := 9) Tryd.underlying22 Tryd.underlying5 Tryd.underlying9 R8
        have hb8 : Below w.heap.size w wr := B07.out.trans (hb.mono (by omega))
        clear O8 R8 hwa hb
        go_wp2
        go_ret
        exact ⟨rfl, hb8⟩
end Go.Proofs.YtodjgdaaggajcaaDoor
