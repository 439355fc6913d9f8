/- The writer: rules, rows of them (written by gen_schwrow.py). -/
import Derived.Test.YtopnldebekhelaaDoorZSchFits
namespace Go.Proofs.YtopnldebekhelaaDoor
open Go Go.RowKit

/-- What a call of the writer's leaves. -/
def WrRes (w' : World) (B b : Nat) (l : List UInt8) (d : Int) (m : Nat) : Option (List UInt8) → Prop
  | some s => WAt w' B b (l ++ s) d false
  | none => ∃ l' : List UInt8, l'.length ≤ l.length + m ∧ WAt w' B b l' d true

def WPost (w : World) (B b : Nat) (l : List UInt8) (d : Int) (m : Nat) (r : Option (List UInt8)) (e : Ending) (w' : World) : Prop :=
  e = .returned (.tuple #[]) ∧ WrRes w' B b l d m r ∧ WF B b w w'

def orBad (bad : Bool) (r : Option (List UInt8)) : Option (List UInt8) := if bad = true then none else r

def RuleW (n : Nat) : Prop := ∀ (h : RuH) (ps : List (Tr RuH)), (Tr.mk h ps).depth ≤ n → ∀ (w : World) (B b : Nat) (l : List UInt8) (d : Nat) (bad : Bool) (above : Int) (a : Option Addr) (cap : Nat), ps.length ≤ cap → cap ≤ maxLen → TrsAt ruHd (· < B) 4 w a 0 ps → WAt w B b l d bad → B ≤ w.heap.size → l.length + (Tr.mk h ps).wt ≤ 900000000 → (bad = false → d ≤ 8) →
  Calls Tryd.prog 28 #[.pointer (some ⟨b, 0, none⟩), .agg #[.int .i64 h.kind, .string h.a, .string h.b, .slice a ps.length cap], .int .i64 above] w (WPost w B b l d ((Tr.mk h ps).wt - 3) (orBad bad (textF above d (.mk h ps))))

/-- How far a row has come. -/
def RowSt (l : List UInt8) (k : Int) (d : Nat) (sep : List UInt8) (ps : List (Tr RuH)) (R : Option (List UInt8)) (i : Nat) (li : List UInt8) (bd : Bool) : Prop :=
  li.length + (if i = 0 then 0 else 3) ≤ l.length + wtL (ps.take i) ∧ ((bd = true ∧ R = none) ∨ (bd = false ∧ d ≤ 8 ∧ ∃ acc, li = l ++ acc ∧ R = (goT k d sep (decide (i = 0)) (ps.drop i)).map (acc ++ ·)))

theorem wtL_snoc (ps : List (Tr RuH)) {i : Nat} {p : Tr RuH} (h : ps[i]? = some p) : wtL (ps.take (i + 1)) = wtL (ps.take i) + p.wt := by
  rw [List.take_add_one, h, Option.toList_some, wtL_append, wtL_one]
theorem wtL_take (ps : List (Tr RuH)) (i : Nat) : wtL (ps.take i) ≤ wtL ps := by
  have : wtL ps = wtL (ps.take i) + wtL (ps.drop i) := by rw [← wtL_append, List.take_append_drop]
  omega

/-- The sign ahead of a part, once it stands. -/
def sepI (sep : List UInt8) (i : Nat) : List UInt8 := if i = 0 then [] else sep

theorem rowSt_next {w4 : World} {B b : Nat} {l sep li : List UInt8} {k : Int} {d : Nat} {ps : List (Tr RuH)} {R : Option (List UInt8)} {i : Nat} {bd : Bool} {p : Tr RuH} (h : RowSt l k d sep ps R i li bd ∧ sep.length = 3) (hp : ps[i]? = some p)
    (hr : WrRes w4 B b (li ++ sepI sep i) d (p.wt - 3) (orBad bd (textF k d p))) : ∃ l4 bd4, WAt w4 B b l4 d bd4 ∧ RowSt l k d sep ps R (i + 1) l4 bd4 := by
  obtain ⟨⟨h1, h2⟩, h3⟩ := h
  have hw := wtL_snoc ps hp
  have hge := wt_ge p
  have hs : (sepI sep i).length = if i = 0 then 0 else 3 := by unfold sepI; split <;> simp [h3]
  have hi1 : (if i + 1 = 0 then 0 else 3) = 3 := by simp
  rcases h2 with ⟨rfl, rfl⟩ | ⟨rfl, hd8, acc, rfl, rfl⟩
  · obtain ⟨l', e1, e2⟩ := hr
    rw [List.length_append] at e1
    exact ⟨l', true, e2, by rw [hi1]; omega, .inl ⟨rfl, rfl⟩⟩
  · rw [show orBad false (textF k d p) = textF k d p from rfl] at hr
    have hd : ps.drop i = p :: ps.drop (i + 1) := (List.getElem_cons_drop (h := (List.getElem?_eq_some_iff.1 hp).1)).symm.trans (by rw [(List.getElem?_eq_some_iff.1 hp).2])
    cases ht : textF k d p with
    | none =>
      rw [ht] at hr
      obtain ⟨l', e1, e2⟩ := hr
      rw [List.length_append] at e1
      refine ⟨l', true, e2, by rw [hi1]; omega, .inl ⟨rfl, ?_⟩⟩
      rw [hd, goT_cons, ht]; rfl
    | some s =>
      rw [ht] at hr
      have hl := textF_wt k d p s ht
      refine ⟨_, false, hr, ?_, .inr ⟨rfl, hd8, acc ++ sepI sep i ++ s, by simp, ?_⟩⟩
      · rw [hi1]
        simp only [List.length_append] at h1 ⊢
        omega
      · rw [hd, goT_cons, ht]
        have e0 : decide (i + 1 = 0) = false := by simp
        rw [e0]
        cases hg : goT k d sep false (ps.drop (i + 1)) with
        | none => rfl
        | some r =>
          have e1 : (if decide (i = 0) = true then ([] : List UInt8) else sep) = sepI sep i := by unfold sepI; simp
          simp only [Option.map_some]
          rw [e1]
          simp

def RwWRel (w1 : World) (B b n : Nat) (l : List UInt8) (k : Int) (d : Nat) (sep : List UInt8) (ps : List (Tr RuH)) (R : Option (List UInt8)) (iv : Value) (wr : World) : Prop :=
  ∃ (i : Nat) (li : List UInt8) (bd : Bool), iv = .int .i64 (i : Int) ∧ i ≤ n ∧ WAt wr B b li d bd ∧ WF B b w1 wr ∧ RowSt l k d sep ps R i li bd

set_option maxRecDepth 100000 in
set_option maxHeartbeats 4000000 in
theorem wrow_any (n0 : Nat) (ih : RuleW n0) (h : RuH) (ps : List (Tr RuH)) (hd : ∀ p ∈ ps, p.depth ≤ n0) (w : World) (B b : Nat) (l : List UInt8) (d : Nat) (bad : Bool) (sep : ByteArray) (hsep : sep.size = 3) (a : Option Addr) (cap : Nat) (hcap : ps.length ≤ cap) (hmax : cap ≤ maxLen)
    (ht : TrsAt ruHd (· < B) 4 w a 0 ps) (hw : WAt w B b l d bad) (hB : B ≤ w.heap.size) (hl : l.length + wtL ps ≤ 900000000) (hd8 : bad = false → d ≤ 8) :
    Calls Tryd.prog 51 #[.pointer (some ⟨b, 0, none⟩), .agg #[.int .i64 h.kind, .string h.a, .string h.b, .slice a ps.length cap], .string sep] w (WPost w B b l d (wtL ps) (orBad bad (goT h.kind d sep.data.toList true ps))) := by
  obtain ⟨R, hR⟩ : ∃ R, (orBad bad (goT h.kind d sep.data.toList true ps)) = R := ⟨_, rfl⟩
  rw [hR]
  obtain ⟨n, hn⟩ : ∃ n, ps.length = n := ⟨_, rfl⟩
  have hsl : sep.data.toList.length = 3 := by rw [← hsep]; exact Array.length_toList
  rw [hn] at hcap ⊢
  unfold maxLen at hmax
  have hst0 : RowSt l h.kind d sep.data.toList ps R 0 l bad := by
    refine ⟨by simp, ?_⟩
    rw [← hR]
    cases bad with
    | true => exact .inl ⟨rfl, rfl⟩
    | false => exact .inr ⟨rfl, hd8 rfl, [], by simp, by simp [orBad]⟩
  obtain ⟨w1, hw1⟩ : ∃ W, W = w.alloc (.cells #[.int .i64 h.kind, .string h.a, .string h.b, .slice a n cap] 42) := ⟨_, rfl⟩
  have hb1 : Below w.heap.size w w1 := by rw [hw1]; exact (Below.refl _ _).alloc (Nat.le_refl _) _
  have HX1 := Lib.hid (show w1.heap[w.heap.size]? = some (.cells #[.int .i64 h.kind, .string h.a, .string h.b, .slice a n cap] 42 (0, 0)) by rw [hw1]; exact heap_alloc_new w _)
  have HWF1 := Lib.hid (WF.of_below (b := b) hb1 hB)
  have HW1 := Lib.hid (hw.below hb1)
  have HTr := Lib.hid (TrsAt.keep (Keeps.of_below (hb1.mono hB)) (ruHd_keep (Keeps.of_below (hb1.mono hB))) ps ht)
  have hbw : b < w.heap.size := hw.lt
  have hBb : B ≤ b := hw.cells.1
  have HA := Lib.hid hw1
  have HSt0 := Lib.hid hst0
  have HL := Lib.hid hn
  have HDp := Lib.hid hd
  have hs1 : w1.heap.size = w.heap.size + 1 := by rw [hw1]; simp
  clear hw1 hb1 hw ht hR hst0 hn hd
  go_enter Tryd.func51, Tryd.ntmps51
  go_upto_region 1 with fail
  rw [← HA.out]
  clear HA
  have x0 := Lib.cell_of_heap HX1.out 0; have x3 := Lib.cell_of_heap HX1.out 3
  simp at x0 x3
  have hlt1 : w.heap.size < w1.heap.size := by omega
  go_wp2
  clear x0 x3
  go_loopw [11] (fun iv wr => RwWRel w1 B b n l h.kind d sep.data.toList ps R iv wr) (fun iv _ => n - (intOf iv).toNat)
  case atStart => exact ⟨0, l, bad, rfl, Nat.zero_le _, HW1.out, WF.refl _ _ _, HSt0.out⟩
  case round =>
    obtain ⟨i, li, bd, rfl, hin, hwr, hf, hst⟩ := hrel
    have HF := Lib.hid hf
    have hwB : B ≤ wr.heap.size := Nat.le_trans hB (Nat.le_trans (by omega) hf.size)
    have hN : w.heap.size < wr.heap.size := Nat.lt_of_lt_of_le hlt1 hf.size
    have hxr := hf.typ _ _ _ _ HX1.out (by decide) (by omega)
    by_cases hlt : i < n
    · have hltI : (i : Int) < n := by omega
      obtain ⟨x, hx⟩ : ∃ x, ps[i]? = some x := ⟨ps[i]'(by rw [HL.out]; exact hlt), List.getElem?_eq_getElem _⟩
      obtain ⟨b2, off, cs, rfl, hbB, hbl, hcl, hcs, htr⟩ := (TrsAt.keep (Keeps.of_below hf.below) (ruHd_keep (Keeps.of_below hf.below)) ps HTr.out).get hx
      have hxm := List.mem_of_getElem? hx
      obtain ⟨xh, xp⟩ := x
      obtain ⟨xa, xcap, rfl, x1, x2, xt⟩ := trRu_open htr
      have k0 := hcs 0 _ rfl; have k1 := hcs 1 _ rfl; have k2 := hcs 2 _ rfl; have k3 := hcs 3 _ rfl
      simp only [Nat.zero_add, Nat.add_zero] at k0 k1 k2 k3
      have hwt := wtL_snoc ps hx
      have hwt2 := wtL_take ps (i + 1)
      have hll := hst.1
      have hd8' : bd = false → d ≤ 8 := fun hb => hst.2.elim (fun h => by rw [h.1] at hb; cases hb) (fun h => h.2.1)
      have hll2 : li.length + 3 ≤ l.length + wtL (ps.take i) ∨ i = 0 := by
        by_cases h0 : i = 0
        · exact .inr h0
        · rw [if_neg h0] at hll; exact .inl hll
      have hll3 : li.length ≤ l.length + wtL (ps.take i) := Nat.le_trans (Nat.le_add_right _ _) hll
      have hge := wt_ge (.mk xh xp)
      obtain ⟨w2, hw2⟩ : ∃ W, W = wr.alloc (.cells #[.int .i64 xh.kind, .string xh.a, .string xh.b, .slice xa xp.length xcap] 42) := ⟨_, rfl⟩
      have hb2 : Below wr.heap.size wr w2 := by rw [hw2]; exact (Below.refl _ _).alloc (Nat.le_refl _) _
      have hs2 : w2.heap.size = wr.heap.size + 1 := by rw [hw2]; simp
      have HY := Lib.hid (show w2.heap[wr.heap.size]? = some (.cells #[.int .i64 xh.kind, .string xh.a, .string xh.b, .slice xa xp.length xcap] 42 (0, 0)) by rw [hw2]; exact heap_alloc_new wr _)
      have HF2 := Lib.hid (hf.trans (WF.of_below (b := b) hb2 hwB))
      have HW2 := Lib.hid (hwr.below hb2)
      have HX2 := Lib.hid ((hb2.block _ hN).trans hxr)
      have HXt := Lib.hid (TrsAt.keep (Keeps.of_below (hb2.mono hwB)) (ruHd_keep (Keeps.of_below (hb2.mono hwB))) xp xt)
      have HSt := Lib.hid (And.intro hst hsl)
      have HPi := Lib.hid hx
      have HA2 := Lib.hid hw2
      have hbr : b < wr.heap.size := Nat.lt_of_lt_of_le hbw (Nat.le_trans (by omega) hf.size)
      clear hcl htr hcs hx hw2 hb2 hst hwr hf xt hxr HF HTr
      by_cases hi0 : i = 0
      · have hgt : ¬ (0 : Int) < i := by omega
        have hsp : sepI sep.data.toList i = [] := by unfold sepI; rw [if_pos hi0]
        have HIt := Lib.hid (ih xh xp (HDp.out _ hxm) w2 B b (li ++ sepI sep.data.toList i) d bd h.kind xa xcap x1 x2 HXt.out (by rw [hsp, List.append_nil]; exact HW2.out) (by omega) (by rw [hsp, List.append_nil]; omega) hd8')
        have HF3 := HF2
        clear hsp hi0
        go_upto_region 6 with fail
        rw [← HA2.out]
        have y0 := Lib.cell_of_heap HY.out 0; have y1 := Lib.cell_of_heap HY.out 1; have y2 := Lib.cell_of_heap HY.out 2; have y3 := Lib.cell_of_heap HY.out 3
        have z0 := Lib.cell_of_heap HX2.out 0
        simp at y0 y1 y2 y3 z0
        have hl1 : wr.heap.size < w2.heap.size := by omega
        have hl2 : w.heap.size < w2.heap.size := by omega
        clear k0 k1 k2 k3 hll hll2 hll3 hwt hwt2
        go_wp2_with (go_at_call 28; go_must (refine HIt.out.mono ?_))
        rintro e w4 ⟨rfl, hres, hf4⟩
        have HF4 := Lib.hid (HF3.out.trans hf4)
        obtain ⟨l4, bd4, hw4, hst4⟩ := rowSt_next HSt.out HPi.out hres
        have HW4 := Lib.hid hw4
        have HSt4 := Lib.hid hst4
        clear hw4 hst4 hres hf4 HIt HSt HF3
        go_wp2
        exact ⟨⟨i + 1, l4, bd4, by go_num, by omega, HW4.out, HF4.out, HSt4.out⟩, by simp [intOf]; omega⟩
      · have hgt : (0 : Int) < i := by omega
        have hsp : sepI sep.data.toList i = sep.data.toList := by unfold sepI; rw [if_neg hi0]
        have hll4 := hll2.resolve_right hi0
        have HWs := Lib.hid (wstr_any w2 B b li d bd sep HW2.out (by omega) (by omega))
        clear hi0
        go_upto_region 5 with fail
        rw [← HA2.out]
        go_wp2_with (go_at_call 26; go_must (refine HWs.out.mono ?_))
        rintro e w3 ⟨rfl, hw3, hf3⟩
        have hlen : (li ++ sepI sep.data.toList i).length = li.length + 3 := by rw [hsp, List.length_append, hsl]
        have hB3 : B ≤ w3.heap.size := Nat.le_trans (by omega) hf3.size
        have HIt := Lib.hid (ih xh xp (HDp.out _ hxm) w3 B b (li ++ sepI sep.data.toList i) d bd h.kind xa xcap x1 x2 (TrsAt.keep (Keeps.of_below hf3.below) (ruHd_keep (Keeps.of_below hf3.below)) xp HXt.out) (by rw [hsp]; exact hw3) hB3 (by rw [hlen]; omega) hd8')
        have hy := hf3.typ _ _ _ _ HY.out (by decide) (by omega)
        have hx3 := hf3.typ _ _ _ _ HX2.out (by decide) (by omega)
        have y0 := Lib.cell_of_heap hy 0; have y1 := Lib.cell_of_heap hy 1; have y2 := Lib.cell_of_heap hy 2; have y3 := Lib.cell_of_heap hy 3
        have z0 := Lib.cell_of_heap hx3 0
        simp at y0 y1 y2 y3 z0
        have HF3 := Lib.hid (HF2.out.trans hf3)
        have hl1 : wr.heap.size < w3.heap.size := Nat.lt_of_lt_of_le (by omega) hf3.size
        have hl2 : w.heap.size < w3.heap.size := by omega
        clear hll4 hsp hlen hw3 hf3 hy hx3 k0 k1 k2 k3 hll hll2 hll3 hwt hwt2
        go_wp2_with (go_at_call 28; go_must (refine HIt.out.mono ?_))
        rintro e w4 ⟨rfl, hres, hf4⟩
        have HF4 := Lib.hid (HF3.out.trans hf4)
        obtain ⟨l4, bd4, hw4, hst4⟩ := rowSt_next HSt.out HPi.out hres
        have HW4 := Lib.hid hw4
        have HSt4 := Lib.hid hst4
        clear hw4 hst4 hres hf4 HIt HSt HF3
        go_wp2
        exact ⟨⟨i + 1, l4, bd4, by go_num, by omega, HW4.out, HF4.out, HSt4.out⟩, by simp [intOf]; omega⟩
    · obtain rfl : i = n := by omega
      have hltI : ¬ (i : Int) < i := by omega
      have hres : WrRes wr B b l d (wtL ps) R := by
        obtain ⟨h1, ⟨rfl, rfl⟩ | ⟨rfl, _, acc, rfl, h2⟩⟩ := hst
        · exact ⟨li, by have := wtL_take ps i; have := Nat.le_trans (Nat.le_add_right _ _) h1; omega, hwr⟩
        · rw [List.drop_of_length_le (by rw [HL.out]; exact Nat.le_refl _), goT_nil] at h2
          have h3 : R = some acc := by rw [h2]; simp
          rw [h3]
          exact hwr
      have HRes := Lib.hid hres
      have HFf := Lib.hid (HWF1.out.trans hf)
      clear hres hst hwr hf HF HTr hxr
      go_wp2
      exact bodyPost_end (by simp [results, Tryd.results51]) rfl ⟨rfl, HRes.out, HFf.out⟩
end Go.Proofs.YtopnldebekhelaaDoor
