/- What the proof stands on, part 10. -/
import Derived.Test.YtfhdonidgegebaaDoorMg9
/- decode. -/
namespace Go.Proofs.YtfhdonidgegebaaDoor
open Go Go.RowKit

def lastF (sp : List Span) : ByteArray := match sp.getLast? with | some s => s.first | none => ⟨#[]⟩

/-- What an index' bytes tell, whose blocks stand up to end_. -/
def decG (end_ : Nat) : Nat → Nat → List UInt8 → Nat → List Span → Option (List Span)
  | 0, _, _, _, _ => none
  | F + 1, n, rest, at_, sp =>
    if n = 0 then (if rest = [] ∧ sp ≠ [] ∧ at_ = end_ then some sp else none)
    else
      if ¬ ((getGo 0 0 (rest.drop (getText rest).2.1)).1 = at_) ∨ end_ - at_ < (getGo 0 0 ((rest.drop (getText rest).2.1).drop (getGo 0 0 (rest.drop (getText rest).2.1)).2.1)).1 then none
      else if sp ≠ [] ∧ bl (lastF sp) ⟨(getText rest).1.toArray⟩ = false then none
      else if (getText rest).2.2 = 0 ∧ (getGo 0 0 (rest.drop (getText rest).2.1)).2.2 = 0 ∧ (getGo 0 0 ((rest.drop (getText rest).2.1).drop (getGo 0 0 (rest.drop (getText rest).2.1)).2.1)).2.2 = 0 then
        decG end_ F (n - 1) (((rest.drop (getText rest).2.1).drop (getGo 0 0 (rest.drop (getText rest).2.1)).2.1).drop (getGo 0 0 ((rest.drop (getText rest).2.1).drop (getGo 0 0 (rest.drop (getText rest).2.1)).2.1)).2.1)
          (at_ + (getGo 0 0 ((rest.drop (getText rest).2.1).drop (getGo 0 0 (rest.drop (getText rest).2.1)).2.1)).1) (sp ++ [⟨⟨(getText rest).1.toArray⟩, at_, (getGo 0 0 ((rest.drop (getText rest).2.1).drop (getGo 0 0 (rest.drop (getText rest).2.1)).2.1)).1⟩])
      else none

def decL (b : List UInt8) (end_ : Nat) : Option (List Span) :=
  if (getGo 0 0 b).2.2 = 0 then decG end_ (b.length + 1) (getGo 0 0 b).1 (b.drop (getGo 0 0 b).2.1) 0 [] else none

def DecPost (w : World) (r : Option (List Span)) (e : Ending) (w' : World) : Prop :=
  Below w.heap.size w w' ∧ match r with
    | none => ∃ v, e = .returned (.tuple #[v, .bool false])
    | some sp => ∃ g, e = .returned (.tuple #[.pointer (some ⟨g, 0, none⟩), .bool true]) ∧ OIdx w.heap.size w' g sp

/-- How far decode has come. -/
def DecRel (B : Nat) (w0 : World) (gr gx end_ N : Nat) (R : Option (List Span)) (av nv : Value) (wr : World) : Prop :=
  ∃ (n : Nat) (rest : List UInt8) (bad : Bool) (at_ F : Nat) (sp : List Span), av = .int .i64 (at_ : Int) ∧ nv = .int .u64 (n : Int) ∧ n < 18446744073709551616 ∧ RdAt B wr gr rest bad ∧ OIdx B wr gx sp ∧ at_ ≤ end_ ∧ (bad = false → rest.length < F) ∧ sp.length + rest.length ≤ N + (if bad then 1 else 0) ∧
    R = (if bad then none else decG end_ F n rest at_ sp) ∧ Below B w0 wr

def rdLen (g : Nat) (wr : World) : Nat :=
  (match wr.cell? ⟨g, 0, none⟩ with | some (.slice _ n _) => n | _ => 0) + (match wr.cell? ⟨g, 1, none⟩ with | some (.bool true) => 0 | _ => 1)

theorem rdLen_at {B g : Nat} {w : World} {rest : List UInt8} {bad : Bool} (h : RdAt B w g rest bad) : rdLen g w = rest.length + (if bad then 0 else 1) := by
  obtain ⟨rv, hg, hs, _⟩ := h
  obtain ⟨a, cap, rfl, _, _⟩ := hs.reads.le
  unfold rdLen
  rw [Lib.cell_of_heap hg 0, Lib.cell_of_heap hg 1]
  cases bad <;> rfl

theorem RdAt.touch {B g : Nat} {w w' : World} {rest : List UInt8} {bad : Bool} (h : RdAt B w g rest bad) {x : Nat} (t : Touch w w' [x]) (hx : g ≠ x) (hB : B ≤ x) : RdAt B w' g rest bad := by
  obtain ⟨rv, hg, hs, hb⟩ := h
  exact ⟨rv, (t.block g (Array.getElem?_eq_some_iff.1 hg).1 (by simpa using hx)).trans hg, t.sl hs hB, hb⟩

theorem OIdx.touch {B g : Nat} {w w' : World} {sp : List Span} (h : OIdx B w g sp) {x : Nat} (t : Touch w w' [x]) (hx : ∀ q cs fz, w.heap[x]? = some (.cells cs q fz) → q ≠ 62 ∧ q ≠ 67) (hc : ∃ cs q fz, w.heap[x]? = some (.cells cs q fz)) : OIdx B w' g sp := by
  obtain ⟨v, h1, h2, h3⟩ := h
  obtain ⟨cs, q, fz, hc⟩ := hc
  obtain ⟨k1, k2⟩ := hx q cs fz hc
  have hgx : g ≠ x := fun e => by
    subst e
    rw [hc] at h1
    injection h1 with h1
    injection h1 with _ h1 _
    exact k1 h1
  refine ⟨v, (t.block g (Array.getElem?_eq_some_iff.1 h1).1 (by simpa using hgx)).trans h1, ⟨h2.1, ?_⟩, h3⟩
  rcases h2.2 with h0 | ⟨g', cap, cur, hv, hB, hh, hr⟩
  · exact .inl h0
  · have hgx : g' ≠ x := fun e => by
      subst e
      rw [hc] at hh
      injection hh with hh
      injection hh with _ hh _
      exact k2 hh
    exact .inr ⟨g', cap, cur, hv, hB, (t.block g' (Array.getElem?_eq_some_iff.1 hh).1 (by simpa using hgx)).trans hh, hr⟩

/-- The reader's call leaves the index. -/
theorem OIdx.read {B g gr : Nat} {w w' : World} {sp : List Span} {rest : List UInt8} {bad : Bool} (h : OIdx B w g sp) (hr : RdAt B w gr rest bad) (t : Touch w w' [gr]) : OIdx B w' g sp := by
  obtain ⟨rv, hg, _, _⟩ := hr
  refine h.touch t (fun q cs fz hq => ?_) ⟨_, _, _, hg⟩
  rw [hg] at hq
  injection hq with hq
  injection hq with _ hq _
  subst hq
  exact ⟨by decide, by decide⟩

theorem touch_below {B g : Nat} {w w' : World} (t : Touch w w' [g]) (hB : B ≤ g) (hs : B ≤ w.heap.size) : Below B w w' :=
  ⟨t.os, t.tape, t.output, t.size, fun k hk => t.block k (by omega) (by simp; omega)⟩

theorem getGo_errv : ∀ (l : List UInt8) (i V : Nat), ¬ (getGo i V l).2.2 = 0 → (getGo i V l).1 = 0
  | [], i, V, _ => by rw [getGo]
  | c :: l, i, V, h => by
    rw [getGo] at h ⊢
    split
    · rfl
    · rename_i h1
      rw [if_neg h1] at h
      split
      · rename_i h2
        rw [if_pos h2] at h
        exact getGo_errv l _ _ h
      · rename_i h2
        rw [if_neg h2] at h
        split
        · rfl
        · rename_i h3
          rw [if_neg h3] at h
          exact absurd rfl h

theorem getGo_lt (l : List UInt8) : (getGo 0 0 l).1 < 18446744073709551616 := by
  by_cases h : (getGo 0 0 l).2.2 = 0
  · exact (getGo_ok l 0 0 (getGo 0 0 l).1 (getGo 0 0 l).2.1 (by decide) (Prod.ext rfl (Prod.ext rfl h))).2.2.2
  · rw [getGo_errv l 0 0 h]
    decide

theorem getText_pos (l : List UInt8) (h : (getText l).2.2 = 0) : 0 < (getText l).2.1 := by
  unfold getText at h ⊢
  split
  · rename_i h0
    rw [if_pos h0] at h
    split
    · rename_i h1
      rw [if_pos h1] at h
      simp at h
    · have := getGo_ok l 0 0 (getGo 0 0 l).1 (getGo 0 0 l).2.1 (by decide) (Prod.ext rfl (Prod.ext rfl h0))
      show 0 < (getGo 0 0 l).2.1 + (getGo 0 0 l).1
      omega
  · rename_i h0
    rw [if_neg h0] at h
    exact absurd h h0

theorem RdAt.grown {B n g s : Nat} {w w' : World} {rest : List UInt8} {bad : Bool} {v : Value} {xs : List Value} (h : RdAt B w g rest bad) (ho : w.ownsRow B 67 s v n xs) (gr : w.grownBy w' v.ownBlock) (b : Below B w w') : RdAt B w' g rest bad := by
  obtain ⟨rv, h1, h2, h3⟩ := h
  exact ⟨rv, grown_other ho gr h1 (by decide), h2.below b, h3⟩

theorem dec_push {B gx gr L : Nat} {w5 : World} {xv v5 : Value} {sp : List Span} {s : Span} {rest : List UInt8} {bad : Bool} (k5 : w5.heap[gx]? = some (.cells #[xv] 62 (0, 0)))
    (o5 : w5.ownsRow B 67 3 v5 (L + 1) (spcells sp ++ s.cells)) (hL : sp.length = L) (r5 : RdAt B w5 gr rest bad) (hne : gr ≠ gx) (hB : B ≤ gx) :
    OIdx B (w5.setCell ⟨gx, 0, none⟩ v5) gx (sp ++ [s]) ∧ RdAt B (w5.setCell ⟨gx, 0, none⟩ v5) gr rest bad ∧ Below B w5 (w5.setCell ⟨gx, 0, none⟩ v5) := by
  refine ⟨⟨v5, ?_, ?_, hB⟩, r5.touch ((Touch.refl w5 [gx]).setCell (p := ⟨gx, 0, none⟩) (.inl (by simp)) v5) hne hB, (Below.refl B w5).setCell (p := ⟨gx, 0, none⟩) hB v5⟩
  · rw [heap_setCell_same _ _ 0 _ _ _ k5]
    rfl
  · rw [List.length_append, hL, spcells_snoc]
    exact own_set_far o5 k5 (by decide) 0 _

theorem lastF_at {sp : List Span} {m : Nat} (h : sp.length = m + 1) : ∃ s, sp[m]? = some s ∧ lastF sp = s.first := by
  have hl : sp.getLast? = sp[m]? := by rw [List.getLast?_eq_getElem?, h]; rfl
  have hs : sp[m]? = some (sp[m]'(by omega)) := List.getElem?_eq_getElem (by omega)
  refine ⟨_, hs, ?_⟩
  unfold lastF
  rw [hl, hs]

set_option maxRecDepth 100000 in
set_option maxHeartbeats 4000000 in
theorem decode_any (w : World) (v : Value) (l : List UInt8) (end_ : Nat) (h : Sl w.heap.size w v l) (hl : l.length ≤ 1000000) (he : end_ ≤ 1000000000) :
    Calls Tryd.prog 43 #[v, .int .i64 (end_ : Int)] w (DecPost w (decL l end_)) := by
  obtain ⟨i3, hi3, hz30, hz31, hz32⟩ := info_parts info67
  have HS := Lib.hid h
  obtain ⟨va, vcap, rfl, _, _⟩ := h.reads.le
  obtain ⟨R, hR⟩ : ∃ R, decL l end_ = R := ⟨_, rfl⟩
  have HRd := Lib.hid hR
  clear h
  go_enter Tryd.func43, Tryd.ntmps43
  have hle := getGo_le l
  have hlt := getGo_lt l
  obtain ⟨W0, hW0⟩ : ∃ W0, (w.alloc (Obj.cells #[Value.slice va l.length vcap, Value.bool false] 111)).alloc (Obj.cells #[Value.slice none 0 0] 62) = W0 := ⟨_, rfl⟩
  have hb0 : Below w.heap.size w W0 := by
    rw [← hW0]
    exact ((Below.refl _ _).alloc (Nat.le_refl _) _).alloc (by simp) _
  have hrd : RdAt w.heap.size W0 w.heap.size l false := ⟨_, by
    rw [← hW0]
    exact (Below.heap_alloc _ _ _ (by simp)).trans (heap_alloc_new _ _), HS.out.below hb0, Nat.le_refl _⟩
  have hox : OIdx w.heap.size W0 (w.heap.size + 1) [] := ⟨_, by
    rw [← hW0]
    have := heap_alloc_new (w.alloc (Obj.cells #[Value.slice va l.length vcap, Value.bool false] 111)) (Obj.cells #[Value.slice none 0 0] 62)
    simpa using this, owns_nil _ _ _ _, by omega⟩
  have HB0 := Lib.hid hb0
  have HOx := Lib.hid hox
  have HRa := Lib.hid hrd
  have HN := Lib.hid (number_any w.heap.size W0 w.heap.size l false hrd)
  have HLe := Lib.hid hle
  have HLt := Lib.hid hlt
  unfold decL at hR
  have HRd := Lib.hid hR
  clear hb0 hrd hox hle hlt hR
  go_wp2_with fail
  clear hW0
  refine HN.out.mono ?_
  rintro e w1 ⟨rfl, r1, t1⟩
  have hox1 := HOx.out.read HRa.out t1
  have HB1 := Lib.hid (touch_below t1 (Nat.le_refl _) HB0.out.size)
  have hd1 : (false || decide ((getGo 0 0 l).2.2 ≠ 0)) = decide ((getGo 0 0 l).2.2 ≠ 0) := by simp
  rw [hd1] at r1
  have hstart : DecRel w.heap.size W0 w.heap.size (w.heap.size + 1) end_ l.length R (.int .i64 0) (.int .u64 ((getGo 0 0 l).1 : Int)) w1 := by
    refine ⟨_, _, _, 0, l.length + 1, [], rfl, rfl, HLt.out, r1, hox1, Nat.zero_le _, fun _ => ?_, ?_, ?_, HB1.out⟩
    · rw [List.length_drop]; omega
    · rw [List.length_drop]
      exact Nat.le_trans (by show 0 + (l.length - _) ≤ l.length; omega) (Nat.le_add_right _ _)
    · rw [← HRd.out]
      by_cases h : (getGo 0 0 l).2.2 = 0
      · rw [if_pos h, if_neg (by simp [h])]
      · rw [if_neg h, if_pos (by simp [h])]
  have HStart := Lib.hid hstart
  have HPost : Hid (decL l end_ = R) := by assumption
  generalize (getGo 0 0 l).1 = n0 at *
  clear r1 t1 hox1 HN HRa HOx HB1 hd1 hstart HRd HLe HLt
  go_wp2
  go_loopw [8, 9] (fun av nv wr => DecRel w.heap.size W0 w.heap.size (w.heap.size + 1) end_ l.length R av nv wr) (fun _ _ wr => rdLen w.heap.size wr)
  case atStart => exact HStart.out
  case round =>
    obtain ⟨n, rest, bad, at_, F, sp, rfl, rfl, hn, hrd, hox, hat, hF, hcnt, hR, hb⟩ := hrel
    have hmeas := rdLen_at hrd
    have HMeas := Lib.hid hmeas
    have HRd := Lib.hid hrd
    have HOx := Lib.hid hox
    have HR := Lib.hid hR
    have HB := Lib.hid hb
    obtain ⟨rv, hg, hs, _⟩ := hrd
    obtain ⟨ra, rcap, rfl, _, _⟩ := hs.reads.le
    obtain ⟨xv, hgx, hxo, _⟩ := hox
    obtain ⟨xa, xcap, rfl, hxc1, hxc2⟩ := (ownsRow.reads hxo).le
    have r0 := Lib.cell_of_heap hg 0
    have r1 := Lib.cell_of_heap hg 1
    have x0 := Lib.cell_of_heap hgx 0
    simp at r0 r1 x0
    have hglt : w.heap.size < wr.heap.size := (Array.getElem?_eq_some_iff.1 hg).1
    have hgxlt : w.heap.size + 1 < wr.heap.size := (Array.getElem?_eq_some_iff.1 hgx).1
    clear hmeas hR hb hg hs hgx
    cases bad with
    | true =>
      have hRn : R = none := by rw [HR.out]; rfl
      have HRn := Lib.hid hRn
      clear hRn
      have hfin : ∀ v, DecPost w (decL l end_) (.returned (.tuple #[v, .bool false])) wr := fun v => by
        rw [HPost.out, HRn.out]
        exact ⟨HB0.out.trans (HB.out.mono (Nat.le_refl _)), v, rfl⟩
      have HFin := Lib.hid hfin
      clear hfin
      by_cases hn0 : n = 0
      · subst hn0
        go_wp2
        go_ret2
        exact HFin.out _
      · have hnI : (0 : Int) < n := by omega
        go_wp2
        go_ret2
        exact HFin.out _
    | false =>
      by_cases hn0 : n = 0
      · subst hn0
        have hRv : R = if rest = [] ∧ sp ≠ [] ∧ at_ = end_ then some sp else none := by
          obtain ⟨F', rfl⟩ : ∃ F', F = F' + 1 := ⟨F - 1, by have := hF rfl; omega⟩
          rw [HR.out]
          show decG end_ (F' + 1) 0 rest at_ sp = _
          rw [decG, if_pos rfl]
        have hyes : rest = [] → sp ≠ [] → at_ = end_ → DecPost w (decL l end_) (.returned (.tuple #[.pointer (some ⟨w.heap.size + 1, 0, none⟩), .bool true])) wr := fun h1 h2 h3 => by
          rw [HPost.out, hRv, if_pos ⟨h1, h2, h3⟩]
          exact ⟨HB0.out.trans HB.out, _, rfl, HOx.out⟩
        have hno : ¬ (rest = [] ∧ sp ≠ [] ∧ at_ = end_) → ∀ v, DecPost w (decL l end_) (.returned (.tuple #[v, .bool false])) wr := fun h v => by
          rw [HPost.out, hRv, if_neg h]
          exact ⟨HB0.out.trans HB.out, v, rfl⟩
        have HYes := Lib.hid hyes
        have HNo := Lib.hid hno
        clear hyes hno hRv
        by_cases h1 : rest = []
        · subst h1
          by_cases h2 : sp = []
          · subst h2
            have e1 : ((0 : Int) == 0) = true := rfl
            go_wp2
            go_ret2
            exact HNo.out (by simp) _
          · have h2I : (0 : Int) < sp.length := by have := List.length_pos_iff.2 h2; omega
            by_cases h3 : at_ = end_
            · subst h3
              go_wp2
              go_ret2
              exact HYes.out (by first | rfl | trivial) h2 (by first | rfl | trivial)
            · have h3I : ((at_ : Int) == end_) = false := by simp; omega
              go_wp2
              go_ret2
              exact HNo.out (by simp [h3]) _
        · have h1I : ((rest.length : Int) == 0) = false := by
            have := List.length_pos_iff.2 h1
            simp
            omega
          go_wp2
          go_ret2
          exact HNo.out (by simp [h1]) _
      · have hnI : (0 : Int) < n := by omega
        obtain ⟨F', hF'⟩ : ∃ F', F = F' + 1 := ⟨F - 1, by have := hF rfl; omega⟩
        have hRv : R = decG end_ (F' + 1) n rest at_ sp := by rw [HR.out, ← hF']; rfl
        rw [decG, if_neg hn0] at hRv
        have hFF : F ≤ F' + 1 := by omega
        have hcnt2 : sp.length + rest.length ≤ l.length := by simpa using hcnt
        clear hcnt
        have hF2 := hF rfl
        have HT := Lib.hid (text_any w.heap.size wr w.heap.size rest false HRd.out)
        have ht1 := getText_le rest
        have ht2 := getText_pos rest
        have ht3 := getText_small rest
        obtain ⟨⟨tx, tk, te⟩, ht⟩ : ∃ t, getText rest = t := ⟨_, rfl⟩
        rw [ht] at hRv HT ht1 ht2 ht3
        simp only at hRv HT ht1 ht2 ht3
        obtain ⟨T, hTT⟩ : ∃ T : ByteArray, (⟨tx.toArray⟩ : ByteArray) = T := ⟨_, rfl⟩
        rw [hTT] at hRv HT
        clear hTT
        obtain ⟨rest1, hr1⟩ : ∃ r, rest.drop tk = r := ⟨_, rfl⟩
        have hl1 : rest1.length = rest.length - tk := by rw [← hr1, List.length_drop]
        rw [hr1] at hRv HT
        have hp1 := getGo_le rest1
        have hp2 := getGo_lt rest1
        have hnum1 := fun W b h => number_any w.heap.size W w.heap.size rest1 b h
        obtain ⟨⟨px, pk, pe⟩, hp⟩ : ∃ t, getGo 0 0 rest1 = t := ⟨_, rfl⟩
        rw [hp] at hRv hp1 hp2 hnum1
        simp only at hRv hp1 hp2 hnum1
        obtain ⟨rest2, hr2⟩ : ∃ r, rest1.drop pk = r := ⟨_, rfl⟩
        have hl2 : rest2.length = rest1.length - pk := by rw [← hr2, List.length_drop]
        rw [hr2] at hRv hnum1
        have hq1 := getGo_le rest2
        have hq2 := getGo_lt rest2
        have hnum2 := fun W b h => number_any w.heap.size W w.heap.size rest2 b h
        obtain ⟨⟨qx, qk, qe⟩, hq⟩ : ∃ t, getGo 0 0 rest2 = t := ⟨_, rfl⟩
        rw [hq] at hRv hq1 hq2 hnum2
        simp only at hRv hq1 hq2 hnum2
        obtain ⟨rest3, hr3⟩ : ∃ r, rest2.drop qk = r := ⟨_, rfl⟩
        have hl3 : rest3.length = rest2.length - qk := by rw [← hr3, List.length_drop]
        rw [hr3] at hRv hnum2
        have HRv := Lib.hid hRv
        have HNum1 := Lib.hid hnum1
        have HNum2 := Lib.hid hnum2
        clear hRv hnum1 hnum2 ht hr1 hp hr2 hq hr3 HR hF hxo x0 r0 hF'
        go_wp2_with (go_at_call 69; go_must (refine HT.out.mono ?_))
        rintro e w2 ⟨rfl, k2, t2⟩
        have HX2 := Lib.hid (HOx.out.read HRd.out t2)
        have HB2 := Lib.hid (HB.out.trans (touch_below t2 (Nat.le_refl _) (by omega)))
        have HK2 := Lib.hid k2
        have HC2 := Lib.hid (HNum1.out w2 _ k2)
        clear k2 t2 HOx HRd HB HT HNum1
        go_wp2_with (go_at_call 68; go_must (refine HC2.out.mono ?_))
        rintro e w3 ⟨rfl, k3, t3⟩
        have HX3 := Lib.hid (HX2.out.read HK2.out t3)
        have HB3 := Lib.hid (HB2.out.trans (touch_below t3 (Nat.le_refl _) (by have := HB2.out.size; have := HB0.out.size; omega)))
        have HK3 := Lib.hid k3
        have HC3 := Lib.hid (HNum2.out w3 _ k3)
        clear k3 t3 HX2 HB2 HK2 HNum2 HC2
        go_wp2_with (go_at_call 68; go_must (refine HC3.out.mono ?_))
        rintro e w4 ⟨rfl, k4, t4⟩
        have HX4 := Lib.hid (HX3.out.read HK3.out t4)
        have HB4 := Lib.hid (HB3.out.trans (touch_below t4 (Nat.le_refl _) (by have := HB3.out.size; have := HB0.out.size; omega)))
        have HK4 := Lib.hid k4
        clear k4 t4 HX3 HB3 HK3 HC3
        have hfin : R = none → ∀ v, DecPost w (decL l end_) (.returned (.tuple #[v, .bool false])) w4 := fun hRn v => by
          rw [HPost.out, hRn]
          exact ⟨HB0.out.trans HB4.out, v, rfl⟩
        have HFin := Lib.hid hfin
        clear hfin
        by_cases hp0 : px = at_
        case neg =>
          have hRn : R = none := by rw [HRv.out, if_pos (.inl hp0)]
          have HRn := Lib.hid hRn
          have hpI : ((px : Int) != (at_ : Int)) = true := by simp; omega
          clear hRn
          go_wp2
          go_ret2
          exact HFin.out HRn.out _
        case pos =>
          subst hp0
          have hpI : ((px : Int) != (px : Int)) = false := by simp
          by_cases hq0 : end_ - px < qx
          · have hRn : R = none := by rw [HRv.out, if_pos (.inr hq0)]
            have HRn := Lib.hid hRn
            have hqI : (end_ : Int) - (px : Int) < (qx : Int) := by omega
            clear hRn
            go_wp2
            go_ret2
            exact HFin.out HRn.out _
          · have hqI : ¬ (end_ : Int) - (px : Int) < (qx : Int) := by omega
            have hRv2 := HRv.out
            rw [if_neg (by rintro (h | h); exact h rfl; exact hq0 h)] at hRv2
            have HRv2 := Lib.hid hRv2
            obtain ⟨yv, hgx, hyo, hy3⟩ := HX4.out
            obtain ⟨ya, ycap, rfl, hyc1, hyc2⟩ := (ownsRow.reads hyo).le
            have y0 := Lib.cell_of_heap hgx 0
            have yf := Lib.frozen_of_heap hgx 0
            simp at y0
            have hgx4 : w.heap.size + 1 < w4.heap.size := (Array.getElem?_eq_some_iff.1 hgx).1
            have HGx := Lib.hid hgx
            have HYo := Lib.hid hyo
            clear hRv2 HRv hgx hyo
            have hqN : px + qx ≤ end_ := by omega
            have HTail : Hid (∀ (_ : ¬ (sp ≠ [] ∧ bl (lastF sp) T = false)), ∀ (W : World) (yv : Value), OIdx w.heap.size W (w.heap.size + 1) (sp ++ [⟨T, px, qx⟩]) → RdAt w.heap.size W w.heap.size rest3 (((false || decide (te ≠ 0)) || decide (pe ≠ 0)) || decide (qe ≠ 0)) → Below w.heap.size W0 W →
                DecRel w.heap.size W0 w.heap.size (w.heap.size + 1) end_ l.length R (.int .i64 ((px + qx : Nat) : Int)) (.int .u64 ((n - 1 : Nat) : Int)) W ∧ rdLen w.heap.size W < rdLen w.heap.size wr) := Lib.hid (fun hno W yv ho hr hbw => by
              have hRv3 := HRv2.out
              rw [if_neg hno] at hRv3
              have hm2 := rdLen_at hr
              have hm1 := HMeas.out
              by_cases hbad : te = 0 ∧ pe = 0 ∧ qe = 0
              · obtain ⟨rfl, rfl, rfl⟩ := hbad
                have h0 := ht2 rfl
                rw [if_pos ⟨rfl, rfl, rfl⟩] at hRv3
                have eb : (((false || decide ((0 : Nat) ≠ 0)) || decide ((0 : Nat) ≠ 0)) || decide ((0 : Nat) ≠ 0)) = false := by decide
                rw [eb] at hr hm2
                refine ⟨⟨n - 1, rest3, false, px + qx, F', _, rfl, rfl, by omega, hr, ho, hqN, fun _ => by omega, ?_, hRv3, hbw⟩, ?_⟩
                · rw [List.length_append]
                  simp only [List.length_cons, List.length_nil]
                  simp
                  omega
                · rw [hm2, hm1]
                  simp
                  omega
              · rw [if_neg hbad] at hRv3
                have eb : (((false || decide (te ≠ 0)) || decide (pe ≠ 0)) || decide (qe ≠ 0)) = true := by
                  simp only [Bool.false_or, Bool.or_eq_true, decide_eq_true_eq]
                  by_cases h1 : te = 0
                  · by_cases h2 : pe = 0
                    · by_cases h3 : qe = 0
                      · exact absurd ⟨h1, h2, h3⟩ hbad
                      · exact .inr h3
                    · exact .inl (.inr h2)
                  · exact .inl (.inl h1)
                rw [eb] at hr hm2
                refine ⟨⟨n - 1, rest3, true, px + qx, 0, _, rfl, rfl, by omega, hr, ho, hqN, (fun h => absurd h (by decide)), ?_, by rw [hRv3]; rfl, hbw⟩, ?_⟩
                · rw [List.length_append]
                  simp only [List.length_cons, List.length_nil]
                  simp
                  omega
                · rw [hm2, hm1]
                  simp
                  omega)
            have hyl : sp.length ≤ 1000000 := by omega
            obtain ⟨L, hL⟩ : ∃ L, sp.length = L := ⟨_, rfl⟩
            rw [hL] at y0 HYo HGx hyc1 hyl
            have HLs := Lib.hid hL
            by_cases hs0 : sp = []
            · have hL0 : L = 0 := by rw [← hL, hs0]; rfl
              have hLI : ¬ (0 : Int) < (L : Int) := by omega
              have hno : ¬ (sp ≠ [] ∧ bl (lastF sp) T = false) := fun h => h.1 hs0
              clear hL hL0 hs0
              go_wp2_with (at_builtin; go_must (refine wpList_append_rows_own (w0 := w4) rfl _ _ 60 rfl w.heap.size 67 i3 (.agg #[.string ⟨#[]⟩, .int .i64 0, .int .i64 0]) 3 32 Tryd.underlying60 hi3 hz30 hz31 hz32 rfl [.string T, .int .i64 (px : Int), .int .i64 (qx : Int)] 1 rfl HYo.out rfl rfl (by intro u hu; simp at hu; rcases hu with rfl | rfl | rfl <;> rfl) ?_ ?_ (by omega) ?_))
              · unfold maxLen; omega
              · omega
              intro v5 w5 o5 g5 b5 m5
              obtain ⟨a5, cap5, rfl, _, _⟩ := (ownsRow.reads o5).le
              have k5 := grown_other HYo.out g5 HGx.out (by decide)
              have r5 := HK4.out.grown HYo.out g5 b5
              have c5 := Lib.cell_of_heap k5 0
              have f5 := Lib.frozen_of_heap k5
              simp at c5
              have hgx5 : w.heap.size + 1 < w5.heap.size := (Array.getElem?_eq_some_iff.1 k5).1
              obtain ⟨q1, q2, q3⟩ := dec_push (s := ⟨T, px, qx⟩) k5 o5 HLs.out r5 (by omega) (by omega)
              have hT := HTail.out hno _ (.int .i64 0) q1 q2 ((HB4.out.trans b5).trans q3)
              rw [show ((px + qx : Nat) : Int) = (px : Int) + (qx : Int) by omega, show ((n - 1 : Nat) : Int) = (n : Int) - 1 by omega] at hT
              have HT := Lib.hid hT
              clear hT q1 q2 q3 r5 o5 g5 b5 m5 HTail HYo HGx HK4 k5 hno
              go_wp2
              exact HT.out
            · obtain ⟨m, hm⟩ : ∃ m, sp.length = m + 1 := ⟨sp.length - 1, by have := List.length_pos_iff.2 hs0; omega⟩
              obtain ⟨s, hsm, hla⟩ := lastF_at hm
              obtain ⟨yb, yo, rfl, hyb, z0, _, _⟩ := (ownsRow.reads HYo.out).span hsm
              obtain rfl : L = m + 1 := by omega
              have hmI : (0 : Int) < (m : Int) + 1 := by omega
              have hmI2 : (m : Int) < (m : Int) + 1 := by omega
              have HLa := Lib.hid hla
              clear hsm hla hL hm
              cases hbl : bl s.first T with
              | false =>
                have hl1 : Op.bytesLess s.first.toList T.toList = false := by rw [bl_spell]; exact hbl
                have hl2 : (Op.bytesLess T.toList s.first.toList || T.toList == s.first.toList) = true := by
                  rw [bl_spell]
                  cases h2 : bl T s.first with
                  | true => rfl
                  | false => rw [bl_total h2 hbl]; simp
                have hRn : R = none := by rw [HRv2.out, if_pos ⟨hs0, by rw [HLa.out]; exact hbl⟩]
                have HRn := Lib.hid hRn
                clear hRn hbl
                go_wp2
                go_ret2
                exact HFin.out HRn.out _
              | true =>
                have hl1 : Op.bytesLess s.first.toList T.toList = true := by rw [bl_spell]; exact hbl
                have hl2 : Op.bytesLess T.toList s.first.toList = false := by rw [bl_spell]; exact bl_asymm hbl
                have hl4 : (T.toList == s.first.toList) = false := by
                  cases h3 : T.toList == s.first.toList with
                  | false => rfl
                  | true =>
                    rw [eq_of_beq h3] at hl1 hl2
                    rw [hl1] at hl2
                    cases hl2
                have hno : ¬ (sp ≠ [] ∧ bl (lastF sp) T = false) := by
                  rintro ⟨_, h⟩
                  rw [HLa.out, hbl] at h
                  cases h
                clear hbl
                go_wp2_with (at_builtin; go_must (refine wpList_append_rows_own (w0 := w4) rfl _ _ 60 rfl w.heap.size 67 i3 (.agg #[.string ⟨#[]⟩, .int .i64 0, .int .i64 0]) 3 32 Tryd.underlying60 hi3 hz30 hz31 hz32 rfl [.string T, .int .i64 (px : Int), .int .i64 (qx : Int)] 1 rfl HYo.out rfl rfl (by intro u hu; simp at hu; rcases hu with rfl | rfl | rfl <;> rfl) ?_ ?_ (by omega) ?_))
                · unfold maxLen; omega
                · omega
                intro v5 w5 o5 g5 b5 m5
                obtain ⟨a5, cap5, rfl, _, _⟩ := (ownsRow.reads o5).le
                have k5 := grown_other HYo.out g5 HGx.out (by decide)
                have r5 := HK4.out.grown HYo.out g5 b5
                have c5 := Lib.cell_of_heap k5 0
                have f5 := Lib.frozen_of_heap k5
                simp at c5
                have hgx5 : w.heap.size + 1 < w5.heap.size := (Array.getElem?_eq_some_iff.1 k5).1
                obtain ⟨q1, q2, q3⟩ := dec_push (s := ⟨T, px, qx⟩) k5 o5 HLs.out r5 (by omega) (by omega)
                have hT := HTail.out hno _ (.int .i64 0) q1 q2 ((HB4.out.trans b5).trans q3)
                rw [show ((px + qx : Nat) : Int) = (px : Int) + (qx : Int) by omega, show ((n - 1 : Nat) : Int) = (n : Int) - 1 by omega] at hT
                have HT := Lib.hid hT
                clear hT q1 q2 q3 r5 o5 g5 b5 m5 HTail HYo HGx HK4 k5 hno
                go_wp2
                exact HT.out
end Go.Proofs.YtfhdonidgegebaaDoor

/- fills; a reader's number and text. -/
namespace Go.Proofs.YtfhdonidgegebaaDoor
open Go Go.RowKit

/-- Does a frame tell just as many bytes as there are? -/
def fillsL (l : List UInt8) : Bool := decide (8 ≤ l.length ∧ num4 l = l.length - 8)

theorem or_u64j (x y : Nat) (k : Nat) (hy : y < 2 ^ k) (h : 2 ^ k * x + y < 18446744073709551616) : bits BinOp.or .u64 ((2 ^ k * x : Nat) : Int) (y : Int) = ((2 ^ k * x + y : Nat) : Int) := by
  rw [u64_or_nat _ _ (by omega) (by omega), Nat.two_pow_add_eq_or_of_lt hy]

theorem get_math64 (c0 c1 c2 c3 : UInt8) :
    bits BinOp.or .u64 (bits BinOp.or .u64 (bits BinOp.or .u64 ((c0.toNat : Int) * 16777216) ((c1.toNat : Int) * 65536)) ((c2.toNat : Int) * 256)) (c3.toNat : Int) = ((((c0.toNat * 256 + c1.toNat) * 256 + c2.toNat) * 256 + c3.toNat : Nat) : Int) := by
  have h0 := c0.toNat_lt
  have h1 := c1.toNat_lt
  have h2 := c2.toNat_lt
  have h3 := c3.toNat_lt
  have e0 : (c0.toNat : Int) * 16777216 = ((2 ^ 24 * c0.toNat : Nat) : Int) := by omega
  have e1 : (c1.toNat : Int) * 65536 = ((65536 * c1.toNat : Nat) : Int) := by omega
  have e2 : (c2.toNat : Int) * 256 = ((256 * c2.toNat : Nat) : Int) := by omega
  rw [e0, e1, e2, or_u64j c0.toNat _ 24 (by omega) (by omega)]
  have e3 : 2 ^ 24 * c0.toNat + 65536 * c1.toNat = 2 ^ 16 * (256 * c0.toNat + c1.toNat) := by omega
  rw [e3, or_u64j _ _ 16 (by omega) (by omega)]
  have e4 : 2 ^ 16 * (256 * c0.toNat + c1.toNat) + 256 * c2.toNat = 2 ^ 8 * (65536 * c0.toNat + 256 * c1.toNat + c2.toNat) := by omega
  rw [e4, or_u64j _ _ 8 (by omega) (by omega)]
  omega

def TellsQ4 (w : World) (b : Bool) (e : Ending) (w' : World) : Prop := e = .returned (.bool b) ∧ ∃ m, w' = w.drewN m

set_option maxRecDepth 100000 in
set_option maxHeartbeats 1000000 in
theorem fills_any (w : World) (v : Value) (l : List UInt8) (h : Reads w 1 v l.length (bcells l)) :
    Calls Tryd.prog 42 #[v] w (TellsQ4 w (fillsL l)) := by
  by_cases h8 : l.length < 8
  · have hf : fillsL l = false := by unfold fillsL; rw [decide_eq_false_iff_not]; omega
    rw [hf]
    obtain ⟨a, cap, rfl, h1, h2⟩ := h.le
    unfold maxLen at h2
    have h8I : (l.length : Int) < 8 := by omega
    clear hf h
    go_enter Tryd.func42, Tryd.ntmps42
    go_wp2
    go_ret
    exact ⟨rfl, 0, rfl⟩
  · have hf : fillsL l = decide (num4 l = l.length - 8) := by unfold fillsL; congr 1; exact propext ⟨fun h => h.2, fun h => ⟨by omega, h⟩⟩
    have HF := Lib.hid hf
    obtain ⟨b, off, cap, rfl, h1, h2, hl, hc⟩ := h.head (by omega)
    unfold maxLen at h2
    have h8I : ¬ (l.length : Int) < 8 := by omega
    have c0 := hc 0 (by omega)
    have c1 := hc 1 (by omega)
    have c2 := hc 2 (by omega)
    have c3 := hc 3 (by omega)
    have hm : num4 l = ((((l.getD 0 0).toNat * 256 + (l.getD 1 0).toNat) * 256 + (l.getD 2 0).toNat) * 256 + (l.getD 3 0).toNat) := rfl
    have HM := Lib.hid hm
    clear hf hm h hc
    obtain ⟨n, hn⟩ : ∃ n, l.length = n := ⟨_, rfl⟩
    rw [hn] at HF h1 h8 h8I hl ⊢
    clear hn
    generalize l.getD 0 0 = d0 at *
    generalize l.getD 1 0 = d1 at *
    generalize l.getD 2 0 = d2 at *
    generalize l.getD 3 0 = d3 at *
    have hg := get_math64 d0 d1 d2 d3
    have Hg := Lib.hid hg
    clear hg hl
    simp only [Nat.add_zero] at c0
    have i0 : (0 : Int) < n := by omega
    have i1 : (1 : Int) < n := by omega
    have i2 : (2 : Int) < n := by omega
    have i3 : (3 : Int) < n := by omega
    go_enter Tryd.func42, Tryd.ntmps42
    go_wp2_with fail
    go_quiet (fail)
    go_wp2
    go_ret
    refine ⟨?_, _, rfl⟩
    refine congrArg (fun z => Ending.returned (.bool z)) ?_
    have h0 := d0.toNat_lt
    have h1 := d1.toNat_lt
    have h2 := d2.toNat_lt
    have h3 := d3.toNat_lt
    rw [HF.out, HM.out]
    have e0 : ∀ (c : UInt8) (m : Int), (m = 16777216 ∨ m = 65536 ∨ m = 256) → IntKind.u64.wrap (IntKind.u64.wrap (c.toNat : Int) * m) = (c.toNat : Int) * m := fun c m hm => by
      have := c.toNat_lt
      rw [IntKind.wrap_u64, IntKind.wrap_u64]
      rcases hm with rfl | rfl | rfl <;> omega
    have e3 : IntKind.u64.wrap (d3.toNat : Int) = (d3.toNat : Int) := by
      rw [IntKind.wrap_u64]
      omega
    rw [e0 d0 16777216 (by simp), e0 d1 65536 (by simp), e0 d2 256 (by simp), e3, Hg.out, show (n : Int) - 8 = ((n - 8 : Nat) : Int) by omega]
    rw [Bool.eq_iff_iff]
    simp
    omega
end Go.Proofs.YtfhdonidgegebaaDoor

/- numbers. -/
namespace Go.Proofs.YtfhdonidgegebaaDoor
open Go Go.RowKit

/-- The number of the first eight bytes behind k. -/
def num8 (l : List UInt8) (k : Nat) : Nat := beVal ((l.drop k).take 8)

theorem or_step (x c : Nat) (hx : x < 72057594037927936) (hc : c < 256) : bits BinOp.or .u64 ((x : Int) * 256) (c : Int) = ((x * 256 + c : Nat) : Int) := by
  have e : ((x : Int) * 256) = ((2 ^ 8 * x : Nat) : Int) := by omega
  rw [e, or_u64j x c 8 (by omega) (by omega)]
  omega

/-- Three numbers in block g. -/
def ThreeAt (w : World) (g : Nat) (a : Nat → Nat) : Prop := w.heap[g]? = some (.cells #[.int .u64 (a 0 : Int), .int .u64 (a 1 : Int), .int .u64 (a 2 : Int)] 76 (0, 0))

theorem ThreeAt.cell {w : World} {g : Nat} {a : Nat → Nat} (h : ThreeAt w g a) {i : Nat} (hi : i < 3) : w.cell? ⟨g, i, none⟩ = some (.int .u64 (a i : Int)) := by
  rw [Lib.cell_of_heap h i]
  rcases (by omega : i = 0 ∨ i = 1 ∨ i = 2) with rfl | rfl | rfl <;> rfl

theorem ThreeAt.free {w : World} {g : Nat} {a : Nat → Nat} (h : ThreeAt w g a) (i : Nat) : w.frozen? ⟨g, i, none⟩ = false := Lib.frozen_of_heap h i

theorem ThreeAt.set {w : World} {g : Nat} {a b : Nat → Nat} (h : ThreeAt w g a) {i : Nat} (hi : i < 3) (hb : ∀ m, m ≠ i → b m = a m) : ThreeAt (w.setCell ⟨g, i, none⟩ (.int .u64 (b i : Int))) g b := by
  unfold ThreeAt
  rw [heap_setCell_same _ _ i _ _ _ h]
  rcases (by omega : i = 0 ∨ i = 1 ∨ i = 2) with rfl | rfl | rfl
  · rw [hb 1 (by omega), hb 2 (by omega)]; rfl
  · rw [hb 0 (by omega), hb 2 (by omega)]; rfl
  · rw [hb 0 (by omega), hb 1 (by omega)]; rfl

def parts8 (l : List UInt8) (i j : Nat) (m : Nat) : Nat := if m < i then num8 l (8 * m) else if m = i then beVal ((l.drop (8 * m)).take j) else 0

theorem parts8_up (l : List UInt8) (i : Nat) : parts8 l i 8 = parts8 l (i + 1) 0 := by
  funext m
  unfold parts8
  by_cases h1 : m < i
  · rw [if_pos h1, if_pos (by omega)]
  · rw [if_neg h1]
    by_cases h2 : m = i
    · rw [if_pos h2, if_pos (by omega)]
      rfl
    · rw [if_neg h2, if_neg (by omega)]
      by_cases h3 : m = i + 1
      · rw [if_pos h3]; rfl
      · rw [if_neg h3]

def NumsA (w : World) (l : List UInt8) (g : Nat) (iv : Value) (wr : World) : Prop :=
  ∃ i : Nat, iv = .int .i64 (i : Int) ∧ i ≤ 3 ∧ ThreeAt wr g (parts8 l i 0) ∧ Below g w wr

def NumsB (w : World) (l : List UInt8) (g i : Nat) (jv : Value) (wr : World) : Prop :=
  ∃ j : Nat, jv = .int .i64 (j : Int) ∧ j ≤ 8 ∧ ThreeAt wr g (parts8 l i j) ∧ Below g w wr

def NumsPost (w : World) (l : List UInt8) (e : Ending) (w' : World) : Prop :=
  e = .returned (.agg #[.int .u64 (num8 l 0 : Int), .int .u64 (num8 l 8 : Int), .int .u64 (num8 l 16 : Int)]) ∧ Below w.heap.size w w'

set_option maxRecDepth 100000 in
set_option maxHeartbeats 2000000 in
theorem numbers_any (w : World) (v : Value) (l : List UInt8) (h : Reads w 1 v l.length (bcells l)) (hl : 24 ≤ l.length) :
    Calls Tryd.prog 41 #[v] w (NumsPost w l) := by
  obtain ⟨b, off, cap, rfl, h1, h2, _, _⟩ := h.head (by omega)
  unfold maxLen at h2
  obtain ⟨n, hn⟩ : ∃ n, l.length = n := ⟨_, rfl⟩
  rw [hn] at h h1 hl ⊢
  have HR := Lib.hid h
  have HN := Lib.hid hn
  clear h hn
  go_enter Tryd.func41, Tryd.ntmps41
  go_wp2
  have ht0 : ThreeAt ((w.alloc (Obj.cells #[Value.int IntKind.u64 0, Value.int IntKind.u64 0, Value.int IntKind.u64 0] 76)).alloc (Obj.cells #[Value.int IntKind.u64 0, Value.int IntKind.u64 0, Value.int IntKind.u64 0] 76)) (w.heap.size + 1) (parts8 l 0 0) := by
    have e : ∀ m, m < 3 → parts8 l 0 0 m = 0 := fun m _ => by
      unfold parts8
      rw [if_neg (by omega)]
      split
      · rfl
      · rfl
    unfold ThreeAt
    rw [e 0 (by omega), e 1 (by omega), e 2 (by omega)]
    have := heap_alloc_new (w.alloc (Obj.cells #[Value.int IntKind.u64 0, Value.int IntKind.u64 0, Value.int IntKind.u64 0] 76)) (Obj.cells #[Value.int IntKind.u64 0, Value.int IntKind.u64 0, Value.int IntKind.u64 0] 76)
    simpa using this
  have hres : ((w.alloc (Obj.cells #[Value.int IntKind.u64 0, Value.int IntKind.u64 0, Value.int IntKind.u64 0] 76)).alloc (Obj.cells #[Value.int IntKind.u64 0, Value.int IntKind.u64 0, Value.int IntKind.u64 0] 76)).heap[w.heap.size]? = some (Obj.cells #[Value.int IntKind.u64 0, Value.int IntKind.u64 0, Value.int IntKind.u64 0] 76) :=
    (Below.heap_alloc _ _ _ (by simp)).trans (heap_alloc_new _ _)
  have hb0 : Below w.heap.size w ((w.alloc (Obj.cells #[Value.int IntKind.u64 0, Value.int IntKind.u64 0, Value.int IntKind.u64 0] 76)).alloc (Obj.cells #[Value.int IntKind.u64 0, Value.int IntKind.u64 0, Value.int IntKind.u64 0] 76)) :=
    ((Below.refl _ _).alloc (Nat.le_refl _) _).alloc (by simp) _
  have HT0 := Lib.hid ht0
  have HRes := Lib.hid hres
  have HB0 := Lib.hid hb0
  clear ht0 hres hb0
  obtain ⟨G, hG⟩ : ∃ G, w.heap.size + 1 = G := ⟨_, rfl⟩
  rw [hG] at HT0 ⊢
  generalize (w.alloc (Obj.cells #[Value.int IntKind.u64 0, Value.int IntKind.u64 0, Value.int IntKind.u64 0] 76)).alloc (Obj.cells #[Value.int IntKind.u64 0, Value.int IntKind.u64 0, Value.int IntKind.u64 0] 76) = w0 at *
  have HG := Lib.hid hG
  clear hG
  go_loopw [7] (fun iv wr => NumsA w0 l G iv wr) (fun iv _ => 3 - (intOf iv).toNat)
  case atStart => exact ⟨0, rfl, by omega, HT0.out, Below.refl _ _⟩
  case round =>
    obtain ⟨i, rfl, hi, ht, hb⟩ := hrel
    have HT := Lib.hid ht
    have HB := Lib.hid hb
    clear ht hb
    by_cases hlt : i < 3
    · have hltI : (i : Int) < 3 := by omega
      have hcapI : ¬ ((cap : Int) = 8 * i) := by omega
      go_wp2
      obtain ⟨wo, rfl⟩ : ∃ wo : World, wo = wr := ⟨_, rfl⟩
      have e8 : 8 * (i + 1) - 8 * i = 8 := by omega
      rw [e8]
      go_loopw [18] (fun jv wr => NumsB w0 l G i jv wr) (fun jv _ => 8 - (intOf jv).toNat)
      case atStart => exact ⟨0, rfl, by omega, HT.out, HB.out⟩
      case round =>
        obtain ⟨j, rfl, hj, ht, hb⟩ := hrel
        have HT2 := Lib.hid ht
        have HB2 := Lib.hid hb
        have hglt : G < wr.heap.size := (Array.getElem?_eq_some_iff.1 ht).1
        by_cases hj8 : j < 8
        · have hr0 : Reads w0 1 (.slice (some ⟨b, off, none⟩) n cap) n (bcells l) := HR.out.below' HB0.out
          have hc := (hr0.below hb (fun q hq => by
            simp [Value.ownBlock] at hq
            subst hq
            have h0 := HR.out.bcell 0 (by omega)
            have : b < w.heap.size := World.block_lt_of_cell? _ _ h0
            have := HG.out
            omega)).bcell (8 * i + j) (by omega)
          rw [← Nat.add_assoc] at hc
          obtain ⟨c, hce⟩ : ∃ c, l.getD (8 * i + j) 0 = c := ⟨_, rfl⟩
          rw [hce] at hc
          have hti := ht.cell hlt
          have hfi := ht.free i
          have hx : parts8 l i j i = beVal ((l.drop (8 * i)).take j) := by unfold parts8; rw [if_neg (by omega), if_pos rfl]
          have hxlt : beVal ((l.drop (8 * i)).take j) < 72057594037927936 := by
            have h1 := beVal_lt ((l.drop (8 * i)).take j)
            have h2 : ((l.drop (8 * i)).take j).length ≤ 7 := by rw [List.length_take]; omega
            have h3 : 256 ^ ((l.drop (8 * i)).take j).length ≤ 256 ^ 7 := Nat.pow_le_pow_right (by omega) h2
            have h4 : (256 : Nat) ^ 7 = 72057594037927936 := by decide
            omega
          have hsn : beVal ((l.drop (8 * i)).take (j + 1)) = beVal ((l.drop (8 * i)).take j) * 256 + c.toNat := by
            have hjl : j < (l.drop (8 * i)).length := by rw [List.length_drop, HN.out]; omega
            rw [List.take_succ_eq_append_getElem hjl, beVal_snoc]
            congr 1
            rw [← hce, List.getD_eq_getElem?_getD, List.getElem_drop, List.getElem?_eq_getElem]
            rfl
          have hbig : ∀ m, m ≠ i → parts8 l i (j + 1) m = parts8 l i j m := fun m hm => by
            unfold parts8
            rw [if_neg hm, if_neg hm]
          have hnx : parts8 l i (j + 1) i = beVal ((l.drop (8 * i)).take j) * 256 + c.toNat := by
            unfold parts8
            rw [if_neg (by omega), if_pos rfl, hsn]
          have hset := ht.set hlt hbig
          rw [hnx] at hset
          rw [hx] at hti
          generalize beVal ((l.drop (8 * i)).take j) = X at *
          have hor := or_step X c.toNat hxlt c.toNat_lt
          have e1 : IntKind.u64.wrap ((X : Int) * 256) = (X : Int) * 256 := by
            rw [IntKind.wrap_u64]
            omega
          have e2 : IntKind.u64.wrap (c.toNat : Int) = (c.toNat : Int) := by
            rw [IntKind.wrap_u64]
            have := c.toNat_lt
            omega
          have HSet := Lib.hid hset
          have HOr := Lib.hid hor
          have E1 := Lib.hid e1
          have E2 := Lib.hid e2
          clear hset hor e1 e2 hnx hbig hsn hx hce hr0 ht hb hxlt
          go_wp2
          refine ⟨⟨j + 1, by go_num, by omega, ?_, ?_⟩, by simp [intOf]; omega⟩
          · first
              | (rw [E1.out, E2.out, HOr.out]; exact HSet.out)
              | (rw [HOr.out]; exact HSet.out)
          · exact HB2.out.setCell (p := ⟨G, i, none⟩) (Nat.le_refl _) _
        · obtain rfl : j = 8 := by omega
          rw [parts8_up] at HT2
          clear ht hb
          go_wp2
          exact ⟨⟨i + 1, by go_num, by omega, HT2.out, HB2.out⟩, by simp [intOf]; omega⟩
    · obtain rfl : i = 3 := by omega
      have hltI : ¬ ((3 : Nat) : Int) < 3 := by omega
      have ht3 := HT.out
      have e : ∀ m, m < 3 → parts8 l 3 0 m = num8 l (8 * m) := fun m hm => by unfold parts8; rw [if_pos hm]
      unfold ThreeAt at ht3
      rw [e 0 (by omega), e 1 (by omega), e 2 (by omega)] at ht3
      have hr := (HB.out.block w.heap.size (by have := HG.out; omega)).trans HRes.out
      have hglt : G < wr.heap.size := (Array.getElem?_eq_some_iff.1 ht3).1
      have hwlt : w.heap.size < wr.heap.size := (Array.getElem?_eq_some_iff.1 hr).1
      have c0 := Lib.cell_of_heap ht3 0
      have c1 := Lib.cell_of_heap ht3 1
      have c2 := Lib.cell_of_heap ht3 2
      simp at c0 c1 c2
      have r0 := Lib.cell_of_heap hr 0
      have r1 := Lib.cell_of_heap hr 1
      have r2 := Lib.cell_of_heap hr 2
      simp at r0 r1 r2
      have f0 := Lib.frozen_of_heap hr
      have HBf := Lib.hid (HB0.out.trans (HB.out.mono (by have := HG.out; omega)))
      have HHr := Lib.hid hr
      clear ht3 hr e
      go_wp2
      refine bodyPost_ret (v := .agg #[.int .u64 (num8 l 0 : Int), .int .u64 (num8 l 8 : Int), .int .u64 (num8 l 16 : Int)]) (by simp [results, Tryd.results41, go_sem, r0, r1, r2]) rfl ⟨rfl, ?_⟩
      exact ((HBf.out.setCell (p := ⟨w.heap.size, 0, none⟩) (Nat.le_refl _) _).setCell (p := ⟨w.heap.size, 1, none⟩) (Nat.le_refl _) _).setCell (p := ⟨w.heap.size, 2, none⟩) (Nat.le_refl _) _
end Go.Proofs.YtfhdonidgegebaaDoor
