/- What the proof stands on, part 5. -/
import Derived.Test.YtfhdonidgegebaaDoorMg4
import Derived.Deep.AppendLies
import Derived.Deep.RegionLaw
import Derived.BigQuiet
import Derived.Deep.QuietTactic
import Derived.Lib.SliceRun
import Derived.IntWalk
import Derived.Laws.BitsLemmas
/- A cursor over a block: next. -/
namespace Go.Proofs.YtfhdonidgegebaaDoor
open Go Go.RowKit

theorem own_pre {w : World} {B n cap : Nat} {e : TypeId} {a : Option Addr} {xs : List Value} (h : w.ownsRow B e 1 (.slice a n cap) n xs) {k : Nat} (hk : k ≤ n) : w.ownsRow B e 1 (.slice a k cap) k (xs.take k) := by
  have hl := h.1
  refine ⟨by rw [List.length_take]; omega, ?_⟩
  rcases h.2 with ⟨h0, h1⟩ | ⟨g', cap', cur, hv, hB, hg, h1, h2, h3, h4⟩
  · cases h0
    left
    exact ⟨by rw [show k = 0 by omega], by omega⟩
  · cases hv
    refine .inr ⟨g', cap, cur, rfl, hB, hg, by omega, h2, h3, ?_⟩
    rw [← h4, List.take_take]
    congr 1
    omega

theorem step_append_src {P : Program} {w : World} {ops : Array Oper} {o : Oper} {a : Act} {K : Act → World → Prop} {Q : Exit → Act → World → Prop} {E : Prop} (hgd : o.guard = none) (s x : Operand) (t tx : TypeId)
    (ho : o.op = .call { callee := .builtin .append, args := #[s, x], argTypes := #[t, tx] })
    (B : Nat) (e : TypeId) (i : TypeInfo) (z : Value) (size bytes : Nat) (ht : P.underlying t = some (.slice e)) (hi : P.info? e = some i) (hz : i.zero = some z)
    (hsize : i.size = size) (hby : i.bytes = bytes) (hzs : z.cells.size = size)
    (v : Value) (n : Nat) (xs : List Value) (hs : a.eval s = v) (hown : w.ownsRow B e size v n xs)
    (xv : Value) (m : Nat) (news : List Value) (hx : a.eval x = xv) (hsrc : Src P size tx xv m news w)
    (h63 : n + m ≤ maxLen) (hbytes : (n + m) * bytes ≤ 140737488355328) (hB : B ≤ w.heap.size)
    (h : ∀ v' w', w'.ownsRow B e size v' (n + m) (xs ++ news) → w.grownBy w' v.ownBlock → Below B w w' → Moves w v v' → K (a.put o.dst v') w') :
    if Region.wanted o (yielded ops a.tmps) = true then Oper.wp P o a w K Q else E := by
  have hw : Region.wanted o (yielded ops a.tmps) = true := by simp [Region.wanted, hgd]
  rw [if_pos hw]
  obtain ⟨v', w', hr, h2, h3, h4, h5⟩ := run_append_owns (P := P) B t tx o.type e i z size bytes ht hi hz hsize hby hzs v n xs hown xv m news hsrc h63 hbytes hB
  unfold Oper.wp execOp
  simp only [ho, resolve, invoke, builtin, Sem.run_bind, Sem.run_pure, Result.andThen_ok, List.map_toArray, List.map_cons, List.map_nil, hs, hx, hr]
  exact h v' w' h2 h3 h4 h5

theorem getGo_err : ∀ (l : List UInt8) (i V : Nat), ¬ (getGo i V l).2.2 = 0 → (getGo i V l).2.1 ≤ l.length
  | [], i, V, h => by
    unfold getGo
    split <;> simp
  | c :: l, i, V, h => by
    unfold getGo at h ⊢
    split
    · simp
    · rename_i h1
      rw [if_neg h1] at h
      split
      · rename_i h2
        rw [if_pos h2] at h
        have := getGo_err l (i + 1) (V + c.toNat % 128 * 128 ^ i % 18446744073709551616) h
        simp
        omega
      · rename_i h2
        rw [if_neg h2] at h
        split
        · simp
        · rename_i h3
          rw [if_neg h3] at h
          exact absurd rfl h

theorem getText_used (l : List UInt8) : (getText l).2.2 = 0 → (getText l).2.1 ≤ l.length := by
  unfold getText
  intro h
  split at h
  · rename_i h0
    rw [if_pos h0]
    split at h
    · simp at h
    · rename_i h1
      rw [if_neg h1]
      have := getGo_ok l 0 0 (getGo 0 0 l).1 (getGo 0 0 l).2.1 (by decide) (Prod.ext rfl (Prod.ext rfl h0))
      simp
      omega
  · exact absurd h (by assumption)

theorem getText_small (l : List UInt8) : (getText l).1.length ≤ l.length := by
  unfold getText
  split
  · split
    · simp
    · simp
      omega
  · simp

def stepB (rest key : List UInt8) : Option (List UInt8 × List UInt8 × Nat) :=
  if (getGo 0 0 rest).2.2 = 0 ∧ (getGo 0 0 rest).1 ≤ key.length ∧ (getText (rest.drop (getGo 0 0 rest).2.1)).2.2 = 0 then
    some ((rest.drop (getGo 0 0 rest).2.1).drop (getText (rest.drop (getGo 0 0 rest).2.1)).2.1, key.take (getGo 0 0 rest).1 ++ (getText (rest.drop (getGo 0 0 rest).2.1)).1, (getGo 0 0 rest).1)
  else none

/-- The cursor in block g. -/
def CurAt (B : Nat) (w : World) (g : Nat) (rest key : List UInt8) (sh : Nat) (bad : Bool) : Prop :=
  ∃ rv kv, w.heap[g]? = some (.cells #[rv, kv, .int .i64 (sh : Int), .bool bad] 118 (0, 0)) ∧ Sl B w rv rest ∧ w.ownsRow B 5 1 kv key.length (bcells key) ∧ B ≤ g

/-- Blocks of texts stay as they are. -/
def KeepT (w w' : World) : Prop := ∀ (q : Nat) (cs : Array Value) (fz : Nat × Nat), w.heap[q]? = some (Obj.cells cs 9 fz) → w'.heap[q]? = some (Obj.cells cs 9 fz)

structure BelowT (B : Nat) (w w' : World) : Prop where
  low : Below B w w'
  texts : KeepT w w'

theorem BelowT.refl (B : Nat) (w : World) : BelowT B w w := ⟨Below.refl B w, fun _ _ _ h => h⟩
theorem BelowT.trans {B : Nat} {a b c : World} (h : BelowT B a b) (k : BelowT B b c) : BelowT B a c := ⟨h.low.trans k.low, fun q cs fz hq => k.texts q cs fz (h.texts q cs fz hq)⟩
theorem BelowT.of_below {B : Nat} {w w' : World} (h : Below w.heap.size w w') (hB : B ≤ w.heap.size) : BelowT B w w' := ⟨h.mono hB, fun q _ _ hq => (h.block q (Array.getElem?_eq_some_iff.1 hq).1).trans hq⟩
theorem BelowT.drew {B : Nat} {a w : World} (h : BelowT B a w) : BelowT B a w.drew := ⟨h.low.drew, h.texts⟩
theorem BelowT.grew {B n : Nat} {a w w' : World} {v : Value} {xs : List Value} (h : BelowT B a w) (b : Below B w w') (ho : w.ownsRow B 5 1 v n xs) (g : w.grownBy w' v.ownBlock) : BelowT B a w' :=
  ⟨h.low.trans b, fun q cs fz hq => grown_other ho g (h.texts q cs fz hq) (by decide)⟩
theorem BelowT.store {B g : Nat} {a w : World} {cs : Array Value} {fz : Nat × Nat} (h : BelowT B a w) (hB : B ≤ g) (hc : w.heap[g]? = some (Obj.cells cs 118 fz)) (j : Nat) (u : Value) : BelowT B a (w.setCell ⟨g, j, none⟩ u) :=
  ⟨h.low.setCell (p := ⟨g, j, none⟩) hB u, fun q cs' fz' hq => by
    have h1 := h.texts q cs' fz' hq
    have hne : q ≠ g := fun e => by
      subst e
      rw [h1] at hc
      simp at hc
    exact (Below.heap_setCell _ _ _ _ hne).trans h1⟩

def NextPost13 (B : Nat) (w : World) (g : Nat) (rest key : List UInt8) (sh : Nat) (bad : Bool) (e : Ending) (w' : World) : Prop :=
  (rest = [] ∧ e = .returned (.bool false) ∧ CurAt B w' g rest key sh bad ∧ BelowT B w w') ∨
    (rest ≠ [] ∧ stepB rest key = none ∧ e = .returned (.bool false) ∧ (∃ r k s, CurAt B w' g r k s true) ∧ BelowT B w w') ∨
    (∃ r k s, rest ≠ [] ∧ stepB rest key = some (r, k, s) ∧ e = .returned (.bool true) ∧ CurAt B w' g r k s bad ∧ BelowT B w w')

theorem Sl.same {B : Nat} {w w' : World} {v : Value} {l : List UInt8} (h : Sl B w v l) (hb : Below B w w') : Sl B w' v l := h.below hb

theorem own_set_far {w : World} {B n s : Nat} {e e' : TypeId} {v : Value} {xs : List Value} {g : Nat} {cs : Array Value} {fz : Nat × Nat} (h : w.ownsRow B e s v n xs) (hg : w.heap[g]? = some (.cells cs e' fz)) (he : e' ≠ e) (j : Nat) (u : Value) : (w.setCell ⟨g, j, none⟩ u).ownsRow B e s v n xs :=
  ownsRow_setCell_other h (a := ⟨g, j, none⟩) (owns_other h hg he) _

set_option maxRecDepth 100000 in
set_option maxHeartbeats 2000000 in
theorem next13_any (B : Nat) (w : World) (g : Nat) (rest key : List UInt8) (sh : Nat) (bad : Bool) (h : CurAt B w g rest key sh bad) (hr : rest.length ≤ 10000000000) (hk : key.length ≤ 10000000000) :
    Calls Tryd.prog 72 #[.pointer (some ⟨g, 0, none⟩)] w (NextPost13 B w g rest key sh bad) := by
  obtain ⟨i0, hi, hz0, hz1, hz2⟩ := info_parts info5
  have HCur := Lib.hid h
  obtain ⟨rv, kv, hg, hs, hkr, hB⟩ := h
  have HG := Lib.hid hg
  have HS := Lib.hid hs
  have HK := Lib.hid hkr
  have c0 := Lib.cell_of_heap hg 0
  have c1 := Lib.cell_of_heap hg 1
  have c2 := Lib.cell_of_heap hg 2
  have c3 := Lib.cell_of_heap hg 3
  have f0 := Lib.frozen_of_heap hg
  simp at c0 c1 c2 c3
  have hlt : g < w.heap.size := (Array.getElem?_eq_some_iff.1 hg).1
  have hBw : B ≤ w.heap.size := by omega
  clear hg hkr
  unfold NextPost13
  by_cases hre : rest = []
  · subst hre
    obtain ⟨ra, rcap, rfl, _, _⟩ := hs.reads.le
    simp only [List.length_nil] at c0
    clear hs
    go_enter Tryd.func72, Tryd.ntmps72
    go_wp2
    go_ret
    exact .inl ⟨by simp, rfl, HCur.out, ⟨⟨rfl, rfl, rfl, Nat.le_refl _, fun _ _ => rfl⟩, fun _ _ _ h => h⟩⟩
  · obtain ⟨ka, kcap, rfl, hkc1, hkc2⟩ := (ownsRow.reads HK.out).le
    rcases hs with ⟨_, h0⟩ | ⟨b, off, cap, rfl, hbB, _, hrd⟩
    · exact absurd h0 hre
    have hlen : 0 < rest.length := List.length_pos_iff.2 hre
    have hlenI : ((rest.length : Int) == 0) = false := by simp; omega
    obtain ⟨_, _, hv, hcap1, hcap2⟩ := hrd.le
    cases hv
    unfold maxLen at hcap2
    have hget := get_any w _ _ _ hrd
    have hok := getGo_ok rest 0 0
    have herr := getGo_err rest 0 0
    have hstep : stepB rest key = _ := rfl
    conv at hstep => rhs; unfold stepB
    generalize getGo 0 0 rest = r at *
    obtain ⟨sv, n, er⟩ := r
    simp only at hstep hok herr hget
    have HGet := Lib.hid hget
    have HStep := Lib.hid hstep
    clear hget hstep hrd
    go_enter Tryd.func72, Tryd.ntmps72
    go_wp2_with (go_at_call 82; go_must (refine HGet.out.mono ?_))
    rintro e w1 ⟨rfl, rfl⟩
    have hbad : ∀ w', w' = w.setCell ⟨g, 3, none⟩ (.bool true) → (∃ r k s, CurAt B w' g r k s true) ∧ BelowT B w w' := by
      rintro w' rfl
      have hb2 : Below B w (w.setCell ⟨g, 3, none⟩ (.bool true)) := (Below.refl B w).setCell (p := ⟨g, 3, none⟩) hB _
      refine ⟨⟨rest, key, sh, _, _, ?_, HS.out.below hb2, own_set_far HK.out HG.out (by decide) 3 _, hB⟩, (BelowT.refl B w).store hB HG.out 3 _⟩
      rw [heap_setCell_same _ g 3 _ _ _ HG.out]
      rfl
    have HBad := Lib.hid hbad
    clear hbad
    by_cases he0 : er = 0
    · subst he0
      obtain ⟨hn0, hnl, _, hsv⟩ := hok sv n (by decide) rfl
      by_cases hsk : sv ≤ key.length
      · have hskI : ¬ ((key.length : Int) < (sv : Int)) := by omega
        have hnI : (n : Int) ≤ (rest.length : Int) := by omega
        have hcut := HS.out.cut (k := n) (by omega)
        have HB1 : Hid (∀ V, CurAt B (w.setCell ⟨g, 0, none⟩ V) g rest key sh bad ∨ True) := Lib.hid fun _ => .inr trivial
        have hst : ∀ V, (w.setCell ⟨g, 0, none⟩ V).heap[g]? = some (.cells #[V, .slice ka key.length kcap, .int .i64 (sh : Int), .bool bad] 118 (0, 0)) := fun V => by
          rw [heap_setCell_same _ g 0 _ _ _ HG.out]
          rfl
        have hbl : ∀ V, BelowT B w (w.setCell ⟨g, 0, none⟩ V) := fun V => (BelowT.refl B w).store hB HG.out 0 V
        have hkk : ∀ V, (w.setCell ⟨g, 0, none⟩ V).ownsRow B 5 1 (.slice ka key.length kcap) key.length (bcells key) := fun V => own_set_far HK.out HG.out (by decide) 0 V
        have HCut := Lib.hid hcut
        have HSt := Lib.hid hst
        have HBl := Lib.hid hbl
        have HKk := Lib.hid hkk
        have hStep := HStep.out
        have HStp : Hid (stepB rest key = if (getText (rest.drop n)).2.2 = 0 then some ((rest.drop n).drop (getText (rest.drop n)).2.1, key.take sv ++ (getText (rest.drop n)).1, sv) else none) := Lib.hid (by
          rw [hStep]
          by_cases h : (getText (rest.drop n)).2.2 = 0
          · rw [if_pos ⟨rfl, hsk, h⟩, if_pos h]
          · rw [if_neg (fun h' => h h'.2.2), if_neg h])
        clear hcut hst hbl hkk hStep HStep HB1
        have hdl : (rest.drop n).length = rest.length - n := List.length_drop
        by_cases hcp : cap = n
        · have h1 : cutV (.slice (some ⟨b, off, none⟩) rest.length cap) n = .slice (some ⟨b, off, none⟩) (rest.drop n).length (cap - n) := by
            rw [cutV_some, if_pos hcp, hdl]
          rw [h1] at HCut
          subst hcp
          have hrl : rest.length = cap := by omega
          clear h1
          go_upto_region 8 with fail
          have hdr : (rest.drop cap).length = 0 := by rw [hdl]; omega
          rw [hdr, Nat.sub_self] at HCut
          have hpack : ∃ o1 M1 C1, (w.setCell ⟨g, 0, none⟩ (.slice (some ⟨b, off, none⟩) 0 0)).heap[g]? = some (.cells #[.slice (some ⟨b, o1, none⟩) M1 C1, .slice ka key.length kcap, .int .i64 (sh : Int), .bool bad] 118 (0, 0)) ∧ Sl B (w.setCell ⟨g, 0, none⟩ (.slice (some ⟨b, off, none⟩) 0 0)) (.slice (some ⟨b, o1, none⟩) M1 C1) (rest.drop cap) ∧ M1 = (rest.drop cap).length :=
            ⟨off, 0, 0, HSt.out _, HCut.out.below ((Below.refl B w).setCell (p := ⟨g, 0, none⟩) hB _), hdr.symm⟩
          have HBl1 := Lib.hid (HBl.out (.slice (some ⟨b, off, none⟩) 0 0))
          have HK1 := Lib.hid (HKk.out (.slice (some ⟨b, off, none⟩) 0 0))
          clear HBl HKk HSt HCut hdr hdl c0 c1 c2 c3 f0 HBad HGet hrl
          generalize w.setCell ⟨g, 0, none⟩ (.slice (some ⟨b, off, none⟩) 0 0) = W1 at *
          generalize hnn : cap = n at *
          clear hnn
          obtain ⟨o1, M1, C1, hc1, hs1, hM1⟩ := hpack
          have HC1 := Lib.hid hc1
          have HS1 := Lib.hid hs1
          have d0 := Lib.cell_of_heap hc1 0
          have d1 := Lib.cell_of_heap hc1 1
          have d2 := Lib.cell_of_heap hc1 2
          have d3 := Lib.cell_of_heap hc1 3
          have df := Lib.frozen_of_heap hc1
          simp at d0 d1 d2 d3
          have hlt1 : g < W1.heap.size := (Array.getElem?_eq_some_iff.1 hc1).1
          have hrd1 := hs1.reads
          rw [← hM1] at hrd1
          obtain ⟨_, _, hv, hC1, hC2⟩ := hrd1.le
          cases hv
          unfold maxLen at hC2
          have hgt := gettext_any W1 _ _ _ hrd1
          have HM1 := Lib.hid hM1
          have hS := HStp.out
          have hgo : (getText (rest.drop n)).2.2 = 0 → (getText (rest.drop n)).2.1 ≤ (rest.drop n).length := getText_used (rest.drop n)
          have hgs : (getText (rest.drop n)).1.length ≤ (rest.drop n).length := getText_small (rest.drop n)
          generalize getText (rest.drop n) = tr at *
          obtain ⟨S, m, er⟩ := tr
          simp only at hS hgt hgo hgs
          have HGt := Lib.hid hgt
          have HStp2 := Lib.hid hS
          clear hgt hS HStp hc1 hs1 hrd1 hM1
          go_wp2_with (go_at_call 83; go_must (refine HGt.out.mono ?_))
          rintro e w1 ⟨rfl, rfl⟩
          by_cases he1 : er = 0
          · subst he1
            have hmle := hgo rfl
            rw [← HM1.out] at hmle hgs
            have hcut2 := HS1.out.cut (k := m) (by rw [← HM1.out]; exact hmle)
            have hmI : (m : Int) ≤ (M1 : Int) := by omega
            have hst2 : ∀ V, (W1.setCell ⟨g, 0, none⟩ V).heap[g]? = some (.cells #[V, .slice ka key.length kcap, .int .i64 (sh : Int), .bool bad] 118 (0, 0)) := fun V => by
              rw [heap_setCell_same _ g 0 _ _ _ HC1.out]
              rfl
            have hbl2 : ∀ V, BelowT B w (W1.setCell ⟨g, 0, none⟩ V) := fun V => HBl1.out.store hB HC1.out 0 V
            have hkk2 : ∀ V, (W1.setCell ⟨g, 0, none⟩ V).ownsRow B 5 1 (.slice ka key.length kcap) key.length (bcells key) := fun V => own_set_far HK1.out HC1.out (by decide) 0 V
            have hsl2 : ∀ V v l, Sl B W1 v l → Sl B (W1.setCell ⟨g, 0, none⟩ V) v l := fun V v l h => h.below ((Below.refl B W1).setCell (p := ⟨g, 0, none⟩) hB _)
            have HCut2 := Lib.hid hcut2
            have HSt2 := Lib.hid hst2
            have HBl2 := Lib.hid hbl2
            have HKk2 := Lib.hid hkk2
            have HSl2 := Lib.hid hsl2
            have HStp3 : Hid (stepB rest key = some ((rest.drop n).drop m, key.take sv ++ S, sv)) := Lib.hid (by rw [HStp2.out, if_pos rfl])
            have hd2 : ((rest.drop n).drop m).length = M1 - m := by rw [List.length_drop, HM1.out]
            clear hcut2 hst2 hbl2 hkk2 hsl2 HStp2 hgo
            by_cases hcp2 : C1 = m
            · have h1 : cutV (.slice (some ⟨b, o1, none⟩) M1 C1) m = .slice (some ⟨b, o1, none⟩) (M1 - m) (C1 - m) := by
                rw [cutV_some, if_pos hcp2]
              rw [h1] at HCut2
              subst hcp2
              have hM1c : M1 = C1 := by omega
              subst hM1c
              rw [Nat.sub_self] at HCut2 hd2
              clear h1
              go_upto_region 13 with fail
              have hpack2 : ∃ V, (W1.setCell ⟨g, 0, none⟩ (.slice (some ⟨b, o1, none⟩) 0 0)).heap[g]? = some (.cells #[V, .slice ka key.length kcap, .int .i64 (sh : Int), .bool bad] 118 (0, 0)) ∧ Sl B (W1.setCell ⟨g, 0, none⟩ (.slice (some ⟨b, o1, none⟩) 0 0)) V ((rest.drop n).drop M1) :=
                ⟨_, HSt2.out _, HSl2.out _ _ _ HCut2.out⟩
              have HBl3 := Lib.hid (HBl2.out (.slice (some ⟨b, o1, none⟩) 0 0))
              have HKk3 := Lib.hid (HKk2.out (.slice (some ⟨b, o1, none⟩) 0 0))
              clear HBl2 HKk2 HSt2 HSl2 HCut2 d0 d1 d2 d3 df HC1 HS1 HBl1 HK1 HGt hd2
              generalize W1.setCell ⟨g, 0, none⟩ (.slice (some ⟨b, o1, none⟩) 0 0) = W2 at *
              generalize hR2 : (rest.drop n).drop M1 = R2 at *
              obtain ⟨V2, hc2', hs2⟩ := hpack2
              have hw3 : ∀ V, (W2.setCell ⟨g, 2, none⟩ V).heap[g]? = some (.cells #[V2, .slice ka key.length kcap, V, .bool bad] 118 (0, 0)) := fun V => by
                rw [heap_setCell_same _ g 2 _ _ _ hc2']
                rfl
              have hk3 := own_set_far HKk3.out hc2' (by decide) 2 (.int .i64 (sv : Int))
              have hs3 : Sl B (W2.setCell ⟨g, 2, none⟩ (.int .i64 (sv : Int))) V2 R2 := hs2.below ((Below.refl B W2).setCell (p := ⟨g, 2, none⟩) hB _)
              have hb3 : BelowT B w (W2.setCell ⟨g, 2, none⟩ (.int .i64 (sv : Int))) := HBl3.out.store hB hc2' 2 _
              have d0 := Lib.cell_of_heap hc2' 0
              have d2 := Lib.cell_of_heap hc2' 2
              have df := Lib.frozen_of_heap hc2'
              simp at d0 d2
              have hlt2 : g < W2.heap.size := (Array.getElem?_eq_some_iff.1 hc2').1
              have HC3 := Lib.hid (hw3 (.int .i64 (sv : Int)))
              have HK3 := Lib.hid hk3
              have HS3 := Lib.hid hs3
              have HB3 := Lib.hid hb3
              clear hw3 hk3 hs3 hb3 hc2' hs2 HKk3 HBl3
              go_upto_region 14 with fail
              clear d0 d2 df
              generalize W2.setCell ⟨g, 2, none⟩ (.int .i64 (sv : Int)) = W3 at *
              have d1 := Lib.cell_of_heap HC3.out 1
              have d2 := Lib.cell_of_heap HC3.out 2
              simp at d1 d2
              have hlt3 : g < W3.heap.size := (Array.getElem?_eq_some_iff.1 HC3.out).1
              have hskc : (sv : Int) ≤ (kcap : Int) := by omega
              have hpre := own_pre HK3.out (k := sv) hsk
              rw [show (bcells key).take sv = bcells (key.take sv) by simp [bcells]] at hpre
              have hpre' : W3.drew.ownsRow B 5 1 (.slice ka sv kcap) sv (bcells (key.take sv)) := hpre
              have hsz3 : B ≤ W3.drew.heap.size := Nat.le_trans hBw HB3.out.low.size
              have hssz : (⟨S.toArray⟩ : ByteArray).size = S.length := by show S.toArray.size = _; simp
              have hsrc := Src.ofString (P := Tryd.prog) (w := W3.drew) (tx := 9) Tryd.underlying9 ⟨S.toArray⟩
              have hsl : S.length ≤ 10000000000 := by
                have := HM1.out
                rw [List.length_drop] at this
                omega
              have HPre := Lib.hid hpre
              clear hpre
              go_region_law (first
                | (refine step_append_src rfl _ _ 24 9 rfl B 5 i0 (.int .u8 0) 1 1 Tryd.underlying24 hi hz0 hz1 hz2 rfl _ _ _ rfl hpre' _ _ _ rfl hsrc (by rw [hssz]; unfold maxLen; omega) (by rw [hssz]; omega) hsz3 ?_
                   intro v9 w9 o9 g9 b9 m9
                   rw [bcells_byteCells, ← bcells_append, hssz] at o9
                   obtain ⟨a9, cap9, rfl, hx1, hx2⟩ := (ownsRow.reads o9).le
                   have hc9 := (g9.block g hlt3 (fun e => owns_other HPre.out HC3.out (by decide) e.symm)).trans HC3.out
                   have x1 := Lib.cell_of_heap hc9 1
                   have xf := Lib.frozen_of_heap hc9
                   simp at x1
                   have hlt9 : g < w9.heap.size := (Array.getElem?_eq_some_iff.1 hc9).1))
              all_goals
                have hb9 : BelowT B w w9 := HB3.out.drew.grew b9 hpre' g9
                have hfin : CurAt B (w9.setCell ⟨g, 1, none⟩ (.slice a9 (sv + S.length) cap9)) g R2 (key.take sv ++ S) sv bad ∧ BelowT B w (w9.setCell ⟨g, 1, none⟩ (.slice a9 (sv + S.length) cap9)) := by
                  have hb10 := hb9.store hB hc9 1 (.slice a9 (sv + S.length) cap9)
                  refine ⟨⟨V2, .slice a9 (sv + S.length) cap9, ?_, ?_, ?_, hB⟩, hb10⟩
                  · rw [heap_setCell_same _ g 1 _ _ _ hc9]
                    rfl
                  · have h1 : Sl B w9 V2 R2 := HS3.out.below (below_undrew b9)
                    exact h1.below ((Below.refl B w9).setCell (p := ⟨g, 1, none⟩) hB _)
                  · have hkl2 : (key.take sv ++ S).length = sv + S.length := by simp; omega
                    rw [hkl2]
                    refine own_set_far ?_ hc9 (by decide) 1 _
                    have := o9
                    simpa using this
                have HFin := Lib.hid hfin
                clear hfin hb9 hc9 o9 g9 b9 m9 x1 xf hsrc hpre' hssz
                go_wp2
                go_ret
                exact .inr (.inr ⟨R2, _, sv, hre, HStp3.out, rfl, HFin.out.1, HFin.out.2⟩)
            · have h1 : cutV (.slice (some ⟨b, o1, none⟩) M1 C1) m = .slice (some ⟨b, o1 + m, none⟩) (M1 - m) (C1 - m) := by
                rw [cutV_some, if_neg hcp2]
              rw [h1] at HCut2
              have hcpI2 : ¬ ((C1 : Int) = m) := by omega
              clear h1
              go_upto_region 13 with fail
              have hpack2 : ∃ V, (W1.setCell ⟨g, 0, none⟩ (.slice (some ⟨b, o1 + m, none⟩) (M1 - m) (C1 - m))).heap[g]? = some (.cells #[V, .slice ka key.length kcap, .int .i64 (sh : Int), .bool bad] 118 (0, 0)) ∧ Sl B (W1.setCell ⟨g, 0, none⟩ (.slice (some ⟨b, o1 + m, none⟩) (M1 - m) (C1 - m))) V ((rest.drop n).drop m) :=
                ⟨_, HSt2.out _, HSl2.out _ _ _ HCut2.out⟩
              have HBl3 := Lib.hid (HBl2.out (.slice (some ⟨b, o1 + m, none⟩) (M1 - m) (C1 - m)))
              have HKk3 := Lib.hid (HKk2.out (.slice (some ⟨b, o1 + m, none⟩) (M1 - m) (C1 - m)))
              clear HBl2 HKk2 HSt2 HSl2 HCut2 d0 d1 d2 d3 df HC1 HS1 HBl1 HK1 HGt hd2
              generalize W1.setCell ⟨g, 0, none⟩ (.slice (some ⟨b, o1 + m, none⟩) (M1 - m) (C1 - m)) = W2 at *
              generalize hR2 : (rest.drop n).drop m = R2 at *
              obtain ⟨V2, hc2', hs2⟩ := hpack2
              have hw3 : ∀ V, (W2.setCell ⟨g, 2, none⟩ V).heap[g]? = some (.cells #[V2, .slice ka key.length kcap, V, .bool bad] 118 (0, 0)) := fun V => by
                rw [heap_setCell_same _ g 2 _ _ _ hc2']
                rfl
              have hk3 := own_set_far HKk3.out hc2' (by decide) 2 (.int .i64 (sv : Int))
              have hs3 : Sl B (W2.setCell ⟨g, 2, none⟩ (.int .i64 (sv : Int))) V2 R2 := hs2.below ((Below.refl B W2).setCell (p := ⟨g, 2, none⟩) hB _)
              have hb3 : BelowT B w (W2.setCell ⟨g, 2, none⟩ (.int .i64 (sv : Int))) := HBl3.out.store hB hc2' 2 _
              have d0 := Lib.cell_of_heap hc2' 0
              have d2 := Lib.cell_of_heap hc2' 2
              have df := Lib.frozen_of_heap hc2'
              simp at d0 d2
              have hlt2 : g < W2.heap.size := (Array.getElem?_eq_some_iff.1 hc2').1
              have HC3 := Lib.hid (hw3 (.int .i64 (sv : Int)))
              have HK3 := Lib.hid hk3
              have HS3 := Lib.hid hs3
              have HB3 := Lib.hid hb3
              clear hw3 hk3 hs3 hb3 hc2' hs2 HKk3 HBl3
              go_upto_region 14 with fail
              clear d0 d2 df
              generalize W2.setCell ⟨g, 2, none⟩ (.int .i64 (sv : Int)) = W3 at *
              have d1 := Lib.cell_of_heap HC3.out 1
              have d2 := Lib.cell_of_heap HC3.out 2
              simp at d1 d2
              have hlt3 : g < W3.heap.size := (Array.getElem?_eq_some_iff.1 HC3.out).1
              have hskc : (sv : Int) ≤ (kcap : Int) := by omega
              have hpre := own_pre HK3.out (k := sv) hsk
              rw [show (bcells key).take sv = bcells (key.take sv) by simp [bcells]] at hpre
              have hpre' : W3.drew.ownsRow B 5 1 (.slice ka sv kcap) sv (bcells (key.take sv)) := hpre
              have hsz3 : B ≤ W3.drew.heap.size := Nat.le_trans hBw HB3.out.low.size
              have hssz : (⟨S.toArray⟩ : ByteArray).size = S.length := by show S.toArray.size = _; simp
              have hsrc := Src.ofString (P := Tryd.prog) (w := W3.drew) (tx := 9) Tryd.underlying9 ⟨S.toArray⟩
              have hsl : S.length ≤ 10000000000 := by
                have := HM1.out
                rw [List.length_drop] at this
                omega
              have HPre := Lib.hid hpre
              clear hpre
              go_region_law (first
                | (refine step_append_src rfl _ _ 24 9 rfl B 5 i0 (.int .u8 0) 1 1 Tryd.underlying24 hi hz0 hz1 hz2 rfl _ _ _ rfl hpre' _ _ _ rfl hsrc (by rw [hssz]; unfold maxLen; omega) (by rw [hssz]; omega) hsz3 ?_
                   intro v9 w9 o9 g9 b9 m9
                   rw [bcells_byteCells, ← bcells_append, hssz] at o9
                   obtain ⟨a9, cap9, rfl, hx1, hx2⟩ := (ownsRow.reads o9).le
                   have hc9 := (g9.block g hlt3 (fun e => owns_other HPre.out HC3.out (by decide) e.symm)).trans HC3.out
                   have x1 := Lib.cell_of_heap hc9 1
                   have xf := Lib.frozen_of_heap hc9
                   simp at x1
                   have hlt9 : g < w9.heap.size := (Array.getElem?_eq_some_iff.1 hc9).1))
              all_goals
                have hb9 : BelowT B w w9 := HB3.out.drew.grew b9 hpre' g9
                have hfin : CurAt B (w9.setCell ⟨g, 1, none⟩ (.slice a9 (sv + S.length) cap9)) g R2 (key.take sv ++ S) sv bad ∧ BelowT B w (w9.setCell ⟨g, 1, none⟩ (.slice a9 (sv + S.length) cap9)) := by
                  have hb10 := hb9.store hB hc9 1 (.slice a9 (sv + S.length) cap9)
                  refine ⟨⟨V2, .slice a9 (sv + S.length) cap9, ?_, ?_, ?_, hB⟩, hb10⟩
                  · rw [heap_setCell_same _ g 1 _ _ _ hc9]
                    rfl
                  · have h1 : Sl B w9 V2 R2 := HS3.out.below (below_undrew b9)
                    exact h1.below ((Below.refl B w9).setCell (p := ⟨g, 1, none⟩) hB _)
                  · have hkl2 : (key.take sv ++ S).length = sv + S.length := by simp; omega
                    rw [hkl2]
                    refine own_set_far ?_ hc9 (by decide) 1 _
                    have := o9
                    simpa using this
                have HFin := Lib.hid hfin
                clear hfin hb9 hc9 o9 g9 b9 m9 x1 xf hsrc hpre' hssz
                go_wp2
                go_ret
                exact .inr (.inr ⟨R2, _, sv, hre, HStp3.out, rfl, HFin.out.1, HFin.out.2⟩)
          · have heI : ((er : Int) != 0) = true := by simp; omega
            have hnone : stepB rest key = none := by rw [HStp2.out, if_neg he1]
            have HNone := Lib.hid hnone
            have hbad2 : (∃ r k s, CurAt B (W1.setCell ⟨g, 3, none⟩ (.bool true)) g r k s true) ∧ BelowT B w (W1.setCell ⟨g, 3, none⟩ (.bool true)) := by
              have hb2 : Below B W1 (W1.setCell ⟨g, 3, none⟩ (.bool true)) := (Below.refl B W1).setCell (p := ⟨g, 3, none⟩) hB _
              refine ⟨⟨rest.drop n, key, sh, _, _, ?_, HS1.out.below hb2, own_set_far HK1.out HC1.out (by decide) 3 _, hB⟩, HBl1.out.store hB HC1.out 3 _⟩
              rw [heap_setCell_same _ g 3 _ _ _ HC1.out]
              rfl
            have HBad2 := Lib.hid hbad2
            clear hnone hbad2 HStp2
            go_wp2
            go_ret
            exact .inr (.inl ⟨hre, HNone.out, rfl, HBad2.out.1, HBad2.out.2⟩)
        · have h1 : cutV (.slice (some ⟨b, off, none⟩) rest.length cap) n = .slice (some ⟨b, off + n, none⟩) (rest.drop n).length (cap - n) := by
            rw [cutV_some, if_neg hcp, hdl]
          rw [h1] at HCut
          clear h1
          have hcpI : ¬ ((cap : Int) = n) := by omega
          go_upto_region 8 with fail
          rw [hdl] at HCut
          have hpack : ∃ o1 M1 C1, (w.setCell ⟨g, 0, none⟩ (.slice (some ⟨b, off + n, none⟩) (rest.length - n) (cap - n))).heap[g]? = some (.cells #[.slice (some ⟨b, o1, none⟩) M1 C1, .slice ka key.length kcap, .int .i64 (sh : Int), .bool bad] 118 (0, 0)) ∧ Sl B (w.setCell ⟨g, 0, none⟩ (.slice (some ⟨b, off + n, none⟩) (rest.length - n) (cap - n))) (.slice (some ⟨b, o1, none⟩) M1 C1) (rest.drop n) ∧ M1 = (rest.drop n).length :=
            ⟨off + n, rest.length - n, cap - n, HSt.out _, HCut.out.below ((Below.refl B w).setCell (p := ⟨g, 0, none⟩) hB _), hdl.symm⟩
          have HBl1 := Lib.hid (HBl.out (.slice (some ⟨b, off + n, none⟩) (rest.length - n) (cap - n)))
          have HK1 := Lib.hid (HKk.out (.slice (some ⟨b, off + n, none⟩) (rest.length - n) (cap - n)))
          clear HBl HKk HSt HCut hdl c0 c1 c2 c3 f0 HBad HGet
          generalize w.setCell ⟨g, 0, none⟩ (.slice (some ⟨b, off + n, none⟩) (rest.length - n) (cap - n)) = W1 at *
          obtain ⟨o1, M1, C1, hc1, hs1, hM1⟩ := hpack
          have HC1 := Lib.hid hc1
          have HS1 := Lib.hid hs1
          have d0 := Lib.cell_of_heap hc1 0
          have d1 := Lib.cell_of_heap hc1 1
          have d2 := Lib.cell_of_heap hc1 2
          have d3 := Lib.cell_of_heap hc1 3
          have df := Lib.frozen_of_heap hc1
          simp at d0 d1 d2 d3
          have hlt1 : g < W1.heap.size := (Array.getElem?_eq_some_iff.1 hc1).1
          have hrd1 := hs1.reads
          rw [← hM1] at hrd1
          obtain ⟨_, _, hv, hC1, hC2⟩ := hrd1.le
          cases hv
          unfold maxLen at hC2
          have hgt := gettext_any W1 _ _ _ hrd1
          have HM1 := Lib.hid hM1
          have hS := HStp.out
          have hgo : (getText (rest.drop n)).2.2 = 0 → (getText (rest.drop n)).2.1 ≤ (rest.drop n).length := getText_used (rest.drop n)
          have hgs : (getText (rest.drop n)).1.length ≤ (rest.drop n).length := getText_small (rest.drop n)
          generalize getText (rest.drop n) = tr at *
          obtain ⟨S, m, er⟩ := tr
          simp only at hS hgt hgo hgs
          have HGt := Lib.hid hgt
          have HStp2 := Lib.hid hS
          clear hgt hS HStp hc1 hs1 hrd1 hM1
          go_wp2_with (go_at_call 83; go_must (refine HGt.out.mono ?_))
          rintro e w1 ⟨rfl, rfl⟩
          by_cases he1 : er = 0
          · subst he1
            have hmle := hgo rfl
            rw [← HM1.out] at hmle hgs
            have hcut2 := HS1.out.cut (k := m) (by rw [← HM1.out]; exact hmle)
            have hmI : (m : Int) ≤ (M1 : Int) := by omega
            have hst2 : ∀ V, (W1.setCell ⟨g, 0, none⟩ V).heap[g]? = some (.cells #[V, .slice ka key.length kcap, .int .i64 (sh : Int), .bool bad] 118 (0, 0)) := fun V => by
              rw [heap_setCell_same _ g 0 _ _ _ HC1.out]
              rfl
            have hbl2 : ∀ V, BelowT B w (W1.setCell ⟨g, 0, none⟩ V) := fun V => HBl1.out.store hB HC1.out 0 V
            have hkk2 : ∀ V, (W1.setCell ⟨g, 0, none⟩ V).ownsRow B 5 1 (.slice ka key.length kcap) key.length (bcells key) := fun V => own_set_far HK1.out HC1.out (by decide) 0 V
            have hsl2 : ∀ V v l, Sl B W1 v l → Sl B (W1.setCell ⟨g, 0, none⟩ V) v l := fun V v l h => h.below ((Below.refl B W1).setCell (p := ⟨g, 0, none⟩) hB _)
            have HCut2 := Lib.hid hcut2
            have HSt2 := Lib.hid hst2
            have HBl2 := Lib.hid hbl2
            have HKk2 := Lib.hid hkk2
            have HSl2 := Lib.hid hsl2
            have HStp3 : Hid (stepB rest key = some ((rest.drop n).drop m, key.take sv ++ S, sv)) := Lib.hid (by rw [HStp2.out, if_pos rfl])
            have hd2 : ((rest.drop n).drop m).length = M1 - m := by rw [List.length_drop, HM1.out]
            clear hcut2 hst2 hbl2 hkk2 hsl2 HStp2 hgo
            by_cases hcp2 : C1 = m
            · have h1 : cutV (.slice (some ⟨b, o1, none⟩) M1 C1) m = .slice (some ⟨b, o1, none⟩) (M1 - m) (C1 - m) := by
                rw [cutV_some, if_pos hcp2]
              rw [h1] at HCut2
              subst hcp2
              have hM1c : M1 = C1 := by omega
              subst hM1c
              rw [Nat.sub_self] at HCut2 hd2
              clear h1
              go_upto_region 13 with fail
              have hpack2 : ∃ V, (W1.setCell ⟨g, 0, none⟩ (.slice (some ⟨b, o1, none⟩) 0 0)).heap[g]? = some (.cells #[V, .slice ka key.length kcap, .int .i64 (sh : Int), .bool bad] 118 (0, 0)) ∧ Sl B (W1.setCell ⟨g, 0, none⟩ (.slice (some ⟨b, o1, none⟩) 0 0)) V ((rest.drop n).drop M1) :=
                ⟨_, HSt2.out _, HSl2.out _ _ _ HCut2.out⟩
              have HBl3 := Lib.hid (HBl2.out (.slice (some ⟨b, o1, none⟩) 0 0))
              have HKk3 := Lib.hid (HKk2.out (.slice (some ⟨b, o1, none⟩) 0 0))
              clear HBl2 HKk2 HSt2 HSl2 HCut2 d0 d1 d2 d3 df HC1 HS1 HBl1 HK1 HGt hd2
              generalize W1.setCell ⟨g, 0, none⟩ (.slice (some ⟨b, o1, none⟩) 0 0) = W2 at *
              generalize hR2 : (rest.drop n).drop M1 = R2 at *
              obtain ⟨V2, hc2', hs2⟩ := hpack2
              have hw3 : ∀ V, (W2.setCell ⟨g, 2, none⟩ V).heap[g]? = some (.cells #[V2, .slice ka key.length kcap, V, .bool bad] 118 (0, 0)) := fun V => by
                rw [heap_setCell_same _ g 2 _ _ _ hc2']
                rfl
              have hk3 := own_set_far HKk3.out hc2' (by decide) 2 (.int .i64 (sv : Int))
              have hs3 : Sl B (W2.setCell ⟨g, 2, none⟩ (.int .i64 (sv : Int))) V2 R2 := hs2.below ((Below.refl B W2).setCell (p := ⟨g, 2, none⟩) hB _)
              have hb3 : BelowT B w (W2.setCell ⟨g, 2, none⟩ (.int .i64 (sv : Int))) := HBl3.out.store hB hc2' 2 _
              have d0 := Lib.cell_of_heap hc2' 0
              have d2 := Lib.cell_of_heap hc2' 2
              have df := Lib.frozen_of_heap hc2'
              simp at d0 d2
              have hlt2 : g < W2.heap.size := (Array.getElem?_eq_some_iff.1 hc2').1
              have HC3 := Lib.hid (hw3 (.int .i64 (sv : Int)))
              have HK3 := Lib.hid hk3
              have HS3 := Lib.hid hs3
              have HB3 := Lib.hid hb3
              clear hw3 hk3 hs3 hb3 hc2' hs2 HKk3 HBl3
              go_upto_region 14 with fail
              clear d0 d2 df
              generalize W2.setCell ⟨g, 2, none⟩ (.int .i64 (sv : Int)) = W3 at *
              have d1 := Lib.cell_of_heap HC3.out 1
              have d2 := Lib.cell_of_heap HC3.out 2
              simp at d1 d2
              have hlt3 : g < W3.heap.size := (Array.getElem?_eq_some_iff.1 HC3.out).1
              have hskc : (sv : Int) ≤ (kcap : Int) := by omega
              have hpre := own_pre HK3.out (k := sv) hsk
              rw [show (bcells key).take sv = bcells (key.take sv) by simp [bcells]] at hpre
              have hpre' : W3.drew.ownsRow B 5 1 (.slice ka sv kcap) sv (bcells (key.take sv)) := hpre
              have hsz3 : B ≤ W3.drew.heap.size := Nat.le_trans hBw HB3.out.low.size
              have hssz : (⟨S.toArray⟩ : ByteArray).size = S.length := by show S.toArray.size = _; simp
              have hsrc := Src.ofString (P := Tryd.prog) (w := W3.drew) (tx := 9) Tryd.underlying9 ⟨S.toArray⟩
              have hsl : S.length ≤ 10000000000 := by
                have := HM1.out
                rw [List.length_drop] at this
                omega
              have HPre := Lib.hid hpre
              clear hpre
              go_region_law (first
                | (refine step_append_src rfl _ _ 24 9 rfl B 5 i0 (.int .u8 0) 1 1 Tryd.underlying24 hi hz0 hz1 hz2 rfl _ _ _ rfl hpre' _ _ _ rfl hsrc (by rw [hssz]; unfold maxLen; omega) (by rw [hssz]; omega) hsz3 ?_
                   intro v9 w9 o9 g9 b9 m9
                   rw [bcells_byteCells, ← bcells_append, hssz] at o9
                   obtain ⟨a9, cap9, rfl, hx1, hx2⟩ := (ownsRow.reads o9).le
                   have hc9 := (g9.block g hlt3 (fun e => owns_other HPre.out HC3.out (by decide) e.symm)).trans HC3.out
                   have x1 := Lib.cell_of_heap hc9 1
                   have xf := Lib.frozen_of_heap hc9
                   simp at x1
                   have hlt9 : g < w9.heap.size := (Array.getElem?_eq_some_iff.1 hc9).1))
              all_goals
                have hb9 : BelowT B w w9 := HB3.out.drew.grew b9 hpre' g9
                have hfin : CurAt B (w9.setCell ⟨g, 1, none⟩ (.slice a9 (sv + S.length) cap9)) g R2 (key.take sv ++ S) sv bad ∧ BelowT B w (w9.setCell ⟨g, 1, none⟩ (.slice a9 (sv + S.length) cap9)) := by
                  have hb10 := hb9.store hB hc9 1 (.slice a9 (sv + S.length) cap9)
                  refine ⟨⟨V2, .slice a9 (sv + S.length) cap9, ?_, ?_, ?_, hB⟩, hb10⟩
                  · rw [heap_setCell_same _ g 1 _ _ _ hc9]
                    rfl
                  · have h1 : Sl B w9 V2 R2 := HS3.out.below (below_undrew b9)
                    exact h1.below ((Below.refl B w9).setCell (p := ⟨g, 1, none⟩) hB _)
                  · have hkl2 : (key.take sv ++ S).length = sv + S.length := by simp; omega
                    rw [hkl2]
                    refine own_set_far ?_ hc9 (by decide) 1 _
                    have := o9
                    simpa using this
                have HFin := Lib.hid hfin
                clear hfin hb9 hc9 o9 g9 b9 m9 x1 xf hsrc hpre' hssz
                go_wp2
                go_ret
                exact .inr (.inr ⟨R2, _, sv, hre, HStp3.out, rfl, HFin.out.1, HFin.out.2⟩)
            · have h1 : cutV (.slice (some ⟨b, o1, none⟩) M1 C1) m = .slice (some ⟨b, o1 + m, none⟩) (M1 - m) (C1 - m) := by
                rw [cutV_some, if_neg hcp2]
              rw [h1] at HCut2
              have hcpI2 : ¬ ((C1 : Int) = m) := by omega
              clear h1
              go_upto_region 13 with fail
              have hpack2 : ∃ V, (W1.setCell ⟨g, 0, none⟩ (.slice (some ⟨b, o1 + m, none⟩) (M1 - m) (C1 - m))).heap[g]? = some (.cells #[V, .slice ka key.length kcap, .int .i64 (sh : Int), .bool bad] 118 (0, 0)) ∧ Sl B (W1.setCell ⟨g, 0, none⟩ (.slice (some ⟨b, o1 + m, none⟩) (M1 - m) (C1 - m))) V ((rest.drop n).drop m) :=
                ⟨_, HSt2.out _, HSl2.out _ _ _ HCut2.out⟩
              have HBl3 := Lib.hid (HBl2.out (.slice (some ⟨b, o1 + m, none⟩) (M1 - m) (C1 - m)))
              have HKk3 := Lib.hid (HKk2.out (.slice (some ⟨b, o1 + m, none⟩) (M1 - m) (C1 - m)))
              clear HBl2 HKk2 HSt2 HSl2 HCut2 d0 d1 d2 d3 df HC1 HS1 HBl1 HK1 HGt hd2
              generalize W1.setCell ⟨g, 0, none⟩ (.slice (some ⟨b, o1 + m, none⟩) (M1 - m) (C1 - m)) = W2 at *
              generalize hR2 : (rest.drop n).drop m = R2 at *
              obtain ⟨V2, hc2', hs2⟩ := hpack2
              have hw3 : ∀ V, (W2.setCell ⟨g, 2, none⟩ V).heap[g]? = some (.cells #[V2, .slice ka key.length kcap, V, .bool bad] 118 (0, 0)) := fun V => by
                rw [heap_setCell_same _ g 2 _ _ _ hc2']
                rfl
              have hk3 := own_set_far HKk3.out hc2' (by decide) 2 (.int .i64 (sv : Int))
              have hs3 : Sl B (W2.setCell ⟨g, 2, none⟩ (.int .i64 (sv : Int))) V2 R2 := hs2.below ((Below.refl B W2).setCell (p := ⟨g, 2, none⟩) hB _)
              have hb3 : BelowT B w (W2.setCell ⟨g, 2, none⟩ (.int .i64 (sv : Int))) := HBl3.out.store hB hc2' 2 _
              have d0 := Lib.cell_of_heap hc2' 0
              have d2 := Lib.cell_of_heap hc2' 2
              have df := Lib.frozen_of_heap hc2'
              simp at d0 d2
              have hlt2 : g < W2.heap.size := (Array.getElem?_eq_some_iff.1 hc2').1
              have HC3 := Lib.hid (hw3 (.int .i64 (sv : Int)))
              have HK3 := Lib.hid hk3
              have HS3 := Lib.hid hs3
              have HB3 := Lib.hid hb3
              clear hw3 hk3 hs3 hb3 hc2' hs2 HKk3 HBl3
              go_upto_region 14 with fail
              clear d0 d2 df
              generalize W2.setCell ⟨g, 2, none⟩ (.int .i64 (sv : Int)) = W3 at *
              have d1 := Lib.cell_of_heap HC3.out 1
              have d2 := Lib.cell_of_heap HC3.out 2
              simp at d1 d2
              have hlt3 : g < W3.heap.size := (Array.getElem?_eq_some_iff.1 HC3.out).1
              have hskc : (sv : Int) ≤ (kcap : Int) := by omega
              have hpre := own_pre HK3.out (k := sv) hsk
              rw [show (bcells key).take sv = bcells (key.take sv) by simp [bcells]] at hpre
              have hpre' : W3.drew.ownsRow B 5 1 (.slice ka sv kcap) sv (bcells (key.take sv)) := hpre
              have hsz3 : B ≤ W3.drew.heap.size := Nat.le_trans hBw HB3.out.low.size
              have hssz : (⟨S.toArray⟩ : ByteArray).size = S.length := by show S.toArray.size = _; simp
              have hsrc := Src.ofString (P := Tryd.prog) (w := W3.drew) (tx := 9) Tryd.underlying9 ⟨S.toArray⟩
              have hsl : S.length ≤ 10000000000 := by
                have := HM1.out
                rw [List.length_drop] at this
                omega
              have HPre := Lib.hid hpre
              clear hpre
              go_region_law (first
                | (refine step_append_src rfl _ _ 24 9 rfl B 5 i0 (.int .u8 0) 1 1 Tryd.underlying24 hi hz0 hz1 hz2 rfl _ _ _ rfl hpre' _ _ _ rfl hsrc (by rw [hssz]; unfold maxLen; omega) (by rw [hssz]; omega) hsz3 ?_
                   intro v9 w9 o9 g9 b9 m9
                   rw [bcells_byteCells, ← bcells_append, hssz] at o9
                   obtain ⟨a9, cap9, rfl, hx1, hx2⟩ := (ownsRow.reads o9).le
                   have hc9 := (g9.block g hlt3 (fun e => owns_other HPre.out HC3.out (by decide) e.symm)).trans HC3.out
                   have x1 := Lib.cell_of_heap hc9 1
                   have xf := Lib.frozen_of_heap hc9
                   simp at x1
                   have hlt9 : g < w9.heap.size := (Array.getElem?_eq_some_iff.1 hc9).1))
              all_goals
                have hb9 : BelowT B w w9 := HB3.out.drew.grew b9 hpre' g9
                have hfin : CurAt B (w9.setCell ⟨g, 1, none⟩ (.slice a9 (sv + S.length) cap9)) g R2 (key.take sv ++ S) sv bad ∧ BelowT B w (w9.setCell ⟨g, 1, none⟩ (.slice a9 (sv + S.length) cap9)) := by
                  have hb10 := hb9.store hB hc9 1 (.slice a9 (sv + S.length) cap9)
                  refine ⟨⟨V2, .slice a9 (sv + S.length) cap9, ?_, ?_, ?_, hB⟩, hb10⟩
                  · rw [heap_setCell_same _ g 1 _ _ _ hc9]
                    rfl
                  · have h1 : Sl B w9 V2 R2 := HS3.out.below (below_undrew b9)
                    exact h1.below ((Below.refl B w9).setCell (p := ⟨g, 1, none⟩) hB _)
                  · have hkl2 : (key.take sv ++ S).length = sv + S.length := by simp; omega
                    rw [hkl2]
                    refine own_set_far ?_ hc9 (by decide) 1 _
                    have := o9
                    simpa using this
                have HFin := Lib.hid hfin
                clear hfin hb9 hc9 o9 g9 b9 m9 x1 xf hsrc hpre' hssz
                go_wp2
                go_ret
                exact .inr (.inr ⟨R2, _, sv, hre, HStp3.out, rfl, HFin.out.1, HFin.out.2⟩)
          · have heI : ((er : Int) != 0) = true := by simp; omega
            have hnone : stepB rest key = none := by rw [HStp2.out, if_neg he1]
            have HNone := Lib.hid hnone
            have hbad2 : (∃ r k s, CurAt B (W1.setCell ⟨g, 3, none⟩ (.bool true)) g r k s true) ∧ BelowT B w (W1.setCell ⟨g, 3, none⟩ (.bool true)) := by
              have hb2 : Below B W1 (W1.setCell ⟨g, 3, none⟩ (.bool true)) := (Below.refl B W1).setCell (p := ⟨g, 3, none⟩) hB _
              refine ⟨⟨rest.drop n, key, sh, _, _, ?_, HS1.out.below hb2, own_set_far HK1.out HC1.out (by decide) 3 _, hB⟩, HBl1.out.store hB HC1.out 3 _⟩
              rw [heap_setCell_same _ g 3 _ _ _ HC1.out]
              rfl
            have HBad2 := Lib.hid hbad2
            clear hnone hbad2 HStp2
            go_wp2
            go_ret
            exact .inr (.inl ⟨hre, HNone.out, rfl, HBad2.out.1, HBad2.out.2⟩)
      · have hskI : (key.length : Int) < (sv : Int) := by omega
        have hnone : stepB rest key = none := by rw [HStep.out, if_neg (fun h => hsk h.2.1)]
        have HNone := Lib.hid hnone
        clear hnone
        go_wp2
        go_ret
        obtain ⟨k1, k2⟩ := HBad.out _ rfl
        exact .inr (.inl ⟨hre, HNone.out, rfl, k1, k2⟩)
    · have heI : ((er : Int) != 0) = true := by simp; omega
      have hnone : stepB rest key = none := by rw [HStep.out, if_neg (fun h => he0 h.1)]
      have HNone := Lib.hid hnone
      clear hnone
      go_wp2
      go_ret
      obtain ⟨k1, k2⟩ := HBad.out _ rfl
      exact .inr (.inl ⟨hre, HNone.out, rfl, k1, k2⟩)
end Go.Proofs.YtfhdonidgegebaaDoor

/- get: a number of four bytes. -/
namespace Go.Proofs.YtfhdonidgegebaaDoor
open Go Go.RowKit

theorem wraps_i64 (n : Int) (h₀ : 0 ≤ n) (h₁ : n < 2 ^ 62) : IntKind.i64.wrap n = n := by
  rw [IntKind.wrap_i64]; omega

theorem i64_or_small (a b : Nat) (ha : a < 2 ^ 62) (hb : b < 2 ^ 62) : bits .or .i64 (a : Int) (b : Int) = ((a ||| b : Nat) : Int) := (bits_nat .i64 62 (by decide) wraps_i64 a b ha hb).2

theorem or_join13 (x y : Nat) (k : Nat) (hy : y < 2 ^ k) (h : 2 ^ k * x + y < 4294967296) : bits BinOp.or .i64 ((2 ^ k * x : Nat) : Int) (y : Int) = ((2 ^ k * x + y : Nat) : Int) := by
  rw [i64_or_small _ _ (by omega) (by omega), Nat.two_pow_add_eq_or_of_lt hy]

theorem get_math13 (c0 c1 c2 c3 : UInt8) :
    bits BinOp.or .i64 (bits BinOp.or .i64 (bits BinOp.or .i64 ((c0.toNat : Int) * 16777216) ((c1.toNat : Int) * 65536)) ((c2.toNat : Int) * 256)) (c3.toNat : Int) = ((((c0.toNat * 256 + c1.toNat) * 256 + c2.toNat) * 256 + c3.toNat : Nat) : Int) := by
  have h0 := c0.toNat_lt
  have h1 := c1.toNat_lt
  have h2 := c2.toNat_lt
  have h3 := c3.toNat_lt
  have e0 : (c0.toNat : Int) * 16777216 = ((2 ^ 24 * c0.toNat : Nat) : Int) := by omega
  have e1 : (c1.toNat : Int) * 65536 = ((65536 * c1.toNat : Nat) : Int) := by omega
  have e2 : (c2.toNat : Int) * 256 = ((256 * c2.toNat : Nat) : Int) := by omega
  rw [e0, e1, e2, or_join13 c0.toNat _ 24 (by omega) (by omega)]
  have e3 : 2 ^ 24 * c0.toNat + 65536 * c1.toNat = 2 ^ 16 * (256 * c0.toNat + c1.toNat) := by omega
  rw [e3, or_join13 _ _ 16 (by omega) (by omega)]
  have e4 : 2 ^ 16 * (256 * c0.toNat + c1.toNat) + 256 * c2.toNat = 2 ^ 8 * (65536 * c0.toNat + 256 * c1.toNat + c2.toNat) := by omega
  rw [e4, or_join13 _ _ 8 (by omega) (by omega)]
  omega

theorem w64_small (z : Int) (h0 : 0 ≤ z) (h1 : z < 4611686018427387904) : wrap64 z = z := by
  unfold wrap64
  omega

def TellsQ (w : World) (n : Nat) (e : Ending) (w' : World) : Prop := e = .returned (.int .i64 (n : Int)) ∧ ∃ m, w' = w.drewN m

set_option maxRecDepth 100000 in
set_option maxHeartbeats 1000000 in
theorem get13_any (w : World) (v : Value) (n : Nat) (l : List UInt8) (h : Reads w 1 v n (bcells l)) (hn : 4 ≤ n) :
    Calls Tryd.prog 84 #[v] w (TellsQ w (num4 l)) := by
  obtain ⟨b, off, cap, rfl, h1, h2, hl, hc⟩ := h.head (by omega)
  unfold maxLen at h2
  have c0 := hc 0 (by omega)
  have c1 := hc 1 (by omega)
  have c2 := hc 2 (by omega)
  have c3 := hc 3 (by omega)
  have hm : num4 l = ((((l.getD 0 0).toNat * 256 + (l.getD 1 0).toNat) * 256 + (l.getD 2 0).toNat) * 256 + (l.getD 3 0).toNat) := rfl
  rw [hm]
  clear hm h hc
  generalize l.getD 0 0 = d0 at *
  generalize l.getD 1 0 = d1 at *
  generalize l.getD 2 0 = d2 at *
  generalize l.getD 3 0 = d3 at *
  clear hl
  simp only [Nat.add_zero] at c0
  have i0 : (0 : Int) < n := by omega
  have i1 : (1 : Int) < n := by omega
  have i2 : (2 : Int) < n := by omega
  have i3 : (3 : Int) < n := by omega
  go_enter Tryd.func84, Tryd.ntmps84
  go_wp2_with fail
  go_quiet (fail)
  go_wp2
  go_ret
  refine ⟨?_, _, rfl⟩
  refine congrArg (fun z => Ending.returned (.int .i64 z)) (Eq.trans ?_ (get_math13 d0 d1 d2 d3))
  have h0 := d0.toNat_lt
  have h1 := d1.toNat_lt
  have h2 := d2.toNat_lt
  have h3 := d3.toNat_lt
  rw [w64_small (d0.toNat : Int) (by omega) (by omega), w64_small (d1.toNat : Int) (by omega) (by omega), w64_small (d2.toNat : Int) (by omega) (by omega), w64_small (d3.toNat : Int) (by omega) (by omega),
    w64_small ((d0.toNat : Int) * 16777216) (by omega) (by omega), w64_small ((d1.toNat : Int) * 65536) (by omega) (by omega), w64_small ((d2.toNat : Int) * 256) (by omega) (by omega)]
end Go.Proofs.YtfhdonidgegebaaDoor

/- A cursor that was just laid. -/
namespace Go.Proofs.YtfhdonidgegebaaDoor
open Go Go.RowKit

def fromL (data places : List UInt8) (i : Nat) : List UInt8 × Bool := if data.length ≤ num4 (places.drop (4 * i)) then ([], true) else (data.drop (num4 (places.drop (4 * i))), false)

theorem fresh_cur (w : World) (q : Nat) (rv : Value) (rest : List UInt8) (bad : Bool) (h : Sl w.heap.size w rv rest) :
    CurAt w.heap.size ((w.drewN q).alloc (.cells #[rv, .slice none 0 0, .int .i64 0, .bool bad] 118)) w.heap.size rest [] 0 bad :=
  ⟨rv, .slice none 0 0, heap_alloc_new (w.drewN q) _, h.below (Below.alloc (below_quiet (Below.refl _ _) q) (Nat.le_refl _) _), owns_nil _ _ _ _, Nat.le_refl _⟩

theorem CurAt.fresh {B : Nat} {w w' : World} {g : Nat} {rest key : List UInt8} {sh : Nat} {bad : Bool} (h : CurAt B w g rest key sh bad) (b : Below w.heap.size w w') (hB : B ≤ w.heap.size) : CurAt B w' g rest key sh bad := by
  obtain ⟨rv, kv, h1, h2, h3, h4⟩ := h
  exact ⟨rv, kv, (b.block g (Array.getElem?_eq_some_iff.1 h1).1).trans h1, h2.below (b.mono hB), owns_below h3 b, h4⟩

theorem Sl.up {B B' : Nat} {w : World} {v : Value} {l : List UInt8} (h : Sl B w v l) (hB : B ≤ B') : Sl B' w v l :=
  h.imp id fun ⟨b, off, cap, h1, h2, h3⟩ => ⟨b, off, cap, h1, fun hl => Nat.lt_of_lt_of_le (h2 hl) hB, h3⟩
end Go.Proofs.YtfhdonidgegebaaDoor

/- parts; sort.Search. -/
namespace Go.Proofs.YtfhdonidgegebaaDoor
open Go Go.RowKit

def partsL (b : List UInt8) : Option (List UInt8 × List UInt8) :=
  if b.length < 4 then none
  else if (b.length - 4) / 4 < num4 (b.drop (b.length - 4)) then none
  else some (b.take (b.length - 4 - 4 * num4 (b.drop (b.length - 4))), (b.drop (b.length - 4 - 4 * num4 (b.drop (b.length - 4)))).take (4 * num4 (b.drop (b.length - 4))))

def PartsPost (B : Nat) (w : World) (r : Option (List UInt8 × List UInt8)) (e : Ending) (w' : World) : Prop :=
  Below w.heap.size w w' ∧ match r with
    | none => e = .returned (.tuple #[.slice none 0 0, .slice none 0 0, .int .i64 9])
    | some (d, p) => ∃ da dcap pa pcap, e = .returned (.tuple #[.slice da d.length dcap, .slice pa p.length pcap, .int .i64 0]) ∧ Sl B w' (.slice da d.length dcap) d ∧ Sl B w' (.slice pa p.length pcap) p

theorem Sl.front {B : Nat} {w : World} {b off cap : Nat} {l : List UInt8} (h : Sl B w (.slice (some ⟨b, off, none⟩) l.length cap) l) {k : Nat} (hk : k ≤ l.length) : Sl B w (.slice (some ⟨b, off, none⟩) k cap) (l.take k) := by
  have hr := h.reads
  obtain ⟨a2, cap2, hv, _, _, ht⟩ := hr.take k hk
  cases hv
  have hkl : (l.take k).length = k := by rw [List.length_take]; omega
  right
  by_cases hl : l = []
  · subst hl
    obtain rfl : k = 0 := by simpa using hk
    exact ⟨b, off, cap, rfl, fun h => absurd rfl h, fun h => absurd rfl h, ht⟩
  · rcases h with ⟨_, h0⟩ | ⟨b', off', cap', hv, h1, h2, _⟩
    · exact absurd h0 hl
    · cases hv
      exact ⟨b, off, cap, by rw [hkl], fun _ => h1 hl, fun _ => h2 hl, by rw [hkl]; exact ht⟩

set_option maxRecDepth 100000 in
set_option maxHeartbeats 2000000 in
theorem parts_any (B : Nat) (w : World) (v : Value) (l : List UInt8) (h : Sl B w v l) (hl : l.length ≤ 10000000000) :
    Calls Tryd.prog 71 #[v] w (PartsPost B w (partsL l)) := by
  have hP : partsL l = _ := rfl
  conv at hP => rhs; unfold partsL
  by_cases h4 : l.length < 4
  · rw [if_pos h4] at hP
    rw [hP]
    obtain ⟨a, cap, rfl, _, _⟩ := h.reads.le
    have h4I : (l.length : Int) < 4 := by omega
    clear h hP
    go_enter Tryd.func71, Tryd.ntmps71
    go_wp2
    refine bodyPost_ret (v := .tuple #[.slice none 0 0, .slice none 0 0, .int .i64 9]) (by simp [results, Tryd.results71, go_sem]) rfl ?_
    exact ⟨Below.refl _ _, rfl⟩
  · rw [if_neg h4] at hP
    have h4I : ¬ (l.length : Int) < 4 := by omega
    rcases h with ⟨_, h0⟩ | ⟨b, off, cap, rfl, hb1, hb2, hrd⟩
    · rw [h0] at h4
      simp at h4
    have hS : Sl B w (.slice (some ⟨b, off, none⟩) l.length cap) l := .inr ⟨b, off, cap, rfl, hb1, hb2, hrd⟩
    obtain ⟨_, _, hv, hc1, hc2⟩ := hrd.le
    cases hv
    unfold maxLen at hc2
    obtain ⟨E, hE⟩ : ∃ E, l.length = E + 4 := ⟨l.length - 4, by omega⟩
    have hcut := hS.cut (k := E) (by omega)
    rw [cutV_some, if_neg (by omega)] at hcut
    have hdl : (l.drop E).length = 4 := by rw [List.length_drop]; omega
    have hcr := hcut.reads
    rw [hdl, show l.length - E = 4 by omega] at hcr
    have HG := Lib.hid (get13_any w _ _ _ hcr (by omega))
    have HSl := Lib.hid hS
    rw [show l.length - 4 = E by omega] at hP
    generalize num4 (l.drop E) = n at *
    have HP := Lib.hid hP
    have hw0 : IntKind.i64.wrap ((l.length : Int) - 4) = (E : Int) := by rw [IntWalk.i64_in _ (by omega)]; omega
    have hw0' : (l.length : Int) - 4 = (E : Int) := by omega
    have hEl : (E : Int) ≤ (l.length : Int) := by omega
    have hcE : ¬ (cap = E) := by omega
    have hlE : l.length - E = 4 := by omega
    clear hcut hcr hP hS hrd
    by_cases hn : E / 4 < n
    · have hnI : (E : Int) / 4 < (n : Int) := by omega
      have hP := HP.out
      rw [if_pos hn] at hP
      rw [hP]
      clear hP HP
      go_enter Tryd.func71, Tryd.ntmps71
      go_wp2_with (go_at_call 84; go_must (refine HG.out.mono ?_))
      rintro e w1 ⟨rfl, q, rfl⟩
      go_wp2
      refine bodyPost_ret (v := .tuple #[.slice none 0 0, .slice none 0 0, .int .i64 9]) (by simp [results, Tryd.results71, go_sem]) rfl ?_
      exact ⟨below_quiet (Below.refl _ _) q, rfl⟩
    · have hnI : ¬ (E : Int) / 4 < (n : Int) := by omega
      have hP := HP.out
      rw [if_neg hn] at hP
      obtain ⟨M, hM⟩ : ∃ M, E = M + 4 * n := ⟨E - 4 * n, by omega⟩
      have hMe : E - 4 * n = M := by omega
      rw [hMe] at hP
      have h1 := HSl.out.front (k := M) (by omega)
      have h2 := (HSl.out.cut (k := M) (by omega))
      rw [cutV_some, if_neg (by omega), show l.length - M = (l.drop M).length by rw [List.length_drop]] at h2
      have h3 := h2.front (k := 4 * n) (by rw [List.length_drop]; omega)
      have hl1 : (l.take M).length = M := by rw [List.length_take]; omega
      have hl2 : ((l.drop M).take (4 * n)).length = 4 * n := by rw [List.length_take, List.length_drop]; omega
      have H1 := Lib.hid h1
      have H3 := Lib.hid h3
      have hw1 : IntKind.i64.wrap (4 * (n : Int)) = 4 * (n : Int) := by rw [IntWalk.i64_in _ (by omega)]
      have hw2 : IntKind.i64.wrap ((E : Int) - 4 * (n : Int)) = (M : Int) := by rw [IntWalk.i64_in _ (by omega)]; omega
      have hw3 : (E : Int) - 4 * (n : Int) = (M : Int) := by omega
      have hMc : (M : Int) ≤ (cap : Int) := by omega
      have hME : (M : Int) ≤ (E : Int) := by omega
      have hEc : (E : Int) ≤ (cap : Int) := by omega
      have hcM : ¬ (cap = M) := by omega
      have hEM : E - M = 4 * n := by omega
      have HL1 := Lib.hid hl1
      have HL2 := Lib.hid hl2
      rw [hP]
      clear hP HP h1 h2 h3 hl1 hl2 hM hMe HSl
      go_enter Tryd.func71, Tryd.ntmps71
      go_wp2_with (go_at_call 84; go_must (refine HG.out.mono ?_))
      rintro e w1 ⟨rfl, q, rfl⟩
      go_wp2
      go_quiet (fail)
      go_wp2
      refine bodyPost_ret (v := .tuple #[.slice (some ⟨b, off, none⟩) M cap, .slice (some ⟨b, off + M, none⟩) (4 * n) (cap - M), .int .i64 0]) (by simp [results, Tryd.results71, go_sem]) rfl ?_
      have hbq : Below w.heap.size w ((w.drewN q).drewN nq) := below_quiet (below_quiet (Below.refl _ _) q) nq
      have hbB : Below B w ((w.drewN q).drewN nq) := below_quiet (below_quiet (Below.refl _ _) q) nq
      refine ⟨hbq, some ⟨b, off, none⟩, cap, some ⟨b, off + M, none⟩, cap - M, by rw [HL1.out, HL2.out], ?_, ?_⟩
      · rw [HL1.out]
        exact H1.out.below hbB
      · rw [HL2.out]
        exact H3.out.below hbB
end Go.Proofs.YtfhdonidgegebaaDoor

/- A step of the cursor takes bytes. -/
namespace Go.Proofs.YtfhdonidgegebaaDoor
open Go Go.RowKit

theorem getText_sum (l : List UInt8) (_ : (getText l).2.2 = 0) : (getText l).1.length ≤ (getText l).2.1 := by
  unfold getText
  split
  · split
    · simp
    · simp
      omega
  · simp

theorem stepB_less {rest key r k : List UInt8} {s : Nat} (h : stepB rest key = some (r, k, s)) (h0 : rest ≠ []) : r.length < rest.length ∧ k.length + r.length ≤ key.length + rest.length := by
  unfold stepB at h
  split at h
  · rename_i hc
    obtain ⟨h1, h2, h3⟩ := hc
    have hok := getGo_ok rest 0 0 (getGo 0 0 rest).1 (getGo 0 0 rest).2.1 (by decide) (Prod.ext rfl (Prod.ext rfl h1))
    have hs := getText_small (rest.drop (getGo 0 0 rest).2.1)
    have hu := getText_used _ h3
    have ht := getText_sum _ h3
    cases h
    simp at hs hu ⊢
    have := List.length_pos_iff.2 h0
    omega
  · cases h

theorem parts_length {l d p : List UInt8} (h : partsL l = some (d, p)) : d.length ≤ l.length ∧ p.length ≤ l.length ∧ p.length % 4 = 0 := by
  unfold partsL at h
  split at h
  · cases h
  · split at h
    · cases h
    · rename_i h1 h2
      cases h
      simp
      omega

def restAt (g : Nat) (wr : World) : Nat := match wr.cell? ⟨g, 0, none⟩ with | some (.slice _ n _) => n | _ => 0
end Go.Proofs.YtfhdonidgegebaaDoor
