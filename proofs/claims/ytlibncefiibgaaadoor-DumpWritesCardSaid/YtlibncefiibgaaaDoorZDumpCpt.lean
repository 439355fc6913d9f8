/- slices.Compact at a row of tuples of one's own: of neighbours that are alike one stays. -/
import Derived.Test.YtlibncefiibgaaaDoorZDumpDel2
import Derived.Test.YtlibncefiibgaaaDoorMga
import Derived.BigQuiet
namespace Go.Proofs.YtlibncefiibgaaaDoor
open Go Go.RowKit

open Classical in
/-- Of the first j, those that aren't like the one ahead of them. -/
noncomputable def ddN (l : List Six) : Nat → List Six
  | 0 => []
  | 1 => l.take 1
  | j + 2 => if l[j + 1]? = l[j]? then ddN l (j + 1) else ddN l (j + 1) ++ (l[j + 1]?).toList

theorem ddN_same {l : List Six} {j : Nat} (h : l[j + 1]? = l[j]?) : ddN l (j + 2) = ddN l (j + 1) := by rw [ddN, if_pos h]
theorem ddN_next {l : List Six} {j : Nat} {t : Six} (ht : l[j + 1]? = some t) (h : l[j + 1]? ≠ l[j]?) : ddN l (j + 2) = ddN l (j + 1) ++ [t] := by rw [ddN, if_neg h, ht]; rfl

theorem below_quietC {B : Nat} {w wr : World} (h : Below B w wr) (n : Nat) : Below B w (wr.drewN n) := ⟨h.os, h.tape, h.output, h.size, h.block⟩
theorem touch_quietC {w wr : World} {g : List Nat} (h : Touch w wr g) (n : Nat) : Touch w (wr.drewN n) g := h.drewN n

def CpRel1 (w : World) (l : List Six) (kv : Value) (wr : World) : Prop :=
  ∃ k : Nat, kv = .int .i64 (k : Int) ∧ 1 ≤ k ∧ k ≤ l.length ∧ ddN l k = l.take k ∧ Below w.heap.size w wr

def CpRel2 (w : World) (g n cap k0 : Nat) (l : List Six) (kv jv : Value) (wr : World) : Prop :=
  ∃ (k j : Nat) (cu : Array Value), kv = .int .i64 (k : Int) ∧ jv = .int .i64 (j : Int) ∧ 1 ≤ j ∧ j ≤ n - k0 ∧ k + 1 ≤ k0 + j ∧ wr.heap[g]? = some (.cells cu 37 (0, 0)) ∧ cu.size = cap * 6 ∧ k = (ddN l (k0 + j)).length ∧
    cu.toList.take (k * 6) = tcells (ddN l (k0 + j)) ∧ (∀ p, k * 6 ≤ p → p < n * 6 → cu.toList[p]? = (tcells l)[p]?) ∧ Touch w wr [g]

def CptPost (w : World) (B : Nat) (v : Value) (l : List Six) (e : Ending) (w' : World) : Prop :=
  ∃ v', e = .returned v' ∧ w'.ownsRow B 37 6 v' (ddN l l.length).length (tcells (ddN l l.length)) ∧ w.grownBy w' v.ownBlock

set_option maxRecDepth 100000 in
set_option maxHeartbeats 2000000 in
theorem compact_any (w : World) (B : Nat) (v : Value) (l : List Six) (h : w.ownsRow B 37 6 v l.length (tcells l)) (hn : l.length ≤ 1000000) :
    Calls Tryd.prog 37 #[v] w (CptPost w B v l) := by
  obtain ⟨a, cap, rfl, hc1, hc2⟩ := (ownsRow.reads h).le
  unfold maxLen at hc2
  obtain ⟨n, hnl⟩ : ∃ n, l.length = n := ⟨_, rfl⟩
  rw [hnl] at h hc1 hn
  have HO := Lib.hid h
  have HL := Lib.hid hnl
  have HR := Lib.hid (ownsRow.reads h)
  rw [hnl]
  clear hnl
  by_cases h2 : n < 2
  · have h2I : (n : Int) < 2 := by omega
    go_enter Tryd.func37, Tryd.ntmps37
    go_wp2
    go_ret
    have hd : ddN l l.length = l := by
      rw [HL.out]
      match n, h2 with
      | 0, _ => rw [List.length_eq_zero_iff.1 HL.out]; rfl
      | 1, _ => rw [ddN, List.take_of_length_le (by rw [HL.out]; exact Nat.le_refl _)]
    refine ⟨_, rfl, ?_, ⟨rfl, rfl, rfl, Nat.le_refl _, fun _ _ _ => rfl⟩⟩
    rw [hd, HL.out]
    exact HO.out
  · have h2I : ¬ (n : Int) < 2 := by omega
    obtain ⟨_, ⟨_, hz⟩ | ⟨g, cap', cur, hv, hgB, hh, q1, q2, q3, q4⟩⟩ := h
    · omega
    cases hv
    have hgw := (Array.getElem?_eq_some_iff.1 hh).1
    have HH := Lib.hid hh
    clear hh
    go_enter Tryd.func37, Tryd.ntmps37
    go_wp2
    go_loopw [3] (fun kv wr => CpRel1 w l kv wr) (fun kv _ => n - (intOf kv).toNat)
    case atStart => exact ⟨1, rfl, Nat.le_refl _, by rw [HL.out]; omega, rfl, Below.refl _ _⟩
    case round =>
      obtain ⟨k, rfl, hk1, hkn, hdd, hb⟩ := hrel
      rw [HL.out] at hkn
      by_cases hlt : k < n
      · have hltI : (k : Int) < n := by omega
        obtain ⟨m, hkm⟩ : ∃ m, k = m + 1 := ⟨k - 1, by omega⟩
        obtain ⟨t, ht⟩ : ∃ t, l[k]? = some t := ⟨l[k]'(by rw [HL.out]; exact hlt), List.getElem?_eq_getElem _⟩
        obtain ⟨u, hu⟩ : ∃ u, l[m]? = some u := ⟨l[m]'(by rw [HL.out]; omega), List.getElem?_eq_getElem _⟩
        obtain ⟨b, off, hv, hbl, k0, k1, k2, k3, k4, k5⟩ := (HR.out.below' hb).six ht
        cases hv
        obtain ⟨b', off', hv, hbl', r0, r1, r2, r3, r4, r5⟩ := (HR.out.below' hb).six hu
        cases hv
        simp only [Nat.zero_add] at k0 k1 k2 k3 k4 k5 r0 r1 r2 r3 r4 r5
        have hm1 : IntKind.i64.wrap ((k : Int) - 1) = (m : Int) := by rw [IntKind.wrap_i64] <;> omega
        have hk0 : (0 : Int) ≤ k := by omega
        have hmI : (m : Int) < n := by omega
        have hm0 : (0 : Int) ≤ m := by omega
        have HB := Lib.hid hb
        have HT := Lib.hid ht
        have HU := Lib.hid hu
        have HD := Lib.hid hdd
        have HKm := Lib.hid hkm
        clear hb ht hu hdd hkm
        by_cases htu : t = u
        · subst htu
          have HS := Lib.hid (show l[m + 1]? = l[m]? by rw [← HKm.out, HT.out, HU.out])
          have hck : ¬ cap = k := by omega
          have hkle : k ≤ n := by omega
          have hd1 : ddN l (k + 1) = l.take k := by
            have h3 := HD.out
            rw [HKm.out] at h3 ⊢
            rw [ddN_same HS.out, h3]
          have hkl : k = (ddN l (k + 1)).length := by rw [hd1, List.length_take, HL.out]; omega
          have htk : cur.toList.take (k * 6) = tcells (ddN l (k + 1)) := by
            rw [hd1]
            have h9 := congrArg (List.take (k * 6)) q4
            rw [List.take_take, Nat.min_eq_left (by omega)] at h9
            rw [h9]
            unfold tcells
            rw [← List.take_append_drop k l, List.flatMap_append]
            have hl6 : ((l.take k).flatMap Six.cells).length = k * 6 := by
              have := tcells_length (l.take k)
              unfold tcells at this
              rw [this, List.length_take, HL.out, Nat.min_eq_left (by omega)]
            rw [List.take_append_of_le_length (by omega), List.take_of_length_le (by omega), List.take_append_drop]
          have hcp : ∀ p, k * 6 ≤ p → p < n * 6 → cur.toList[p]? = (tcells l)[p]? := fun p _ hp => by
            rw [← q4, List.getElem?_take, if_pos hp]
          have HKl := Lib.hid hkl
          have HTk := Lib.hid htk
          have HCp := Lib.hid hcp
          clear hkl htk hcp hd1
          go_wp2_with fail
          go_quiet (fail)
          rename_i nq
          have HC := Lib.hid (show CpRel2 w g n cap k l (.int .i64 (k : Int)) (.int .i64 1) (wr.drewN nq) from ⟨k, 1, cur, rfl, rfl, Nat.le_refl _, by omega, by omega, (HB.out.block g hgw).trans HH.out, q3, HKl.out, HTk.out, HCp.out, (Touch.of_below HB.out _).drewN nq⟩)
          go_wp2
          go_loopw [3, 5] (fun kv jv wr2 => CpRel2 w g n cap k l kv jv wr2) (fun _ jv _ => (n - k) - (intOf jv).toNat)
          case atStart => exact HC.out
          case round =>
            rename World => wr2
            obtain ⟨K, j, cu, rfl, rfl, hj1, hjn, hKj, hh2, hsz, hKl, htk2, hcp2, ht2⟩ := hrel
            clear HC
            have hgr := (Array.getElem?_eq_some_iff.1 hh2).1
            by_cases hjl : j < n - k
            · have hjI : (j : Int) < ((n - k : Nat) : Int) := by omega
              have hjI2 : (j : Int) < (n : Int) - k := by omega
              obtain ⟨j', hjj⟩ : ∃ j', j = j' + 1 := ⟨j - 1, by omega⟩
              obtain ⟨t2, ht2'⟩ : ∃ t, l[k + j]? = some t := ⟨l[k + j]'(by rw [HL.out]; omega), List.getElem?_eq_getElem _⟩
              obtain ⟨u2, hu2'⟩ : ∃ u, l[k + j']? = some u := ⟨l[k + j']'(by rw [HL.out]; omega), List.getElem?_eq_getElem _⟩
              have hat : ∀ x, x < 6 → wr2.cell? ⟨g, k * 6 + j * 6 + x, none⟩ = t2.cells[x]? := fun x hx => by
                rw [show k * 6 + j * 6 + x = (k + j) * 6 + x by omega, Lib.cell_of_heap hh2 ((k + j) * 6 + x), ← Array.getElem?_toList, hcp2 _ (by omega) (by omega), tcells_at l ht2' hx]
              have hau : ∀ x, x < 6 → wr2.cell? ⟨g, k * 6 + j' * 6 + x, none⟩ = u2.cells[x]? := fun x hx => by
                rw [show k * 6 + j' * 6 + x = (k + j') * 6 + x by omega, Lib.cell_of_heap hh2 ((k + j') * 6 + x), ← Array.getElem?_toList, hcp2 _ (by omega) (by omega), tcells_at l hu2' hx]
              have k0 : wr2.cell? ⟨g, k * 6 + j * 6, none⟩ = some (.string t2.a) := hat 0 (by decide)
              have k1 : wr2.cell? ⟨g, k * 6 + j * 6 + 1, none⟩ = some (.string t2.b) := hat 1 (by decide)
              have k2 : wr2.cell? ⟨g, k * 6 + j * 6 + 2, none⟩ = some (.string t2.c) := hat 2 (by decide)
              have k3 : wr2.cell? ⟨g, k * 6 + j * 6 + 3, none⟩ = some (.string t2.d) := hat 3 (by decide)
              have k4 : wr2.cell? ⟨g, k * 6 + j * 6 + 4, none⟩ = some (.string t2.e) := hat 4 (by decide)
              have k5 : wr2.cell? ⟨g, k * 6 + j * 6 + 5, none⟩ = some (.string t2.f) := hat 5 (by decide)
              have r0 : wr2.cell? ⟨g, k * 6 + j' * 6, none⟩ = some (.string u2.a) := hau 0 (by decide)
              have r1 : wr2.cell? ⟨g, k * 6 + j' * 6 + 1, none⟩ = some (.string u2.b) := hau 1 (by decide)
              have r2 : wr2.cell? ⟨g, k * 6 + j' * 6 + 2, none⟩ = some (.string u2.c) := hau 2 (by decide)
              have r3 : wr2.cell? ⟨g, k * 6 + j' * 6 + 3, none⟩ = some (.string u2.d) := hau 3 (by decide)
              have r4 : wr2.cell? ⟨g, k * 6 + j' * 6 + 4, none⟩ = some (.string u2.e) := hau 4 (by decide)
              have r5 : wr2.cell? ⟨g, k * 6 + j' * 6 + 5, none⟩ = some (.string u2.f) := hau 5 (by decide)
              have hjm : IntKind.i64.wrap ((j : Int) - 1) = (j' : Int) := by rw [IntKind.wrap_i64] <;> omega
              have hjI3 : (j' : Int) < ((n - k : Nat) : Int) := by omega
              have hj0 : (0 : Int) ≤ j' := by omega
              have hjp : (0 : Int) ≤ j := by omega
              have HJJ := Lib.hid hjj
              have HTa := Lib.hid ht2'
              have HUa := Lib.hid hu2'
              have HH2 := Lib.hid hh2
              have HKL := Lib.hid hKl
              have HTK := Lib.hid htk2
              have HCP := Lib.hid hcp2
              have HT2 := Lib.hid ht2
              clear hjj ht2' hu2' hh2 hKl htk2 hcp2 ht2 hat hau
              by_cases heq : t2 = u2
              · subst heq
                have hds : ddN l (k + (j + 1)) = ddN l (k + j) := by
                  have h1 : l[(k + j') + 1]? = l[k + j']? := by rw [show k + j' + 1 = k + j by rw [HJJ.out]; omega, HTa.out, HUa.out]
                  have h2 := ddN_same h1
                  rw [show k + j' + 2 = k + (j + 1) by rw [HJJ.out]; omega, show k + j' + 1 = k + j by rw [HJJ.out]; omega] at h2
                  exact h2
                have HDs := Lib.hid hds
                clear hds
                go_wp2_with fail
                go_quiet (fail)
                go_wp2
                exact ⟨⟨K, j + 1, cu, rfl, by go_num, by omega, by omega, by omega, HH2.out, hsz, by rw [HDs.out]; exact HKL.out, by rw [HDs.out]; exact HTK.out, HCP.out, HT2.out.drewN _⟩, by simp [intOf]; omega⟩
              · have hnq := fun w : World => six_nq w heq
                have hdn : ddN l (k + (j + 1)) = ddN l (k + j) ++ [t2] := by
                  have e1 : k + j' + 1 = k + j := by rw [HJJ.out]; omega
                  have h1 : l[(k + j') + 1]? = some t2 := by rw [e1]; exact HTa.out
                  have h2 := ddN_next h1 (by rw [h1, HUa.out]; exact fun e => heq (Option.some.inj e))
                  rw [show k + j' + 2 = k + (j + 1) by rw [HJJ.out]; omega, e1] at h2
                  exact h2
                have HDn := Lib.hid hdn
                clear hdn heq
                have hcap6 : K * 6 + 5 < cu.size := by rw [hsz]; omega
                have hKI : (K : Int) < n := by omega
                go_wp2_with fail
                go_quiet (fail)
                generalize hw3 : wr2.drewN nq = w3
                have k0 : w3.cell? ⟨g, k * 6 + j * 6, none⟩ = some (.string t2.a) := by rw [← hw3]; exact k0
                have k1 : w3.cell? ⟨g, k * 6 + j * 6 + 1, none⟩ = some (.string t2.b) := by rw [← hw3]; exact k1
                have k2 : w3.cell? ⟨g, k * 6 + j * 6 + 2, none⟩ = some (.string t2.c) := by rw [← hw3]; exact k2
                have k3 : w3.cell? ⟨g, k * 6 + j * 6 + 3, none⟩ = some (.string t2.d) := by rw [← hw3]; exact k3
                have k4 : w3.cell? ⟨g, k * 6 + j * 6 + 4, none⟩ = some (.string t2.e) := by rw [← hw3]; exact k4
                have k5 : w3.cell? ⟨g, k * 6 + j * 6 + 5, none⟩ = some (.string t2.f) := by rw [← hw3]; exact k5
                have HH3 := Lib.hid (show w3.heap[g]? = some (.cells cu 37 (0, 0)) by rw [← hw3]; exact HH2.out)
                have HT3 := Lib.hid (show Touch w w3 [g] by rw [← hw3]; exact HT2.out.drewN _)
                have hgr3 : g < w3.heap.size := (Array.getElem?_eq_some_iff.1 HH3.out).1
                have hcx : ∀ x, x < 6 → ∃ u, w3.cell? ⟨g, K * 6 + x, none⟩ = some u := fun x hx => by
                  rw [Lib.cell_of_heap HH3.out (K * 6 + x)]
                  exact ⟨_, Array.getElem?_eq_getElem (by omega)⟩
                obtain ⟨v0, c0⟩ := hcx 0 (by decide)
                obtain ⟨v1, c1⟩ := hcx 1 (by decide)
                obtain ⟨v2, c2⟩ := hcx 2 (by decide)
                obtain ⟨v3, c3⟩ := hcx 3 (by decide)
                obtain ⟨v4, c4⟩ := hcx 4 (by decide)
                obtain ⟨v5, c5⟩ := hcx 5 (by decide)
                simp only [Nat.add_zero] at c0
                have fz := Lib.frozen_of_heap HH3.out
                have h1 := heap_setCell_same _ _ (K * 6) _ _ (.string t2.a) HH3.out
                have h2 := heap_setCell_same _ _ (K * 6 + 1) _ _ (.string t2.b) h1
                have h3 := heap_setCell_same _ _ (K * 6 + 2) _ _ (.string t2.c) h2
                have h4 := heap_setCell_same _ _ (K * 6 + 3) _ _ (.string t2.d) h3
                have h5 := heap_setCell_same _ _ (K * 6 + 4) _ _ (.string t2.e) h4
                have h6 := heap_setCell_same _ _ (K * 6 + 5) _ _ (.string t2.f) h5
                have HST := Lib.hid (show ((((((w3.setCell ⟨g, K * 6, none⟩ (.string t2.a)).setCell ⟨g, K * 6 + 1, none⟩ (.string t2.b)).setCell ⟨g, K * 6 + 2, none⟩ (.string t2.c)).setCell ⟨g, K * 6 + 3, none⟩ (.string t2.d)).setCell ⟨g, K * 6 + 4, none⟩ (.string t2.e)).setCell ⟨g, K * 6 + 5, none⟩ (.string t2.f)).heap[g]? = some (.cells (set6A cu (K * 6) t2) 37 (0, 0)) from h6)
                have HTT := Lib.hid (show Touch w ((((((w3.setCell ⟨g, K * 6, none⟩ (.string t2.a)).setCell ⟨g, K * 6 + 1, none⟩ (.string t2.b)).setCell ⟨g, K * 6 + 2, none⟩ (.string t2.c)).setCell ⟨g, K * 6 + 3, none⟩ (.string t2.d)).setCell ⟨g, K * 6 + 4, none⟩ (.string t2.e)).setCell ⟨g, K * 6 + 5, none⟩ (.string t2.f)) [g] from ((((((HT3.out.setCell (p := ⟨g, K * 6, none⟩) (.inl (by simp)) _).setCell (p := ⟨g, K * 6 + 1, none⟩) (.inl (by simp)) _).setCell (p := ⟨g, K * 6 + 2, none⟩) (.inl (by simp)) _).setCell (p := ⟨g, K * 6 + 3, none⟩) (.inl (by simp)) _).setCell (p := ⟨g, K * 6 + 4, none⟩) (.inl (by simp)) _).setCell (p := ⟨g, K * 6 + 5, none⟩) (.inl (by simp)) _))
                have HSZ := Lib.hid hsz
                have HQ2 := Lib.hid hKj
                have HQ3 := Lib.hid hcap6
                clear h1 h2 h3 h4 h5 h6 hcx hw3 r0 r1 r2 r3 r4 r5 hsz hKj hcap6 hnq hjm hjI3 hj0 hm1 hmI hm0 hk0 q4 q3 hgr
                go_upto_region 13 with fail
                go_wp2
                have hsz := HSZ.out
                have hKj := HQ2.out
                have hcap6 := HQ3.out
                refine ⟨⟨K + 1, j + 1, set6A cu (K * 6) t2, by go_num, by go_num, by omega, by omega, by omega, HST.out, by rw [set6A_size, hsz], ?_, ?_, fun p hp1 hp2 => ?_, HTT.out⟩, by simp [intOf]; omega⟩
                · rw [HDn.out, List.length_append, ← HKL.out]
                  rfl
                · rw [HDn.out, show (K + 1) * 6 = K * 6 + 6 by omega, set6A_take _ _ _ (by omega), HTK.out]
                  simp [tcells]
                · rw [set6A_out _ _ _ (.inr (by omega))]
                  exact HCP.out p (by omega) hp2
            · obtain rfl : j = n - k := by omega
              have hjI : ¬ ((n - k : Nat) : Int) < ((n - k : Nat) : Int) := by omega
              have hjI2 : ¬ ((n - k : Nat) : Int) < (n : Int) - k := by omega
              rw [show k + (n - k) = l.length by rw [HL.out]; omega] at hKl htk2
              have hcK : ¬ cap = K := by omega
              have hKn : K ≤ n := by omega
              have hcl : ∀ ty, (Builtin.clear_ #[22] ty #[.slice (some ⟨g, K * 6, none⟩) (n - K) (cap - K)]).run Tryd.prog wr2 = .ok (.tuple #[]) (wr2.setCells g (K * 6) (List.replicate (n - K) [.string ⟨#[]⟩, .string ⟨#[]⟩, .string ⟨#[]⟩, .string ⟨#[]⟩, .string ⟨#[]⟩, .string ⟨#[]⟩]).flatten) := fun ty =>
                run_clear_rows wr2 22 37 ty _ _ Tryd.underlying22 Tryd.zeroValue37 rfl (by simp [Value.oneCell']) g (K * 6) (n - K) (cap - K) (by omega) (fun x hx => by
                  simp only [List.length_cons, List.length_nil] at hx
                  rw [Lib.cell_of_heap hh2 (K * 6 + x), Array.getElem?_eq_getElem (by omega)]
                  rfl) (fun x _ => by simpa using Lib.frozen_of_heap hh2 (K * 6 + x))
              obtain ⟨cu', hh', hs', hp'⟩ := setCells_heap (List.replicate (n - K) [.string ⟨#[]⟩, .string ⟨#[]⟩, .string ⟨#[]⟩, .string ⟨#[]⟩, .string ⟨#[]⟩, .string ⟨#[]⟩]).flatten (K * 6) wr2 cu hh2
              have HT := Lib.hid (touch_setCells (w' := wr2) (b := g) (l := [g]) (by simp) (List.replicate (n - K) [.string ⟨#[]⟩, .string ⟨#[]⟩, .string ⟨#[]⟩, .string ⟨#[]⟩, .string ⟨#[]⟩, .string ⟨#[]⟩]).flatten (K * 6) ht2)
              have HHz := Lib.hid hh'
              have HP := Lib.hid hp'
              have HTk2 := Lib.hid htk2
              have HIl := Lib.hid hKl
              clear hh2 hh' hp' htk2 hKl hcp2 ht2
              go_wp2
              go_ret
              refine ⟨_, rfl, ?_, touch_grown HT.out⟩
              rw [← HIl.out]
              refine ⟨by rw [tcells_length, ← HIl.out], .inr ⟨g, cap, cu', rfl, hgB, HHz.out, by omega, q2, by rw [hs', hsz], ?_⟩⟩
              rw [← HTk2.out]
              refine List.ext_getElem? fun p => ?_
              rw [List.getElem?_take, List.getElem?_take]
              by_cases hp : p < K * 6
              · rw [if_pos hp, if_pos hp, HP.out p hp]
              · rw [if_neg hp, if_neg hp]
        · have hq := fun w : World => six_ne w htu
          have HN := Lib.hid htu
          clear htu
          go_wp2_with fail
          go_quiet (fail)
          go_wp2
          have hdn : ddN l (k + 1) = l.take (k + 1) := by
            have h1 : l[m + 1]? = some t := by rw [← HKm.out]; exact HT.out
            have h3 := HD.out
            rw [HKm.out] at h3 ⊢
            rw [ddN_next h1 (by rw [h1, HU.out]; exact fun e => HN.out (Option.some.inj e)), h3, show l.take (m + 1 + 1) = l.take (m + 1) ++ [t] by rw [List.take_add_one, h1]; rfl]
          exact ⟨⟨k + 1, by go_num, by omega, by rw [HL.out]; omega, hdn, below_quietC HB.out _⟩, by simp [intOf]; omega⟩
      · obtain rfl : k = n := by omega
        have hltI : ¬ (k : Int) < k := by omega
        have HB := Lib.hid hb
        have HD := Lib.hid hdd
        clear hb hdd
        go_wp2
        go_ret
        have hd : ddN l l.length = l := by rw [HL.out, HD.out, List.take_of_length_le (by rw [HL.out]; exact Nat.le_refl _)]
        refine ⟨_, rfl, ?_, ⟨HB.out.os, HB.out.tape, HB.out.output, HB.out.size, fun i hi _ => HB.out.block i hi⟩⟩
        rw [hd, HL.out]
        exact owns_below HO.out HB.out
end Go.Proofs.YtlibncefiibgaaaDoor
