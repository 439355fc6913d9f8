/- Get, Len, Used. -/
import Derived.Test.YtdooedlapoknbaaCacheEnter
import Derived.Test.YtdooedlapoknbaaStrClone
namespace Go.Proofs.Ytdooedlapoknbaa
open Go Go.RowKit Go.Maps

/-- The cache in block c holds the items E, oldest first; the rows of their keys lie in blocks of which G holds. -/
def CA (G : Nat → Prop) (W : World) (B c room : Nat) (E : List (Int × Int × List ByteArray)) : Prop :=
  ∃ r m it pv nx xs, CAt G W B c room r m it pv nx xs ∧ xs.map (fun x => ((it x).f, (it x).b, (it x).keys)) = E

def esz (e : Int × Int × List ByteArray) : Nat := 1 + ksz e.2.2
def usedE (E : List (Int × Int × List ByteArray)) : Nat := (E.map esz).sum

theorem CAt.used {G : Nat → Prop} {W : World} {B c room r m : Nat} {it : Nat → It} {pv nx : Nat → Nat} {xs : List Nat} (h : CAt G W B c room r m it pv nx xs) : sumI it xs = usedE (xs.map (fun x => ((it x).f, (it x).b, (it x).keys))) := by
  unfold sumI usedE
  rw [List.map_map]
  congr 1
  apply List.map_congr_left
  intro x hx
  exact (h.okI x hx).2.2.1

set_option maxRecDepth 100000 in
theorem used_any {G : Nat → Prop} (W : World) (B c room : Nat) (E : List (Int × Int × List ByteArray)) (h : CA G W B c room E) :
    Calls Try.prog 11 #[.pointer (some ⟨c, 0, none⟩)] W fun e W' => e = .returned (.int .i64 (usedE E : Int)) ∧ W' = W := by
  obtain ⟨r, m, it, pv, nx, xs, hc, rfl⟩ := h
  rw [← hc.used]
  have c3 := Lib.cell_of_heap hc.cell 3
  simp at c3
  have hlt : c < W.heap.size := (Array.getElem?_eq_some_iff.1 hc.cell).1
  clear hc
  go_enter Try.func11, Try.ntmps11
  go_wp2
  go_ret
  exact ⟨rfl, rfl⟩

set_option maxRecDepth 100000 in
theorem len_any {G : Nat → Prop} (W : World) (B c room : Nat) (E : List (Int × Int × List ByteArray)) (h : CA G W B c room E) :
    Calls Try.prog 10 #[.pointer (some ⟨c, 0, none⟩)] W fun e W' => e = .returned (.int .i64 (E.length : Int)) ∧ W' = W := by
  obtain ⟨r, m, it, pv, nx, xs, hc, rfl⟩ := h
  rw [List.length_map]
  have c0 := Lib.cell_of_heap hc.cell 0
  simp at c0
  have hlt : c < W.heap.size := (Array.getElem?_eq_some_iff.1 hc.cell).1
  obtain ⟨D, hown, _, hsz⟩ := hc.map
  have HO := Lib.hid hown
  have HS := Lib.hid hsz
  clear hc hown hsz
  go_enter Try.func10, Try.ntmps10
  go_wp2_with (at_len; refine wpList_len_own _ rfl _ 52 rfl 47 45 cmapU nodeR m _ D rfl HO.out ?_)
  rw [HS.out]
  go_wp2
  go_ret
  exact ⟨rfl, rfl⟩

def others (E : List (Int × Int × List ByteArray)) (f b : Int) : List (Int × Int × List ByteArray) := E.filter (fun p => !(decide (p.1 = f ∧ p.2.1 = b)))

theorem others_mid {A B : List (Int × Int × List ByteArray)} {f b : Int} {ks : List ByteArray} (h : ((A ++ (f, b, ks) :: B).map fun p => (p.1, p.2.1)).Nodup) : others (A ++ (f, b, ks) :: B) f b = A ++ B := by
  rw [List.map_append, List.map_cons, List.nodup_append] at h
  obtain ⟨_, d2, d3⟩ := h
  have hA : ∀ p ∈ A, ¬ (p.1 = f ∧ p.2.1 = b) := fun p hp e => d3 _ (List.mem_map.2 ⟨p, hp, rfl⟩) (f, b) (by simp) (by rw [e.1, e.2])
  have hB : ∀ p ∈ B, ¬ (p.1 = f ∧ p.2.1 = b) := fun p hp e => (List.nodup_cons.1 d2).1 (List.mem_map.2 ⟨p, hp, by rw [e.1, e.2]⟩)
  unfold others
  rw [List.filter_append, List.filter_cons]
  simp only [and_self, decide_true, Bool.not_true, Bool.false_eq_true, if_false]
  rw [List.filter_eq_self.2 (fun p hp => by simp only [Bool.not_eq_true', decide_eq_false_iff_not]; exact hA p hp), List.filter_eq_self.2 (fun p hp => by simp only [Bool.not_eq_true', decide_eq_false_iff_not]; exact hB p hp)]

theorem others_none {E : List (Int × Int × List ByteArray)} {f b : Int} (h : ∀ p ∈ E, ¬ (p.1 = f ∧ p.2.1 = b)) : others E f b = E :=
  List.filter_eq_self.2 (fun p hp => by simp only [Bool.not_eq_true', decide_eq_false_iff_not]; exact h p hp)

def ent (it : Nat → It) (x : Nat) : Int × Int × List ByteArray := ((it x).f, (it x).b, (it x).keys)

theorem dist_ent {it : Nat → It} {xs : List Nat} (h : (xs.map fun x => ((it x).f, (it x).b)).Nodup) : ((xs.map (ent it)).map fun p => (p.1, p.2.1)).Nodup := by
  rw [List.map_map]
  exact h

def GetPost (G : Nat → Prop) (W : World) (B c room : Nat) (E : List (Int × Int × List ByteArray)) (f b : Int) (e : Ending) (W' : World) : Prop :=
  (∃ ks v, (f, b, ks) ∈ E ∧ e = .returned (.tuple #[v, .bool true]) ∧ NewRow W.heap.size W' v ks ∧ CA G W' B c room (others E f b ++ [(f, b, ks)]) ∧ CF B W W') ∨
    ((∀ p ∈ E, ¬ (p.1 = f ∧ p.2.1 = b)) ∧ e = .returned (.tuple #[.slice none 0 0, .bool false]) ∧ W' = W)

theorem NewRow.mono {B B' : Nat} {w : World} {v : Value} {l : List ByteArray} (h : NewRow B w v l) (hB : B' ≤ B) : NewRow B' w v l := by
  obtain ⟨a, cap, h1, h2, h3⟩ := h
  exact ⟨a, cap, h1, h2, fun g hg => ⟨Nat.le_trans hB (h3 g hg).1, (h3 g hg).2⟩⟩

theorem sumI_perm (it : Nat → It) {l l' : List Nat} (h : l.Perm l') : sumI it l = sumI it l' := by
  unfold sumI
  exact (h.map _).sum_nat

theorem mid_last (A : List Nat) (x : Nat) (B : List Nat) : (A ++ B ++ [x]).Perm (A ++ x :: B) := by
  have h1 : (A ++ B ++ [x]).Perm (x :: (A ++ B)) := List.perm_append_singleton x (A ++ B)
  exact h1.trans List.perm_middle.symm

/-- The cache with an item brought to the end. -/
theorem CAt.moved {G : Nat → Prop} {W W' : World} {B c room r m : Nat} {it : Nat → It} {pv nx pv' nx' : Nat → Nat} {A Bs : List Nat} {x : Nat} (h : CAt G W B c room r m it pv nx (A ++ x :: Bs))
    (hn : Nodes W' it pv' nx' (r :: (A ++ x :: Bs))) (hr : Ring pv' nx' r (A ++ Bs ++ [x])) (hk : ∀ k, k ∉ r :: (A ++ x :: Bs) → W'.heap[k]? = W.heap[k]?) (hcf : CF B W W') : CAt G W' B c room r m it pv' nx' (A ++ Bs ++ [x]) := by
  have hp := mid_last A x Bs
  obtain ⟨hap, hmc⟩ := h.apart
  have hcn : c ∉ r :: (A ++ x :: Bs) := fun hm => (hap c hm).1 rfl
  have hmn : m ∉ r :: (A ++ x :: Bs) := fun hm => (hap m hm).2 rfl
  have hmem : ∀ y, y ∈ A ++ Bs ++ [x] ↔ y ∈ A ++ x :: Bs := fun y => hp.mem_iff
  have hmem' : ∀ y, y ∈ r :: (A ++ Bs ++ [x]) → y ∈ r :: (A ++ x :: Bs) := fun y hy => by
    rcases List.mem_cons.1 hy with e | e
    · exact List.mem_cons.2 (.inl e)
    · exact List.mem_cons.2 (.inr ((hmem y).1 e))
  obtain ⟨D, ⟨es, clock, hb, F, hs, hD⟩, hl, hsz⟩ := h.map
  refine ⟨⟨h.lo.1, h.lo.2.1, fun y hy => h.lo.2.2 y (hmem' y hy)⟩, ?_, fun y hy => hn y (hmem' y hy), hr, ⟨D, ⟨es, clock, (hk m hmn).trans hb, F, by rw [hp.length_eq]; exact hs, hD⟩, fun f b hf hb => ?_, by rw [hp.length_eq]; exact hsz⟩, fun y hy => ?_, ?_, by rw [sumI_perm it hp]; exact h.small⟩
  · rw [hk c hcn, h.cell, sumI_perm it hp]
  · obtain ⟨g1, g2⟩ := hl f b hf hb
    exact ⟨fun y hy => g1 y ((hmem y).1 hy), fun hall => g2 fun y hy => hall y ((hmem y).2 hy)⟩
  · obtain ⟨k1, k2, k3, k4⟩ := h.okI y ((hmem y).1 hy)
    exact ⟨k1, k2, k3, k4.cf hcf⟩
  · exact (hp.map _).nodup_iff.2 h.dist

/-- New memory alone was made. -/
theorem CAt.fresh {G : Nat → Prop} {W W' : World} {B c room r m : Nat} {it : Nat → It} {pv nx : Nat → Nat} {xs : List Nat} (h : CAt G W B c room r m it pv nx xs) (b : Below W.heap.size W W') : CAt G W' B c room r m it pv nx xs := by
  obtain ⟨D, ⟨es, clock, hb, F, hs, hD⟩, hl, hsz⟩ := h.map
  have hlo : B ≤ W.heap.size := by have := (Array.getElem?_eq_some_iff.1 h.cell).1; have := h.lo.1; omega
  have hbk : ∀ (k : Nat) (o : Obj), W.heap[k]? = some o → W'.heap[k]? = some o := fun k o hk => (b.block k (Array.getElem?_eq_some_iff.1 hk).1).trans hk
  exact ⟨h.lo, hbk _ _ h.cell, fun y hy => hbk _ _ (h.nodes y hy), h.ring, ⟨D, ⟨es, clock, hbk _ _ hb, F, hs, hD⟩, hl, hsz⟩, fun y hy => by
    obtain ⟨q1, q2, q3, q4⟩ := h.okI y hy
    exact ⟨q1, q2, q3, q4.cf (CF.of_below b hlo)⟩, h.dist, h.small⟩

set_option maxRecDepth 100000 in
set_option maxHeartbeats 4000000 in
theorem get_any {G : Nat → Prop} (W : World) (B c room : Nat) (E : List (Int × Int × List ByteArray)) (f b : Int) (hf : InI f) (hb : InI b) (h : CA G W B c room E) (hfew : ∀ p ∈ E, p.2.2.length ≤ 1000000) :
    Calls Try.prog 9 #[.pointer (some ⟨c, 0, none⟩), .int .i64 f, .int .i64 b] W (GetPost G W B c room E f b) := by
  obtain ⟨r, m, it, pv, nx, xs, hc, rfl⟩ := h
  have hlo : B ≤ W.heap.size := by have := (Array.getElem?_eq_some_iff.1 hc.cell).1; have := hc.lo.1; omega
  have c0 := Lib.cell_of_heap hc.cell 0
  simp at c0
  have hlt : c < W.heap.size := (Array.getElem?_eq_some_iff.1 hc.cell).1
  obtain ⟨D, hown, hlook, hsz⟩ := hc.map
  obtain ⟨hr1, hr2⟩ := lookN_run hown hlook hf hb
  by_cases hex : ∃ x ∈ xs, (it x).f = f ∧ (it x).b = b
  · obtain ⟨x, hx, rfl, rfl⟩ := hex
    have hrun := hr1 x hx rfl rfl
    unfold plc at hrun
    obtain ⟨A, Bs, rfl⟩ := List.append_of_mem hx
    have HLv := Lib.hid (leave_ring B W it pv nx r A x Bs hc.nodes hc.ring hc.lo.2.2)
    obtain ⟨hap, hmc⟩ := hc.apart
    have hcn : c ∉ r :: (A ++ x :: Bs) := fun hm => (hap c hm).1 rfl
    obtain ⟨o1, o2, o3, a, cap, hkv, hrd, hkb⟩ := hc.okI x hx
    have hxl : (it x).keys.length ≤ 1000000 := hfew (ent it x) (List.mem_map.2 ⟨x, hx, rfl⟩)
    have hxr : x ∉ r :: (A ++ Bs) := by
      have hn : ((r :: A) ++ x :: Bs).Nodup := by simpa using hc.ring.1
      obtain ⟨_, e2, e3⟩ := List.nodup_append.1 hn
      intro hm
      simp at hm
      rcases hm with e | e | e
      · exact e3 r (by simp) x (by simp) e.symm
      · exact e3 x (by simp [e]) x (by simp) rfl
      · exact (List.nodup_cons.1 e2).1 e
    have hoth : others ((A ++ x :: Bs).map (ent it)) (it x).f (it x).b = (A ++ Bs).map (ent it) := by
      have := dist_ent hc.dist
      rw [List.map_append, List.map_cons] at this ⊢
      rw [show ent it x = ((it x).f, (it x).b, (it x).keys) from rfl] at this ⊢
      rw [others_mid this, List.map_append]
    have HOth := Lib.hid hoth
    have HC := Lib.hid hc
    have HRd := Lib.hid hrd
    have HKv := Lib.hid hkv
    have HKb := Lib.hid hkb
    clear hoth hc hown hlook hsz hr1 hr2 hrd hkv hkb o3 hfew
    unfold GetPost
    go_enter Try.func9, Try.ntmps9
    go_wp2_with (go_at_call 23; go_must (refine HLv.out.mono ?_))
    rintro e w1 ⟨rfl, n1, r1, k1, f1⟩
    have hcc := (k1 c hcn).trans HC.out.cell
    have hsub : ∀ y ∈ r :: (A ++ Bs), y ∈ r :: (A ++ x :: Bs) := fun y hy => by simp at hy ⊢; rcases hy with e | e | e <;> simp [e]
    have HEn := Lib.hid (enter_ring B w1 c x r _ _ _ it _ _ _ _ (A ++ Bs) hcc (fun y hy => n1 y (hsub y hy)) r1 hxr rfl rfl (n1 x (by simp)) (fun y hy => by
      rcases List.mem_cons.1 hy with e | e
      · exact HC.out.lo.2.2 y (by rw [e]; simp)
      · exact HC.out.lo.2.2 y (hsub y e)))
    have HK1 := Lib.hid k1
    have HF1 := Lib.hid f1
    clear n1 r1 k1 f1 hcc HLv
    go_wp2_with (go_at_call 22; go_must (refine HEn.out.mono ?_))
    rintro e w2 ⟨rfl, n2, r2, k2, f2⟩
    have hcf2 := HF1.out.trans f2
    have hcat := HC.out.moved (fun y hy => n2 y (by simp at hy ⊢; rcases hy with e | e | e | e <;> simp [e])) r2 (fun k hk => (k2 k (fun hm => hk (by simp at hm ⊢; rcases hm with e | e | e | e <;> simp [e]))).trans (HK1.out k hk)) hcf2
    have hx2 := n2 x (by simp)
    have x2 := Lib.cell_of_heap hx2 2
    simp [ndCells] at x2
    have hxlt : x < w2.heap.size := (Array.getElem?_eq_some_iff.1 hx2).1
    obtain ⟨_, _, _, a', cap', hkv', hrd2, _⟩ := hcat.okI x (by simp)
    rw [hkv'] at x2 hrd2
    have HCl := Lib.hid (clones_any w2 a' _ cap' (it x).keys hrd2 hxl)
    have HCat := Lib.hid hcat
    have HCf := Lib.hid hcf2
    have hs2 : W.heap.size ≤ w2.heap.size := hcf2.below.size
    clear hcat hcf2 n2 r2 k2 f2 hx2 HEn hrd2 hkv' hrun c0 hlt
    go_wp2_with (go_at_call 20; go_must (refine HCl.out.mono ?_))
    rintro e w3 ⟨v, rfl, hv, b3⟩
    have hcf3 : CF B w2 w3 := CF.of_below b3 (by omega)
    have HV := Lib.hid hv
    have HCf3 := Lib.hid (HCf.out.trans hcf3)
    have hap3 := HCat.out.fresh b3
    have HCA := Lib.hid hap3
    clear hv b3 hcf3 hap3 HCat
    go_wp2
    go_ret2
    left
    refine ⟨(it x).keys, v, List.mem_map.2 ⟨x, by simp, rfl⟩, rfl, HV.out.mono hs2, ⟨r, m, it, _, _, _, HCA.out, ?_⟩, HCf3.out⟩
    show (A ++ Bs ++ [x]).map (ent it) = others ((A ++ x :: Bs).map (ent it)) (it x).f (it x).b ++ [((it x).f, (it x).b, (it x).keys)]
    rw [HOth.out, List.map_append]
    rfl
  · have hall : ∀ x ∈ xs, ¬ ((it x).f = f ∧ (it x).b = b) := fun x hx e => hex ⟨x, hx, e⟩
    have hrun := hr2 hall
    unfold plc at hrun
    have hno : ∀ p ∈ xs.map (ent it), ¬ (p.1 = f ∧ p.2.1 = b) := fun p hp => by
      obtain ⟨x, hx, rfl⟩ := List.mem_map.1 hp
      exact hall x hx
    have HNo := Lib.hid hno
    clear hex hall hno hr1 hr2 hown hlook hsz hc hfew
    unfold GetPost
    go_enter Try.func9, Try.ntmps9
    go_wp2
    go_ret2
    exact .inr ⟨HNo.out, rfl, rfl⟩
end Go.Proofs.Ytdooedlapoknbaa
