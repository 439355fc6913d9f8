/- The cache in memory; remove. -/
import Derived.Test.YtdooedlapoknbaaCacheMap
import Derived.IntWalk
namespace Go.Proofs.Ytdooedlapoknbaa
open Go Go.RowKit Go.Maps

def ksz (l : List ByteArray) : Nat := (l.map ByteArray.size).sum

variable {G : Nat → Prop}

/-- An item's keys lie in a row of texts. -/
def KvOk (G : Nat → Prop) (W : World) (i : It) : Prop := ∃ a cap, i.kv = .slice a i.keys.length cap ∧ Reads W 1 i.kv i.keys.length (scells i.keys) ∧ ∀ g, i.kv.ownBlock = some g → G g ∧ ∃ cs fz, W.heap[g]? = some (Obj.cells cs 9 fz)

def sumI (it : Nat → It) (xs : List Nat) : Nat := (xs.map fun x => (it x).sz).sum

/-- The cache lies in block c. -/
structure CAt (G : Nat → Prop) (W : World) (B c : Nat) (room : Nat) (r m : Nat) (it : Nat → It) (pv nx : Nat → Nat) (xs : List Nat) : Prop where
  lo : B ≤ c ∧ B ≤ m ∧ ∀ x ∈ r :: xs, B ≤ x
  cell : W.heap[c]? = some (.cells #[.map (some m), .pointer (some ⟨r, 0, none⟩), .int .i64 (room : Int), .int .i64 (sumI it xs : Int)] 54 (0, 0))
  nodes : Nodes W it pv nx (r :: xs)
  ring : Ring pv nx r xs
  map : ∃ D, W.ownsMap Try.prog 47 nodeR m xs.length D ∧ LookN D it xs ∧ size D = xs.length
  okI : ∀ x ∈ xs, InI (it x).f ∧ InI (it x).b ∧ (it x).sz = 1 + ksz (it x).keys ∧ KvOk G W (it x)
  dist : (xs.map fun x => ((it x).f, (it x).b)).Nodup
  small : sumI it xs ≤ 1000000000

/-- What the cache's calls may turn: its own blocks alone. -/
structure CF (B : Nat) (w w' : World) : Prop where
  below : Below B w w'
  keep : ∀ (k : Nat) (cs : Array Value) (t : TypeId) (fz : Nat × Nat), w.heap[k]? = some (Obj.cells cs t fz) → t ≠ 54 → t ≠ 50 → w'.heap[k]? = some (Obj.cells cs t fz)

theorem CF.refl (B : Nat) (w : World) : CF B w w := ⟨⟨rfl, rfl, rfl, Nat.le_refl _, fun _ _ => rfl⟩, fun _ _ _ _ h _ _ => h⟩
theorem CF.trans {B : Nat} {w w' w'' : World} (h : CF B w w') (k : CF B w' w'') : CF B w w'' := ⟨h.below.trans k.below, fun x cs t fz hx h1 h2 => k.keep x cs t fz (h.keep x cs t fz hx h1 h2) h1 h2⟩
theorem CF.of_below {B : Nat} {w w' : World} (h : Below w.heap.size w w') (hB : B ≤ w.heap.size) : CF B w w' := ⟨h.mono hB, fun k _ _ _ hk _ _ => (h.block k (Array.getElem?_eq_some_iff.1 hk).1).trans hk⟩
theorem CF.drewN {B : Nat} {w w' : World} (h : CF B w w') (n : Nat) : CF B w (w'.drewN n) := ⟨⟨h.below.os, h.below.tape, h.below.output, h.below.size, h.below.block⟩, h.keep⟩
theorem CF.drew {B : Nat} {w w' : World} (h : CF B w w') : CF B w w'.drew := ⟨h.below.drew, h.keep⟩

theorem CF.set {B : Nat} {w w' : World} (h : CF B w w') {p : Addr} (hB : B ≤ p.block) (hp : ∃ cs t fz, w'.heap[p.block]? = some (Obj.cells cs t fz) ∧ (t = 54 ∨ t = 50)) (u : Value) : CF B w (w'.setCell p u) := by
  refine ⟨h.below.setCell hB u, fun k cs t fz hk h1 h2 => ?_⟩
  have h3 := h.keep k cs t fz hk h1 h2
  have hne : k ≠ p.block := by
    obtain ⟨cs', t', fz', hp, ht⟩ := hp
    intro e
    rw [e, hp] at h3
    injection h3 with h3
    injection h3 with _ h3 _
    rcases ht with rfl | rfl
    · exact h1 h3.symm
    · exact h2 h3.symm
  exact (Below.heap_setCell _ _ _ _ hne).trans h3

theorem CF.turned {B : Nat} {w w' w'' : World} (h : CF B w w') {m : Nat} (hB : B ≤ m) (t : w'.mapTurned w'' m) : CF B w w'' := by
  have hg := t.grown
  obtain ⟨es, clock, _, _, hm, _⟩ := t
  refine ⟨h.below.trans ⟨hg.os, hg.tape, hg.output, hg.size, fun k hk => hg.block k (by have := (Array.getElem?_eq_some_iff.1 hm).1; omega) (by simp; omega)⟩, fun k cs t fz hk h1 h2 => ?_⟩
  have h3 := h.keep k cs t fz hk h1 h2
  have hne : k ≠ m := fun e => by
    rw [e, hm] at h3
    cases h3
  exact (hg.block k (Array.getElem?_eq_some_iff.1 h3).1 (by simpa using hne)).trans h3

theorem KvOk.cf {B : Nat} {w w' : World} {i : It} (h : KvOk G w i) (c : CF B w w') : KvOk G w' i := by
  obtain ⟨a, cap, h1, ⟨h2, a', cap', h3, h4, h5, h6⟩, h7⟩ := h
  refine ⟨a, cap, h1, ⟨h2, a', cap', h3, h4, h5, fun j u hj => ?_⟩, fun g hg => ?_⟩
  · obtain ⟨b, off, e1, e2, e3⟩ := h6 j u hj
    obtain ⟨_, cs, fz, hc⟩ := h7 b (by rw [h3, e1]; rfl)
    have hc' := c.keep b cs _ fz hc (by decide) (by decide)
    refine ⟨b, off, e1, (Array.getElem?_eq_some_iff.1 hc').1, ?_⟩
    unfold World.cell? at e3 ⊢
    rw [hc] at e3
    rw [hc']
    exact e3
  · obtain ⟨hG, cs, fz, hc⟩ := h7 g hg
    exact ⟨hG, cs, fz, c.keep g cs _ fz hc (by decide) (by decide)⟩

theorem sumI_mid (it : Nat → It) (A B : List Nat) (x : Nat) : sumI it (A ++ x :: B) = sumI it (A ++ B) + (it x).sz := by
  unfold sumI
  simp
  omega

/-- Blocks of the cache's own are unlike one another. -/
theorem CAt.apart {W : World} {B c room r m : Nat} {it : Nat → It} {pv nx : Nat → Nat} {xs : List Nat} (h : CAt G W B c room r m it pv nx xs) : (∀ x ∈ r :: xs, x ≠ c ∧ x ≠ m) ∧ m ≠ c := by
  obtain ⟨D, ⟨es, clock, hm, _⟩, _⟩ := h.map
  refine ⟨fun x hx => ⟨fun e => ?_, fun e => ?_⟩, fun e => ?_⟩
  · have := h.nodes x hx
    rw [e, h.cell] at this
    injection this with this
    injection this with _ this _
    exact absurd this (by decide)
  · have := h.nodes x hx
    rw [e, hm] at this
    cases this
  · rw [e, h.cell] at hm
    cases hm

def RemPost (G : Nat → Prop) (W : World) (B c room r m : Nat) (it : Nat → It) (pv nx : Nat → Nat) (A : List Nat) (x : Nat) (Bs : List Nat) (e : Ending) (W' : World) : Prop :=
  e = .returned (.tuple #[]) ∧ CAt G W' B c room r m it (upd pv (nx x) (pv x)) (upd nx (pv x) (nx x)) (A ++ Bs) ∧ CF B W W' ∧ W'.heap[x]? = W.heap[x]? ∧ ∀ k, k < W.heap.size → k ≠ c → k ≠ m → k ∉ r :: (A ++ x :: Bs) → W'.heap[k]? = W.heap[k]?

set_option maxRecDepth 100000 in
set_option maxHeartbeats 4000000 in
theorem remove_any (W : World) (B c room r m : Nat) (it : Nat → It) (pv nx : Nat → Nat) (A : List Nat) (x : Nat) (Bs : List Nat) (h : CAt G W B c room r m it pv nx (A ++ x :: Bs)) :
    Calls Try.prog 21 #[.pointer (some ⟨c, 0, none⟩), .pointer (some ⟨x, 0, none⟩)] W (RemPost G W B c room r m it pv nx A x Bs) := by
  obtain ⟨A0, B0, p, q, hA, hB, hpx, hqx, hpn, hqn, _, _⟩ := ring_split h.ring
  have hpm : p ∈ r :: (A ++ x :: Bs) := by
    have : p ∈ r :: A := by rw [hA]; simp
    simp at this ⊢
    rcases this with e | e <;> simp [e]
  have hqm : q ∈ r :: (A ++ x :: Bs) := by
    have : q ∈ Bs ++ [r] := by rw [hB]; simp
    simp at this ⊢
    rcases this with e | e <;> simp [e]
  have hxm : x ∈ A ++ x :: Bs := by simp
  obtain ⟨hap, hmc⟩ := h.apart
  have nx0 := h.nodes x (by simp)
  rw [hpx, hqx] at nx0
  have hlv := leave_any W x p q (it x) (it p) (it q) (pv p) (nx p) (pv q) (nx q) nx0 (h.nodes p hpm) (h.nodes q hqm)
  obtain ⟨i1, i2, i3, i4⟩ := h.okI x hxm
  have hring := h.ring.leave
  rw [hpx, hqx] at hring
  have hsum := sumI_mid it A Bs x
  have hsmall := h.small
  have hdist : ∀ y ∈ A ++ Bs, ¬ ((it y).f = (it x).f ∧ (it y).b = (it x).b) := by
    have hd := h.dist
    rw [List.map_append, List.map_cons, List.nodup_append] at hd
    obtain ⟨_, d2, d3⟩ := hd
    intro y hy e
    have he : ((it y).f, (it y).b) = ((it x).f, (it x).b) := by rw [e.1, e.2]
    rcases List.mem_append.1 hy with hy | hy
    · exact d3 _ (List.mem_map.2 ⟨y, hy, rfl⟩) _ (by simp) he
    · exact (List.nodup_cons.1 d2).1 (List.mem_map.2 ⟨y, hy, he⟩)
  have hdist2 : ((A ++ Bs).map fun x => ((it x).f, (it x).b)).Nodup := h.dist.sublist ((List.Sublist.append_left (List.sublist_cons_self x Bs) A).map _)
  -- the world behind leave
  have hW : ∀ k, ∃ W1, W1 = ((W.setCell ⟨p, 5, none⟩ (.pointer (some ⟨q, 0, none⟩))).setCell ⟨q, 4, none⟩ (.pointer (some ⟨p, 0, none⟩))).drewN k ∧
      Nodes W1 it (upd pv q p) (upd nx p q) (r :: (A ++ x :: Bs)) ∧ W1.heap[c]? = W.heap[c]? ∧ W1.heap[m]? = W.heap[m]? ∧ W1.heap[x]? = W.heap[x]? ∧ CF B W W1 ∧ ∀ k, k ∉ r :: (A ++ x :: Bs) → W1.heap[k]? = W.heap[k]? := by
    intro k
    refine ⟨_, rfl, (h.nodes.set5 p q).set4 q p, ?_, ?_, ?_, ?_, fun k hk => ?_⟩
    · exact (Below.heap_setCell _ _ _ _ (hap q hqm).1.symm).trans (Below.heap_setCell _ _ _ _ (hap p hpm).1.symm)
    · exact (Below.heap_setCell _ _ _ _ (hap q hqm).2.symm).trans (Below.heap_setCell _ _ _ _ (hap p hpm).2.symm)
    · exact (Below.heap_setCell _ _ _ _ hqn.symm).trans (Below.heap_setCell _ _ _ _ hpn.symm)
    · refine CF.drewN (CF.set (p := ⟨q, 4, none⟩) (CF.set (p := ⟨p, 5, none⟩) (CF.refl B W) (h.lo.2.2 p hpm) ⟨_, _, _, h.nodes p hpm, .inr rfl⟩ _) (h.lo.2.2 q hqm) ⟨_, _, _, h.nodes.set5 p q q hqm, .inr rfl⟩ _) k
    · have h1 : k ≠ q := fun e => hk (e ▸ hqm)
      have h2 : k ≠ p := fun e => hk (e ▸ hpm)
      exact (Below.heap_setCell _ _ _ _ h1).trans (Below.heap_setCell _ _ _ _ h2)
  obtain ⟨D, hown, hlook, hsz⟩ := h.map
  have HLv := Lib.hid hlv
  have HW := Lib.hid hW
  have HC := Lib.hid h
  have HD := Lib.hid hown
  have HLook := Lib.hid hlook
  have HSz := Lib.hid hsz
  have HD2 := Lib.hid (hown.tidy placeLaw)
  clear hlv hW hown hlook hsz h nx0 hap
  go_enter Try.func21, Try.ntmps21
  go_wp2_with (go_at_call 23; go_must (refine HLv.out.mono ?_))
  rintro e w1 ⟨rfl, k, hw1⟩
  obtain ⟨W1, e1, n1, hc1, hm1, hx1, f1, hk1⟩ := HW.out k
  rw [← e1] at hw1
  subst hw1
  have hcc := hc1.trans HC.out.cell
  have hmo : w1.ownsMap Try.prog 47 nodeR m (A ++ x :: Bs).length D := by
    obtain ⟨es, clock, hb, F, hs, hD⟩ := HD.out
    exact ⟨es, clock, hm1.trans hb, F, hs, hD⟩
  have hxx := n1 x (by simp)
  have c0 := Lib.cell_of_heap hcc 0
  have x0 := Lib.cell_of_heap hxx 0
  have x1 := Lib.cell_of_heap hxx 1
  simp [ndCells] at c0 x0 x1
  have hclt : c < w1.heap.size := (Array.getElem?_eq_some_iff.1 hcc).1
  have hxlt : x < w1.heap.size := (Array.getElem?_eq_some_iff.1 hxx).1
  have HMo := Lib.hid hmo
  have HN1 := Lib.hid n1
  have HCC := Lib.hid hcc
  have HX1 := Lib.hid hx1
  have HF1 := Lib.hid f1
  have HK1 := Lib.hid hk1
  have hkey := keyL_of i1 i2
  clear hk1 e1 n1 hc1 hm1 hx1 f1 hcc hmo hxx HW HLv HD
  go_wp2
  go_still_tail 8, (by kernel_rfl)
  show wpList _ _ _ _ _ w1.drew
  go_wp2_with (at_delete; refine wpList_delete_own _ rfl _ _ 52 47 rfl 45 placeLaw cmapU nodeR m _ D rfl HMo.out.drew (plc (it x).f (it x).b) _ rfl hkey ?_; intro w2 hown2 hturn2)
  have hg2 := hturn2.grown
  have hb2 : ∀ y, y < w1.heap.size → y ≠ m → w2.heap[y]? = w1.heap[y]? := fun y hy hne => hg2.block y hy (by simpa using hne)
  have hcm : c ≠ m := fun e => hmc e.symm
  have hxmm : x ≠ m := (HC.out.apart.1 x (by simp)).2
  have hcc2 := (hb2 c hclt hcm).trans HCC.out
  have hxx2 := (hb2 x hxlt hxmm).trans (HN1.out x (by simp))
  have n2 : Nodes w2 it (upd pv q p) (upd nx p q) (r :: (A ++ x :: Bs)) := fun y hy => (hb2 y (Array.getElem?_eq_some_iff.1 (HN1.out y hy)).1 (HC.out.apart.1 y hy).2).trans (HN1.out y hy)
  have f2 : CF B W w2 := CF.turned HF1.out.drew HC.out.lo.2.1 hturn2
  have c3 := Lib.cell_of_heap hcc2 3
  have x3 := Lib.cell_of_heap hxx2 3
  have fc := Lib.frozen_of_heap hcc2
  simp [ndCells] at c3 x3
  have hclt2 : c < w2.heap.size := (Array.getElem?_eq_some_iff.1 hcc2).1
  have hxlt2 : x < w2.heap.size := (Array.getElem?_eq_some_iff.1 hxx2).1
  have w3e : IntKind.i64.wrap ((sumI it (A ++ x :: Bs) : Int) - ((it x).sz : Int)) = ((sumI it (A ++ Bs) : Nat) : Int) := by
    rw [IntWalk.i64_in _ (by omega)]
    omega
  have hh : D.del (keyL (it x).f (it x).b) = D.del (keyL (it x).f (it x).b) := rfl
  have hszd := size_del (HD2.out) (k := keyL (it x).f (it x).b)
  rw [((HLook.out _ _ i1 i2).1 x hxm rfl rfl).1, if_pos rfl, HSz.out] at hszd
  have hszd' : size (D.del (keyL (it x).f (it x).b)) = (A ++ Bs).length := by
    simp at hszd ⊢
    omega
  have hlk := HLook.out.del i1 i2 hdist
  have how := own_tight hown2
  rw [hszd'] at how
  have hne : ∀ y ∈ r :: (A ++ Bs), y ≠ c := fun y hy => (HC.out.apart.1 y (by simp at hy ⊢; rcases hy with e | e | e <;> simp [e])).1
  have hkv : ∀ y ∈ A ++ Bs, InI (it y).f ∧ InI (it y).b ∧ (it y).sz = 1 + ksz (it y).keys ∧ KvOk G W (it y) := fun y hy => HC.out.okI y (by simp at hy ⊢; rcases hy with e | e <;> simp [e])
  have hfin : ∀ k, CAt G ((w2.setCell ⟨c, 3, none⟩ (.int .i64 (sumI it (A ++ Bs) : Int))).drewN k) B c room r m it (upd pv q p) (upd nx p q) (A ++ Bs) ∧ CF B W ((w2.setCell ⟨c, 3, none⟩ (.int .i64 (sumI it (A ++ Bs) : Int))).drewN k) ∧ ((w2.setCell ⟨c, 3, none⟩ (.int .i64 (sumI it (A ++ Bs) : Int))).drewN k).heap[x]? = W.heap[x]? ∧ ∀ j, j < W.heap.size → j ≠ c → j ≠ m → j ∉ r :: (A ++ x :: Bs) → ((w2.setCell ⟨c, 3, none⟩ (.int .i64 (sumI it (A ++ Bs) : Int))).drewN k).heap[j]? = W.heap[j]? := by
    intro k
    have hcf : CF B W ((w2.setCell ⟨c, 3, none⟩ (.int .i64 (sumI it (A ++ Bs) : Int))).drewN k) := (CF.set (p := ⟨c, 3, none⟩) f2 HC.out.lo.1 ⟨_, _, _, hcc2, .inl rfl⟩ _).drewN k
    refine ⟨⟨⟨HC.out.lo.1, HC.out.lo.2.1, fun y hy => HC.out.lo.2.2 y (by simp at hy ⊢; rcases hy with e | e | e <;> simp [e])⟩, ?_, fun y hy => ?_, hring, ⟨_, how.setCell hmc _, hlk, hszd'⟩, fun y hy => ?_, hdist2, by omega⟩, hcf, ?_, fun j hj h1 h2 h3 => ?_⟩
    · show (w2.setCell ⟨c, 3, none⟩ _).heap[c]? = _
      rw [heap_setCell_same _ c 3 _ _ _ hcc2]
      rfl
    · exact (Below.heap_setCell _ _ _ _ (hne y hy)).trans (n2 y (by simp at hy ⊢; rcases hy with e | e | e <;> simp [e]))
    · obtain ⟨k1, k2, k3, k4⟩ := hkv y hy
      exact ⟨k1, k2, k3, k4.cf hcf⟩
    · exact (Below.heap_setCell _ _ _ _ (HC.out.apart.1 x (by simp)).1).trans ((hb2 x hxlt hxmm).trans HX1.out)
    · exact (Below.heap_setCell _ _ _ _ h1).trans ((hb2 j (Nat.lt_of_lt_of_le hj HF1.out.below.size) h2).trans (HK1.out j h3))
  have HFin := Lib.hid hfin
  clear i3 hsum hfin hkv hne how hlk hszd' hszd hh f2 n2 hcc2 hxx2 hg2 hb2 hown2 hturn2 c0 x0 x1
  go_wp2
  go_region
  all_goals go_wp2
  all_goals exact bodyPost_end (by simp [results, Try.results21]) rfl ⟨rfl, by rw [hpx, hqx]; exact (HFin.out 1).1, (HFin.out 1).2.1, (HFin.out 1).2.2.1, (HFin.out 1).2.2.2⟩
end Go.Proofs.Ytdooedlapoknbaa
