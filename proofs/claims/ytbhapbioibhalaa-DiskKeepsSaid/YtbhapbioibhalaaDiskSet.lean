/- settle, SyncDir. -/
import Derived.Test.YtbhapbioibhalaaDiskApp
namespace Go.Proofs.Ytbhapbioibhalaa
open Go Go.RowKit Go.Maps

variable {W : World} {B d : Nat} {S : Dk}

theorem mem_take_run {l : Dir} {xs : List DAct} {gs : List Nat} (hl : Lone l) (ho : okAs l xs) (h1 : ∀ p ∈ l, p.2 ∈ gs) (h2 : ∀ t g, DAct.add t g ∈ xs → g ∈ gs) (k : Nat) : ∀ p ∈ runA l (xs.take k), p.2 ∈ gs := by
  intro p hp
  rcases mem_run hl (okAs_take k ho) p hp with ⟨q, hq, e⟩ | ⟨t, ht⟩
  · rw [← e]
    exact h1 q hq
  · exact h2 t _ (List.mem_of_mem_take ht)
theorem lone_len {l : Dir} {gs : List Nat} (hl : Lone l) (h : ∀ p ∈ l, p.2 ∈ gs) : l.length ≤ gs.length := by
  have hn : (l.map fun p => p.2).Nodup := by
    refine List.pairwise_map.2 ?_
    have := hl.1.nodup
    refine this.imp_of_mem fun {p q} hp hq hne e => hne ?_
    obtain ⟨p1, p2⟩ := p
    obtain ⟨q1, q2⟩ := q
    have e : p2 = q2 := e
    subst e
    rw [hl.2.1 _ _ _ hp hq]
  have := nodup_len (l := gs) hn (fun g hg => by obtain ⟨p, hp, e⟩ := List.mem_map.1 hg; rw [← e]; exact h p hp)
  simpa using this
theorem DAt.dirlen (h : DAt W B d S) : S.dir.length ≤ S.gs.length := lone_len h.dirlone h.dirmem
theorem DAt.runlen (h : DAt W B d S) (k : Nat) : (runA S.safe (S.acts.take k)).length ≤ S.gs.length := lone_len (h.lone.run (okAs_take k h.oks)) (mem_take_run h.lone h.oks h.mem.1 h.mem.2 k)

theorem DAct.cells3s (a : DAct) : ∃ (s t : ByteArray) (p : Option Addr), a.cells = [.string s, .string t, .pointer p] := by cases a <;> exact ⟨_, _, _, rfl⟩

def SetRel (W : World) (S : Dk) (n : Nat) (iv : Value) (wr : World) : Prop := ∃ k : Nat, iv = .int .i64 (k : Int) ∧ k ≤ n ∧ MapAt wr S.ms (runA S.safe (S.acts.take k)) ∧ Touch W wr [S.ms]

def SetPost (W : World) (d : Nat) (S : Dk) (n : Nat) (e : Ending) (W' : World) : Prop :=
  e = .returned (.tuple #[]) ∧ Touch W W' [d, S.ms] ∧ MapAt W' S.ms (runA S.safe (S.acts.take n)) ∧ W'.heap[d]? = some (.cells { S with av := .slice none 0 0 }.cells 56 (0, 0))

set_option maxRecDepth 100000 in
set_option maxHeartbeats 2000000 in
theorem settle_any (h : DAt W B d S) (n : Nat) (hn : n ≤ S.acts.length) (hg : S.gs.length ≤ 1000000) :
    Calls Try.prog 45 #[.pointer (some ⟨d, 0, none⟩), .int .i64 (n : Int)] W (SetPost W d S n) := by
  have HH := Lib.hid h
  have c2 := Lib.cell_of_heap h.cell 2
  simp [Dk.cells] at c2
  have hdW : d < W.heap.size := (h.lt d (Dk.mine_d d S)).1
  obtain ⟨aa, ac, hav, ha1, ha2⟩ := h.ac.reads.le
  unfold maxLen at ha2
  rw [hav] at c2
  have HAv := Lib.hid hav
  have hac : n ≤ ac := Nat.le_trans hn ha1
  have hlo := h.apt.dm
  clear h hav
  go_enter Try.func45, Try.ntmps45
  go_wp2
  go_loopw [13] (fun iv wr => SetRel W S n iv wr) (fun iv _ => n - (intOf iv).toNat)
  case atStart => exact ⟨0, rfl, Nat.zero_le _, HH.out.sm, Touch.refl _ _⟩
  case round =>
    rename World => wr
    obtain ⟨k, rfl, hk, hm, ht⟩ := hrel
    have HT := Lib.hid ht
    have HM := Lib.hid hm
    have hcd := ht.keep HH.out.cell (by simp; exact hlo.2)
    have hdr : d < wr.heap.size := (Array.getElem?_eq_some_iff.1 hcd).1
    by_cases hlt : k < n
    · have hltI : (k : Int) < n := by omega
      obtain ⟨a, ha⟩ : ∃ a, S.acts[k]? = some a := ⟨_, List.getElem?_eq_getElem (by omega)⟩
      obtain ⟨x, y, z, hxyz⟩ := a.cells3s
      have hrd := HH.out.ac.reads
      rw [HAv.out] at hrd
      have hrd := ht.reads hrd (fun g hg => by simp; exact fun e => (HH.out.apt.am g (by rw [HAv.out]; exact hg)).2.2.1 e)
      have q0 : (acells S.acts)[k * 3 + 0]? = some (.string x) := by unfold acells; rw [flat_cell DAct.cells 3 DAct.cells_len S.acts k a ha 0 (by decide), hxyz]; rfl
      have q1 : (acells S.acts)[k * 3 + 1]? = some (.string y) := by unfold acells; rw [flat_cell DAct.cells 3 DAct.cells_len S.acts k a ha 1 (by decide), hxyz]; rfl
      have q2 : (acells S.acts)[k * 3 + 2]? = some (.pointer z) := by unfold acells; rw [flat_cell DAct.cells 3 DAct.cells_len S.acts k a ha 2 (by decide), hxyz]; rfl
      obtain ⟨ab, ao, hve, hab, k0⟩ := hrd.at q0
      obtain ⟨ab', ao', hve', _, k1⟩ := hrd.at q1
      obtain ⟨ab2, ao2, hve2, _, k2⟩ := hrd.at q2
      subst hve
      cases hve'
      cases hve2
      have k0 : wr.cell? ⟨ab, ao + k * 3, none⟩ = some (.string x) := k0
      rw [← Nat.add_assoc] at k1 k2
      have bA := (Below.refl wr.heap.size wr).alloc (Nat.le_refl _) (.cells #[.string x, .string y, .pointer z] 81)
      have HNx := Lib.hid (runA_next (l := S.safe) ha)
      have HDo := Lib.hid (do_any (wr.alloc (.cells #[.string x, .string y, .pointer z] 81)).drew S.ms _ a (hm.touch (((Touch.refl wr []).alloc (.cells #[.string x, .string y, .pointer z] 81)).drew) List.not_mem_nil) (okAs_at HH.out.oks ha) (Nat.le_trans (HH.out.runlen k) hg))
      rw [hxyz] at HDo
      have hb1 := (bA.block d hdr).trans hcd
      have hb2 : (wr.alloc (.cells #[.string x, .string y, .pointer z] 81)).heap[wr.heap.size]? = some (.cells #[.string x, .string y, .pointer z] 81 (0, 0)) := heap_alloc_new wr _
      have HH1 := Lib.hid hb1
      have HH2 := Lib.hid hb2
      have hd3 : d < (wr.alloc (.cells #[.string x, .string y, .pointer z] 81)).heap.size := (Array.getElem?_eq_some_iff.1 hb1).1
      have hx3 : wr.heap.size < (wr.alloc (.cells #[.string x, .string y, .pointer z] 81)).heap.size := (Array.getElem?_eq_some_iff.1 hb2).1
      have HTA := Lib.hid ((Touch.refl wr [S.ms]).alloc (.cells #[.string x, .string y, .pointer z] 81))
      clear ht hm hcd hrd q0 q1 q2 ha hxyz bA hb1 hb2
      go_wp2_with fail
      generalize wr.alloc (.cells #[.string x, .string y, .pointer z] 81) = w3 at *
      have c1 := Lib.cell_of_heap HH1.out 1
      simp [Dk.cells] at c1
      have x0 := Lib.cell_of_heap HH2.out 0
      have x1 := Lib.cell_of_heap HH2.out 1
      have x2 := Lib.cell_of_heap HH2.out 2
      simp at x0 x1 x2
      go_still_tail 5, (by kernel_rfl)
      show wpList _ _ _ _ _ w3.drew
      go_wp2_with (go_at_call 56; go_must (refine HDo.out.mono ?_))
      rintro e w2 ⟨rfl, hm2, t2⟩
      have HM2 := Lib.hid hm2
      have HT2 := Lib.hid (HT.out.same (HTA.out.drew.same t2))
      clear hm2 t2
      go_wp2
      exact ⟨⟨k + 1, by go_num, hlt, by rw [HNx.out]; exact HM2.out, HT2.out⟩, by simp [intOf]; omega⟩
    · obtain rfl : k = n := by omega
      have hltI : ¬ (k : Int) < k := by omega
      have c2 := Lib.cell_of_heap hcd 2
      have cf := Lib.frozen_of_heap hcd
      simp [Dk.cells, HAv.out] at c2
      have HC := Lib.hid hcd
      clear hcd hm ht
      go_wp2
      have t3 : Touch W (wr.setCell ⟨d, 2, none⟩ (.slice none 0 0)) [d, S.ms] := (HT.out.mono (fun x hx => List.mem_cons_of_mem _ hx)).setCell (.inl List.mem_cons_self) _
      have hm3 : MapAt (wr.setCell ⟨d, 2, none⟩ (.slice none 0 0)) S.ms (runA S.safe (S.acts.take k)) := HM.out.touch ((Touch.refl wr [d]).setCell (.inl List.mem_cons_self) _) (by simp; exact hlo.2.symm)
      exact bodyPost_end (by simp [results, Try.results45]) rfl ⟨rfl, t3, hm3, by rw [heap_setCell_same _ d 2 _ _ _ HC.out]; rfl⟩
end Go.Proofs.Ytbhapbioibhalaa
