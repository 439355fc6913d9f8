/- Put. -/
import Derived.Test.YtdooedlapoknbaaCachePutM
namespace Go.Proofs.Ytdooedlapoknbaa
open Go Go.RowKit Go.Maps

set_option maxRecDepth 100000 in
set_option maxHeartbeats 8000000 in
theorem put_any {G : Nat → Prop} (W : World) (B c room : Nat) (E : List (Int × Int × List ByteArray)) (f b : Int) (a : Option Addr) (len cap : Nat) (ks : List ByteArray) (hf : InI f) (hb : InI b)
    (hk : Reads W 1 (.slice a len cap) len (scells ks)) (h : CA G W B c room E) (hfew : usedE E + (1 + ksz ks) ≤ 1000000000) (hlen : len ≤ 1000000) (hmany : E.length ≤ 1000000) :
    Calls Try.prog 7 #[.pointer (some ⟨c, 0, none⟩), .int .i64 f, .int .i64 b, .slice a len cap] W (PutPost G W B c room E f b ks) := by
  obtain ⟨r, m, it, pv, nx, xs, hc0, hE0⟩ := h
  have hlo : B ≤ W.heap.size := by have := (Array.getElem?_eq_some_iff.1 hc0.cell).1; have := hc0.lo.1; omega
  have hkl : ks.length = len := by have := hk.1; rw [scells_length] at this; omega
  have hrm : ∀ y ∈ r :: xs, y < W.heap.size := fun y hy => (Array.getElem?_eq_some_iff.1 (hc0.nodes y hy)).1
  have hcl : c < W.heap.size := (Array.getElem?_eq_some_iff.1 hc0.cell).1
  have hml : m < W.heap.size := by obtain ⟨D, ⟨es, clock, e1, _⟩, _⟩ := hc0.map; exact (Array.getElem?_eq_some_iff.1 e1).1
  have hks := hc0.used
  rw [hE0] at hks
  rw [← hE0, List.length_map] at hmany
  have HUsed := Lib.hid hks
  have HFew := Lib.hid hfew
  have HCl := Lib.hid (clones_any W a len cap ks hk hlen)
  have HK := Lib.hid hk
  have HKl := Lib.hid hkl
  have HC0 := Lib.hid (hc0.weak (G' := fun g => G g ∨ W.heap.size ≤ g) (fun g hg => .inl hg))
  clear hc0 hk hks hfew hkl
  unfold PutPost
  go_enter Try.func7, Try.ntmps7
  go_wp2_with (go_at_call 20; go_must (refine HCl.out.mono ?_))
  rintro e w1 ⟨kv, rfl, hv, b1⟩
  obtain ⟨va, vcap, rfl, hvr, hvo⟩ := hv
  have hw1 := b1.size
  have hvo' := hvo
  have HV := Lib.hid hvo'
  have HVr := Lib.hid hvr
  clear HCl hvo hvo' hvr
  have hb2 : Below W.heap.size W (w1.alloc (.cells #[.int .i64 f, .int .i64 b, .slice va ks.length vcap, .int .i64 1, .pointer none, .pointer none] 50)) := b1.alloc hw1 _
  have hn2 := heap_alloc_new w1 (.cells #[.int .i64 f, .int .i64 b, .slice va ks.length vcap, .int .i64 1, .pointer none, .pointer none] 50)
  have hnw : w1.heap.size ∉ r :: xs ∧ w1.heap.size ≠ c ∧ w1.heap.size ≠ m ∧ B ≤ w1.heap.size := ⟨fun hm => by have := hrm _ hm; omega, by omega, by omega, by omega⟩
  have HB2 := Lib.hid hb2
  have HN2 := Lib.hid hn2
  have HNw := Lib.hid hnw
  have HI : Hid (KvOk (fun g => G g ∨ W.heap.size ≤ g) (w1.alloc (.cells #[.int .i64 f, .int .i64 b, .slice va ks.length vcap, .int .i64 1, .pointer none, .pointer none] 50)) ⟨f, b, ks, .slice va ks.length vcap, 1 + ksz ks⟩) :=
    Lib.hid ⟨va, vcap, rfl, HVr.out.alloc _, fun g hg => ⟨.inr (HV.out g hg).1, by
      obtain ⟨_, cs, hc, _⟩ := HV.out g hg
      exact ⟨cs, _, (Below.heap_alloc _ _ _ (Array.getElem?_eq_some_iff.1 hc).1).trans hc⟩⟩⟩
  clear hb2 hn2 hnw HV HVr b1 hrm
  go_wp2
  generalize w1.alloc (.cells #[.int .i64 f, .int .i64 b, .slice va ks.length vcap, .int .i64 1, .pointer none, .pointer none] 50) = w2 at *
  generalize hnn : w1.heap.size = n at *
  clear hnn
  go_loopw [24] (fun i wr => PutLoop1 W w2 B n f b ks (.slice va ks.length vcap) i wr) (fun i _ => len - (intOf i).toNat)
  case atStart => exact ⟨0, rfl, Nat.zero_le _, HB2.out, CF.refl _ _, by rw [HN2.out]; rfl⟩
  case round =>
    obtain ⟨k, rfl, hkk, hbl, hcf, hnr⟩ := hrel
    rw [HKl.out] at hkk
    have HBl := Lib.hid hbl
    have HCf := Lib.hid hcf
    have HNr := Lib.hid hnr
    have hnlt : n < wr.heap.size := (Array.getElem?_eq_some_iff.1 hnr).1
    have hkm : ksz (ks.take k) ≤ ksz ks := ksz_le k
    have hfw := HFew.out
    by_cases hlt : k < len
    · have hkI : (k : Int) < len := by omega
      obtain ⟨x, hx⟩ : ∃ x, ks[k]? = some x := ⟨_, List.getElem?_eq_getElem (by rw [HKl.out]; exact hlt)⟩
      obtain ⟨g, off, y, rfl, hy, hg, hcell⟩ := (HK.out.below' HBl.out).scell k hlt
      rw [hx] at hy
      cases hy
      have n3 := Lib.cell_of_heap hnr 3
      have fn := Lib.frozen_of_heap hnr
      simp at n3
      have ht := ksz_take hx
      have hle2 : ksz (ks.take (k + 1)) ≤ ksz ks := ksz_le (k + 1)
      have we : IntKind.i64.wrap ((1 + (ksz (ks.take k) : Int)) + (x.size : Int)) = ((1 + ksz (ks.take (k + 1)) : Nat) : Int) := by
        rw [ht, IntWalk.i64_in _ (by omega)]
        omega
      have HT := Lib.hid ht
      clear ht hbl hcf hnr hfw hkm hle2
      go_wp2
      refine ⟨⟨k + 1, by go_num, by rw [HKl.out]; omega, HBl.out.setCell (p := ⟨n, 3, none⟩) (by have := HNw.out; omega) _, HCf.out.set (p := ⟨n, 3, none⟩) HNw.out.2.2.2 ⟨_, _, _, HNr.out, .inr rfl⟩ _, ?_⟩, by simp [intOf]; omega⟩
      rw [heap_setCell_same _ n 3 _ _ _ HNr.out]
      rfl
    · obtain rfl : k = len := by omega
      rw [← HKl.out, List.take_length] at hnr
      have HNr := Lib.hid hnr
      have hit : ∀ y ∈ r :: xs, (fun y => if y = n then (⟨f, b, ks, .slice va ks.length vcap, 1 + ksz ks⟩ : It) else it y) y = it y := fun y hy => if_neg (fun e : y = n => HNw.out.1 (by rw [← e]; exact hy))
      have hc1 := (HC0.out.fresh hbl).congr hit
      have hin : (fun y => if y = n then (⟨f, b, ks, .slice va ks.length vcap, 1 + ksz ks⟩ : It) else it y) n = ⟨f, b, ks, .slice va ks.length vcap, 1 + ksz ks⟩ := if_pos rfl
      have hent : xs.map (ent (fun y => if y = n then (⟨f, b, ks, .slice va ks.length vcap, 1 + ksz ks⟩ : It) else it y)) = E := (List.map_congr_left (fun y hy => by unfold ent; rw [hit y (List.mem_cons_of_mem _ hy)])).trans hE0
      have hkv := HI.out.cf HCf.out
      generalize (fun y => if y = n then (⟨f, b, ks, .slice va ks.length vcap, 1 + ksz ks⟩ : It) else it y) = it1 at *
      rw [← hin] at hkv
      have HIn := Lib.hid hin
      have HEnt := Lib.hid hent
      have HKv := Lib.hid hkv
      have HW3 : Hid (CF B W wr) := Lib.hid ⟨hbl.mono hlo, fun k cs t fz hk h1 h2 => (hbl.block k (Array.getElem?_eq_some_iff.1 hk).1).trans hk⟩
      have c0 := Lib.cell_of_heap hc1.cell 0
      simp at c0
      have n0 := Lib.cell_of_heap hnr 0
      have n1 := Lib.cell_of_heap hnr 1
      simp at n0 n1
      have hclt : c < wr.heap.size := (Array.getElem?_eq_some_iff.1 hc1.cell).1
      obtain ⟨D, hown, hlook, hsz⟩ := hc1.map
      obtain ⟨hr1, hr2⟩ := lookN_run hown.drew hlook hf hb
      unfold plc at hr1 hr2
      have HC1 := Lib.hid hc1
      clear hkv hin hent hc1 hbl hcf hnr hit hkm hfw hown hlook hsz HC0 HI HN2
      by_cases hex : ∃ x ∈ xs, (it1 x).f = f ∧ (it1 x).b = b
      · obtain ⟨x, hx, ex1, ex2⟩ := hex
        have hrun := hr1 x hx ex1 ex2
        clear hr1 hr2
        obtain ⟨A, Bs, rfl⟩ := List.append_of_mem hx
        have hrem := remove_any (G := fun g => G g ∨ W.heap.size ≤ g) wr.drew B c room r m it1 pv nx A x Bs (HC1.out.fresh ⟨rfl, rfl, rfl, Nat.le_refl _, fun _ _ => rfl⟩)
        have HRem := Lib.hid hrem
        clear hrem
        go_wp2
        go_region
        go_wp2_with (go_at_call 21; go_must (refine HRem.out.mono ?_))
        rintro e w4 ⟨rfl, hc4, hf4, _, hk4⟩
        have HC4 := Lib.hid hc4
        have HN4 := Lib.hid ((hk4 n hnlt HNw.out.2.1 HNw.out.2.2.1 HNw.out.1).trans HNr.out)
        have HF4 := Lib.hid (HW3.out.drew.trans hf4)
        have hkv3 : KvOk (fun g => G g ∨ W.heap.size ≤ g) wr.drew (it1 n) := HKv.out
        have HKv4 := Lib.hid (hkv3.cf hf4)
        have hsumx := sumI_mid it1 A Bs x
        have hent2 : sumI it1 (A ++ x :: Bs) + (1 + ksz ks) ≤ 1000000000 := by
          have h1 := HC1.out.used
          have h2 := HEnt.out
          unfold ent at h2
          rw [h1, h2]
          exact HFew.out
        have hdd := dist_ent HC1.out.dist
        have hE4 : (A ++ Bs).map (ent it1) = others E f b := by
          rw [← HEnt.out]
          have hm : (A ++ x :: Bs).map (ent it1) = A.map (ent it1) ++ (f, b, (it1 x).keys) :: Bs.map (ent it1) := by
            rw [List.map_append, List.map_cons, show ent it1 x = (f, b, (it1 x).keys) by unfold ent; rw [ex1, ex2]]
          rw [hm] at hdd ⊢
          rw [others_mid hdd, List.map_append]
        have HE4 := Lib.hid hE4
        have HSum : Hid (sumI it1 (A ++ Bs) + (1 + ksz ks) ≤ 1000000000) := Lib.hid (by omega)
        have hno : ∀ y ∈ A ++ Bs, ¬ ((it1 y).f = f ∧ (it1 y).b = b) := by
          have hd := HC1.out.dist
          rw [List.map_append, List.map_cons, List.nodup_append] at hd
          obtain ⟨_, d2, d3⟩ := hd
          intro y hy e
          have he : ((it1 y).f, (it1 y).b) = ((it1 x).f, (it1 x).b) := by rw [e.1, e.2, ex1, ex2]
          rcases List.mem_append.1 hy with hy | hy
          · exact d3 _ (List.mem_map.2 ⟨y, hy, rfl⟩) _ (by simp) he
          · exact (List.nodup_cons.1 d2).1 (List.mem_map.2 ⟨y, hy, he⟩)
        have HNo := Lib.hid hno
        have HNx : Hid (n ∉ r :: (A ++ Bs)) := Lib.hid (fun hm => HNw.out.1 (by simp at hm ⊢; rcases hm with e | e | e <;> simp [e]))
        have hxs4 : (A ++ Bs).length ≤ 1000000 := by simp at hmany ⊢; omega
        clear hc4 hf4 hk4 hkv3 hsumx hent2 hdd hE4 hno HRem c0 n0 n1 hclt hrun HW3 HKv HC1 HNr
        obtain ⟨pv4, hpv4⟩ : ∃ p, p = upd pv (nx x) (pv x) := ⟨_, rfl⟩
        obtain ⟨nx4, hnx4⟩ : ∃ p, p = upd nx (pv x) (nx x) := ⟨_, rfl⟩
        rw [← hpv4, ← hnx4] at HC4
        obtain ⟨xs4, hx4⟩ : ∃ p, p = A ++ Bs := ⟨_, rfl⟩
        rw [← hx4] at HC4 HE4 HSum HNo HNx hxs4
        clear hpv4 hnx4 hx4 hx ex1 ex2
        have hc4 := HC4.out.cell
        have c0 := Lib.cell_of_heap hc4 0
        have n0 := Lib.cell_of_heap HN4.out 0
        have n1 := Lib.cell_of_heap HN4.out 1
        simp at c0 n0 n1
        have hclt : c < w4.heap.size := (Array.getElem?_eq_some_iff.1 hc4).1
        have hnlt : n < w4.heap.size := (Array.getElem?_eq_some_iff.1 HN4.out).1
        obtain ⟨D, hown, hlook, hsz⟩ := HC4.out.map
        have hkey := keyL_of hf hb
        have HOwn := Lib.hid hown
        have hroom : xs4.length < maxLen := by unfold maxLen; omega
        clear hc4 hown
        go_wp2
        go_still_tail 9, (by kernel_rfl)
        show wpList _ _ _ _ _ w4.drew
        go_wp2_with (at_mapUpdate; refine wpList_mapUpdate_in _ rfl _ _ _ 52 rfl 47 45 placeLaw cmapU nodeR m _ D rfl HOwn.out.drew hroom (plc f b) (.pointer (some ⟨n, 0, none⟩)) _ rfl rfl hkey (nodeD n) [] rfl ?_; intro w5 hown5 hturn5)
        have hg5 := hturn5.grown
        have hb5 : ∀ y, y < w4.heap.size → y ≠ m → w5.heap[y]? = w4.heap[y]? := fun y hy hne => hg5.block y hy (by simpa using hne)
        have hc5 := (hb5 c hclt (fun e => HC4.out.apart.2 e.symm)).trans HC4.out.cell
        have hn5 := (hb5 n hnlt HNw.out.2.2.1).trans HN4.out
        have nd5 : Nodes w5 it1 pv4 nx4 (r :: xs4) := fun y hy => (hb5 y (Array.getElem?_eq_some_iff.1 (HC4.out.nodes y hy)).1 (HC4.out.apart.1 y hy).2).trans (HC4.out.nodes y hy)
        have hf5 : CF B w4 w5 := CF.turned (CF.refl B w4).drew HC4.out.lo.2.1 hturn5
        have c3 := Lib.cell_of_heap hc5 3
        have n2 := Lib.cell_of_heap hn5 2
        have n3 := Lib.cell_of_heap hn5 3
        have fc := Lib.frozen_of_heap hc5
        simp at c3 n2 n3
        have hclt5 : c < w5.heap.size := (Array.getElem?_eq_some_iff.1 hc5).1
        have hnlt5 : n < w5.heap.size := (Array.getElem?_eq_some_iff.1 hn5).1
        have hsum : sumI it1 xs4 + (1 + ksz ks) ≤ 1000000000 := HSum.out
        obtain ⟨us, hus⟩ : ∃ us : Int, us = ((sumI it1 xs4 + (1 + ksz ks) : Nat) : Int) := ⟨_, rfl⟩
        have we : IntKind.i64.wrap ((sumI it1 xs4 : Int) + (1 + (ksz ks : Int))) = us := by
          rw [IntWalk.i64_in _ (by omega)]
          omega
        have HUs6 := Lib.hid hus
        clear hus
        have HOwn5 := Lib.hid hown5
        have HC5 := Lib.hid hc5
        have HN5 := Lib.hid hn5
        have HNd5 := Lib.hid nd5
        have HF5 := Lib.hid hf5
        clear hown5 hc5 hn5 nd5 hf5 hturn5 hg5 hb5 c0 n0 n1 hclt hnlt
        go_wp2
        go_still_tail 9, (by kernel_rfl)
        go_wp2_with fail
        have hc6 : ((w5.setCell ⟨c, 3, none⟩ (.int .i64 us)).drew).heap[c]? = some (.cells #[.map (some m), .pointer (some ⟨r, 0, none⟩), .int .i64 (room : Int), .int .i64 us] 54 (0, 0)) := by
          show (w5.setCell ⟨c, 3, none⟩ _).heap[c]? = _
          rw [heap_setCell_same _ c 3 _ _ _ HC5.out]
          rfl
        have hne6 : ∀ y, y ≠ c → ((w5.setCell ⟨c, 3, none⟩ (.int .i64 us)).drew).heap[y]? = w5.heap[y]? := fun y hy => Below.heap_setCell _ _ _ _ hy
        have hf6 : CF B w4 ((w5.setCell ⟨c, 3, none⟩ (.int .i64 us)).drew) := (CF.set (p := ⟨c, 3, none⟩) HF5.out HC4.out.lo.1 ⟨_, _, _, HC5.out, .inl rfl⟩ _).drew
        have HC6 := Lib.hid hc6
        have HNe6 := Lib.hid hne6
        have HF6 := Lib.hid hf6
        clear hc6 hne6 hf6 we c3 n2 n3
        generalize (w5.setCell ⟨c, 3, none⟩ (.int .i64 us)).drew = w6 at *
        have hn6 := (HNe6.out n HNw.out.2.1).trans HN5.out
        have hen := enter_ring B w6 c n r (some m) (room : Int) us it1 (.pointer none) (.pointer none) pv4 nx4 xs4 HC6.out (fun y hy => (HNe6.out y (HC4.out.apart.1 y hy).1).trans (HNd5.out y hy)) HC4.out.ring HNx.out rfl rfl (by rw [HIn.out]; exact hn6) (fun y hy => by
          rcases List.mem_cons.1 hy with e | e
          · rw [e]; exact HNw.out.2.2.2
          · exact HC4.out.lo.2.2 y e)
        have HEn := Lib.hid hen
        clear hen hn6
        go_wp2_with (go_at_call 22; go_must (refine HEn.out.mono ?_))
        rintro e w7 ⟨rfl, nd7, rg7, k7, f7⟩
        have hcn : c ∉ n :: r :: xs4 := fun hm => by
          rcases List.mem_cons.1 hm with e | e
          · exact HNw.out.2.1 e.symm
          · exact (HC4.out.apart.1 c e).1 rfl
        have hmn : m ∉ n :: r :: xs4 := fun hm => by
          rcases List.mem_cons.1 hm with e | e
          · exact HNw.out.2.2.1 e.symm
          · exact (HC4.out.apart.1 m e).2 rfl
        have hf7 := HF6.out.trans f7
        have hown5' := HOwn5.out
        have hsz7 : (it1 n).sz = 1 + ksz ks := by rw [HIn.out]
        have hcat : CAt (fun g => G g ∨ W.heap.size ≤ g) w7 B c room r m it1 (upd (upd pv4 n (pv4 r)) r n) (upd (upd nx4 n r) (pv4 r) n) (xs4 ++ [n]) := by
          refine HC4.out.added HNx.out HNw.out.2.2.2 (by rw [HIn.out]; exact hf) (by rw [HIn.out]; exact hb) (by rw [HIn.out]) HKv4.out (by rw [HIn.out]; exact HNo.out) (by rw [hsz7]; exact hsum) HOwn.out hlook hsz (W5 := w5) (W6 := w6) ?_ (HNe6.out m HC4.out.apart.2) (k7 m hmn) ?_ nd7 rg7 hf7
          · rw [HIn.out]
            exact hown5'
          · rw [hsz7]
            rw [← HUs6.out]
            exact (k7 c hcn).trans HC6.out
        have hent7 : (xs4 ++ [n]).map (ent it1) = others E f b ++ [(f, b, ks)] := by
          rw [List.map_append, HE4.out, List.map_cons, List.map_nil, show ent it1 n = (f, b, ks) by unfold ent; rw [HIn.out]]
        have hput : trimE room ((xs4 ++ [n]).map (ent it1)) = putE room E f b ks := by
          rw [hent7]
          rfl
        have HPut := Lib.hid hput
        have HCat := Lib.hid hcat
        have HF7 := Lib.hid (HF4.out.trans hf7)
        clear hput hent7 hcat hf7 nd7 rg7 k7 f7 hcn hmn hown5' hsz7 HEn HC6 HNe6 HF6 HOwn5 HC5 HN5 HNd5 HF5 hlook hsz hsum hkey HOwn
        obtain ⟨L, hL⟩ : ∃ L, putE room E f b ks = L := ⟨_, rfl⟩
        rw [hL] at HPut
        have HL0 := Lib.hid hL
        clear hL
        go_wp2
        go_loopw [77] (fun _ wr => PutLoop2 (fun g => G g ∨ W.heap.size ≤ g) W B c room r m L wr) (fun _ wr => usedAt c wr)
        case atStart => exact ⟨it1, _, _, _, HCat.out, HPut.out, HF7.out⟩
        case round =>
          obtain ⟨it2, pv2, nx2, xs2, hc2, htr, hf2⟩ := hrel
          have c1 := Lib.cell_of_heap hc2.cell 1
          have c2 := Lib.cell_of_heap hc2.cell 2
          have c3 := Lib.cell_of_heap hc2.cell 3
          simp at c1 c2 c3
          have hclt9 : c < wr.heap.size := (Array.getElem?_eq_some_iff.1 hc2.cell).1
          have hus := hc2.used
          have HUs := Lib.hid hus
          have HC2 := Lib.hid hc2
          have HTr := Lib.hid htr
          have HF2 := Lib.hid hf2
          clear htr hf2 HCat HPut HF7 hus
          by_cases hgt : room < sumI it2 xs2
          · have hgtI : (room : Int) < (sumI it2 xs2 : Int) := by omega
            cases xs2 with
            | nil =>
              have : sumI it2 [] = 0 := rfl
              omega
            | cons x rest =>
              have hnx := head_next HC2.out.ring
              have hrn := HC2.out.nodes r (by simp)
              rw [hnx] at hrn
              have r5 := Lib.cell_of_heap hrn 5
              simp [ndCells] at r5
              have hrlt : r < wr.heap.size := (Array.getElem?_eq_some_iff.1 hrn).1
              have hrem := remove_any (G := fun g => G g ∨ W.heap.size ≤ g) wr.drew B c room r m it2 pv2 nx2 [] x rest (HC2.out.fresh ⟨rfl, rfl, rfl, Nat.le_refl _, fun _ _ => rfl⟩)
              have HRem := Lib.hid hrem
              have hsx := (HC2.out.okI x (by simp)).2.2.1
              have hsum2 : sumI it2 (x :: rest) = (it2 x).sz + sumI it2 rest := by simp [sumI]
              have hua : usedAt c wr = sumI it2 (x :: rest) := by
                unfold usedAt
                rw [c3]
                simp [intOf]
              have HUa := Lib.hid hua
              have HSum2 := Lib.hid hsum2
              have HSx := Lib.hid hsx
              clear hrem hnx hrn hsx hsum2 hua hc2 HNx HC4 HE4 HN4 HF4 HKv4 HNo HSum
              go_wp2
              go_region
              go_wp2_with (go_at_call 21; go_must (refine HRem.out.mono ?_))
              rintro e w9 ⟨rfl, hc9, hf9, _, _⟩
              have hl9 : usedAt c w9 = sumI it2 rest := by
                unfold usedAt
                rw [show w9.cell? ⟨c, 3, none⟩ = some (.int .i64 (sumI it2 rest : Int)) from Lib.cell_of_heap hc9.cell 3]
                simp [intOf]
              have htr9 : trimE room (rest.map (ent it2)) = L := by
                have h0 := HTr.out
                rw [List.map_cons] at h0
                unfold trimE at h0
                rw [if_pos (by have h1 := HUs.out; rw [List.map_cons] at h1; rw [show ent it2 x = ((it2 x).f, (it2 x).b, (it2 x).keys) from rfl]; exact h1 ▸ hgt)] at h0
                exact h0
              have HT9 := Lib.hid htr9
              have HC9 := Lib.hid hc9
              have HF9 := Lib.hid (HF2.out.drew.trans hf9)
              have HL9 := Lib.hid hl9
              clear htr9 hc9 hf9 hl9 HRem
              go_wp2
              exact ⟨⟨it2, _, _, rest, HC9.out, HT9.out, HF9.out⟩, by rw [HL9.out, HUa.out, HSum2.out, HSx.out]; omega⟩
          · have hgtI : ¬ ((room : Int) < (sumI it2 xs2 : Int)) := by omega
            have hfin : xs2.map (ent it2) = L := by
              rw [← HTr.out]
              have h1 : ¬ room < usedE (xs2.map (ent it2)) := by
                have := HUs.out
                rw [show xs2.map (ent it2) = xs2.map (fun x => ((it2 x).f, (it2 x).b, (it2 x).keys)) from rfl, ← this]
                exact hgt
              generalize xs2.map (ent it2) = M at h1
              cases M with
              | nil => rfl
              | cons e t => unfold trimE; rw [if_neg h1]
            have HFin := Lib.hid hfin
            clear hfin hc2 hgt
            go_wp2
            go_region
            go_wp2
            exact bodyPost_end (by simp [results, Try.results7]) rfl ⟨rfl, ⟨r, m, it2, pv2, nx2, xs2, HC2.out.fresh ⟨rfl, rfl, rfl, Nat.le_refl _, fun _ _ => rfl⟩, HFin.out.trans HL0.out.symm⟩, HF2.out.drew⟩
      · have hall : ∀ x ∈ xs, ¬ ((it1 x).f = f ∧ (it1 x).b = b) := fun x hx e => hex ⟨x, hx, e⟩
        have hrun := hr2 hall
        clear hr1 hr2 hex
        go_wp2
        go_region
        have HC4 := Lib.hid (HC1.out.fresh (W' := wr.drew) ⟨rfl, rfl, rfl, Nat.le_refl _, fun _ _ => rfl⟩)
        have HN4 : Hid (wr.drew.heap[n]? = _) := Lib.hid HNr.out
        have HF4 := Lib.hid HW3.out.drew
        have HKv4 : Hid (KvOk (fun g => G g ∨ W.heap.size ≤ g) wr.drew (it1 n)) := Lib.hid HKv.out
        have HNo := Lib.hid hall
        have HSum : Hid (sumI it1 xs + (1 + ksz ks) ≤ 1000000000) := Lib.hid (by
          have h1 := HC1.out.used
          have h2 := HEnt.out
          unfold ent at h2
          rw [h1, h2]
          exact HFew.out)
        have HE4 : Hid (xs.map (ent it1) = others E f b) := Lib.hid (by
          rw [← HEnt.out, others_none]
          intro p hp
          obtain ⟨x, hx, rfl⟩ := List.mem_map.1 hp
          exact hall x hx)
        have HNx : Hid (n ∉ r :: xs) := Lib.hid HNw.out.1
        clear hall hrun c0 n0 n1 hclt HW3 HKv HC1 HNr
        have hnlt' : n < wr.drew.heap.size := hnlt
        generalize wr.drew = w4 at *
        obtain ⟨pv4, rfl⟩ : ∃ p, p = pv := ⟨_, rfl⟩
        obtain ⟨nx4, rfl⟩ : ∃ p, p = nx := ⟨_, rfl⟩
        obtain ⟨xs4, hx4⟩ : ∃ p, p = xs := ⟨_, rfl⟩
        rw [← hx4] at HC4 HSum HNo HNx
        have hxs4 : xs4.length ≤ 1000000 := by rw [hx4]; exact hmany
        have HE4 : Hid (xs4.map (ent it1) = others E f b) := Lib.hid (by rw [hx4]; exact HE4.out)
        clear hx4 hnlt
        have hc4 := HC4.out.cell
        have c0 := Lib.cell_of_heap hc4 0
        have n0 := Lib.cell_of_heap HN4.out 0
        have n1 := Lib.cell_of_heap HN4.out 1
        simp at c0 n0 n1
        have hclt : c < w4.heap.size := (Array.getElem?_eq_some_iff.1 hc4).1
        have hnlt : n < w4.heap.size := (Array.getElem?_eq_some_iff.1 HN4.out).1
        obtain ⟨D, hown, hlook, hsz⟩ := HC4.out.map
        have hkey := keyL_of hf hb
        have HOwn := Lib.hid hown
        have hroom : xs4.length < maxLen := by unfold maxLen; omega
        clear hc4 hown
        go_wp2
        go_still_tail 9, (by kernel_rfl)
        show wpList _ _ _ _ _ w4.drew
        go_wp2_with (at_mapUpdate; refine wpList_mapUpdate_in _ rfl _ _ _ 52 rfl 47 45 placeLaw cmapU nodeR m _ D rfl HOwn.out.drew hroom (plc f b) (.pointer (some ⟨n, 0, none⟩)) _ rfl rfl hkey (nodeD n) [] rfl ?_; intro w5 hown5 hturn5)
        have hg5 := hturn5.grown
        have hb5 : ∀ y, y < w4.heap.size → y ≠ m → w5.heap[y]? = w4.heap[y]? := fun y hy hne => hg5.block y hy (by simpa using hne)
        have hc5 := (hb5 c hclt (fun e => HC4.out.apart.2 e.symm)).trans HC4.out.cell
        have hn5 := (hb5 n hnlt HNw.out.2.2.1).trans HN4.out
        have nd5 : Nodes w5 it1 pv4 nx4 (r :: xs4) := fun y hy => (hb5 y (Array.getElem?_eq_some_iff.1 (HC4.out.nodes y hy)).1 (HC4.out.apart.1 y hy).2).trans (HC4.out.nodes y hy)
        have hf5 : CF B w4 w5 := CF.turned (CF.refl B w4).drew HC4.out.lo.2.1 hturn5
        have c3 := Lib.cell_of_heap hc5 3
        have n2 := Lib.cell_of_heap hn5 2
        have n3 := Lib.cell_of_heap hn5 3
        have fc := Lib.frozen_of_heap hc5
        simp at c3 n2 n3
        have hclt5 : c < w5.heap.size := (Array.getElem?_eq_some_iff.1 hc5).1
        have hnlt5 : n < w5.heap.size := (Array.getElem?_eq_some_iff.1 hn5).1
        have hsum : sumI it1 xs4 + (1 + ksz ks) ≤ 1000000000 := HSum.out
        obtain ⟨us, hus⟩ : ∃ us : Int, us = ((sumI it1 xs4 + (1 + ksz ks) : Nat) : Int) := ⟨_, rfl⟩
        have we : IntKind.i64.wrap ((sumI it1 xs4 : Int) + (1 + (ksz ks : Int))) = us := by
          rw [IntWalk.i64_in _ (by omega)]
          omega
        have HUs6 := Lib.hid hus
        clear hus
        have HOwn5 := Lib.hid hown5
        have HC5 := Lib.hid hc5
        have HN5 := Lib.hid hn5
        have HNd5 := Lib.hid nd5
        have HF5 := Lib.hid hf5
        clear hown5 hc5 hn5 nd5 hf5 hturn5 hg5 hb5 c0 n0 n1 hclt hnlt
        go_wp2
        go_still_tail 9, (by kernel_rfl)
        go_wp2_with fail
        have hc6 : ((w5.setCell ⟨c, 3, none⟩ (.int .i64 us)).drew).heap[c]? = some (.cells #[.map (some m), .pointer (some ⟨r, 0, none⟩), .int .i64 (room : Int), .int .i64 us] 54 (0, 0)) := by
          show (w5.setCell ⟨c, 3, none⟩ _).heap[c]? = _
          rw [heap_setCell_same _ c 3 _ _ _ HC5.out]
          rfl
        have hne6 : ∀ y, y ≠ c → ((w5.setCell ⟨c, 3, none⟩ (.int .i64 us)).drew).heap[y]? = w5.heap[y]? := fun y hy => Below.heap_setCell _ _ _ _ hy
        have hf6 : CF B w4 ((w5.setCell ⟨c, 3, none⟩ (.int .i64 us)).drew) := (CF.set (p := ⟨c, 3, none⟩) HF5.out HC4.out.lo.1 ⟨_, _, _, HC5.out, .inl rfl⟩ _).drew
        have HC6 := Lib.hid hc6
        have HNe6 := Lib.hid hne6
        have HF6 := Lib.hid hf6
        clear hc6 hne6 hf6 we c3 n2 n3
        generalize (w5.setCell ⟨c, 3, none⟩ (.int .i64 us)).drew = w6 at *
        have hn6 := (HNe6.out n HNw.out.2.1).trans HN5.out
        have hen := enter_ring B w6 c n r (some m) (room : Int) us it1 (.pointer none) (.pointer none) pv4 nx4 xs4 HC6.out (fun y hy => (HNe6.out y (HC4.out.apart.1 y hy).1).trans (HNd5.out y hy)) HC4.out.ring HNx.out rfl rfl (by rw [HIn.out]; exact hn6) (fun y hy => by
          rcases List.mem_cons.1 hy with e | e
          · rw [e]; exact HNw.out.2.2.2
          · exact HC4.out.lo.2.2 y e)
        have HEn := Lib.hid hen
        clear hen hn6
        go_wp2_with (go_at_call 22; go_must (refine HEn.out.mono ?_))
        rintro e w7 ⟨rfl, nd7, rg7, k7, f7⟩
        have hcn : c ∉ n :: r :: xs4 := fun hm => by
          rcases List.mem_cons.1 hm with e | e
          · exact HNw.out.2.1 e.symm
          · exact (HC4.out.apart.1 c e).1 rfl
        have hmn : m ∉ n :: r :: xs4 := fun hm => by
          rcases List.mem_cons.1 hm with e | e
          · exact HNw.out.2.2.1 e.symm
          · exact (HC4.out.apart.1 m e).2 rfl
        have hf7 := HF6.out.trans f7
        have hown5' := HOwn5.out
        have hsz7 : (it1 n).sz = 1 + ksz ks := by rw [HIn.out]
        have hcat : CAt (fun g => G g ∨ W.heap.size ≤ g) w7 B c room r m it1 (upd (upd pv4 n (pv4 r)) r n) (upd (upd nx4 n r) (pv4 r) n) (xs4 ++ [n]) := by
          refine HC4.out.added HNx.out HNw.out.2.2.2 (by rw [HIn.out]; exact hf) (by rw [HIn.out]; exact hb) (by rw [HIn.out]) HKv4.out (by rw [HIn.out]; exact HNo.out) (by rw [hsz7]; exact hsum) HOwn.out hlook hsz (W5 := w5) (W6 := w6) ?_ (HNe6.out m HC4.out.apart.2) (k7 m hmn) ?_ nd7 rg7 hf7
          · rw [HIn.out]
            exact hown5'
          · rw [hsz7]
            rw [← HUs6.out]
            exact (k7 c hcn).trans HC6.out
        have hent7 : (xs4 ++ [n]).map (ent it1) = others E f b ++ [(f, b, ks)] := by
          rw [List.map_append, HE4.out, List.map_cons, List.map_nil, show ent it1 n = (f, b, ks) by unfold ent; rw [HIn.out]]
        have hput : trimE room ((xs4 ++ [n]).map (ent it1)) = putE room E f b ks := by
          rw [hent7]
          rfl
        have HPut := Lib.hid hput
        have HCat := Lib.hid hcat
        have HF7 := Lib.hid (HF4.out.trans hf7)
        clear hput hent7 hcat hf7 nd7 rg7 k7 f7 hcn hmn hown5' hsz7 HEn HC6 HNe6 HF6 HOwn5 HC5 HN5 HNd5 HF5 hlook hsz hsum hkey HOwn
        obtain ⟨L, hL⟩ : ∃ L, putE room E f b ks = L := ⟨_, rfl⟩
        rw [hL] at HPut
        have HL0 := Lib.hid hL
        clear hL
        go_wp2
        go_loopw [77] (fun _ wr => PutLoop2 (fun g => G g ∨ W.heap.size ≤ g) W B c room r m L wr) (fun _ wr => usedAt c wr)
        case atStart => exact ⟨it1, _, _, _, HCat.out, HPut.out, HF7.out⟩
        case round =>
          obtain ⟨it2, pv2, nx2, xs2, hc2, htr, hf2⟩ := hrel
          have c1 := Lib.cell_of_heap hc2.cell 1
          have c2 := Lib.cell_of_heap hc2.cell 2
          have c3 := Lib.cell_of_heap hc2.cell 3
          simp at c1 c2 c3
          have hclt9 : c < wr.heap.size := (Array.getElem?_eq_some_iff.1 hc2.cell).1
          have hus := hc2.used
          have HUs := Lib.hid hus
          have HC2 := Lib.hid hc2
          have HTr := Lib.hid htr
          have HF2 := Lib.hid hf2
          clear htr hf2 HCat HPut HF7 hus
          by_cases hgt : room < sumI it2 xs2
          · have hgtI : (room : Int) < (sumI it2 xs2 : Int) := by omega
            cases xs2 with
            | nil =>
              have : sumI it2 [] = 0 := rfl
              omega
            | cons x rest =>
              have hnx := head_next HC2.out.ring
              have hrn := HC2.out.nodes r (by simp)
              rw [hnx] at hrn
              have r5 := Lib.cell_of_heap hrn 5
              simp [ndCells] at r5
              have hrlt : r < wr.heap.size := (Array.getElem?_eq_some_iff.1 hrn).1
              have hrem := remove_any (G := fun g => G g ∨ W.heap.size ≤ g) wr.drew B c room r m it2 pv2 nx2 [] x rest (HC2.out.fresh ⟨rfl, rfl, rfl, Nat.le_refl _, fun _ _ => rfl⟩)
              have HRem := Lib.hid hrem
              have hsx := (HC2.out.okI x (by simp)).2.2.1
              have hsum2 : sumI it2 (x :: rest) = (it2 x).sz + sumI it2 rest := by simp [sumI]
              have hua : usedAt c wr = sumI it2 (x :: rest) := by
                unfold usedAt
                rw [c3]
                simp [intOf]
              have HUa := Lib.hid hua
              have HSum2 := Lib.hid hsum2
              have HSx := Lib.hid hsx
              clear hrem hnx hrn hsx hsum2 hua hc2 HNx HC4 HE4 HN4 HF4 HKv4 HNo HSum
              go_wp2
              go_region
              go_wp2_with (go_at_call 21; go_must (refine HRem.out.mono ?_))
              rintro e w9 ⟨rfl, hc9, hf9, _, _⟩
              have hl9 : usedAt c w9 = sumI it2 rest := by
                unfold usedAt
                rw [show w9.cell? ⟨c, 3, none⟩ = some (.int .i64 (sumI it2 rest : Int)) from Lib.cell_of_heap hc9.cell 3]
                simp [intOf]
              have htr9 : trimE room (rest.map (ent it2)) = L := by
                have h0 := HTr.out
                rw [List.map_cons] at h0
                unfold trimE at h0
                rw [if_pos (by have h1 := HUs.out; rw [List.map_cons] at h1; rw [show ent it2 x = ((it2 x).f, (it2 x).b, (it2 x).keys) from rfl]; exact h1 ▸ hgt)] at h0
                exact h0
              have HT9 := Lib.hid htr9
              have HC9 := Lib.hid hc9
              have HF9 := Lib.hid (HF2.out.drew.trans hf9)
              have HL9 := Lib.hid hl9
              clear htr9 hc9 hf9 hl9 HRem
              go_wp2
              exact ⟨⟨it2, _, _, rest, HC9.out, HT9.out, HF9.out⟩, by rw [HL9.out, HUa.out, HSum2.out, HSx.out]; omega⟩
          · have hgtI : ¬ ((room : Int) < (sumI it2 xs2 : Int)) := by omega
            have hfin : xs2.map (ent it2) = L := by
              rw [← HTr.out]
              have h1 : ¬ room < usedE (xs2.map (ent it2)) := by
                have := HUs.out
                rw [show xs2.map (ent it2) = xs2.map (fun x => ((it2 x).f, (it2 x).b, (it2 x).keys)) from rfl, ← this]
                exact hgt
              generalize xs2.map (ent it2) = M at h1
              cases M with
              | nil => rfl
              | cons e t => unfold trimE; rw [if_neg h1]
            have HFin := Lib.hid hfin
            clear hfin hc2 hgt
            go_wp2
            go_region
            go_wp2
            exact bodyPost_end (by simp [results, Try.results7]) rfl ⟨rfl, ⟨r, m, it2, pv2, nx2, xs2, HC2.out.fresh ⟨rfl, rfl, rfl, Nat.le_refl _, fun _ _ => rfl⟩, HFin.out.trans HL0.out.symm⟩, HF2.out.drew⟩
end Go.Proofs.Ytdooedlapoknbaa
