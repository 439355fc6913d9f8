/- (*skip.List).Put. -/
import Derived.Test.YthficboolhellaaSkipPutM
import Derived.Test.YthficboolhellaaSkipAsk
import Derived.Test.YthficboolhellaaRef11Put
import Derived.StillTailTactics
namespace Go.Proofs.Ythficboolhellaa
open Go Go.RowKit

def isIn (K : List ByteArray) (key : ByteArray) : Bool := decide (K[putAt K key]? = some key)

def PutSPost (w : World) (L : Nat) (ns : List Nat) (K : List ByteArray) (key : ByteArray) (e : Ending) (w' : World) : Prop :=
  ∃ (ns' : List Nat) (kf' : Nat → ByteArray) (ht' : Nat → Nat), e = .returned (.bool (!isIn K key)) ∧ SkL w' L ns' kf' ht' (putK K key) ∧ Touch w w' (L :: ns) ∧ ∀ x ∈ ns', x ∈ ns ∨ w.heap.size ≤ x

theorem part_mem {A B : List Nat} {kf : Nat → ByteArray} {K : List ByteArray} {key : ByteArray} (hk : (A ++ B).map kf = K) (hA : ∀ x ∈ A, ltP key (kf x) = true) (hB : ∀ x ∈ B, ltP key (kf x) = false) :
    putAt K key = A.length ∧ K[A.length]? = B.head?.map kf := by
  have hat : K[A.length]? = B.head?.map kf := by
    rw [← hk, List.map_append, List.getElem?_append_right (by simp)]
    cases B with
    | nil => simp
    | cons b t => simp
  have hpa : putAt K key = A.length := by
    refine putAt_eq (fun j x hj hx => ?_) ?_ (fun x hx => ?_)
    · rw [← hk, List.map_append, List.getElem?_append_left (by simpa using hj), List.getElem?_map] at hx
      obtain ⟨y, hy, rfl⟩ := Option.map_eq_some_iff.1 hx
      exact hA y (List.mem_of_getElem? hy)
    · rw [← hk]
      simp
    · rw [hat] at hx
      obtain ⟨y, hy, rfl⟩ := Option.map_eq_some_iff.1 hx
      exact hB y (List.mem_of_mem_head? hy)
  exact ⟨hpa, hat⟩

theorem put5 {w4 w5 : World} {L nb : Nat} {key : ByteArray} {A B : List Nat} {kf : Nat → ByteArray} {ht : Nat → Nat} {K : List ByteArray} {v5 : Value} {zs : List Value} (h4 : SkL w4 L (A ++ B) kf ht K)
    (hN : w4.heap[nb]? = some (Obj.cells (Value.string key :: zs).toArray 46 (0, 0))) (hzs : zs.length = 8) (hw : (w5 = w4 ∧ w4.cell? ⟨L, 9, none⟩ = some v5) ∨ w5 = w4.setCell ⟨L, 9, none⟩ v5) (hnb : nb ∉ L :: (A ++ B)) (hd : Draws w4 v5) :
    PutMid w5 L nb key A B kf ht 0 ∧ Touch w4 w5 [L] ∧ w5.cell? ⟨L, 9, none⟩ = some v5 ∧ Draws w5 v5 ∧ w5.cell? ⟨L, 10, none⟩ = some (.int .i64 (K.length : Int)) ∧ w5.cell? ⟨L, 11, none⟩ = some (.int .i64 (sumSz K : Int)) := by
  have hk : w4.cell? ⟨nb, 0, none⟩ = some (.string key) := by rw [Lib.cell_of_heap hN 0]; rfl
  have hst := PutMid.start h4.nodes hnb ⟨_, hN, by simp [hzs]⟩ hk
  rcases hw with ⟨rfl, hc⟩ | rfl
  · exact ⟨hst, Touch.refl _ _, hc, hd, h4.len, h4.size⟩
  · have hne : nb ≠ L := fun e => hnb (by rw [e]; simp)
    obtain ⟨v0, hv0, _⟩ := h4.draws
    refine ⟨PutMid.start (h4.nodes.setHi (Nat.le_refl _) _) hnb (block_set ⟨_, hN, by simp [hzs]⟩ _ _ _) (by rw [cell_other (.inr (by omega))]; exact hk), (Touch.refl _ _).setCell (.inl (by simp)) _, World.cell?_setCell_same _ _ _ hv0, ?_, ?_, ?_⟩
    · refine hd.touch (l := [L]) ((Touch.refl _ _).setCell (.inl (by simp)) _) (fun x hx => ?_)
      simp at hx
      subst hx
      exact hst.types x (by simp)
    · rw [cell_other (.inr (by omega))]; exact h4.len
    · rw [cell_other (.inr (by omega))]; exact h4.size

def PutLoop (w4 : World) (L nb : Nat) (key : ByteArray) (A B : List Nat) (kf : Nat → ByteArray) (ht : Nat → Nat) (h : Nat) (iv : Value) (wr : World) : Prop :=
  ∃ k : Nat, iv = .int .i64 (k : Int) ∧ k ≤ h ∧ PutMid wr L nb key A B kf ht k ∧ (∀ j, 9 ≤ j → wr.cell? ⟨L, j, none⟩ = w4.cell? ⟨L, j, none⟩) ∧ Touch w4 wr (L :: nb :: (A ++ B))

set_option maxRecDepth 100000 in
set_option maxHeartbeats 4000000 in
theorem skput_any (w : World) (L : Nat) (ns : List Nat) (kf : Nat → ByteArray) (ht : Nat → Nat) (K : List ByteArray) (key : ByteArray) (h : SkL w L ns kf ht K) (hkl : K.length ≤ 1000000) (hks : sumSz K + key.size ≤ 1000000000) :
    Calls Try.prog 11 #[.pointer (some ⟨L, 0, none⟩), .string key] w (PutSPost w L ns K key) := by
  have hmf : ∀ (fn : Fn) (first cap : Array Value) (w : World), (Instr.makeFunc fn first cap).run Try.prog w = .ok (.func fn first cap) w := fun _ _ _ _ => rfl
  obtain ⟨A, B, rfl, hA, hB⟩ := h.part (ltP key) (ltP_down key)
  obtain ⟨hpa, hat⟩ := part_mem h.keys hA hB
  have hal : Below w.heap.size w (w.alloc (.cells #[.string key] 9)) := (Below.refl _ _).alloc (Nat.le_refl _) _
  have h1 := h.below hal
  have hp := path_any _ L _ A B kf ht h1.nodes rfl (ltP key) hA hB _ _ (asks_put w key)
  have hlts : ∀ x ∈ L :: (A ++ B), x < w.heap.size := fun x hx => h.nodes.lt hx
  have hbx := heap_alloc_new w (.cells #[.string key] 9)
  have hbz : (w.alloc (.cells #[.string key] 9)).heap.size = w.heap.size + 1 := by simp
  have HP := Lib.hid hp
  have H0 := Lib.hid h
  have H1 := Lib.hid h1
  have HAl := Lib.hid hal
  have HLt := Lib.hid hlts
  have HBx := Lib.hid hbx
  have HBz := Lib.hid hbz
  have HPa := Lib.hid hpa
  have HAt := Lib.hid hat
  clear hp h h1 hal hlts hpa hat hbx hbz
  go_enter Try.func11, Try.ntmps11
  go_wp2_with (go_at_call 22; go_must (refine HP.out.mono ?_))
  rintro e w1 ⟨vs, rfl, hv, b1⟩
  have HV := Lib.hid hv
  have HB1 := Lib.hid b1
  clear b1 hv HP
  obtain ⟨w2, hw2⟩ : ∃ w2, w2 = (w1.alloc (.cells #[.pointer none, .pointer none, .pointer none, .pointer none, .pointer none, .pointer none, .pointer none, .pointer none] 43)).setRow w1.heap.size vs.toArray := ⟨_, rfl⟩
  have hR2 : w2.heap[w1.heap.size]? = some (Obj.cells vs.toArray 43 (0, 0)) := by
    rw [hw2]
    exact setRow_heap _ w1.heap.size _ vs.toArray _ _ (heap_alloc_new w1 _)
  have hb2 : Below w1.heap.size w1 w2 := by
    rw [hw2]
    exact Below.setRow ((Below.refl _ w1).alloc (Nat.le_refl _) _) (Nat.le_refl _) _
  have hz2 : w2.heap.size = w1.heap.size + 1 := by
    rw [hw2]
    simp [World.setRow]
  have HW2 := Lib.hid hw2
  have h2 := (H1.out.below HB1.out).below hb2
  have hs1 := HB1.out.size
  rw [HBz.out] at hs1
  have HSk := Lib.hid h2
  have HB2 := Lib.hid (HAl.out.trans ((HB1.out.trans (hb2.mono HB1.out.size)).mono HAl.out.size))
  have hbox := boxed key (HB1.out.trans (hb2.mono HB1.out.size))
  have hv0 := path_head HV.out (fl_left h2.nodes)
  have c0 : w2.cell? ⟨w1.heap.size, 0, none⟩ = some (.pointer (some ⟨lastP L A, 0, none⟩)) := by
    rw [Lib.cell_of_heap hR2 0]
    simpa using hv0
  have hpl := h2.nodes.lt (show lastP L A ∈ L :: (A ++ B) by
    rcases List.mem_cons.1 (lastP_mem L A) with h | h
    · rw [h]; simp
    · exact List.mem_cons_of_mem _ (List.mem_append_left _ h))
  have c1 := nodes_next h2.nodes
  have HR2 := Lib.hid hR2
  have HZ2 := Lib.hid hz2
  clear hw2 hR2 hb2 hz2 h2 hv0 H1 HAl HB1
  cases B with
  | nil =>
    unfold ptrO at c1
    simp only [List.head?_nil] at c1
    have hne : ¬ K[A.length]? = some key := by rw [HAt.out]; simp
    have HIn := Lib.hid (show isIn K key = false by unfold isIn; rw [HPa.out]; exact decide_eq_false hne)
    have HNe := Lib.hid hne
    clear hne
    go_wp2_with (refine wpList_store_row rfl 43 _ _ rfl w1.heap.size vs.toArray rfl rfl 43 zs8.toArray (heap_alloc_new w1 (.cells zs8.toArray 43)) (arr_info HV.out.1) (arr_size rfl HV.out.1) (arr_one HV.out.2.1) ?_; rw [← HW2.out])
    go_quiet (fail)
    obtain ⟨w3, hw3⟩ : ∃ w3, w3 = w2.drewN nq := ⟨_, rfl⟩
    have b3 : Below w2.heap.size w2 w3 := by rw [hw3]; exact below_quiet (Below.refl _ _) _
    rw [← hw3]
    have hz3 : w3.heap.size = w2.heap.size := by rw [hw3]; rfl
    have h3 := HSk.out.below b3
    have hR3 := (b3.block w1.heap.size (by rw [HZ2.out]; omega)).trans HR2.out
    have hbox3 : w3.cell? ⟨w.heap.size, 0, none⟩ = some (.string key) := (b3.cell (p := ⟨w.heap.size, 0, none⟩) (by show w.heap.size < _; rw [HZ2.out]; omega)).trans hbox
    have bn : Below w3.heap.size w3 (w3.alloc (.cells #[.string key, .pointer none, .pointer none, .pointer none, .pointer none, .pointer none, .pointer none, .pointer none, .pointer none] 46)) := (Below.refl _ _).alloc (Nat.le_refl _) _
    have h4 := h3.below bn
    have hR4 := (bn.block w1.heap.size (Array.getElem?_eq_some_iff.1 hR3).1).trans hR3
    have hN4 := heap_alloc_new w3 (.cells #[.string key, .pointer none, .pointer none, .pointer none, .pointer none, .pointer none, .pointer none, .pointer none, .pointer none] 46)
    have hbox4 := (bn.cell (p := ⟨w.heap.size, 0, none⟩) (by show w.heap.size < _; rw [hz3, HZ2.out]; omega)).trans hbox3
    have hB4 := HB2.out.trans ((b3.trans (bn.mono (by omega))).mono HB2.out.size)
    have HNb := Lib.hid (show w3.heap.size = w1.heap.size + 1 from hz3.trans HZ2.out)
    have HZ3 := Lib.hid hz3
    obtain ⟨dv, hdc, hdd⟩ := h4.draws
    have HHt := Lib.hid (height_any _ L dv hdc (h4.nodes.thaw (by simp) 9) hdd)
    have HBox3 := Lib.hid hbox3
    have H4 := Lib.hid h4
    have HR4 := Lib.hid hR4
    have HN4 := Lib.hid hN4
    have HBox4 := Lib.hid hbox4
    have HB4 := Lib.hid hB4
    clear b3 hw3 hz3 h3 hR3 bn h4 hR4 hN4 hbox4 hB4 hdc hdd c0 c1 hbox
    go_wp2_with (go_at_call 24; go_must (refine HHt.out.mono ?_))
    rintro e w5 ⟨hh, v5, rfl, hh1, hh8, hd5, hw5⟩
    have hbox5 := HBox4.out
    have hR5 := HR4.out
    generalize w3.alloc (.cells #[.string key, .pointer none, .pointer none, .pointer none, .pointer none, .pointer none, .pointer none, .pointer none, .pointer none] 46) = w4 at *
    have hp5 := put5 (zs := zs8) H4.out HN4.out rfl hw5 (fun hm => by have := HLt.out _ hm; have := HNb.out; omega) hd5
    obtain ⟨hm5, ht5, hc5, hd5', hl5, hs5⟩ := hp5
    generalize w3.heap.size = nb at *
    have hR5 := ht5.keep HR4.out (by simp; have := HLt.out L (by simp); omega)
    have hbox5 : w5.cell? ⟨w.heap.size, 0, none⟩ = some (.string key) := (cell_same (ht5.block w.heap.size (by have := ht5.size; have := (Array.getElem?_eq_some_iff.1 HR4.out).1; omega) (by simp; have := HLt.out L (by simp); omega))).trans HBox4.out
    have HM5 := Lib.hid hm5
    have HT5 := Lib.hid ht5
    have HT5Sz := Lib.hid ht5.size
    have HC5 := Lib.hid hc5
    have HD5 := Lib.hid hd5'
    have HL5 := Lib.hid hl5
    have HS5 := Lib.hid hs5
    have HR5 := Lib.hid hR5
    have HBox5 := Lib.hid hbox5
    clear hd5 hw5 hm5 ht5 hc5 hd5' hl5 hs5 hR5 hbox5 hbox3 HHt
    go_wp2
    go_loopw [35] (fun iv wr => PutLoop w5 L nb key A ([] : List Nat) kf ht hh iv wr) (fun iv _ => hh - (intOf iv).toNat)
    case atStart => exact ⟨0, rfl, Nat.zero_le _, HM5.out, fun _ _ => rfl, Touch.refl _ _⟩
    case round =>
      obtain ⟨k, rfl, hk, hm, hcs, htw⟩ := hrel
      have hnb := HNb.out
      have hnot : ∀ x, w.heap.size ≤ x → x ≠ nb → x ∉ L :: nb :: (A ++ ([] : List Nat)) := fun x h1 h2 hm => by
        simp only [List.mem_cons] at hm
        rcases hm with hm | hm | hm
        · have := HLt.out L (by simp); rw [hm] at h1; omega
        · exact h2 hm
        · have := HLt.out x (List.mem_cons_of_mem _ hm); omega
      have hRr := htw.keep HR5.out (hnot _ (by omega) (by omega))
      have hbxr : wr.cell? ⟨w.heap.size, 0, none⟩ = some (.string key) := (cell_same (htw.block w.heap.size (by have := (Array.getElem?_eq_some_iff.1 HR5.out).1; omega) (hnot _ (Nat.le_refl _) (by omega)))).trans HBox5.out
      by_cases hlt : k < hh
      · have hkI : (k : Int) < hh := by omega
        have hk8 : (k : Int) < 8 := by omega
        have hpc : wr.cell? ⟨w1.heap.size, k, none⟩ = some (.pointer (some ⟨lastP L (fl A ht k), 0, none⟩)) := by
          rw [Lib.cell_of_heap hRr k]
          simpa [ptrO] using HV.out.2.2 k (Nat.zero_le _) (by omega)
        have hpm : lastP L (fl A ht k) ∈ L :: nb :: (A ++ ([] : List Nat)) := by
          have := fl_sub (lastP_mem L (fl A ht k))
          simp only [List.mem_cons, List.mem_append] at this ⊢
          rcases this with h | h
          · exact .inl h
          · exact .inr (.inr (.inl h))
        have hpn : nb ≠ lastP L (fl A ht k) := fun e => by
          have := fl_sub (lastP_mem L (fl A ht k))
          rw [← e] at this
          have := HLt.out _ (show nb ∈ L :: (A ++ ([] : List Nat)) by
            simp only [List.mem_cons, List.mem_append] at this ⊢
            rcases this with h | h
            · exact .inl h
            · exact .inr (.inl h))
          omega
        obtain ⟨q, hq⟩ : ∃ q, ptrO (fl (([] : List Nat)) ht k).head? = .pointer q := by
          cases (fl (([] : List Nat)) ht k).head? with
          | none => exact ⟨_, rfl⟩
          | some x => exact ⟨_, rfl⟩
        have hpv : wr.cell? ⟨lastP L (fl A ht k), 1 + k, none⟩ = some (.pointer q) := by
          have := hm.old k (Nat.le_refl _) (by omega)
          rw [fl_append] at this
          have h2 := this _ _ (lastP_at L (fl A ht k) (fl (([] : List Nat)) ht k))
          rw [List.getElem?_append_right (Nat.le_refl _), Nat.sub_self, ← List.head?_eq_getElem?, hq] at h2
          exact h2
        have hst := hm.step (by omega)
        rw [hq] at hst
        have hpl := hm.lt hpm
        have hnl := hm.lt (show nb ∈ L :: nb :: (A ++ ([] : List Nat)) by simp)
        obtain ⟨v0, hv0⟩ : ∃ v0, wr.cell? ⟨nb, 1 + k, none⟩ = some v0 := by
          obtain ⟨cs, hc, hs⟩ := hm.node nb (by simp)
          exact ⟨cs[1 + k]'(by omega), by rw [Lib.cell_of_heap hc (1 + k)]; exact Array.getElem?_eq_getElem _⟩
        have ht2 : Touch w5 ((wr.setCell ⟨nb, 1 + k, none⟩ (.pointer q)).setCell ⟨lastP L (fl A ht k), 1 + k, none⟩ (.pointer (some ⟨nb, 0, none⟩))) (L :: nb :: (A ++ ([] : List Nat))) := (htw.setCell (.inl (by simp)) _).setCell (.inl hpm) _
        have hcs2 : ∀ j, 9 ≤ j → ((wr.setCell ⟨nb, 1 + k, none⟩ (.pointer q)).setCell ⟨lastP L (fl A ht k), 1 + k, none⟩ (.pointer (some ⟨nb, 0, none⟩))).cell? ⟨L, j, none⟩ = w5.cell? ⟨L, j, none⟩ := fun j hj => by
          rw [cell_other (.inr (by omega)), cell_other (.inr (by omega))]
          exact hcs j hj
        have hf1 := hpl.2 (1 + k)
        have hf2 := hnl.2 (1 + k)
        have hl1 := hpl.1
        have hl2 := hnl.1
        have hpw : w1.heap.size ≠ nb := by omega
        have HSt := Lib.hid hst
        have HT2 := Lib.hid ht2
        have HC2 := Lib.hid hcs2
        clear hst ht2 hcs2 hpl hnl hpm hm hcs htw hRr hnot hq hnb
        generalize lastP L (fl A ht k) = p at *
        go_wp2
        go_still_tail 13, (by kernel_rfl)
        show wpList _ _ _ _ _ wr.drew
        go_wp2
        exact ⟨⟨k + 1, by go_num, by omega, HSt.out.kept (fun _ _ => rfl), HC2.out, HT2.out.drew⟩, by simp [intOf]; omega⟩
      · obtain rfl : k = hh := by omega
        have hkI : ¬ (k : Int) < k := by omega
        have c10 := (hcs 10 (by omega)).trans HL5.out
        have c11 := (hcs 11 (by omega)).trans HS5.out
        have c9 := (hcs 9 (Nat.le_refl _)).trans HC5.out
        have hdr := HD5.out.touch htw HM5.out.types
        have hfin := put_done hm hh1 H0.out.keys H0.out.up HPa.out HNe.out c9 hdr c10 c11
        have hll := hm.lt (show L ∈ L :: nb :: (A ++ ([] : List Nat)) by simp)
        obtain ⟨w6, hw6⟩ : ∃ w6, w6 = wr.setCell ⟨L, 10, none⟩ (.int .i64 ((K.length : Int) + 1)) := ⟨_, rfl⟩
        have d11 : w6.cell? ⟨L, 11, none⟩ = some (.int .i64 (sumSz K : Int)) := by rw [hw6, cell_other (.inr (by omega))]; exact c11
        have dbx : w6.cell? ⟨w.heap.size, 0, none⟩ = some (.string key) := by rw [hw6, cell_other (.inr (by omega))]; exact hbxr
        have d0 : ∀ j, w6.frozen? ⟨L, j, none⟩ = false := fun j => by rw [hw6]; simpa using hll.2 j
        have dl : L < w6.heap.size := by rw [hw6]; simpa using hll.1
        have hf10 := hll.2 10
        have hl1 := hll.1
        have hbl1 : w.heap.size < w6.heap.size := by
          rw [hw6]
          have h1 := HB4.out.size
          have h2 := HT5Sz.out
          have h3 := htw.size
          have h4 := (Array.getElem?_eq_some_iff.1 HR5.out).1
          simp
          omega
        have hwr : IntKind.i64.wrap ((sumSz K : Int) + (key.size : Int)) = ((sumSz K + key.size : Nat) : Int) := by rw [IntKind.wrap_i64]; omega
        have htf : Touch w ((w6.setCell ⟨L, 11, none⟩ (.int .i64 ((sumSz K + key.size : Nat) : Int))).drew) (L :: (A ++ ([] : List Nat))) := by
          have t1 := ((Touch.of_below HB4.out (L :: (A ++ ([] : List Nat)))).same (HT5.out.mono (fun x hx => by simp at hx; subst hx; simp))).trans htw (fun _ h => h) (fun x hx => by
            simp only [List.mem_cons] at hx ⊢
            rcases hx with hx | hx | hx
            · exact .inl (.inl hx)
            · right
              have h1 := HB2.out.size
              rw [HZ2.out] at h1
              omega
            · exact .inl (.inr hx))
          rw [hw6]
          exact ((t1.setCell (.inl (by simp)) _).setCell (.inl (by simp)) _).drew
        rw [← hw6] at hfin
        have HFin := Lib.hid hfin
        have HTf := Lib.hid htf
        have HW6 := Lib.hid hw6
        have HNw := Lib.hid (show w.heap.size ≤ nb by
          have h1 := HB2.out.size
          rw [HZ2.out] at h1
          omega)
        clear hm hcs htw hRr hnot hnb hbxr c11 c9 hdr hfin htf hll hw6
        go_wp2
        rw [← HW6.out]
        go_still_tail 9, (by kernel_rfl)
        show wpList _ _ _ _ _ w6.drew
        go_wp2
        go_ret
        refine ⟨_, _, _, by rw [HIn.out]; rfl, HFin.out, HTf.out, fun x hx => ?_⟩
        simp only [List.mem_append, List.mem_cons] at hx ⊢
        rcases hx with hx | hx | hx
        · exact .inl (.inl hx)
        · right; rw [hx]; exact HNw.out
        · exact .inl (.inr hx)
  | cons b t =>
    unfold ptrO at c1
    simp only [List.head?_cons] at c1
    have hkb := HSk.out.nodes.key b (by simp)
    have hbl := HSk.out.nodes.lt (show b ∈ L :: (A ++ b :: t) by simp)
    have e3 := str_eq (kf b) key
    by_cases hxe : kf b = key
    · rw [decide_eq_true hxe] at e3
      have HIn := Lib.hid (show isIn K key = true by unfold isIn; rw [HPa.out, HAt.out]; simp [hxe])
      have HPk := Lib.hid (show putK K key = K by unfold putK; rw [HPa.out, HAt.out, if_pos (by simp [hxe])])
      clear hxe
      go_wp2_with (refine wpList_store_row rfl 43 _ _ rfl w1.heap.size vs.toArray rfl rfl 43 zs8.toArray (heap_alloc_new w1 (.cells zs8.toArray 43)) (arr_info HV.out.1) (arr_size rfl HV.out.1) (arr_one HV.out.2.1) ?_; rw [← HW2.out])
      go_quiet (fail)
      go_wp2
      go_ret
      exact ⟨A ++ b :: t, kf, ht, by rw [HIn.out]; rfl, by rw [HPk.out]; exact HSk.out.below (below_quiet (Below.refl _ _) _), Touch.of_below (HB2.out.trans ((below_quiet (Below.refl _ _) _).mono HB2.out.size)) _, fun x hx => .inl hx⟩
    · rw [decide_eq_false hxe] at e3
      have hne : ¬ K[A.length]? = some key := by rw [HAt.out]; simpa using hxe
      have HIn := Lib.hid (show isIn K key = false by unfold isIn; rw [HPa.out]; exact decide_eq_false hne)
      have HNe := Lib.hid hne
      clear hxe hne
      go_wp2_with (refine wpList_store_row rfl 43 _ _ rfl w1.heap.size vs.toArray rfl rfl 43 zs8.toArray (heap_alloc_new w1 (.cells zs8.toArray 43)) (arr_info HV.out.1) (arr_size rfl HV.out.1) (arr_one HV.out.2.1) ?_; rw [← HW2.out])
      go_quiet (fail)
      obtain ⟨w3, hw3⟩ : ∃ w3, w3 = w2.drewN nq := ⟨_, rfl⟩
      have b3 : Below w2.heap.size w2 w3 := by rw [hw3]; exact below_quiet (Below.refl _ _) _
      rw [← hw3]
      have hz3 : w3.heap.size = w2.heap.size := by rw [hw3]; rfl
      have h3 := HSk.out.below b3
      have hR3 := (b3.block w1.heap.size (by rw [HZ2.out]; omega)).trans HR2.out
      have hbox3 : w3.cell? ⟨w.heap.size, 0, none⟩ = some (.string key) := (b3.cell (p := ⟨w.heap.size, 0, none⟩) (by show w.heap.size < _; rw [HZ2.out]; omega)).trans hbox
      have bn : Below w3.heap.size w3 (w3.alloc (.cells #[.string key, .pointer none, .pointer none, .pointer none, .pointer none, .pointer none, .pointer none, .pointer none, .pointer none] 46)) := (Below.refl _ _).alloc (Nat.le_refl _) _
      have h4 := h3.below bn
      have hR4 := (bn.block w1.heap.size (Array.getElem?_eq_some_iff.1 hR3).1).trans hR3
      have hN4 := heap_alloc_new w3 (.cells #[.string key, .pointer none, .pointer none, .pointer none, .pointer none, .pointer none, .pointer none, .pointer none, .pointer none] 46)
      have hbox4 := (bn.cell (p := ⟨w.heap.size, 0, none⟩) (by show w.heap.size < _; rw [hz3, HZ2.out]; omega)).trans hbox3
      have hB4 := HB2.out.trans ((b3.trans (bn.mono (by omega))).mono HB2.out.size)
      have HNb := Lib.hid (show w3.heap.size = w1.heap.size + 1 from hz3.trans HZ2.out)
      have HZ3 := Lib.hid hz3
      obtain ⟨dv, hdc, hdd⟩ := h4.draws
      have HHt := Lib.hid (height_any _ L dv hdc (h4.nodes.thaw (by simp) 9) hdd)
      have HBox3 := Lib.hid hbox3
      have H4 := Lib.hid h4
      have HR4 := Lib.hid hR4
      have HN4 := Lib.hid hN4
      have HBox4 := Lib.hid hbox4
      have HB4 := Lib.hid hB4
      clear b3 hw3 hz3 h3 hR3 bn h4 hR4 hN4 hbox4 hB4 hdc hdd c0 c1 hbox
      go_wp2_with (go_at_call 24; go_must (refine HHt.out.mono ?_))
      rintro e w5 ⟨hh, v5, rfl, hh1, hh8, hd5, hw5⟩
      have hbox5 := HBox4.out
      have hR5 := HR4.out
      generalize w3.alloc (.cells #[.string key, .pointer none, .pointer none, .pointer none, .pointer none, .pointer none, .pointer none, .pointer none, .pointer none] 46) = w4 at *
      have hp5 := put5 (zs := zs8) H4.out HN4.out rfl hw5 (fun hm => by have := HLt.out _ hm; have := HNb.out; omega) hd5
      obtain ⟨hm5, ht5, hc5, hd5', hl5, hs5⟩ := hp5
      generalize w3.heap.size = nb at *
      have hR5 := ht5.keep HR4.out (by simp; have := HLt.out L (by simp); omega)
      have hbox5 : w5.cell? ⟨w.heap.size, 0, none⟩ = some (.string key) := (cell_same (ht5.block w.heap.size (by have := ht5.size; have := (Array.getElem?_eq_some_iff.1 HR4.out).1; omega) (by simp; have := HLt.out L (by simp); omega))).trans HBox4.out
      have HM5 := Lib.hid hm5
      have HT5 := Lib.hid ht5
      have HT5Sz := Lib.hid ht5.size
      have HC5 := Lib.hid hc5
      have HD5 := Lib.hid hd5'
      have HL5 := Lib.hid hl5
      have HS5 := Lib.hid hs5
      have HR5 := Lib.hid hR5
      have HBox5 := Lib.hid hbox5
      clear hd5 hw5 hm5 ht5 hc5 hd5' hl5 hs5 hR5 hbox5 hbox3 HHt
      go_wp2
      go_loopw [35] (fun iv wr => PutLoop w5 L nb key A (b :: t) kf ht hh iv wr) (fun iv _ => hh - (intOf iv).toNat)
      case atStart => exact ⟨0, rfl, Nat.zero_le _, HM5.out, fun _ _ => rfl, Touch.refl _ _⟩
      case round =>
        obtain ⟨k, rfl, hk, hm, hcs, htw⟩ := hrel
        have hnb := HNb.out
        have hnot : ∀ x, w.heap.size ≤ x → x ≠ nb → x ∉ L :: nb :: (A ++ (b :: t)) := fun x h1 h2 hm => by
          simp only [List.mem_cons] at hm
          rcases hm with hm | hm | hm
          · have := HLt.out L (by simp); rw [hm] at h1; omega
          · exact h2 hm
          · have := HLt.out x (List.mem_cons_of_mem _ hm); omega
        have hRr := htw.keep HR5.out (hnot _ (by omega) (by omega))
        have hbxr : wr.cell? ⟨w.heap.size, 0, none⟩ = some (.string key) := (cell_same (htw.block w.heap.size (by have := (Array.getElem?_eq_some_iff.1 HR5.out).1; omega) (hnot _ (Nat.le_refl _) (by omega)))).trans HBox5.out
        by_cases hlt : k < hh
        · have hkI : (k : Int) < hh := by omega
          have hk8 : (k : Int) < 8 := by omega
          have hpc : wr.cell? ⟨w1.heap.size, k, none⟩ = some (.pointer (some ⟨lastP L (fl A ht k), 0, none⟩)) := by
            rw [Lib.cell_of_heap hRr k]
            simpa [ptrO] using HV.out.2.2 k (Nat.zero_le _) (by omega)
          have hpm : lastP L (fl A ht k) ∈ L :: nb :: (A ++ (b :: t)) := by
            have := fl_sub (lastP_mem L (fl A ht k))
            simp only [List.mem_cons, List.mem_append] at this ⊢
            rcases this with h | h
            · exact .inl h
            · exact .inr (.inr (.inl h))
          have hpn : nb ≠ lastP L (fl A ht k) := fun e => by
            have := fl_sub (lastP_mem L (fl A ht k))
            rw [← e] at this
            have := HLt.out _ (show nb ∈ L :: (A ++ (b :: t)) by
              simp only [List.mem_cons, List.mem_append] at this ⊢
              rcases this with h | h
              · exact .inl h
              · exact .inr (.inl h))
            omega
          obtain ⟨q, hq⟩ : ∃ q, ptrO (fl ((b :: t)) ht k).head? = .pointer q := by
            cases (fl ((b :: t)) ht k).head? with
            | none => exact ⟨_, rfl⟩
            | some x => exact ⟨_, rfl⟩
          have hpv : wr.cell? ⟨lastP L (fl A ht k), 1 + k, none⟩ = some (.pointer q) := by
            have := hm.old k (Nat.le_refl _) (by omega)
            rw [fl_append] at this
            have h2 := this _ _ (lastP_at L (fl A ht k) (fl ((b :: t)) ht k))
            rw [List.getElem?_append_right (Nat.le_refl _), Nat.sub_self, ← List.head?_eq_getElem?, hq] at h2
            exact h2
          have hst := hm.step (by omega)
          rw [hq] at hst
          have hpl := hm.lt hpm
          have hnl := hm.lt (show nb ∈ L :: nb :: (A ++ (b :: t)) by simp)
          obtain ⟨v0, hv0⟩ : ∃ v0, wr.cell? ⟨nb, 1 + k, none⟩ = some v0 := by
            obtain ⟨cs, hc, hs⟩ := hm.node nb (by simp)
            exact ⟨cs[1 + k]'(by omega), by rw [Lib.cell_of_heap hc (1 + k)]; exact Array.getElem?_eq_getElem _⟩
          have ht2 : Touch w5 ((wr.setCell ⟨nb, 1 + k, none⟩ (.pointer q)).setCell ⟨lastP L (fl A ht k), 1 + k, none⟩ (.pointer (some ⟨nb, 0, none⟩))) (L :: nb :: (A ++ (b :: t))) := (htw.setCell (.inl (by simp)) _).setCell (.inl hpm) _
          have hcs2 : ∀ j, 9 ≤ j → ((wr.setCell ⟨nb, 1 + k, none⟩ (.pointer q)).setCell ⟨lastP L (fl A ht k), 1 + k, none⟩ (.pointer (some ⟨nb, 0, none⟩))).cell? ⟨L, j, none⟩ = w5.cell? ⟨L, j, none⟩ := fun j hj => by
            rw [cell_other (.inr (by omega)), cell_other (.inr (by omega))]
            exact hcs j hj
          have hf1 := hpl.2 (1 + k)
          have hf2 := hnl.2 (1 + k)
          have hl1 := hpl.1
          have hl2 := hnl.1
          have hpw : w1.heap.size ≠ nb := by omega
          have HSt := Lib.hid hst
          have HT2 := Lib.hid ht2
          have HC2 := Lib.hid hcs2
          clear hst ht2 hcs2 hpl hnl hpm hm hcs htw hRr hnot hq hnb
          generalize lastP L (fl A ht k) = p at *
          go_wp2
          go_still_tail 13, (by kernel_rfl)
          show wpList _ _ _ _ _ wr.drew
          go_wp2
          exact ⟨⟨k + 1, by go_num, by omega, HSt.out.kept (fun _ _ => rfl), HC2.out, HT2.out.drew⟩, by simp [intOf]; omega⟩
        · obtain rfl : k = hh := by omega
          have hkI : ¬ (k : Int) < k := by omega
          have c10 := (hcs 10 (by omega)).trans HL5.out
          have c11 := (hcs 11 (by omega)).trans HS5.out
          have c9 := (hcs 9 (Nat.le_refl _)).trans HC5.out
          have hdr := HD5.out.touch htw HM5.out.types
          have hfin := put_done hm hh1 H0.out.keys H0.out.up HPa.out HNe.out c9 hdr c10 c11
          have hll := hm.lt (show L ∈ L :: nb :: (A ++ (b :: t)) by simp)
          obtain ⟨w6, hw6⟩ : ∃ w6, w6 = wr.setCell ⟨L, 10, none⟩ (.int .i64 ((K.length : Int) + 1)) := ⟨_, rfl⟩
          have d11 : w6.cell? ⟨L, 11, none⟩ = some (.int .i64 (sumSz K : Int)) := by rw [hw6, cell_other (.inr (by omega))]; exact c11
          have dbx : w6.cell? ⟨w.heap.size, 0, none⟩ = some (.string key) := by rw [hw6, cell_other (.inr (by omega))]; exact hbxr
          have d0 : ∀ j, w6.frozen? ⟨L, j, none⟩ = false := fun j => by rw [hw6]; simpa using hll.2 j
          have dl : L < w6.heap.size := by rw [hw6]; simpa using hll.1
          have hf10 := hll.2 10
          have hl1 := hll.1
          have hbl1 : w.heap.size < w6.heap.size := by
            rw [hw6]
            have h1 := HB4.out.size
            have h2 := HT5Sz.out
            have h3 := htw.size
            have h4 := (Array.getElem?_eq_some_iff.1 HR5.out).1
            simp
            omega
          have hwr : IntKind.i64.wrap ((sumSz K : Int) + (key.size : Int)) = ((sumSz K + key.size : Nat) : Int) := by rw [IntKind.wrap_i64]; omega
          have htf : Touch w ((w6.setCell ⟨L, 11, none⟩ (.int .i64 ((sumSz K + key.size : Nat) : Int))).drew) (L :: (A ++ (b :: t))) := by
            have t1 := ((Touch.of_below HB4.out (L :: (A ++ (b :: t)))).same (HT5.out.mono (fun x hx => by simp at hx; subst hx; simp))).trans htw (fun _ h => h) (fun x hx => by
              simp only [List.mem_cons] at hx ⊢
              rcases hx with hx | hx | hx
              · exact .inl (.inl hx)
              · right
                have h1 := HB2.out.size
                rw [HZ2.out] at h1
                omega
              · exact .inl (.inr hx))
            rw [hw6]
            exact ((t1.setCell (.inl (by simp)) _).setCell (.inl (by simp)) _).drew
          rw [← hw6] at hfin
          have HFin := Lib.hid hfin
          have HTf := Lib.hid htf
          have HW6 := Lib.hid hw6
          have HNw := Lib.hid (show w.heap.size ≤ nb by
            have h1 := HB2.out.size
            rw [HZ2.out] at h1
            omega)
          clear hm hcs htw hRr hnot hnb hbxr c11 c9 hdr hfin htf hll hw6
          go_wp2
          rw [← HW6.out]
          go_still_tail 9, (by kernel_rfl)
          show wpList _ _ _ _ _ w6.drew
          go_wp2
          go_ret
          refine ⟨_, _, _, by rw [HIn.out]; rfl, HFin.out, HTf.out, fun x hx => ?_⟩
          simp only [List.mem_append, List.mem_cons] at hx ⊢
          rcases hx with hx | hx | hx
          · exact .inl (.inl hx)
          · right; rw [hx]; exact HNw.out
          · exact .inl (.inr hx)
end Go.Proofs.Ythficboolhellaa
