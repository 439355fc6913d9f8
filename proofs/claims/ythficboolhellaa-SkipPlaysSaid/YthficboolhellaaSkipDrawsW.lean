/- The law SkipDraws. -/
import Derived.Test.YthficboolhellaaSkipLaws
namespace Go.Proofs.Ythficboolhellaa
open Go Go.RowKit

theorem SkN.types {w : World} {L : Nat} {ns : List Nat} {key : Nat → ByteArray} {ht : Nat → Nat} (h : SkN w L ns key ht) : ∀ x ∈ L :: ns, ∃ cs t fz, (t ≠ 5 ∧ t ≠ 9) ∧ w.heap[x]? = some (Obj.cells cs t fz) := by
  intro x hx
  rcases List.mem_cons.1 hx with rfl | hx
  · obtain ⟨cs, hc, _⟩ := h.head
    exact ⟨cs, _, _, by decide, hc⟩
  · obtain ⟨cs, hc, _⟩ := h.node x hx
    exact ⟨cs, _, _, by decide, hc⟩

/-- Another list's turns leave a list. -/
theorem SkL.touch {w w' : World} {M : Nat} {ns : List Nat} {key : Nat → ByteArray} {ht : Nat → Nat} {K : List ByteArray} {l : List Nat} (h : SkL w M ns key ht K) (t : Touch w w' l) (hd : ∀ x ∈ M :: ns, x ∉ l) (hl : ∀ x ∈ l, ∃ cs t fz, t ≠ 5 ∧ w.heap[x]? = some (Obj.cells cs t fz)) : SkL w' M ns key ht K := by
  have hk : ∀ x ∈ M :: ns, w'.heap[x]? = w.heap[x]? := fun x hx => t.block x (h.nodes.lt hx) (hd x hx)
  obtain ⟨v, hv, hdr⟩ := h.draws
  have hM := hk M (by simp)
  exact ⟨h.nodes.kept hk, h.keys, h.up, ⟨v, (cell_same hM).trans hv, hdr.touch t hl⟩, (cell_same hM).trans h.len, (cell_same hM).trans h.size⟩

structure LTwo (B : Nat) (w0 : World) (L M : Nat) (K J : List ByteArray) (ns ms : List Nat) (wr : World) : Prop where
  one : ∃ kf ht, SkL wr L ns kf ht K
  two : ∃ kf ht, SkL wr M ms kf ht J
  apart : ∀ x ∈ L :: ns, x ∉ M :: ms
  ge1 : ∀ x ∈ L :: ns, B ≤ x
  ge2 : ∀ x ∈ M :: ms, B ≤ x
  below : Below B w0 wr

theorem LTwo.swap {B : Nat} {w0 wr : World} {L M : Nat} {K J : List ByteArray} {ns ms : List Nat} (h : LTwo B w0 L M K J ns ms wr) : LTwo B w0 M L J K ms ns wr :=
  ⟨h.two, h.one, fun x hx hy => h.apart x hy hx, h.ge2, h.ge1, h.below⟩

theorem LTwo.next {B : Nat} {w0 w w' : World} {L M : Nat} {K J : List ByteArray} {ns ms : List Nat} (h : LTwo B w0 L M K J ns ms w) (hb : Below w.heap.size w w') (hB : B ≤ w.heap.size) : LTwo B w0 L M K J ns ms w' := by
  obtain ⟨kf, ht, h1⟩ := h.one
  obtain ⟨kg, hg, h2⟩ := h.two
  exact ⟨⟨kf, ht, h1.below hb⟩, ⟨kg, hg, h2.below hb⟩, h.apart, h.ge1, h.ge2, h.below.trans (hb.mono hB)⟩

theorem LTwo.put {B : Nat} {w0 w w' : World} {L M : Nat} {K J : List ByteArray} {ns ms : List Nat} {key : ByteArray} {e : Ending} (h : LTwo B w0 L M K J ns ms w) (hB : B ≤ w.heap.size) (hp : PutSPost w L ns K key e w') :
    e = .returned (.bool (!isIn K key)) ∧ B ≤ w'.heap.size ∧ ∃ ns', LTwo B w0 L M (putK K key) J ns' ms w' := by
  obtain ⟨ns', kf', ht', he, hs, ht, hm⟩ := hp
  obtain ⟨kf, hf, h1⟩ := h.one
  obtain ⟨kg, hg, h2⟩ := h.two
  have hty : ∀ x ∈ L :: ns, ∃ cs t fz, t ≠ 5 ∧ w.heap[x]? = some (Obj.cells cs t fz) := fun x hx => by
    obtain ⟨cs, t, fz, hn, hc⟩ := h1.nodes.types x hx
    exact ⟨cs, t, fz, hn.1, hc⟩
  refine ⟨he, Nat.le_trans hB ht.size, ns', ⟨kf', ht', hs⟩, ⟨kg, hg, h2.touch ht (fun x hx hy => h.apart x hy hx) hty⟩, fun x hx hy => ?_, fun x hx => ?_, h.ge2, h.below.trans (ht.below hB h.ge1)⟩
  · rcases List.mem_cons.1 hx with rfl | hx
    · exact h.apart _ (by simp) hy
    · rcases hm x hx with hx | hx
      · exact h.apart x (List.mem_cons_of_mem _ hx) hy
      · have := h2.nodes.lt hy
        omega
  · rcases List.mem_cons.1 hx with rfl | hx
    · exact h.ge1 _ (by simp)
    · rcases hm x hx with hx | hx
      · exact h.ge1 x (List.mem_cons_of_mem _ hx)
      · omega

def DPutRel (w0 : World) (L M : Nat) (ks : List ByteArray) (iv : Value) (wr : World) : Prop :=
  ∃ (k : Nat) (ns ms : List Nat), iv = .int .i64 (k : Int) ∧ k ≤ ks.length ∧ LTwo w0.heap.size w0 L M (putsOf (ks.take k)) (putsOf (ks.take k)) ns ms wr

def DAskRel (w0 : World) (L M : Nat) (K : List ByteArray) (ns ms : List Nat) (n : Nat) (iv : Value) (wr : World) : Prop :=
  ∃ k : Nat, iv = .int .i64 (k : Int) ∧ k ≤ n ∧ LTwo w0.heap.size w0 L M K K ns ms wr

set_option maxRecDepth 100000 in
set_option maxHeartbeats 8000000 in
theorem skipDraws_walk (w : World) (a b c d : Option Addr) (n cap m bcap p pcap q qcap : Nat) (ds es : List UInt8) (ks js : List ByteArray) (h1 : Reads w 1 (.slice a n cap) n (bcells ds)) (h2 : Reads w 1 (.slice b m bcap) m (bcells es)) (h3 : Reads w 1 (.slice c p pcap) p (scells ks)) (h4 : Reads w 1 (.slice d q qcap) q (scells js)) :
    Calls Try.prog 4 #[.slice a n cap, .slice b m bcap, .slice c p pcap, .slice d q qcap] w (SaysTrue w) := by
  have hkl : ks.length = p := by have := h3.1; rw [scells_length] at this; omega
  have hjl : js.length = q := by have := h4.1; rw [scells_length] at this; omega
  have HD := Lib.hid h1
  have HE := Lib.hid h2
  have HK := Lib.hid h3
  have HJ := Lib.hid h4
  obtain ⟨_, _, hv, hc1, hc2⟩ := h1.le
  cases hv
  obtain ⟨_, _, hv, hd1, hd2⟩ := h2.le
  cases hv
  obtain ⟨_, _, hv, he1, he2⟩ := h3.le
  cases hv
  obtain ⟨_, _, hv, hg1, hg2⟩ := h4.le
  cases hv
  unfold maxLen at hc2 hd2 he2 hg2
  have HF := Lib.hid (fixed11_any w)
  clear h1 h2 h3 h4
  go_enter Try.func4, Try.ntmps4
  go_wp2_with (go_at_call 7; go_must (refine HF.out.mono ?_))
  rintro e w1 ⟨rfl, b1⟩
  have HB1 := Lib.hid b1
  have HK1 := Lib.hid (HK.out.below' b1)
  have HJ1 := Lib.hid (HJ.out.below' b1)
  have HD1 := Lib.hid (HD.out.below' b1)
  have HE1 := Lib.hid (HE.out.below' b1)
  clear b1 HF
  have HW := Lib.hid (few11_any w1 c p pcap ks HK1.out)
  go_wp2_with (go_at_call 8; go_must (refine HW.out.mono ?_))
  rintro e w1 ⟨rfl, rfl⟩
  cases hf : few11 ks with
  | false =>
    go_wp2
    go_ret
    exact ⟨rfl, HB1.out⟩
  | true =>
  obtain ⟨hlow, hlen⟩ := few11_low hf
  have HLow := Lib.hid hlow
  clear hf hlow HW
  have HW := Lib.hid (few11_any w1 d q qcap js HJ1.out)
  go_wp2_with (go_at_call 8; go_must (refine HW.out.mono ?_))
  rintro e w1 ⟨rfl, rfl⟩
  cases hf : few11 js with
  | false =>
    go_wp2
    go_ret
    exact ⟨rfl, HB1.out⟩
  | true =>
  obtain ⟨hlowj, hlenj⟩ := few11_low hf
  clear hf hlowj HW
  by_cases hn : n ≤ 1000
  case neg =>
    have hnI : (1000 : Int) < n := by omega
    go_wp2
    go_ret
    exact ⟨rfl, HB1.out⟩
  have hnI : ¬ (1000 : Int) < n := by omega
  by_cases hm : m ≤ 1000
  case neg =>
    have hmI : (1000 : Int) < m := by omega
    go_wp2
    go_ret
    exact ⟨rfl, HB1.out⟩
  have hmI : ¬ (1000 : Int) < m := by omega
  have HNe := Lib.hid (new_any w1 a n cap ds HD1.out hn)
  go_wp2_with (go_at_call 9; go_must (refine HNe.out.mono ?_))
  rintro e w2 ⟨L, kf, ht, rfl, hs2, b2, hL⟩
  have HNe2 := Lib.hid (new_any w2 b m bcap es (HE1.out.below' b2) hm)
  have HS2 := Lib.hid hs2
  have HB2 := Lib.hid b2
  have HL2 := Lib.hid hL
  clear hs2 b2 hL HNe
  go_wp2_with (go_at_call 9; go_must (refine HNe2.out.mono ?_))
  rintro e w3 ⟨M, kg, hg, rfl, hs3, b3, hM⟩
  have h3 := HS2.out.below b3
  have HT := Lib.hid (show LTwo w1.heap.size w1 L M [] [] [] [] w3 from ⟨⟨kf, ht, h3⟩, ⟨kg, hg, hs3⟩, fun x hx hy => by
    simp at hx hy
    subst hx
    have := HS2.out.nodes.lt (show x ∈ x :: [] by simp)
    omega, fun x hx => by simp at hx; subst hx; exact HL2.out, fun x hx => by
    simp at hx
    subst hx
    exact Nat.le_trans HB2.out.size hM, HB2.out.trans (b3.mono HB2.out.size)⟩)
  clear h3 hs3 b3 hM HNe2 HS2 HB2 HL2
  go_wp2
  go_loopw [45] (fun iv wr => DPutRel w1 L M ks iv wr) (fun iv _ => p - (intOf iv).toNat)
  case atStart => exact ⟨0, [], [], rfl, Nat.zero_le _, HT.out⟩
  case round =>
    obtain ⟨k, ns, ms, rfl, hk, hlt2⟩ := hrel
    have hsm := putsOf_small ks HLow.out k
    have hbs := hlt2.below.size
    by_cases hlt : k < p
    · have hkI : (k : Int) < p := by omega
      obtain ⟨g, off, x, rfl, hx, hbb, hcc⟩ := (HK1.out.below' hlt2.below).scell k hlt
      have hxs := HLow.out x (List.mem_of_getElem? hx)
      have HSn := Lib.hid (putsOf_snoc hx)
      obtain ⟨kf, hf, hone⟩ := hlt2.one
      have HP := Lib.hid (skput_any wr L ns kf hf _ x hone (by omega) (by omega))
      have HT2 := Lib.hid hlt2
      have hsm1 := hsm.1
      have hsm2 := hsm.2
      clear hx hone hlt2 hsm
      generalize putsOf (ks.take k) = P at *
      go_wp2_with (go_at_call 11; go_must (refine HP.out.mono ?_))
      rintro e w4 hp
      obtain ⟨rfl, hz4, ns', ht4⟩ := HT2.out.put hbs hp
      obtain ⟨kg, hg, htwo⟩ := ht4.two
      have HP2 := Lib.hid (skput_any w4 M ms kg hg _ x htwo (by omega) (by omega))
      have HT4 := Lib.hid ht4
      clear hp ht4 htwo HP
      go_wp2_with (go_at_call 11; go_must (refine HP2.out.mono ?_))
      rintro e w5 hp
      obtain ⟨rfl, hz5, ms', ht5⟩ := HT4.out.swap.put hz4 hp
      have HT5 := Lib.hid ht5.swap
      clear hp ht5 HP2
      cases isIn P x with
      | false =>
        go_wp2
        exact ⟨⟨k + 1, ns', ms', by go_num, by omega, by rw [HSn.out]; exact HT5.out⟩, by simp [intOf]; omega⟩
      | true =>
        go_wp2
        exact ⟨⟨k + 1, ns', ms', by go_num, by omega, by rw [HSn.out]; exact HT5.out⟩, by simp [intOf]; omega⟩
    · obtain rfl : k = p := by omega
      have hkI : ¬ ((k : Int) < k) := by omega
      rw [List.take_of_length_le (by omega)] at hlt2 hsm
      generalize putsOf ks = K at *
      have HT2 := Lib.hid hlt2
      clear hlt2 HT
      go_wp2
      go_loopw [59] (fun iv wr => DAskRel w1 L M K ns ms q iv wr) (fun iv _ => q - (intOf iv).toNat)
      case atStart => exact ⟨0, rfl, Nat.zero_le _, HT2.out⟩
      case round =>
        obtain ⟨j, rfl, hj, ht2⟩ := hrel
        have hbs2 := ht2.below.size
        by_cases hjl2 : j < q
        · have hjI : (j : Int) < q := by omega
          obtain ⟨g, off, x, rfl, hx, hbb, hcc⟩ := (HJ1.out.below' ht2.below).scell j hjl2
          obtain ⟨kf, hf, hone⟩ := ht2.one
          have HS := Lib.hid (seek_any wr L ns kf hf K x hone)
          have HT3 := Lib.hid ht2
          clear hx hone ht2
          go_wp2_with (go_at_call 14; go_must (refine HS.out.mono ?_))
          rintro e w4 ⟨rfl, b4⟩
          have ht4 := HT3.out.next b4 hbs2
          have hz4 := Nat.le_trans hbs2 b4.size
          obtain ⟨kg, hg, htwo⟩ := ht4.two
          have HS2 := Lib.hid (seek_any w4 M ms kg hg K x htwo)
          have HT4 := Lib.hid ht4
          clear b4 ht4 htwo HS HT3
          generalize sk11 K x false = o at *
          have hov : ∃ s bb, sk11V o = .tuple #[.string s, .bool bb] := by
            cases o with
            | none => exact ⟨_, _, rfl⟩
            | some y => exact ⟨_, _, rfl⟩
          obtain ⟨s, bb, hov⟩ := hov
          rw [hov]
          have HOv := Lib.hid hov
          clear hov
          go_wp2_with (go_at_call 14; go_must (refine HS2.out.mono ?_))
          rintro e w5 ⟨rfl, b5⟩
          rw [HOv.out]
          have HT5 := Lib.hid (HT4.out.next b5 hz4)
          clear b5 HS2 HT4
          go_wp2
          exact ⟨⟨j + 1, by go_num, by omega, HT5.out⟩, by simp [intOf]; omega⟩
        · obtain rfl : j = q := by omega
          have hjI : ¬ ((j : Int) < j) := by omega
          obtain ⟨kf, hf, hone⟩ := ht2.one
          have HA := Lib.hid (all_any wr L ns kf hf K hone (by omega))
          have HT3 := Lib.hid ht2
          clear hone ht2
          go_wp2_with (go_at_call 20; go_must (refine HA.out.mono ?_))
          rintro e w4 ⟨v4, rfl, o4, b4⟩
          have ht4 := HT3.out.next b4 hbs2
          have hz4 := Nat.le_trans hbs2 b4.size
          obtain ⟨kg, hg, htwo⟩ := ht4.two
          have HA2 := Lib.hid (all_any w4 M ms kg hg K htwo (by omega))
          have HT4 := Lib.hid ht4
          have HO4 := Lib.hid o4
          clear b4 ht4 htwo HA HT3 o4
          go_wp2_with (go_at_call 20; go_must (refine HA2.out.mono ?_))
          rintro e w5 ⟨v5, rfl, o5, b5⟩
          have ht5 := HT4.out.next b5 hz4
          have hz5 := Nat.le_trans hz4 b5.size
          have hr4 := ownsRow.reads (owns_below HO4.out b5)
          have hr5 := ownsRow.reads o5
          obtain ⟨a4, cap4, rfl, _, _⟩ := hr4.le
          obtain ⟨a5, cap5, rfl, _, _⟩ := hr5.le
          have hsm := sames_any w5 a4 a5 _ _ cap4 cap5 K K hr4 hr5
          rw [decide_eq_true (rfl : K = K)] at hsm
          have HSm := Lib.hid hsm
          have HT5 := Lib.hid ht5
          clear b5 ht5 hr4 hr5 o5 hsm HA2 HT4 HO4
          go_wp2_with (go_at_call 19; go_must (refine HSm.out.mono ?_))
          rintro e w6 ⟨rfl, b6⟩
          have ht6 := HT5.out.next b6 hz5
          obtain ⟨kf, hf, hone⟩ := ht6.one
          obtain ⟨kg, hg, htwo⟩ := ht6.two
          have HZ1 := Lib.hid (size_any w6 L _ hone.size)
          have HZ2 := Lib.hid (size_any w6 M _ htwo.size)
          have HBf := Lib.hid (HB1.out.trans (ht6.below.mono HB1.out.size))
          clear ht6 hone htwo HT5 HSm b6
          go_wp2_with (go_at_call 13; go_must (refine HZ1.out.mono ?_))
          rintro e w7 ⟨rfl, rfl⟩
          go_wp2_with (go_at_call 13; go_must (refine HZ2.out.mono ?_))
          rintro e w7 ⟨rfl, rfl⟩
          go_wp2
          go_ret
          exact ⟨rfl, HBf.out⟩
end Go.Proofs.Ythficboolhellaa
