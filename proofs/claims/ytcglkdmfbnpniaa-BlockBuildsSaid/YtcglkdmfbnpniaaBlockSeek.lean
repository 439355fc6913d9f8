/- Seek. -/
import Derived.Test.YtcglkdmfbnpniaaBlockClo
import Derived.Lib.MinMax
namespace Go.Proofs.Ytcglkdmfbnpniaa
open Go Go.RowKit

/-- What the keys behind a cursor tell: the first that isn't less. -/
def scanB (want : List UInt8) (bad : Bool) : Nat → List UInt8 → List UInt8 → List UInt8 × Bool × Nat
  | 0, _, _ => ([], false, 0)
  | n + 1, rest, key =>
    if rest = [] then ([], false, if bad then 9 else 0)
    else match stepB rest key with
      | none => ([], false, 9)
      | some (r, k, _) => if 0 ≤ Lib.compareBytes k want then (k, true, 0) else scanB want bad n r k

def tellV (r : List UInt8 × Bool × Nat) : Value := .tuple #[.string ⟨r.1.toArray⟩, .bool r.2.1, .int .i64 (r.2.2 : Int)]

theorem getText_sum (l : List UInt8) (_ : (getText l).2.2 = 0) : (getText l).1.length ≤ (getText l).2.1 := by
  unfold getText
  split
  · split
    · simp
    · simp
      omega
  · simp

theorem stepB_less {rest key r k : List UInt8} {s : Nat} (h : stepB rest key = some (r, k, s)) (h0 : rest ≠ []) : r.length < rest.length ∧ k.length + r.length ≤ key.length + rest.length := by
  unfold stepB at h
  split at h
  · rename_i hc
    obtain ⟨h1, h2, h3⟩ := hc
    have hok := getGo_ok rest 0 0 (getGo 0 0 rest).1 (getGo 0 0 rest).2.1 (by decide) (Prod.ext rfl (Prod.ext rfl h1))
    have hs := getText_small (rest.drop (getGo 0 0 rest).2.1)
    have hu := getText_used _ h3
    have ht := getText_sum _ h3
    cases h
    simp at hs hu ⊢
    have := List.length_pos_iff.2 h0
    omega
  · cases h

/-- Which place Search comes to. -/
def Found (data places want : List UInt8) (i : Nat) : Prop := i ≤ places.length / 4 ∧ (i = 0 ∨ cloB data places want (i - 1) = false) ∧ (i = places.length / 4 ∨ cloB data places want i = true)

def seekR (data places want : List UInt8) (i : Nat) : List UInt8 × Bool × Nat := scanB want (fromL data places (i - 1)).2 (data.length + 2) (fromL data places (i - 1)).1 []

def SeekPost (w : World) (l want : List UInt8) (e : Ending) (w' : World) : Prop :=
  Below w.heap.size w w' ∧ match partsL l with
    | none => e = .returned (tellV ([], false, 9))
    | some (data, places) => if places.length = 0 then e = .returned (tellV ([], false, 0)) else ∃ i, Found data places want i ∧ e = .returned (tellV (seekR data places want i))

theorem parts_length {l d p : List UInt8} (h : partsL l = some (d, p)) : d.length ≤ l.length ∧ p.length ≤ l.length ∧ p.length % 4 = 0 := by
  unfold partsL at h
  split at h
  · cases h
  · split at h
    · cases h
    · rename_i h1 h2
      cases h
      simp
      omega

def SeekScan (B : Nat) (w6 : World) (g : Nat) (want : List UInt8) (bad : Bool) (N : Nat) (R : List UInt8 × Bool × Nat) (wr : World) : Prop :=
  ∃ rest key sh F, CurAt B wr g rest key sh bad ∧ rest.length < F ∧ rest.length ≤ N ∧ key.length + rest.length ≤ N ∧ scanB want bad F rest key = R ∧ Below B w6 wr

def restAt (g : Nat) (wr : World) : Nat := match wr.cell? ⟨g, 0, none⟩ with | some (.slice _ n _) => n | _ => 0

set_option maxRecDepth 100000 in
set_option maxHeartbeats 4000000 in
theorem seek_any (w : World) (v : Value) (l : List UInt8) (key : ByteArray) (h : Sl w.heap.size w v l) (hl : l.length ≤ 50000000) (hk : key.size ≤ 50000000) :
    Calls Try.prog 15 #[v, .string key] w (SeekPost w l key.data.toList) := by
  have hmf : ∀ (fn : Fn) (first cap : Array Value) (w : World), (Instr.makeFunc fn first cap).run Try.prog w = .ok (.func fn first cap) w := fun _ _ _ _ => rfl
  have HP := Lib.hid (parts_any w.heap.size w v l h (by omega))
  have hke : key.data.toList.length = key.size := Array.length_toList
  have HKe := Lib.hid hke
  obtain ⟨va, vcap, rfl, _, _⟩ := h.reads.le
  clear h hke
  go_enter Try.func15, Try.ntmps15
  go_wp2_with (go_at_call 27; go_must (refine HP.out.mono ?_))
  rintro e w1 hp
  obtain ⟨b1, hm⟩ := hp
  have HB1 := Lib.hid b1
  have hpl := fun d p => parts_length (l := l) (d := d) (p := p)
  generalize hpr : partsL l = pr at *
  have HPr := Lib.hid hpr
  clear hpr
  cases pr with
  | none =>
    simp only at hm
    subst hm
    clear b1 hpl HP
    go_wp2
    refine bodyPost_ret (v := tellV ([], false, 9)) (by simp [results, Try.results15, go_sem, tellV]) rfl ?_
    refine ⟨(HB1.out.alloc HB1.out.size _).alloc (by simp; have := HB1.out.size; omega) _, ?_⟩
    rw [HPr.out]
  | some dp =>
    obtain ⟨data, places⟩ := dp
    simp only at hm
    obtain ⟨da, dcap, pa, pcap, rfl, sd, sp⟩ := hm
    obtain ⟨hd1, hd2, hd3⟩ := hpl data places rfl
    clear hpl HP
    have hbs := b1.size
    have hA1 := (Below.refl w1.heap.size w1).alloc (Nat.le_refl _) (.cells #[.slice da data.length dcap] 26)
    have hA2 : Below w1.heap.size w1 ((w1.alloc (.cells #[.slice da data.length dcap] 26)).alloc (.cells #[.slice pa places.length pcap] 26)) := hA1.alloc (by simp) _
    have hq1 : ((w1.alloc (.cells #[.slice da data.length dcap] 26)).alloc (.cells #[.slice pa places.length pcap] 26)).heap[w1.heap.size]? = some (.cells #[.slice da data.length dcap] 26 (0, 0)) :=
      (Below.heap_alloc _ _ _ (by simp)).trans (heap_alloc_new w1 _)
    have hq2 : ((w1.alloc (.cells #[.slice da data.length dcap] 26)).alloc (.cells #[.slice pa places.length pcap] 26)).heap[w1.heap.size + 1]? = some (.cells #[.slice pa places.length pcap] 26 (0, 0)) := by
      have := heap_alloc_new (w1.alloc (.cells #[.slice da data.length dcap] 26)) (.cells #[.slice pa places.length pcap] 26)
      simpa using this
    have HA2 := Lib.hid hA2
    have HQ1 := Lib.hid hq1
    have HQ2 := Lib.hid hq2
    have SD := Lib.hid (sd.below (hA2.mono hbs))
    have SP := Lib.hid (sp.below (hA2.mono hbs))
    clear b1 hA1 hA2 hq1 hq2 sd sp
    go_upto_region 4 with fail
    generalize (w1.alloc (.cells #[.slice da data.length dcap] 26)).alloc (.cells #[.slice pa places.length pcap] 26) = w2 at *
    have hsz2 := HA2.out.size
    generalize hd7 : w1.heap.size = d7 at *
    generalize hp8 : d7 + 1 = p8 at *
    have hpd : p8 ≠ d7 := by omega
    clear hp8
    go_wp2_with (refine wpList_bytes rfl _ 9 26 5 rfl Try.underlying9 Try.underlying26 Try.underlying5 key rfl ?_ ?_)
    · unfold maxLen; omega
    intro kcap w3 hr3 _ b3 hlt3
    have hwl : key.data.toList.length = key.size := HKe.out
    rw [← hwl] at hr3
    rw [← hwl]
    obtain ⟨want, hwant⟩ : ∃ x, x = key.data.toList := ⟨_, rfl⟩
    rw [← hwant] at hr3 ⊢
    have HWant := Lib.hid hwant
    clear hwant hwl
    have b4 := b3.alloc b3.size (.cells #[.slice (some ⟨w2.heap.size, 0, none⟩) want.length kcap] 26)
    have hq4 := heap_alloc_new w3 (.cells #[.slice (some ⟨w2.heap.size, 0, none⟩) want.length kcap] 26)
    have hd7lt : d7 < w2.heap.size := (Array.getElem?_eq_some_iff.1 HQ1.out).1
    have hp8lt : p8 < w2.heap.size := (Array.getElem?_eq_some_iff.1 HQ2.out).1
    have hw2 : w.heap.size ≤ w2.heap.size := by omega
    have hbx : Boxes (w3.alloc (.cells #[.slice (some ⟨w2.heap.size, 0, none⟩) want.length kcap] 26)) d7 p8 w3.heap.size data places want :=
      ⟨⟨da, dcap, (b4.block d7 hd7lt).trans HQ1.out, (SD.out.below (b4.mono hw2)).up (Nat.le_trans hw2 b4.size)⟩, ⟨pa, pcap, (b4.block p8 hp8lt).trans HQ2.out, (SP.out.below (b4.mono hw2)).up (Nat.le_trans hw2 b4.size)⟩, ⟨_, kcap, hq4, hr3.alloc _⟩⟩
    have HBx := Lib.hid hbx
    have HB4 := Lib.hid (HB1.out.trans ((HA2.out.mono hbs).trans (b4.mono hw2)))
    clear b3 b4 hq4 hbx hr3 HQ1 HQ2 SD SP HA2 HB1
    go_upto_region 5 with fail
    generalize w3.alloc (.cells #[.slice (some ⟨w2.heap.size, 0, none⟩) want.length kcap] 26) = w4 at *
    generalize w3.heap.size = k10 at *
    obtain ⟨⟨xa, xc, x1, x2⟩, ⟨ya, yc, y1, y2⟩, ⟨za, zc, z1, z2⟩⟩ := HBx.out
    have cx := Lib.cell_of_heap x1 0
    have cy := Lib.cell_of_heap y1 0
    simp at cx cy
    have hxlt : d7 < w4.heap.size := (Array.getElem?_eq_some_iff.1 x1).1
    have hylt : p8 < w4.heap.size := (Array.getElem?_eq_some_iff.1 y1).1
    obtain ⟨np, hnp⟩ : ∃ np, places.length = 4 * np := ⟨places.length / 4, by omega⟩
    have hdv : places.length / 4 = np := by omega
    have hdvI : (places.length : Int) / 4 = (np : Int) := by omega
    have HSe := Lib.hid (search_any w4 np (cloB data places want) #[.pointer (some ⟨d7, 0, none⟩), .pointer (some ⟨p8, 0, none⟩), .pointer (some ⟨k10, 0, none⟩)] (by omega) (fun w' i hb hi => clo_any w' d7 p8 k10 data places want i (HBx.out.below hb) (by omega) (by omega) (by omega)))
    have HNp := Lib.hid hnp
    have HDv := Lib.hid hdv
    have hnpb : np ≤ 50000000 := by omega
    clear x1 x2 y1 y2 z1 z2 hnp hdv
    go_wp2_with (go_at_call 32; go_must (refine HSe.out.mono ?_))
    rintro e w5 ⟨i, rfl, hi1, hi2, hi3, b5⟩
    have HBx5 := Lib.hid (HBx.out.below b5)
    have HB5 := Lib.hid (HB4.out.trans (b5.mono HB4.out.size))
    have hfd : Found data places want i := ⟨by rw [HDv.out]; exact hi1, hi2, by rw [HDv.out]; exact hi3⟩
    have HFd := Lib.hid hfd
    clear b5 hfd cx cy hxlt hylt HSe hi2 hi3
    obtain ⟨⟨xa, xc, x1, x2⟩, ⟨ya, yc, y1, y2⟩, ⟨za, zc, z1, z2⟩⟩ := HBx5.out
    have cx := Lib.cell_of_heap x1 0
    have cy := Lib.cell_of_heap y1 0
    simp at cx cy
    have hxlt : d7 < w5.heap.size := (Array.getElem?_eq_some_iff.1 x1).1
    have hylt : p8 < w5.heap.size := (Array.getElem?_eq_some_iff.1 y1).1
    have hklt : k10 < w5.heap.size := (Array.getElem?_eq_some_iff.1 z1).1
    by_cases hn0 : np = 0
    · have hpz : places.length = 0 := by rw [HNp.out, hn0]
      have hpzI : ((places.length : Int) == 0) = true := by simp [hpz]
      have HPz := Lib.hid hpz
      clear hpz x1 x2 y1 y2 z1 z2
      go_wp2
      refine bodyPost_ret (v := tellV ([], false, 0)) (by simp [results, Try.results15, go_sem, tellV]) rfl ?_
      refine ⟨HB5.out, ?_⟩
      rw [HPr.out]
      show if _ then _ else _
      rw [if_pos HPz.out]
    · have hpz : ¬ places.length = 0 := by rw [HNp.out]; omega
      have hpzI : ((places.length : Int) == 0) = false := by rw [beq_eq_false_iff_ne]; omega
      have HPz := Lib.hid hpz
      have hw1 : IntKind.i64.wrap ((i : Int) - 1) = (i : Int) - 1 := by rw [IntWalk.i64_in _ (by omega)]
      obtain ⟨r1, hr1⟩ : ∃ r1, i - 1 = r1 := ⟨_, rfl⟩
      have hmx : max ((i : Int) - 1) 0 = (r1 : Int) := by omega
      have HFr := Lib.hid (from_any w5 _ _ data places r1 x2 y2 (by have := HNp.out; omega) (by omega))
      have HR1 := Lib.hid hr1
      have hfl : (fromL data places r1).1.length ≤ data.length := by
        unfold fromL
        split
        · simp
        · simp
      have HSk : Hid (seekR data places want i = scanB want (fromL data places r1).2 (data.length + 2) (fromL data places r1).1 []) := Lib.hid (by unfold seekR; rw [hr1])
      generalize fromL data places r1 = FR at *
      obtain ⟨rest0, bad0⟩ := FR
      simp only at hfl HSk
      have HZ1 := Lib.hid z1
      have HZ2 := Lib.hid z2
      clear x1 x2 y1 y2 z1 z2 hr1 hpz
      go_wp2_with (go_at_call 34; go_must (refine HFr.out.mono ?_))
      rintro e w6 ⟨g, rfl, hcur, b6⟩
      have hB : w5.heap.size ≤ g := by
        obtain ⟨_, _, _, _, _, h⟩ := hcur
        exact h
      generalize hR : seekR data places want i = R at *
      have HR := Lib.hid hR
      have HC6 := Lib.hid hcur
      have HB6 := Lib.hid b6
      clear hR hcur b6 HFr cx cy hxlt hylt
      go_wp2
      go_loopw [39] (fun _ wr => SeekScan w5.heap.size w6 g want bad0 data.length R wr) (fun _ wr => restAt g wr)
      case atStart => exact ⟨rest0, [], 0, data.length + 2, HC6.out, by omega, hfl, by simpa using hfl, HSk.out.symm, Below.refl _ _⟩
      case round =>
        obtain ⟨rest, key2, sh, F, hcur, hF, hrN, hkN, hsc, hbl⟩ := hrel
        have HN := Lib.hid (next_any w5.heap.size wr g rest key2 sh bad0 hcur (by omega) (by omega))
        have hra : restAt g wr = rest.length := by
          obtain ⟨rv, kv, h1, h2, _, _⟩ := hcur
          obtain ⟨a2, c2, rfl, _, _⟩ := h2.reads.le
          unfold restAt
          rw [Lib.cell_of_heap h1 0]
          rfl
        have HRa := Lib.hid hra
        have HBl := Lib.hid hbl
        obtain ⟨F, rfl⟩ : ∃ f, F = f + 1 := ⟨F - 1, by omega⟩
        have hun : scanB want bad0 (F + 1) rest key2 = _ := rfl
        conv at hun => rhs; unfold scanB
        rw [hsc] at hun
        have HUn := Lib.hid hun
        clear hcur hra hbl hsc hun HC6
        go_wp2_with (go_at_call 28; go_must (refine HN.out.mono ?_))
        rintro e w7 hnx
        rcases hnx with ⟨h0, rfl, hc7, hb7⟩ | ⟨h0, h1, rfl, hc7, hb7⟩ | ⟨r2, k2, s2, h0, h1, rfl, hc7, hb7⟩
        · have hRv : R = ([], false, if bad0 then 9 else 0) := by rw [HUn.out, if_pos h0]
          have HRv := Lib.hid hRv
          obtain ⟨rv, kv, hc, _, _, _⟩ := hc7
          have q3 := Lib.cell_of_heap hc 3
          simp at q3
          have hglt : g < w7.heap.size := (Array.getElem?_eq_some_iff.1 hc).1
          have HBf := Lib.hid (HB5.out.trans ((HB6.out.mono HB5.out.size).trans ((HBl.out.trans hb7.low).mono HB5.out.size)))
          clear hRv hc hb7 HN HUn
          cases bad0 with
          | true =>
            go_wp2
            refine bodyPost_ret (v := tellV ([], false, 9)) (by simp [results, Try.results15, go_sem, tellV]) rfl ?_
            refine ⟨HBf.out, ?_⟩
            rw [HPr.out]
            show if _ then _ else _
            rw [if_neg HPz.out]
            exact ⟨i, by rw [HWant.out] at HFd; exact HFd.out, by rw [← HWant.out, HR.out, HRv.out]; rfl⟩
          | false =>
            go_wp2
            refine bodyPost_ret (v := tellV ([], false, 0)) (by simp [results, Try.results15, go_sem, tellV]) rfl ?_
            refine ⟨HBf.out, ?_⟩
            rw [HPr.out]
            show if _ then _ else _
            rw [if_neg HPz.out]
            exact ⟨i, by rw [HWant.out] at HFd; exact HFd.out, by rw [← HWant.out, HR.out, HRv.out]; rfl⟩
        · have hRv : R = ([], false, 9) := by rw [HUn.out, if_neg h0, h1]
          have HRv := Lib.hid hRv
          obtain ⟨_, _, _, rv, kv, hc, _, _, _⟩ := hc7
          have q3 := Lib.cell_of_heap hc 3
          simp at q3
          have hglt : g < w7.heap.size := (Array.getElem?_eq_some_iff.1 hc).1
          have HBf := Lib.hid (HB5.out.trans ((HB6.out.mono HB5.out.size).trans ((HBl.out.trans hb7.low).mono HB5.out.size)))
          clear hRv hc hb7 HN HUn h1
          go_wp2
          refine bodyPost_ret (v := tellV ([], false, 9)) (by simp [results, Try.results15, go_sem, tellV]) rfl ?_
          refine ⟨HBf.out, ?_⟩
          rw [HPr.out]
          show if _ then _ else _
          rw [if_neg HPz.out]
          exact ⟨i, by rw [HWant.out] at HFd; exact HFd.out, by rw [← HWant.out, HR.out, HRv.out]⟩
        · have hless := stepB_less h1 h0
          have hRv : R = if 0 ≤ Lib.compareBytes k2 want then (k2, true, 0) else scanB want bad0 F r2 k2 := by rw [HUn.out, if_neg h0, h1]
          have HC7 := Lib.hid hc7
          obtain ⟨rv, kv, hc, _, hkk, _⟩ := hc7
          obtain ⟨ka, kcap2, rfl, _, _⟩ := (ownsRow.reads hkk).le
          have q1 := Lib.cell_of_heap hc 1
          simp at q1
          have hglt : g < w7.heap.size := (Array.getElem?_eq_some_iff.1 hc).1
          have hb17 : Below w5.heap.size w5 w7 := HB6.out.trans (HBl.out.trans hb7.low)
          have hzz := (hb17.block k10 hklt).trans HZ1.out
          have qz := Lib.cell_of_heap hzz 0
          simp at qz
          have hzlt : k10 < w7.heap.size := (Array.getElem?_eq_some_iff.1 hzz).1
          have HKr := Lib.hid (ownsRow.reads hkk)
          have HWr := Lib.hid (HZ2.out.below' hb17)
          have HBf := Lib.hid (HB5.out.trans (hb17.mono HB5.out.size))
          have HBl7 := Lib.hid (HBl.out.trans hb7.low)
          have hcmp := fun W' (hW : W'.heap = w7.heap) => cmp_any W' (.slice ka k2.length kcap2) (.slice za want.length zc) k2 want
          obtain ⟨z, hz⟩ : ∃ z, Lib.compareBytes k2 want = z := ⟨_, rfl⟩
          have HCmp := Lib.hid (cmp_any w7.drew (.slice ka k2.length kcap2) (.slice za want.length zc) k2 want (HKr.out.below' (below_quiet (Below.refl _ w7) 1)) (HWr.out.below' (below_quiet (Below.refl _ w7) 1)))
          rw [hz] at hRv HCmp
          have HRv := Lib.hid hRv
          clear hRv hc hb7 HN HUn h1 hzz hkk hb17 hz hcmp
          go_upto_region 10 with fail
          have q1' : w7.drew.cell? ⟨g, 1, none⟩ = some (.slice ka k2.length kcap2) := q1
          have hglt' : g < w7.drew.heap.size := hglt
          by_cases hz0 : 0 ≤ z
          · have hconv := Reads.conv (P := Try.prog) (w := w7.drew) (src := 26) (e := 5) (dst := 9) Try.underlying26 Try.underlying5 Try.underlying9 (HKr.out.below' (below_quiet (Below.refl _ w7) 1))
            rw [if_pos hz0] at HRv
            go_region_law (first
              | (go_simp; go_at_call 35; refine HCmp.out.mono ?_; rintro e w8 ⟨rfl, rfl⟩))
            all_goals
              go_wp2
              refine bodyPost_ret (v := tellV (k2, true, 0)) (by simp [results, Try.results15, go_sem, tellV]) rfl ?_
              refine ⟨HBf.out.drew, ?_⟩
              rw [HPr.out]
              show if _ then _ else _
              rw [if_neg HPz.out]
              exact ⟨i, by rw [HWant.out] at HFd; exact HFd.out, by rw [← HWant.out, HR.out, HRv.out]⟩
          · rw [if_neg hz0] at HRv
            go_region_law (first
              | (go_simp; go_at_call 35; refine HCmp.out.mono ?_; rintro e w8 ⟨rfl, rfl⟩))
            all_goals
              go_wp2
              have hc8 : CurAt w5.heap.size w7.drew g r2 k2 s2 bad0 := HC7.out
              have hr8 : restAt g w7.drew = r2.length := by
                obtain ⟨rv3, kv3, h1, h2, _, _⟩ := hc8
                obtain ⟨a2, c2, rfl, _, _⟩ := h2.reads.le
                unfold restAt
                rw [Lib.cell_of_heap h1 0]
                rfl
              exact ⟨⟨r2, k2, s2, F, hc8, by omega, by omega, by omega, HRv.out.symm, HBl7.out.drew⟩, by rw [hr8, HRa.out]; exact hless.1⟩
end Go.Proofs.Ytcglkdmfbnpniaa
