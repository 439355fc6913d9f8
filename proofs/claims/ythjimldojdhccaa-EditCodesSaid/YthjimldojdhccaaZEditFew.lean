/- Few, and the same versions. -/
import Derived.Test.YthjimldojdhccaaZEditApply
namespace Go.Proofs.Ythjimldojdhccaa
open Go Go.RowKit Go.Lib

def shortT (t : Tb) : Bool := decide (t.first.size + t.last.size ≤ 300)
def fewE (e : Ed) : Bool := e.add.all shortT && (decide (e.add.length ≤ 40) && decide (e.drop.length ≤ 40))

def FewRel (w : World) (l : List Tb) (iv : Value) (wr : World) : Prop :=
  ∃ k : Nat, iv = .int .i64 (k : Int) ∧ k ≤ l.length ∧ (l.take k).all shortT = true ∧ Below w.heap.size w wr

set_option maxRecDepth 100000 in
set_option maxHeartbeats 2000000 in
theorem fewE_any (w : World) (e : Ed) (a1 a2 : Option Addr) (n1 c1 n2 c2 : Nat) (h1 : TRows w (.slice a1 n1 c1) e.add) (h2 : e.drop.length = n2) (hz : ∀ t ∈ e.add, t.first.size ≤ 140737488351232 ∧ t.last.size ≤ 140737488351232) :
    Calls Try.prog 7 #[ev e a1 a2 n1 c1 n2 c2] w (GivesBool w (fewE e)) := by
  obtain ⟨add, drop, ef, eh, el, en⟩ := e
  simp only [ev] at *
  have hfe : fewE ⟨add, drop, ef, eh, el, en⟩ = (add.all shortT && (decide (add.length ≤ 40) && decide (drop.length ≤ 40))) := rfl
  obtain ⟨la1, la2, la3⟩ := h1.len
  rw [la1, h2] at hfe
  have HA := Lib.hid h1
  have LA := Lib.hid la1
  have HZ := Lib.hid hz
  have HFe := Lib.hid hfe
  clear h1 la1 hz hfe h2
  have hx0 := heap_alloc_new w (.cells #[.slice a1 n1 c1, .slice a2 n2 c2, .int .u64 (ef : Int), .int .u64 (eh : Int), .int .i64 el, .int .i64 en] 26)
  have hb0 : Below w.heap.size w (w.alloc (.cells #[.slice a1 n1 c1, .slice a2 n2 c2, .int .u64 (ef : Int), .int .u64 (eh : Int), .int .i64 el, .int .i64 en] 26)) := (Below.refl _ w).alloc (Nat.le_refl _) _
  have hs0 : (w.alloc (.cells #[.slice a1 n1 c1, .slice a2 n2 c2, .int .u64 (ef : Int), .int .u64 (eh : Int), .int .i64 el, .int .i64 en] 26)).heap.size = w.heap.size + 1 := by simp
  have HX0 := Lib.hid hx0
  have HB0 := Lib.hid hb0
  have HS0 := Lib.hid hs0
  clear hx0 hb0 hs0
  go_enter Try.func7, Try.ntmps7
  go_wp2
  generalize w.alloc (.cells #[.slice a1 n1 c1, .slice a2 n2 c2, .int .u64 (ef : Int), .int .u64 (eh : Int), .int .i64 el, .int .i64 en] 26) = W1 at *
  go_loopw [8] (fun iv wr => FewRel W1 add iv wr) (fun iv _ => n1 - (intOf iv).toNat)
  case atStart => exact ⟨0, rfl, Nat.zero_le _, rfl, Below.refl _ _⟩
  case round =>
    obtain ⟨k, rfl, hk, hal, hb⟩ := hrel
    rw [LA.out] at hk
    have hbw := HB0.out.trans (hb.mono (by rw [HS0.out]; omega))
    have HB := Lib.hid hb
    have HBW := Lib.hid hbw
    have HAl := Lib.hid hal
    have hbs := hb.size
    rw [HS0.out] at hbs
    clear hal
    by_cases hlt : k < n1
    · have hkI : (k : Int) < n1 := by omega
      obtain ⟨x, hx⟩ : ∃ x, add[k]? = some x := ⟨add[k]'(by rw [LA.out]; exact hlt), List.getElem?_eq_getElem _⟩
      obtain ⟨g, off, rfl, hg, k0, k1, k2, k3, k4⟩ := (TRows.below HA.out hbw).row hx
      have hsz := HZ.out x (List.mem_of_getElem? hx)
      have hsn := all_snoc' (p := shortT) hx
      have hmem := List.mem_of_getElem? hx
      have hsh : shortT x = decide (x.first.size + x.last.size ≤ 300) := rfl
      have hbad : shortT x = false → fewE ⟨add, drop, ef, eh, el, en⟩ = false := fun h => by
        rw [HFe.out]
        have : add.all shortT = false := by
          rw [List.all_eq_false]
          exact ⟨x, hmem, by simp [h]⟩
        rw [this]
        rfl
      have HBad := Lib.hid hbad
      have HSn := Lib.hid hsn
      have HSh := Lib.hid hsh
      obtain ⟨xn, xl, xz, xf, xt⟩ := x
      simp only at k0 k1 k2 k3 k4 hsz
      obtain ⟨z1, z2⟩ := hsz
      clear hx hb hbw hsn hmem hbad hsh
      by_cases hgt : 300 < xf.size + xt.size
      · have hI : (300 : Int) < (xf.size : Int) + (xt.size : Int) := by omega
        have HE := Lib.hid (HBad.out (HSh.out.trans (by simp; omega)))
        clear HBad HSh
        go_wp2
        go_ret
        exact ⟨by rw [HE.out]; rfl, HBW.out.trans (((Below.refl _ wr).alloc (Nat.le_refl _) _).mono HBW.out.size)⟩
      · have hI : ¬ (300 : Int) < (xf.size : Int) + (xt.size : Int) := by omega
        have HE := Lib.hid (HSh.out.trans (by simp; omega : _ = true))
        clear HBad HSh
        go_wp2
        exact ⟨⟨k + 1, by go_num, by rw [LA.out]; omega, by rw [HSn.out, HAl.out, HE.out]; rfl, HB.out.trans (((Below.refl _ wr).alloc (Nat.le_refl _) _).mono HB.out.size)⟩, by simp [intOf]; omega⟩
    · obtain rfl : k = n1 := by omega
      rw [List.take_of_length_le (by rw [LA.out]; exact Nat.le_refl _)] at HAl
      have hx1 := (hb.block _ (by rw [HS0.out]; omega)).trans HX0.out
      have e0 := Lib.cell_of_heap hx1 0
      have e1 := Lib.cell_of_heap hx1 1
      simp at e0 e1
      have hfe : fewE ⟨add, drop, ef, eh, el, en⟩ = (decide (k ≤ 40) && decide (n2 ≤ 40)) := HFe.out.trans (by rw [HAl.out]; rfl)
      have HFe2 := Lib.hid hfe
      clear hx1 hfe hb hbw
      by_cases h40 : k ≤ 40
      · have hI : (k : Int) ≤ 40 := by omega
        by_cases h41 : n2 ≤ 40
        · have hJ : (n2 : Int) ≤ 40 := by omega
          go_wp2
          go_ret
          exact ⟨by rw [HFe2.out]; simp [h40, h41], HBW.out⟩
        · have hJ : ¬ (n2 : Int) ≤ 40 := by omega
          go_wp2
          go_ret
          exact ⟨by rw [HFe2.out]; simp [h41], HBW.out⟩
      · have hI : ¬ (k : Int) ≤ 40 := by omega
        go_wp2
        go_ret
        exact ⟨by rw [HFe2.out]; simp [h40], HBW.out⟩

def fewV (v : Ver) : Bool := fewE ⟨v.tabs, [], 0, 0, 0, 0⟩

set_option maxRecDepth 100000 in
set_option maxHeartbeats 1000000 in
theorem fewV_any (w : World) (v : Ver) (a1 : Option Addr) (n1 c1 : Nat) (h1 : TRows w (.slice a1 n1 c1) v.tabs) (hz : ∀ t ∈ v.tabs, t.first.size ≤ 140737488351232 ∧ t.last.size ≤ 140737488351232) :
    Calls Try.prog 14 #[vv v a1 n1 c1] w (GivesBool w (fewV v)) := by
  have hF := fun W (hb : Below w.heap.size w W) => fewE_any W ⟨v.tabs, [], 0, 0, 0, 0⟩ a1 none n1 c1 0 0 (h1.below hb) rfl hz
  have hd : fewV v = fewE ⟨v.tabs, [], 0, 0, 0, 0⟩ := rfl
  rw [hd]
  clear hd
  generalize fewE ⟨v.tabs, [], 0, 0, 0, 0⟩ = r at *
  obtain ⟨tabs, vf, vh, vl, vn⟩ := v
  simp only [vv, ev] at *
  have HF := Lib.hid hF
  clear hF
  go_enter Try.func14, Try.ntmps14
  go_wp2_with (go_at_call 7; go_must (refine (HF.out _ ((Below.refl _ w).alloc (Nat.le_refl _) _)).mono ?_))
  rintro e w1 ⟨rfl, b1⟩
  go_wp2
  go_ret
  exact ⟨rfl, ((Below.refl _ w).alloc (Nat.le_refl _) _).trans (b1.mono (by simp))⟩

theorem eqGT : Try.prog.eqGuardType Try.prog.depth 45 = false := by kernel_rfl

theorem neqT (w : World) (a0 a1 a2 b0 b1 b2 : Int) (a3 a4 b3 b4 : ByteArray) : (binOp .neq 45 (.agg #[.int .i64 a0, .int .i64 a1, .int .i64 a2, .string a3, .string a4]) (.agg #[.int .i64 b0, .int .i64 b1, .int .i64 b2, .string b3, .string b4])).run Try.prog w =
    .ok (.bool (!decide ((⟨a0, a1, a2, a3, a4⟩ : Tb) = ⟨b0, b1, b2, b3, b4⟩))) w := by
  have u3 : Try.prog.underlying 3 = _ := Try.underlying3
  have u9 : Try.prog.underlying 9 = _ := Try.underlying9
  have hS : Try.prog.underlying 45 = some (.struct (Try.prog.fieldsOf 45)) := by kernel_rfl
  have hp : Try.prog.stoodInHeld 45 = false := by kernel_rfl
  have hb : ∀ s t : ByteArray, s.toList = t.toList ↔ s = t := fun s t => ⟨fun h => Go.WideShapes.bytes_inj (by rw [← Go.ByteArray.toList_eq, ← Go.ByteArray.toList_eq]; exact h), fun h => by rw [h]⟩
  rw [run_neq_struct, show (10000 : Nat) = 9999 + 1 from rfl, run_equalIn_agg w 9999 45 _ _ hS hp]
  simp only [Program.fieldsOf, Try.underlying45]
  go_simp
  by_cases h0 : a0 = b0 <;> by_cases h1 : a1 = b1 <;> by_cases h2 : a2 = b2 <;> by_cases h3 : a3 = b3 <;> by_cases h4 : a4 = b4 <;> first | (simp [h0, h1, h2, h3, h4]; done) | simp [h0, h1, h2, h3, h4, hb]

def SameRel (w : World) (l m : List Tb) (iv : Value) (wr : World) : Prop :=
  ∃ k : Nat, iv = .int .i64 (k : Int) ∧ k ≤ l.length ∧ l.take k = m.take k ∧ Below w.heap.size w wr

set_option maxRecDepth 100000 in
set_option maxHeartbeats 2000000 in
theorem sameT_any (w : World) (a1 a2 : Option Addr) (n1 c1 n2 c2 : Nat) (l m : List Tb) (h1 : TRows w (.slice a1 n1 c1) l) (h2 : TRows w (.slice a2 n2 c2) m) :
    Calls Try.prog 33 #[.slice a1 n1 c1, .slice a2 n2 c2] w (GivesBool w (decide (l = m))) := by
  obtain ⟨l1, l2, l3⟩ := h1.len
  obtain ⟨m1, m2, m3⟩ := h2.len
  have H1 := Lib.hid h1
  have H2 := Lib.hid h2
  have L1 := Lib.hid l1
  have M1 := Lib.hid m1
  clear h1 h2 l1 m1
  by_cases hn : n1 = n2
  · subst hn
    go_enter Try.func33, Try.ntmps33
    go_wp2
    go_loopw [13] (fun iv wr => SameRel w l m iv wr) (fun iv _ => n1 - (intOf iv).toNat)
    case atStart => exact ⟨0, rfl, Nat.zero_le _, rfl, Below.refl _ _⟩
    case round =>
      obtain ⟨k, rfl, hk, heq, hb⟩ := hrel
      rw [L1.out] at hk
      have HE := Lib.hid heq
      have HB := Lib.hid hb
      clear heq
      by_cases hlt : k < n1
      · have hkI : (k : Int) < n1 := by omega
        obtain ⟨x, hx⟩ : ∃ x, l[k]? = some x := ⟨l[k]'(by rw [L1.out]; exact hlt), List.getElem?_eq_getElem _⟩
        obtain ⟨y, hy⟩ : ∃ y, m[k]? = some y := ⟨m[k]'(by rw [M1.out]; exact hlt), List.getElem?_eq_getElem _⟩
        obtain ⟨g, off, rfl, hg, p0, p1, p2, p3, p4⟩ := (TRows.below H1.out hb).row hx
        obtain ⟨g', off', rfl, hg', q0, q1, q2, q3, q4⟩ := (TRows.below H2.out hb).row hy
        have HX := Lib.hid hx
        have HY := Lib.hid hy
        obtain ⟨xn, xl, xz, xf, xt⟩ := x
        obtain ⟨yn, yl, yz, yf, yt⟩ := y
        simp only at p0 p1 p2 p3 p4 q0 q1 q2 q3 q4
        clear hx hy hb
        have hne := fun w => neqT w xn xl xz yn yl yz xf xt yf yt
        have hgd := eqGT
        generalize hd : decide ((⟨xn, xl, xz, xf, xt⟩ : Tb) = ⟨yn, yl, yz, yf, yt⟩) = d at *
        have HD := Lib.hid hd
        clear hd
        go_wp2
        go_quiet (fail)
        have HBq := Lib.hid (below_drewN HB.out nq)
        generalize wr.drewN nq = wq at *
        cases d with
        | true =>
          have he := of_decide_eq_true HD.out
          have hn : l.take (k + 1) = m.take (k + 1) := by rw [List.take_add_one, List.take_add_one, HX.out, HY.out, HE.out, he]
          have HN := Lib.hid hn
          clear he hn
          go_wp2
          exact ⟨⟨k + 1, by go_num, by rw [L1.out]; omega, HN.out, HBq.out⟩, by simp [intOf]; omega⟩
        | false =>
          have he := of_decide_eq_false HD.out
          have hn : l ≠ m := fun e => he (by
            have h1 := HX.out
            rw [e, HY.out] at h1
            exact (Option.some.inj h1).symm)
          have HN := Lib.hid hn
          clear he hn
          go_wp2
          go_ret
          exact ⟨by simp [HN.out], HBq.out⟩
      · obtain rfl : k = n1 := by omega
        have hkI : ¬ (k : Int) < k := by omega
        have he : l = m := by
          have := HE.out
          rw [List.take_of_length_le (by rw [L1.out]; exact Nat.le_refl _), List.take_of_length_le (by rw [M1.out]; exact Nat.le_refl _)] at this
          exact this
        have HQ := Lib.hid he
        clear he hb
        go_wp2
        go_ret
        exact ⟨by rw [HQ.out]; simp, HB.out⟩
  · have hI : ¬ (n1 : Int) = (n2 : Int) := by omega
    have hne : l ≠ m := fun e => hn (by rw [← L1.out, ← M1.out, e])
    have HQ := Lib.hid hne
    clear hne
    go_enter Try.func33, Try.ntmps33
    go_wp2
    go_ret
    exact ⟨by simp [HQ.out], Below.refl _ _⟩

def sameV (a b : Ver) : Bool := decide (a.tabs = b.tabs) && (decide (a.floor = b.floor) && (decide (a.head = b.head) && (decide (a.log = b.log) && decide (a.next = b.next))))

set_option maxRecDepth 100000 in
set_option maxHeartbeats 2000000 in
theorem sameV_any (w : World) (u v : Ver) (a1 a2 : Option Addr) (n1 c1 n2 c2 : Nat) (h1 : TRows w (.slice a1 n1 c1) u.tabs) (h2 : TRows w (.slice a2 n2 c2) v.tabs) :
    Calls Try.prog 17 #[vv u a1 n1 c1, vv v a2 n2 c2] w (GivesBool w (sameV u v)) := by
  have hS := fun W (hb : Below w.heap.size w W) => sameT_any W a1 a2 n1 c1 n2 c2 u.tabs v.tabs (h1.below hb) (h2.below hb)
  have hd : sameV u v = (decide (u.tabs = v.tabs) && (decide (u.floor = v.floor) && (decide (u.head = v.head) && (decide (u.log = v.log) && decide (u.next = v.next))))) := rfl
  obtain ⟨ut, uf, uh, ul, un⟩ := u
  obtain ⟨vt, vf, vh, vl, vn⟩ := v
  simp only [vv] at *
  generalize decide (ut = vt) = d at *
  have HS := Lib.hid hS
  have HD := Lib.hid hd
  clear hS hd
  obtain ⟨x1, x2, x3, x4⟩ := two_boxes w #[.slice a1 n1 c1, .int .u64 (uf : Int), .int .u64 (uh : Int), .int .i64 ul, .int .i64 un] #[.slice a2 n2 c2, .int .u64 (vf : Int), .int .u64 (vh : Int), .int .i64 vl, .int .i64 vn] 38 38
  have X1 := Lib.hid x1
  have X2 := Lib.hid x2
  have X3 := Lib.hid x3
  have X4 := Lib.hid x4
  clear x1 x2 x3 x4
  go_enter Try.func17, Try.ntmps17
  go_wp2_with (go_at_call 33; go_must (refine (HS.out _ X3.out).mono ?_))
  rintro e w1 ⟨rfl, b1⟩
  generalize (w.alloc (.cells #[.slice a1 n1 c1, .int .u64 (uf : Int), .int .u64 (uh : Int), .int .i64 ul, .int .i64 un] 38)).alloc (.cells #[.slice a2 n2 c2, .int .u64 (vf : Int), .int .u64 (vh : Int), .int .i64 vl, .int .i64 vn] 38) = W2 at *
  have hx1 := (b1.block _ (by rw [X4.out]; omega)).trans X1.out
  have hx2 := (b1.block _ (by rw [X4.out]; omega)).trans X2.out
  have HB := Lib.hid (X3.out.trans (b1.mono (by rw [X4.out]; omega)))
  have p1 := Lib.cell_of_heap hx1 1
  have p2 := Lib.cell_of_heap hx1 2
  have p3 := Lib.cell_of_heap hx1 3
  have p4 := Lib.cell_of_heap hx1 4
  have q1 := Lib.cell_of_heap hx2 1
  have q2 := Lib.cell_of_heap hx2 2
  have q3 := Lib.cell_of_heap hx2 3
  have q4 := Lib.cell_of_heap hx2 4
  simp at p1 p2 p3 p4 q1 q2 q3 q4
  clear hx1 hx2 b1
  cases d with
  | false =>
    go_wp2
    go_ret
    exact ⟨by rw [HD.out]; rfl, HB.out⟩
  | true =>
    by_cases e1 : uf = vf
    · have i1 : ((uf : Int) == (vf : Int)) = true := by simp [e1]
      by_cases e2 : uh = vh
      · have i2 : ((uh : Int) == (vh : Int)) = true := by simp [e2]
        by_cases e3 : ul = vl
        · have i3 : (ul == vl) = true := by simp [e3]
          by_cases e4 : un = vn
          · have i4 : (un == vn) = true := by simp [e4]
            have HE := Lib.hid (HD.out.trans (by simp [e1, e2, e3, e4] : _ = true))
            clear e1 e2 e3 e4
            go_wp2
            go_ret
            exact ⟨by rw [HE.out]; rfl, HB.out⟩
          · have i4 : (un == vn) = false := by simp [e4]
            have HE := Lib.hid (HD.out.trans (by simp [e4] : _ = false))
            clear e1 e2 e3 e4
            go_wp2
            go_ret
            exact ⟨by rw [HE.out]; rfl, HB.out⟩
        · have i3 : (ul == vl) = false := by simp [e3]
          have HE := Lib.hid (HD.out.trans (by simp [e3] : _ = false))
          clear e1 e2 e3
          go_wp2
          go_ret
          exact ⟨by rw [HE.out]; rfl, HB.out⟩
      · have i2 : ((uh : Int) == (vh : Int)) = false := by simp; omega
        have HE := Lib.hid (HD.out.trans (by simp [e2] : _ = false))
        clear e1 e2
        go_wp2
        go_ret
        exact ⟨by rw [HE.out]; rfl, HB.out⟩
    · have i1 : ((uf : Int) == (vf : Int)) = false := by simp; omega
      have HE := Lib.hid (HD.out.trans (by simp [e1] : _ = false))
      clear e1
      go_wp2
      go_ret
      exact ⟨by rw [HE.out]; rfl, HB.out⟩
end Go.Proofs.Ythjimldojdhccaa
