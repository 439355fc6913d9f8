/- sentryref16.Encode of an edit whose numbers may be (written by gen_editrefenc.py). -/
import Derived.Test.YthjimldojdhccaaZEditEnc
import Derived.Test.YthjimldojdhccaaZRefPutO
import Derived.Test.YthjimldojdhccaaMga
namespace Go.Proofs.Ythjimldojdhccaa
open Go Go.RowKit Go.Lib

def ReRel {α : Type} (f : α → List UInt8) (B : Nat) (wA : World) (p : List UInt8) (xs : List α) (bv iv : Value) (wr : World) : Prop :=
  ∃ i : Nat, iv = .int .i64 (i : Int) ∧ i ≤ xs.length ∧ wr.ownsRow B 5 1 bv (p ++ (xs.take i).flatMap f).length (bcells (p ++ (xs.take i).flatMap f)) ∧ Below wA.heap.size wA wr
theorem rflat_take {α : Type} (f : α → List UInt8) (xs : List α) (i : Nat) : ((xs.take i).flatMap f).length ≤ (xs.flatMap f).length := by
  have e : xs.flatMap f = (xs.take i).flatMap f ++ (xs.drop i).flatMap f := by
    rw [← List.flatMap_append, List.take_append_drop]
  rw [e, List.length_append]
  omega
theorem rflat_next {α : Type} (f : α → List UInt8) {xs : List α} {i : Nat} {x : α} (h : xs[i]? = some x) : (xs.take (i + 1)).flatMap f = (xs.take i).flatMap f ++ f x := by
  rw [List.take_add_one, h]
  simp
def dropB (n : Int) : List UInt8 := enc n.toNat
theorem encB_eq (e : Ed) : encB e = enc e.add.length ++ e.add.flatMap tabB ++ enc e.drop.length ++ e.drop.flatMap dropB ++ enc e.floor ++ enc e.head ++ enc e.log.toNat ++ enc e.next.toNat := by
  have h : nums (e.drop.map Int.toNat) = e.drop.flatMap dropB := by
    unfold nums
    rw [List.flatMap_map]
    rfl
  unfold encB
  rw [h]
  simp [nums]
theorem dflat_len (l : List Int) (h : ∀ x ∈ l, inB x = true) : (l.flatMap dropB).length ≤ 10 * l.length := by
  induction l with
  | nil => simp
  | cons a r ih =>
    have h1 := ih fun x hx => h x (List.mem_cons_of_mem _ hx)
    obtain ⟨n, rfl, hn⟩ := inB_nat (h a List.mem_cons_self)
    have h2 := enc_len n (by omega)
    have h3 : dropB (n : Int) = enc n := by simp [dropB]
    rw [List.flatMap_cons, List.length_append, List.length_cons, h3]
    omega

set_option maxRecDepth 100000 in
set_option maxHeartbeats 4000000 in
theorem refencode_any (w : World) (e : Ed) (a1 a2 : Option Addr) (n1 c1 n2 c2 : Nat) (h1 : TRows w (.slice a1 n1 c1) e.add) (h2 : Reads w 1 (.slice a2 n2 c2) n2 (ncells e.drop)) (hf : EdFit e) (hri : right e = true) :
    Calls Try.prog 10 #[ev e a1 a2 n1 c1 n2 c2] w (GivesOwn w (encB e)) := by
  have heq := encB_eq e
  rw [heq]
  clear heq
  have hri2 : ((inB e.log && inB e.next && e.drop.all inB) && e.add.all inT) = true := hri
  obtain ⟨add, drop, ef, eh, el, en⟩ := e
  simp only [ev] at *
  obtain ⟨la1, la2, la3⟩ := TRows.len' h1
  obtain ⟨ld1, ld2, ld3⟩ := num_len' h2
  have hla := hf.add
  have hld := hf.drop
  have hef := hf.fl
  have heh := hf.hd
  have htx := hf.txt
  simp only at hla hld hef heh htx
  rw [Bool.and_eq_true, Bool.and_eq_true, Bool.and_eq_true] at hri2
  obtain ⟨⟨⟨hlog, hnext⟩, hdrop⟩, hadd⟩ := hri2
  obtain ⟨lg, rfl, hlg⟩ := inB_nat hlog
  obtain ⟨nx, rfl, hnx⟩ := inB_nat hnext
  simp only [Int.toNat_natCast]
  have hdin := List.all_eq_true.1 hdrop
  have hain := List.all_eq_true.1 hadd
  have z1 : (add.flatMap tabB).length ≤ 2100 * add.length := flat_len _ (fun t ht => by
    have := htx t ht
    exact tabB_len this.1 this.2 (hain t ht))
  have z2 : (drop.flatMap dropB).length ≤ 10 * drop.length := dflat_len _ hdin
  have z0 := enc_len add.length (by omega)
  have z3 := enc_len drop.length (by omega)
  have z4 := enc_len ef hef
  have z5 := enc_len eh heh
  have z6 := enc_len lg (by omega)
  have z7 := enc_len nx (by omega)
  have w1 : IntKind.u64.wrap (n1 : Int) = (n1 : Int) := by rw [IntKind.wrap_u64]; omega
  have w2 : IntKind.u64.wrap (n2 : Int) = (n2 : Int) := by rw [IntKind.wrap_u64]; omega
  have w3 : IntKind.u64.wrap (lg : Int) = (lg : Int) := by rw [IntKind.wrap_u64]; omega
  have w4 : IntKind.u64.wrap (nx : Int) = (nx : Int) := by rw [IntKind.wrap_u64]; omega
  rw [la1, ld1]
  rw [la1] at z0 z1
  rw [ld1] at z2 z3
  rw [la1] at hla
  rw [ld1] at hld
  obtain ⟨p0, hp0⟩ : ∃ p, enc n1 = p := ⟨_, rfl⟩
  obtain ⟨p1, hp1⟩ : ∃ p, p0 ++ add.flatMap tabB = p := ⟨_, rfl⟩
  obtain ⟨p2, hp2⟩ : ∃ p, p1 ++ enc n2 = p := ⟨_, rfl⟩
  obtain ⟨p3, hp3⟩ : ∃ p, p2 ++ drop.flatMap dropB = p := ⟨_, rfl⟩
  obtain ⟨p4, hp4⟩ : ∃ p, p3 ++ enc ef = p := ⟨_, rfl⟩
  obtain ⟨p5, hp5⟩ : ∃ p, p4 ++ enc eh = p := ⟨_, rfl⟩
  obtain ⟨p6, hp6⟩ : ∃ p, p5 ++ enc lg = p := ⟨_, rfl⟩
  obtain ⟨p7, hp7⟩ : ∃ p, p6 ++ enc nx = p := ⟨_, rfl⟩
  rw [hp0, hp1, hp2, hp3, hp4, hp5, hp6, hp7]
  rw [hp0] at z0
  have y1 : p1.length ≤ 2100010 := by rw [← hp1, List.length_append]; omega
  have y2 : p2.length ≤ 2100020 := by rw [← hp2, List.length_append]; omega
  have y3 : p3.length ≤ 2110020 := by rw [← hp3, List.length_append]; omega
  have y4 : p4.length ≤ 2110030 := by rw [← hp4, List.length_append]; omega
  have y5 : p5.length ≤ 2110040 := by rw [← hp5, List.length_append]; omega
  have y6 : p6.length ≤ 2110050 := by rw [← hp6, List.length_append]; omega
  have Hp0 := Lib.hid hp0
  have Hy0 := Lib.hid z0
  have Hp1 := Lib.hid hp1
  have Hy1 := Lib.hid y1
  have Hp2 := Lib.hid hp2
  have Hy2 := Lib.hid y2
  have Hp3 := Lib.hid hp3
  have Hy3 := Lib.hid y3
  have Hp4 := Lib.hid hp4
  have Hy4 := Lib.hid y4
  have Hp5 := Lib.hid hp5
  have Hy5 := Lib.hid y5
  have Hp6 := Lib.hid hp6
  have Hy6 := Lib.hid y6
  have Hp7 := Lib.hid hp7
  have HA := Lib.hid h1
  have HD := Lib.hid h2
  have LA := Lib.hid la1
  have LD := Lib.hid ld1
  have Hdin := Lib.hid hdin
  have Hain := Lib.hid hain
  have Htx := Lib.hid htx
  have Hz1 := Lib.hid z1
  have Hz2 := Lib.hid z2
  clear h1 h2 la1 ld1 hf hri hlog hnext hdrop hadd hdin hain htx z0 z1 z2 z3 z4 z5 z6 z7 y1 y2 y3 y4 y5 y6 hp0 hp1 hp2 hp3 hp4 hp5 hp6 hp7
  obtain ⟨W0, hW0⟩ : ∃ W, W = w.alloc (.cells #[.slice a1 n1 c1, .slice a2 n2 c2, .int .u64 (ef : Int), .int .u64 (eh : Int), .int .i64 (lg : Int), .int .i64 (nx : Int)] 26) := ⟨_, rfl⟩
  have hs0 : W0.heap.size = w.heap.size + 1 := by rw [hW0]; simp
  have hb0 : Below w.heap.size w W0 := by rw [hW0]; exact (Below.refl _ _).alloc (Nat.le_refl _) _
  have hx0 : W0.heap[w.heap.size]? = some (.cells #[.slice a1 n1 c1, .slice a2 n2 c2, .int .u64 (ef : Int), .int .u64 (eh : Int), .int .i64 (lg : Int), .int .i64 (nx : Int)] 26 (0, 0)) := by rw [hW0]; exact heap_alloc_new w _
  have HX := Lib.hid hx0
  have HX0 := Lib.hid hx0
  have HB := Lib.hid hb0
  clear hx0 hb0
  go_enter Try.func10, Try.ntmps10
  go_upto_region 1 with fail
  rw [← hW0]
  clear hW0
  obtain ⟨N, hN⟩ : ∃ N, w.heap.size = N := ⟨_, rfl⟩
  have HNe := Lib.hid hN
  rw [hN] at HX HX0 hs0
  rw [hN]
  clear hN
  have x0 := Lib.cell_of_heap HX.out 0
  have x1 := Lib.cell_of_heap HX.out 1
  have x2 := Lib.cell_of_heap HX.out 2
  have x3 := Lib.cell_of_heap HX.out 3
  have x4 := Lib.cell_of_heap HX.out 4
  have x5 := Lib.cell_of_heap HX.out 5
  simp at x0 x1 x2 x3 x4 x5
  have hN0 : N < W0.heap.size := by omega
  have hC := refputo_any W0 (.slice none 0 0) [] n1 ⟨rfl, none, 0, rfl, Nat.le_refl _, by decide, fun j u hj => by simp [bcells] at hj⟩ (by simp) (by omega)
  rw [List.nil_append, Hp0.out] at hC
  have HC := Lib.hid hC
  clear hC
  go_wp2_with (go_at_call 23; go_must (refine HC.out.mono ?_))
  rintro e u1 ⟨v1, rfl, o1, b1⟩
  have HO := Lib.hid o1
  have hb1 := b1.size
  have HX := Lib.hid ((b1.block N hN0).trans HX.out)
  have HBw := Lib.hid b1
  clear HC o1 b1 x0 x1 x2 x3 x4 x5
  have x0 := Lib.cell_of_heap HX.out 0
  have x1 := Lib.cell_of_heap HX.out 1
  have x2 := Lib.cell_of_heap HX.out 2
  have x3 := Lib.cell_of_heap HX.out 3
  have x4 := Lib.cell_of_heap HX.out 4
  have x5 := Lib.cell_of_heap HX.out 5
  simp at x0 x1 x2 x3 x4 x5
  have hNu : N < u1.heap.size := by omega
  go_wp2
  clear x0 x1 x2 x3 x4 x5
  go_loopw [3, 18] (fun bv iv wr => ReRel tabB W0.heap.size W0 p0 add bv iv wr) (fun _ iv _ => n1 - (intOf iv).toNat)
  case atStart => exact ⟨0, rfl, Nat.zero_le _, by simpa using HO.out, HBw.out⟩
  case round =>
    obtain ⟨i, rfl, hin, ho, hb⟩ := hrel
    rw [LA.out] at hin
    have hbs := hb.size
    clear HO HX HBw
    by_cases hlt : i < n1
    · have hltI : (i : Int) < n1 := by omega
      obtain ⟨x, hx⟩ : ∃ x, add[i]? = some x := ⟨add[i]'(by rw [LA.out]; exact hlt), List.getElem?_eq_getElem _⟩
      have hmem := List.mem_of_getElem? hx
      have hin1 := Hain.out x hmem
      have htx := Htx.out x hmem
      have hfn := rflat_next tabB hx
      have hft := rflat_take tabB add (i + 1)
      obtain ⟨g, off, rfl, hg, k0, k1, k2, k3, k4⟩ := (TRows.below HA.out (HB.out.trans (hb.mono (by have := HNe.out; omega)))).row hx
      obtain ⟨xn, xl, xz, xf, xt⟩ := x
      simp only at k0 k1 k2 k3 k4 htx
      unfold inT at hin1
      simp only [Bool.and_eq_true] at hin1
      obtain ⟨⟨hq1, hq2⟩, hq3⟩ := hin1
      obtain ⟨an, rfl, han⟩ := inB_nat hq1
      obtain ⟨al, rfl, hal⟩ := inB_nat hq2
      obtain ⟨az, rfl, haz⟩ := inB_nat hq3
      obtain ⟨q, hq⟩ : ∃ q, p0 ++ (add.take i).flatMap tabB = q := ⟨_, rfl⟩
      obtain ⟨q1, hq1⟩ : ∃ z, q ++ ([an, al, az] : List Nat).flatMap enc = z := ⟨_, rfl⟩
      obtain ⟨q2, hq2⟩ : ∃ z, q1 ++ enc xf.size ++ xf.data.toList = z := ⟨_, rfl⟩
      obtain ⟨q3, hq3⟩ : ∃ z, q2 ++ enc xt.size ++ xt.data.toList = z := ⟨_, rfl⟩
      have hfin : p0 ++ (add.take (i + 1)).flatMap tabB = q3 := by
        rw [hfn, ← List.append_assoc, hq, ← hq3, ← hq2, ← hq1]
        simp [tabB, nums, txts, txt]
      have hl3 : q3.length ≤ 2100010 := by
        rw [← hfin, List.length_append]
        have j1 := Hy0.out
        have j2 := Hz1.out
        exact Nat.le_trans (Nat.add_le_add j1 (Nat.le_trans hft j2)) (by omega)
      have hl2 : q2.length ≤ 2100010 := by rw [← hq3] at hl3; simp only [List.length_append] at hl3; omega
      have hl1 : q1.length ≤ 2100010 := by rw [← hq2] at hl2; simp only [List.length_append] at hl2; omega
      have hl0 : q.length ≤ 2100010 := by rw [← hq1] at hl1; simp only [List.length_append] at hl1; omega
      rw [hq] at ho
      obtain ⟨Wa, hWa⟩ : ∃ W, W = wr.alloc (.cells #[.int .i64 (an : Int), .int .i64 (al : Int), .int .i64 (az : Int), .string xf, .string xt] 45) := ⟨_, rfl⟩
      obtain ⟨Wb, hWb⟩ : ∃ W, W = Wa.alloc (.cells #[.int .i64 (an : Int), .int .i64 (al : Int), .int .i64 (az : Int)] 3) := ⟨_, rfl⟩
      obtain ⟨tb, htb⟩ : ∃ t, wr.heap.size = t := ⟨_, rfl⟩
      have sa : Wa.heap.size = tb + 1 := by rw [hWa, ← htb]; simp
      have sb : Wb.heap.size = tb + 2 := by rw [hWb]; simp [sa]
      have bA : Below wr.heap.size wr Wa := by rw [hWa]; exact (Below.refl _ _).alloc (Nat.le_refl _) _
      have bB : Below Wa.heap.size Wa Wb := by rw [hWb]; exact (Below.refl _ _).alloc (Nat.le_refl _) _
      have bAB := bA.trans (bB.mono (by omega))
      have hxa : Wa.heap[tb]? = some (.cells #[.int .i64 (an : Int), .int .i64 (al : Int), .int .i64 (az : Int), .string xf, .string xt] 45 (0, 0)) := by rw [hWa, ← htb]; exact heap_alloc_new wr _
      have hxb : Wb.heap[tb + 1]? = some (.cells #[.int .i64 (an : Int), .int .i64 (al : Int), .int .i64 (az : Int)] 3 (0, 0)) := by rw [hWb, ← sa]; exact heap_alloc_new Wa _
      have hxt := (bB.block tb (by omega)).trans hxa
      have HXt := Lib.hid hxt
      have HXl := Lib.hid hxb
      have HO := Lib.hid (owns_below ho bAB)
      have HBb := Lib.hid (hb.trans (bAB.mono (by omega)))
      have Hfin := Lib.hid hfin
      have Hq1 := Lib.hid hq1
      have Hq2 := Lib.hid hq2
      have Hq3 := Lib.hid hq3
      have tb0 := Lib.cell_of_heap hxa 0
      have tb1 := Lib.cell_of_heap hxa 1
      have tb2 := Lib.cell_of_heap hxa 2
      simp at tb0 tb1 tb2
      clear hfin hq hq1 hq2 hq3 hxt hxb hxa ho hb bA bB bAB hfn hft hmem
      have HWb := Lib.hid hWb
      have HWa := Lib.hid hWa
      clear hWa hWb
      go_upto_region 5 with fail
      rw [← HWa.out]
      have hta : tb < Wa.heap.size := by omega
      go_wp2_with fail
      rw [← HWb.out]
      clear HWa HWb tb0 tb1 tb2 k0 k1 k2 k3 k4
      go_loopw [3, 30] (fun bv iv wr2 => ReRel enc W0.heap.size Wb q [an, al, az] bv iv wr2) (fun _ iv _ => 3 - (intOf iv).toNat)
      case atStart => exact ⟨0, rfl, Nat.zero_le _, by simpa using HO.out, Below.refl _ _⟩
      case round =>
        rename World => wr2
        obtain ⟨j, rfl, hj, ho, hb⟩ := hrel
        have hj : j ≤ 3 := hj
        have hbs2 := hb.size
        clear HO
        by_cases hj3 : j < 3
        · have hjI : (j : Int) < 3 := by omega
          obtain ⟨y, hy⟩ : ∃ y, ([an, al, az] : List Nat)[j]? = some y := ⟨([an, al, az] : List Nat)[j]'hj3, List.getElem?_eq_getElem _⟩
          have hyb : y < 4611686018427387904 := by
            have hm := List.mem_of_getElem? hy
            simp at hm
            rcases hm with rfl | rfl | rfl <;> assumption
          have kc : wr2.cell? ⟨tb + 1, j, none⟩ = some (.int .i64 (y : Int)) := by
            rw [Lib.cell_of_heap ((hb.block _ (by omega)).trans HXl.out) j, show (#[.int .i64 (an : Int), .int .i64 (al : Int), .int .i64 (az : Int)] : Array Value) = (([an, al, az] : List Nat).map (fun n : Nat => Value.int .i64 (n : Int))).toArray from rfl]
            simp only [List.getElem?_toArray, List.getElem?_map, hy]
            rfl
          have hyw : IntKind.u64.wrap (y : Int) = (y : Int) := by rw [IntKind.wrap_u64]; omega
          have hne := rflat_next enc hy
          have hlt2 := rflat_take enc ([an, al, az] : List Nat) j
          have hlz : q.length + (([an, al, az] : List Nat).flatMap enc).length ≤ 2100010 := by
            have := hl1
            rw [← Hq1.out, List.length_append] at this
            exact this
          obtain ⟨cc, hcc⟩ : ∃ c, q ++ (([an, al, az] : List Nat).take j).flatMap enc = c := ⟨_, rfl⟩
          have hcl : cc.length ≤ 2100010 := by rw [← hcc, List.length_append]; omega
          rw [hcc] at ho
          have hC := refputo_any wr2 u3 cc y (ownsRow.reads ho) (by omega) (by omega)
          rw [show cc ++ enc y = q ++ (([an, al, az] : List Nat).take (j + 1)).flatMap enc by rw [hne, ← hcc, List.append_assoc]] at hC
          have HC := Lib.hid hC
          have HB2 := Lib.hid hb
          have ltl : tb + 1 < wr2.heap.size := by omega
          clear hC ho hb hne hlt2 hlz hcc hy
          go_wp2_with (go_at_call 23; go_must (refine HC.out.mono ?_))
          rintro e w6 ⟨v7, rfl, f7, b7⟩
          have HOz := Lib.hid (owns_less f7 (by omega : W0.heap.size ≤ wr2.heap.size))
          have HBz := Lib.hid (HB2.out.trans (b7.mono hbs2))
          clear f7 b7 HC HB2
          go_wp2
          exact ⟨⟨j + 1, by go_num, (by omega : j + 1 ≤ 3), HOz.out, HBz.out⟩, by simp [intOf]; omega⟩
        · obtain rfl : j = 3 := by omega
          rw [show ([an, al, az] : List Nat).take 3 = [an, al, az] from rfl, Hq1.out] at ho
          have HO := Lib.hid ho
          have hxt2 := (hb.block tb (by omega)).trans HXt.out
          have t3 := Lib.cell_of_heap hxt2 3
          have t4 := Lib.cell_of_heap hxt2 4
          simp at t3 t4
          have htl : tb < wr2.heap.size := by omega
          have HB2 := Lib.hid (HBb.out.trans (hb.mono (by omega)))
          clear ho hb hxt2
          have hbs3 : W0.heap.size ≤ wr2.heap.size := by omega
          go_upto_region 10 with fail
          refine wp_region_last (l := [_, _, _, _, _, _, _]) (by kernel_rfl) [eqF (u3), eqF (.pointer (some ⟨tb, 3, none⟩)), eqF (.string xf), ownsF W0.heap.size 5 1 q2.length (bcells q2), eqF (.pointer (some ⟨tb, 4, none⟩)), eqF (.string xt), ownsF W0.heap.size 5 1 q3.length (bcells q3)] (by kernel_rfl) (by kernel_rfl) (by kernel_rfl) ⟨?_, ?_, ?_, ?_, ?_, ?_, ?_, trivial⟩ ?_
          · intro ρ wx hρ hbx hl
            have e3 : ρ (.tmp 3) = u3 := hρ.tmp 3 (by decide +kernel)
            refine y_val (v := u3) ?_ rfl
            simp [execOp, go_sem, e3]
          · intro ρ wx hρ hbx hl
            have e5 : ρ (.tmp 5) = .pointer (some ⟨tb, 0, none⟩) := hρ.tmp 5 (by decide +kernel)
            refine y_val (v := .pointer (some ⟨tb, 3, none⟩)) ?_ rfl
            simp [execOp, go_sem, e5]
          · intro ρ wx hρ hbx hl
            have e40 : ρ (.tmp 40) = .pointer (some ⟨tb, 3, none⟩) := hl 1 (by decide +kernel) 40 rfl
            have kk := (hbx.cell (htl)).trans t3
            refine y_val (v := .string xf) ?_ rfl
            simp [execOp, go_sem, e40, kk]
          · intro ρ wx hρ hbx hl
            have e39 : ρ (.tmp 39) = u3 := hl 0 (by decide +kernel) 39 rfl
            have e41 : ρ (.tmp 41) = .string xf := hl 2 (by decide +kernel) 41 rfl
            refine y_call (f := 24) (args := #[u3, .string xf]) (by simp [execOp, resolve, invoke, hρ.func, go_sem, e39, e41]) ?_
            refine (refputtexto_any wx u3 q1 xf ((ownsRow.reads HO.out).below' hbx) (by omega) (by omega)).mono ?_
            rintro e w6 ⟨v7, rfl, f7, b7⟩
            rw [Hq2.out] at f7
            exact ⟨v7, rfl, owns_less f7 (Nat.le_trans hbs3 hbx.size), b7⟩
          · intro ρ wx hρ hbx hl
            have e5 : ρ (.tmp 5) = .pointer (some ⟨tb, 0, none⟩) := hρ.tmp 5 (by decide +kernel)
            refine y_val (v := .pointer (some ⟨tb, 4, none⟩)) ?_ rfl
            simp [execOp, go_sem, e5]
          · intro ρ wx hρ hbx hl
            have e43 : ρ (.tmp 43) = .pointer (some ⟨tb, 4, none⟩) := hl 4 (by decide +kernel) 43 rfl
            have kk := (hbx.cell (htl)).trans t4
            refine y_val (v := .string xt) ?_ rfl
            simp [execOp, go_sem, e43, kk]
          · intro ρ wx hρ hbx hl
            have e42 := hl 3 (by decide +kernel) 42 rfl
            have e44 : ρ (.tmp 44) = .string xt := hl 5 (by decide +kernel) 44 rfl
            refine y_call (f := 24) (args := #[ρ (.tmp 42), .string xt]) (by simp [execOp, resolve, invoke, hρ.func, go_sem, e44]) ?_
            refine (refputtexto_any wx _ q2 xt (ownsRow.reads e42) (by omega) (by omega)).mono ?_
            rintro e w6 ⟨v7, rfl, f7, b7⟩
            rw [Hq3.out] at f7
            exact ⟨v7, rfl, owns_less f7 (Nat.le_trans hbs3 hbx.size), b7⟩
          intro aa w7 hdef hsz hlk hbz hf
          have ha := act_of_like hdef hsz hlk [39, 40, 41, 42, 43, 44, 45] 81 rfl (by decide +kernel)
          have e39 : aa.tmps.getD 39 undef = u3 := hf 0 _ 39 rfl rfl
          have e40 : aa.tmps.getD 40 undef = .pointer (some ⟨tb, 3, none⟩) := hf 1 _ 40 rfl rfl
          have e41 : aa.tmps.getD 41 undef = .string xf := hf 2 _ 41 rfl rfl
          have e43 : aa.tmps.getD 43 undef = .pointer (some ⟨tb, 4, none⟩) := hf 4 _ 43 rfl rfl
          have e44 : aa.tmps.getD 44 undef = .string xt := hf 5 _ 44 rfl rfl
          have e45 : (ownsF W0.heap.size 5 1 q3.length (bcells q3)).1 (aa.tmps.getD 45 undef) w7 := hf 6 _ 45 rfl rfl
          generalize hv45 : aa.tmps.getD 45 undef = v45 at e45
          simp only [putAll, List.foldl_cons, List.foldl_nil, e39, e40, e41, e43, e44, hv45] at ha
          generalize aa.tmps.getD 42 undef = v42 at ha
          simp [Act.put] at ha
          subst ha
          clear hdef hsz hlk hf e39 e40 e41 e43 e44 hv45
          have HOz := Lib.hid e45
          have HBz := Lib.hid (HB2.out.trans (hbz.mono hbs3))
          clear e45 hbz HO HB2 t3 t4
          rw [← Hfin.out] at HOz
          go_wp2
          exact ⟨⟨i + 1, by go_num, by rw [LA.out]; omega, HOz.out, HBz.out⟩, by simp [intOf]; omega⟩
    · obtain rfl : n1 = i := by omega
      rw [List.take_of_length_le (by rw [LA.out]; exact Nat.le_refl _), Hp1.out] at ho
      have HO := Lib.hid ho
      have HBw := Lib.hid hb
      have hxx := (hb.block N hN0).trans HX0.out
      have x0 := Lib.cell_of_heap hxx 0
      have x1 := Lib.cell_of_heap hxx 1
      have x2 := Lib.cell_of_heap hxx 2
      have x3 := Lib.cell_of_heap hxx 3
      have x4 := Lib.cell_of_heap hxx 4
      have x5 := Lib.cell_of_heap hxx 5
      simp at x0 x1 x2 x3 x4 x5
      have hNu : N < wr.heap.size := by omega
      have hC := refputo_any wr u3 p1 n2 (ownsRow.reads ho) (by have := Hy1.out; omega) (by omega)
      rw [Hp2.out] at hC
      have HC := Lib.hid hC
      clear hC ho hb hxx
      go_wp2_with (go_at_call 23; go_must (refine HC.out.mono ?_))
      rintro e u5 ⟨v5, rfl, o5, b5⟩
      have hb5 := b5.size
      have HO := Lib.hid (owns_less o5 hbs)
      have HBw := Lib.hid (HBw.out.trans (b5.mono hbs))
      clear HC o5 b5 x0 x1 x2 x3 x4 x5
      have hxx := (HBw.out.block N hN0).trans HX0.out
      have x0 := Lib.cell_of_heap hxx 0
      have x1 := Lib.cell_of_heap hxx 1
      have x2 := Lib.cell_of_heap hxx 2
      have x3 := Lib.cell_of_heap hxx 3
      have x4 := Lib.cell_of_heap hxx 4
      have x5 := Lib.cell_of_heap hxx 5
      simp at x0 x1 x2 x3 x4 x5
      have hNu5 : N < u5.heap.size := by omega
      clear hxx
      go_wp2
      clear x0 x1 x2 x3 x4 x5
      go_loopw [3, 56] (fun bv iv wr => ReRel dropB W0.heap.size W0 p2 drop bv iv wr) (fun _ iv _ => n2 - (intOf iv).toNat)
      case atStart => exact ⟨0, rfl, Nat.zero_le _, by simpa using HO.out, HBw.out⟩
      case round =>
        rename World => wr3
        obtain ⟨k, rfl, hin3, ho, hb⟩ := hrel
        rw [LD.out] at hin3
        have hbs3 := hb.size
        clear HO HBw
        by_cases hlt3 : k < n2
        · have hltI : (k : Int) < n2 := by omega
          obtain ⟨x, hx⟩ : ∃ x, drop[k]? = some x := ⟨drop[k]'(by rw [LD.out]; exact hlt3), List.getElem?_eq_getElem _⟩
          have hxi := Hdin.out x (List.mem_of_getElem? hx)
          have hne := rflat_next dropB hx
          have hft := rflat_take dropB drop k
          obtain ⟨g, off, rfl, hg, kc⟩ := num_cell' (HD.out.below' (HB.out.trans (hb.mono (by have := HNe.out; omega)))) hx
          obtain ⟨y, rfl, hyb⟩ := inB_nat hxi
          have hyw : IntKind.u64.wrap (y : Int) = (y : Int) := by rw [IntKind.wrap_u64]; omega
          obtain ⟨cc, hcc⟩ : ∃ c, p2 ++ (drop.take k).flatMap dropB = c := ⟨_, rfl⟩
          have hcl : cc.length ≤ 10000000000 := by
            rw [← hcc, List.length_append]
            have j1 := Hy2.out
            have j2 := Hz2.out
            exact Nat.le_trans (Nat.add_le_add j1 (Nat.le_trans hft j2)) (by omega)
          rw [hcc] at ho
          have hC := refputo_any wr3 u3 cc y (ownsRow.reads ho) hcl (by omega)
          rw [show cc ++ enc y = p2 ++ (drop.take (k + 1)).flatMap dropB by rw [hne, ← hcc, List.append_assoc]; simp [dropB]] at hC
          have HC := Lib.hid hC
          have HB2 := Lib.hid hb
          clear hC ho hb hne hft hcc hx hxi
          go_wp2_with (go_at_call 23; go_must (refine HC.out.mono ?_))
          rintro e w6 ⟨v7, rfl, f7, b7⟩
          have HOz := Lib.hid (owns_less f7 hbs3)
          have HBz := Lib.hid (HB2.out.trans (b7.mono hbs3))
          clear f7 b7 HC HB2 kc
          go_wp2
          exact ⟨⟨k + 1, by go_num, by rw [LD.out]; omega, HOz.out, HBz.out⟩, by simp [intOf]; omega⟩
        · obtain rfl : n2 = k := by omega
          rw [List.take_of_length_le (by rw [LD.out]; exact Nat.le_refl _), Hp3.out] at ho
          have HO := Lib.hid ho
          have HBw := Lib.hid hb
          have hxx := (hb.block N hN0).trans HX0.out
          have x0 := Lib.cell_of_heap hxx 0
          have x1 := Lib.cell_of_heap hxx 1
          have x2 := Lib.cell_of_heap hxx 2
          have x3 := Lib.cell_of_heap hxx 3
          have x4 := Lib.cell_of_heap hxx 4
          have x5 := Lib.cell_of_heap hxx 5
          simp at x0 x1 x2 x3 x4 x5
          have hNu3 : N < wr3.heap.size := by omega
          clear hxx ho hb
          go_upto_region 18 with fail
          refine wp_region_last (l := [_, _, _, _, _, _, _]) (by kernel_rfl) [eqF (u3), eqF (.pointer (some ⟨N, 2, none⟩)), eqF (.int .u64 (ef : Int)), ownsF W0.heap.size 5 1 p4.length (bcells p4), eqF (.pointer (some ⟨N, 3, none⟩)), eqF (.int .u64 (eh : Int)), ownsF W0.heap.size 5 1 p5.length (bcells p5)] (by kernel_rfl) (by kernel_rfl) (by kernel_rfl) ⟨?_, ?_, ?_, ?_, ?_, ?_, ?_, trivial⟩ ?_
          · intro ρ wx hρ hbx hl
            have e3 : ρ (.tmp 3) = u3 := hρ.tmp 3 (by decide +kernel)
            refine y_val (v := u3) ?_ rfl
            simp [execOp, go_sem, e3]
          · intro ρ wx hρ hbx hl
            have e1 : ρ (.tmp 1) = .pointer (some ⟨N, 0, none⟩) := hρ.tmp 1 (by decide +kernel)
            refine y_val (v := .pointer (some ⟨N, 2, none⟩)) ?_ rfl
            simp [execOp, go_sem, e1]
          · intro ρ wx hρ hbx hl
            have e66 : ρ (.tmp 66) = .pointer (some ⟨N, 2, none⟩) := hl 1 (by decide +kernel) 66 rfl
            have kk := (hbx.cell (hNu3)).trans x2
            refine y_val (v := .int .u64 (ef : Int)) ?_ rfl
            simp [execOp, go_sem, e66, kk]
          · intro ρ wx hρ hbx hl
            have e65 : ρ (.tmp 65) = u3 := hl 0 (by decide +kernel) 65 rfl
            have e67 : ρ (.tmp 67) = .int .u64 (ef : Int) := hl 2 (by decide +kernel) 67 rfl
            refine y_call (f := 23) (args := #[u3, .int .u64 (ef : Int)]) (by simp [execOp, resolve, invoke, hρ.func, go_sem, e65, e67]) ?_
            refine (refputo_any wx u3 p3 ef ((ownsRow.reads HO.out).below' hbx) (by have := Hy3.out; omega) hef).mono ?_
            rintro e w6 ⟨v7, rfl, f7, b7⟩
            rw [Hp4.out] at f7
            exact ⟨v7, rfl, owns_less f7 (Nat.le_trans hbs3 hbx.size), b7⟩
          · intro ρ wx hρ hbx hl
            have e1 : ρ (.tmp 1) = .pointer (some ⟨N, 0, none⟩) := hρ.tmp 1 (by decide +kernel)
            refine y_val (v := .pointer (some ⟨N, 3, none⟩)) ?_ rfl
            simp [execOp, go_sem, e1]
          · intro ρ wx hρ hbx hl
            have e69 : ρ (.tmp 69) = .pointer (some ⟨N, 3, none⟩) := hl 4 (by decide +kernel) 69 rfl
            have kk := (hbx.cell (hNu3)).trans x3
            refine y_val (v := .int .u64 (eh : Int)) ?_ rfl
            simp [execOp, go_sem, e69, kk]
          · intro ρ wx hρ hbx hl
            have e68 := hl 3 (by decide +kernel) 68 rfl
            have e70 : ρ (.tmp 70) = .int .u64 (eh : Int) := hl 5 (by decide +kernel) 70 rfl
            refine y_call (f := 23) (args := #[ρ (.tmp 68), .int .u64 (eh : Int)]) (by simp [execOp, resolve, invoke, hρ.func, go_sem, e70]) ?_
            refine (refputo_any wx _ p4 eh (ownsRow.reads e68) (by have := Hy4.out; omega) heh).mono ?_
            rintro e w6 ⟨v7, rfl, f7, b7⟩
            rw [Hp5.out] at f7
            exact ⟨v7, rfl, owns_less f7 (Nat.le_trans hbs3 hbx.size), b7⟩
          intro aa w7 hdef hsz hlk hbz hf
          have ha := act_of_like hdef hsz hlk [65, 66, 67, 68, 69, 70, 71] 81 rfl (by decide +kernel)
          have e65 : aa.tmps.getD 65 undef = u3 := hf 0 _ 65 rfl rfl
          have e66 : aa.tmps.getD 66 undef = .pointer (some ⟨N, 2, none⟩) := hf 1 _ 66 rfl rfl
          have e67 : aa.tmps.getD 67 undef = .int .u64 (ef : Int) := hf 2 _ 67 rfl rfl
          have e69 : aa.tmps.getD 69 undef = .pointer (some ⟨N, 3, none⟩) := hf 4 _ 69 rfl rfl
          have e70 : aa.tmps.getD 70 undef = .int .u64 (eh : Int) := hf 5 _ 70 rfl rfl
          have e71 : (ownsF W0.heap.size 5 1 p5.length (bcells p5)).1 (aa.tmps.getD 71 undef) w7 := hf 6 _ 71 rfl rfl
          generalize hv71 : aa.tmps.getD 71 undef = v71 at e71
          simp only [putAll, List.foldl_cons, List.foldl_nil, e65, e66, e67, e69, e70, hv71] at ha
          generalize aa.tmps.getD 68 undef = v68 at ha
          simp [Act.put] at ha
          subst ha
          clear hdef hsz hlk hf e65 e66 e67 e69 e70 hv71
          have HO := Lib.hid e71
          have HBw := Lib.hid (HBw.out.trans (hbz.mono hbs3))
          have hbs4 : W0.heap.size ≤ w7.heap.size := HBw.out.size
          clear e71 hbz x0 x1 x2 x3 x4 x5
          have hxx := (HBw.out.block N hN0).trans HX0.out
          have x0 := Lib.cell_of_heap hxx 0
          have x1 := Lib.cell_of_heap hxx 1
          have x2 := Lib.cell_of_heap hxx 2
          have x3 := Lib.cell_of_heap hxx 3
          have x4 := Lib.cell_of_heap hxx 4
          have x5 := Lib.cell_of_heap hxx 5
          simp at x0 x1 x2 x3 x4 x5
          have hNu7 : N < w7.heap.size := by omega
          clear hxx
          go_upto_region 19 with fail
          refine wp_region_last (l := [_, _, _, _, _, _, _, _, _]) (by kernel_rfl) [eqF (v71), eqF (.pointer (some ⟨N, 4, none⟩)), eqF (.int .i64 (lg : Int)), eqF (.int .u64 (lg : Int)), ownsF W0.heap.size 5 1 p6.length (bcells p6), eqF (.pointer (some ⟨N, 5, none⟩)), eqF (.int .i64 (nx : Int)), eqF (.int .u64 (nx : Int)), ownsF W0.heap.size 5 1 p7.length (bcells p7)] (by kernel_rfl) (by kernel_rfl) (by kernel_rfl) ⟨?_, ?_, ?_, ?_, ?_, ?_, ?_, ?_, ?_, trivial⟩ ?_
          · intro ρ wx hρ hbx hl
            have e3 : ρ (.tmp 3) = v71 := hρ.tmp 3 (by decide +kernel)
            refine y_val (v := v71) ?_ rfl
            simp [execOp, go_sem, e3]
          · intro ρ wx hρ hbx hl
            have e1 : ρ (.tmp 1) = .pointer (some ⟨N, 0, none⟩) := hρ.tmp 1 (by decide +kernel)
            refine y_val (v := .pointer (some ⟨N, 4, none⟩)) ?_ rfl
            simp [execOp, go_sem, e1]
          · intro ρ wx hρ hbx hl
            have e73 : ρ (.tmp 73) = .pointer (some ⟨N, 4, none⟩) := hl 1 (by decide +kernel) 73 rfl
            have kk := (hbx.cell (hNu7)).trans x4
            refine y_val (v := .int .i64 (lg : Int)) ?_ rfl
            simp [execOp, go_sem, e73, kk]
          · intro ρ wx hρ hbx hl
            have e74 : ρ (.tmp 74) = .int .i64 (lg : Int) := hl 2 (by decide +kernel) 74 rfl
            refine y_val (v := .int .u64 (lg : Int)) ?_ rfl
            simp [execOp, go_sem, e74]
            exact w3
          · intro ρ wx hρ hbx hl
            have e72 : ρ (.tmp 72) = v71 := hl 0 (by decide +kernel) 72 rfl
            have e75 : ρ (.tmp 75) = .int .u64 (lg : Int) := hl 3 (by decide +kernel) 75 rfl
            refine y_call (f := 23) (args := #[v71, .int .u64 (lg : Int)]) (by simp [execOp, resolve, invoke, hρ.func, go_sem, e72, e75]) ?_
            refine (refputo_any wx v71 p5 lg ((ownsRow.reads HO.out).below' hbx) (by have := Hy5.out; omega) (by omega)).mono ?_
            rintro e w6 ⟨v7, rfl, f7, b7⟩
            rw [Hp6.out] at f7
            exact ⟨v7, rfl, owns_less f7 (Nat.le_trans hbs4 hbx.size), b7⟩
          · intro ρ wx hρ hbx hl
            have e1 : ρ (.tmp 1) = .pointer (some ⟨N, 0, none⟩) := hρ.tmp 1 (by decide +kernel)
            refine y_val (v := .pointer (some ⟨N, 5, none⟩)) ?_ rfl
            simp [execOp, go_sem, e1]
          · intro ρ wx hρ hbx hl
            have e77 : ρ (.tmp 77) = .pointer (some ⟨N, 5, none⟩) := hl 5 (by decide +kernel) 77 rfl
            have kk := (hbx.cell (hNu7)).trans x5
            refine y_val (v := .int .i64 (nx : Int)) ?_ rfl
            simp [execOp, go_sem, e77, kk]
          · intro ρ wx hρ hbx hl
            have e78 : ρ (.tmp 78) = .int .i64 (nx : Int) := hl 6 (by decide +kernel) 78 rfl
            refine y_val (v := .int .u64 (nx : Int)) ?_ rfl
            simp [execOp, go_sem, e78]
            exact w4
          · intro ρ wx hρ hbx hl
            have e76 := hl 4 (by decide +kernel) 76 rfl
            have e79 : ρ (.tmp 79) = .int .u64 (nx : Int) := hl 7 (by decide +kernel) 79 rfl
            refine y_call (f := 23) (args := #[ρ (.tmp 76), .int .u64 (nx : Int)]) (by simp [execOp, resolve, invoke, hρ.func, go_sem, e79]) ?_
            refine (refputo_any wx _ p6 nx (ownsRow.reads e76) (by have := Hy6.out; omega) (by omega)).mono ?_
            rintro e w6 ⟨v7, rfl, f7, b7⟩
            rw [Hp7.out] at f7
            exact ⟨v7, rfl, owns_less f7 (Nat.le_trans hbs4 hbx.size), b7⟩
          intro aa w8 hdef hsz hlk hbz hf
          have ha := act_of_like hdef hsz hlk [72, 73, 74, 75, 76, 77, 78, 79, 80] 81 rfl (by decide +kernel)
          have e72 : aa.tmps.getD 72 undef = v71 := hf 0 _ 72 rfl rfl
          have e73 : aa.tmps.getD 73 undef = .pointer (some ⟨N, 4, none⟩) := hf 1 _ 73 rfl rfl
          have e74 : aa.tmps.getD 74 undef = .int .i64 (lg : Int) := hf 2 _ 74 rfl rfl
          have e75 : aa.tmps.getD 75 undef = .int .u64 (lg : Int) := hf 3 _ 75 rfl rfl
          have e77 : aa.tmps.getD 77 undef = .pointer (some ⟨N, 5, none⟩) := hf 5 _ 77 rfl rfl
          have e78 : aa.tmps.getD 78 undef = .int .i64 (nx : Int) := hf 6 _ 78 rfl rfl
          have e79 : aa.tmps.getD 79 undef = .int .u64 (nx : Int) := hf 7 _ 79 rfl rfl
          have e80 : (ownsF W0.heap.size 5 1 p7.length (bcells p7)).1 (aa.tmps.getD 80 undef) w8 := hf 8 _ 80 rfl rfl
          generalize hv80 : aa.tmps.getD 80 undef = v80 at e80
          simp only [putAll, List.foldl_cons, List.foldl_nil, e72, e73, e74, e75, e77, e78, e79, hv80] at ha
          generalize aa.tmps.getD 76 undef = v76 at ha
          simp [Act.put] at ha
          subst ha
          clear hdef hsz hlk hf e72 e73 e74 e75 e77 e78 e79 hv80
          have HOz := Lib.hid e80
          have HBz := Lib.hid (HBw.out.trans (hbz.mono hbs4))
          clear e80 hbz x0 x1 x2 x3 x4 x5
          go_wp2
          go_ret
          exact ⟨_, rfl, owns_less HOz.out (by have := HNe.out; omega), HB.out.trans (HBz.out.mono (by have := HNe.out; omega))⟩
end Go.Proofs.Ythjimldojdhccaa
