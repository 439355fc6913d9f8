/- edit.Encode of any edit. -/
import Derived.Test.YthjimldojdhccaaZEditW
import Derived.Test.YthjimldojdhccaaZEditV
import Derived.IntWalk
namespace Go.Proofs.Ythjimldojdhccaa
open Go Go.RowKit Go.Lib

def tabB (t : Tb) : List UInt8 := nums [t.num.toNat, t.lev.toNat, t.size.toNat] ++ txts [t.first, t.last]
def encB (e : Ed) : List UInt8 := nums [e.add.length] ++ e.add.flatMap tabB ++ nums [e.drop.length] ++ nums (e.drop.map Int.toNat) ++ nums [e.floor, e.head, e.log.toNat, e.next.toNat]

theorem wnums_lit (W : World) (B g : Nat) (l : List UInt8) (ss : List Nat) (vs : Array Value) (hvs : vs = (ucells ss).toArray) (n : Nat) (hn : ss.length = n) (h : WAt B W g l) (hB : B ≤ W.heap.size) (h1000 : n ≤ 1000) (hz : ∀ x ∈ ss, x < 18446744073709551616) (hl : l.length + (nums ss).length ≤ 1000000000) {N : Nat} (hN : W.heap.size = N) :
    Calls Try.prog 20 #[.pointer (some ⟨g, 0, none⟩), .slice (some ⟨N, 0, none⟩) n n] (W.alloc (.cells vs 24)) (WPost B W g (l ++ nums ss)) := by
  subst hN
  subst hvs
  have hb : Below W.heap.size W (W.alloc (.cells (ucells ss).toArray 24)) := (Below.refl _ _).alloc (Nat.le_refl _) _
  have hg := h.lt
  refine (wnumbers_any _ B g l W.heap.size n ss (h.below hb) (Nat.le_trans hB hb.size) hn h1000 (heap_alloc_new W _) (by omega) hz hl).mono ?_
  rintro e w' ⟨rfl, h1, h2, h3⟩
  exact ⟨rfl, h1, (hb.mono hB).trans h2, (KeepW.of_below hb).trans h3⟩

theorem wtxts_lit (W : World) (B g : Nat) (l : List UInt8) (ss : List ByteArray) (vs : Array Value) (hvs : vs = (scells ss).toArray) (n : Nat) (hn : ss.length = n) (h : WAt B W g l) (hB : B ≤ W.heap.size) (h1000 : n ≤ 1000) (hl : l.length + (txts ss).length ≤ 1000000000) {N : Nat} (hN : W.heap.size = N) :
    Calls Try.prog 21 #[.pointer (some ⟨g, 0, none⟩), .slice (some ⟨N, 0, none⟩) n n] (W.alloc (.cells vs 9)) (WPost B W g (l ++ txts ss)) := by
  subst hN
  subst hvs
  have hb : Below W.heap.size W (W.alloc (.cells (scells ss).toArray 9)) := (Below.refl _ _).alloc (Nat.le_refl _) _
  have hg := h.lt
  refine (wtexts_any _ B g l W.heap.size n ss (h.below hb) (Nat.le_trans hB hb.size) hn h1000 (heap_alloc_new W _) (by omega) hl).mono ?_
  rintro e w' ⟨rfl, h1, h2, h3⟩
  exact ⟨rfl, h1, (hb.mono hB).trans h2, (KeepW.of_below hb).trans h3⟩

def EncPost (w : World) (e : Ed) (en : Ending) (w' : World) : Prop :=
  ∃ a n c, en = .returned (.tuple #[.slice a n c, .int .i64 (erE e)]) ∧ Reads w' 1 (.slice a n c) n (bcells (if right e then encB e else [])) ∧ Below w.heap.size w w'

theorem TRows.len' {w : World} {a : Option Addr} {n c : Nat} {l : List Tb} (h : TRows w (.slice a n c) l) : l.length = n ∧ n ≤ c ∧ c ≤ 9223372036854775807 := by
  obtain ⟨_, _, _, e, q1, q2, _⟩ := h
  cases e
  exact ⟨rfl, q1, q2⟩
theorem num_len' {w : World} {a : Option Addr} {n c : Nat} {l : List Int} (h : Reads w 1 (.slice a n c) n (ncells l)) : l.length = n ∧ n ≤ c ∧ c ≤ 9223372036854775807 := by
  obtain ⟨q0, _, _, e, q1, q2, _⟩ := h
  cases e
  exact ⟨by simpa [ncells] using q0, q1, q2⟩

theorem num_cell' {w : World} {a : Option Addr} {n c : Nat} {l : List Int} (h : Reads w 1 (.slice a n c) n (ncells l)) {k : Nat} {x : Int} (hk : l[k]? = some x) : ∃ g off, a = some ⟨g, off, none⟩ ∧ g < w.heap.size ∧ w.cell? ⟨g, off + k, none⟩ = some (.int .i64 x) :=
  h.at (by unfold ncells; rw [List.getElem?_map, hk]; rfl)

/-- An edit whose numbers may be, and whose texts are short. -/
structure EdFit (e : Ed) : Prop where
  add : e.add.length ≤ 1000
  drop : e.drop.length ≤ 1000
  txt : ∀ t ∈ e.add, t.first.size ≤ 1000 ∧ t.last.size ≤ 1000
  fl : e.floor < 18446744073709551616
  hd : e.head < 18446744073709551616

theorem inB_nat {x : Int} (h : inB x = true) : ∃ n : Nat, x = (n : Int) ∧ n < 4611686018427387904 := by
  unfold inB at h
  rw [Bool.and_eq_true, decide_eq_true_eq, decide_eq_true_eq] at h
  exact ⟨x.toNat, by omega, by omega⟩

theorem nums_len (l : List Nat) (h : ∀ x ∈ l, x < 18446744073709551616) : (nums l).length ≤ 10 * l.length := by
  induction l with
  | nil => simp [nums]
  | cons a r ih =>
    have h1 := ih fun x hx => h x (List.mem_cons_of_mem _ hx)
    have h2 := enc_length_le 9 a (by have := h a List.mem_cons_self; omega)
    unfold nums at *
    rw [List.flatMap_cons, List.length_append, List.length_cons]
    omega

theorem enc_len (N : Nat) (h : N < 18446744073709551616) : (enc N).length ≤ 10 := enc_length_le 9 N (by omega)

theorem tabB_len {t : Tb} (h1 : t.first.size ≤ 1000) (h2 : t.last.size ≤ 1000) (hi : inT t = true) : (tabB t).length ≤ 2100 := by
  unfold inT at hi
  rw [Bool.and_eq_true, Bool.and_eq_true] at hi
  obtain ⟨⟨ha, hb⟩, hc⟩ := hi
  obtain ⟨a, ha, ha'⟩ := inB_nat ha
  obtain ⟨b, hb, hb'⟩ := inB_nat hb
  obtain ⟨c, hc, hc'⟩ := inB_nat hc
  have e1 := enc_len t.num.toNat (by omega)
  have e2 := enc_len t.lev.toNat (by omega)
  have e3 := enc_len t.size.toNat (by omega)
  have e4 := enc_len t.first.size (by omega)
  have e5 := enc_len t.last.size (by omega)
  have s1 : t.first.data.toList.length = t.first.size := Array.length_toList
  have s2 : t.last.data.toList.length = t.last.size := Array.length_toList
  simp [tabB, nums, txts, txt]
  omega

theorem flat_len (l : List Tb) (h : ∀ t ∈ l, (tabB t).length ≤ 2100) : (l.flatMap tabB).length ≤ 2100 * l.length := by
  induction l with
  | nil => simp
  | cons a r ih =>
    have h1 := ih fun x hx => h x (List.mem_cons_of_mem _ hx)
    have h2 := h a List.mem_cons_self
    rw [List.flatMap_cons, List.length_append, List.length_cons]
    omega

def EncRel1 (B : Nat) (W : World) (g : Nat) (add : List Tb) (l0 : List UInt8) (iv : Value) (wr : World) : Prop :=
  ∃ k : Nat, iv = .int .i64 (k : Int) ∧ k ≤ add.length ∧ WAt B wr g (l0 ++ (add.take k).flatMap tabB) ∧ Below B W wr ∧ KeepW g W wr
def EncRel2 (B : Nat) (W : World) (g : Nat) (drop : List Int) (l0 : List UInt8) (iv : Value) (wr : World) : Prop :=
  ∃ k : Nat, iv = .int .i64 (k : Int) ∧ k ≤ drop.length ∧ WAt B wr g (l0 ++ nums ((drop.take k).map Int.toNat)) ∧ Below B W wr ∧ KeepW g W wr

theorem wat_new (w : World) (B : Nat) (hB : B ≤ w.heap.size) : WAt B (w.alloc (.cells #[.slice none 0 0] 51)) w.heap.size [] :=
  ⟨none, 0, heap_alloc_new w _, owns_nil _ _ _ _, hB⟩

set_option maxRecDepth 100000 in
set_option maxHeartbeats 4000000 in
theorem encode_any (w : World) (e : Ed) (a1 a2 : Option Addr) (n1 c1 n2 c2 : Nat) (h1 : TRows w (.slice a1 n1 c1) e.add) (h2 : Reads w 1 (.slice a2 n2 c2) n2 (ncells e.drop)) (hf : EdFit e) :
    Calls Try.prog 8 #[ev e a1 a2 n1 c1 n2 c2] w (EncPost w e) := by
  have hcke := fun W (hb : Below w.heap.size w W) => check_any W e a1 a2 n1 c1 n2 c2 (h1.below hb) (h2.below' hb)
  have HCke := Lib.hid hcke
  have HEr := Lib.hid (show erE e = if right e then 0 else 1 from rfl)
  have HEn := Lib.hid (show encB e = nums [e.add.length] ++ e.add.flatMap tabB ++ nums [e.drop.length] ++ nums (e.drop.map Int.toNat) ++ nums [e.floor, e.head, e.log.toNat, e.next.toNat] from rfl)
  have HRi := Lib.hid (show right e = ((inB e.log && inB e.next && e.drop.all inB) && e.add.all inT) from rfl)
  have HF := Lib.hid hf
  obtain ⟨add, drop, ef, eh, el, en⟩ := e
  simp only [ev] at *
  obtain ⟨la1, la2, la3⟩ := TRows.len' h1
  obtain ⟨ld1, ld2, ld3⟩ := num_len' h2
  have hla := hf.add
  have hld := hf.drop
  have hef := hf.fl
  have heh := hf.hd
  simp only at hla hld hef heh
  rw [la1] at hla
  rw [ld1] at hld
  have HA := Lib.hid h1
  have HD := Lib.hid h2
  have LA := Lib.hid la1
  have LD := Lib.hid ld1
  clear h1 h2 la1 ld1 hcke hf
  have hwl : (w.alloc (.cells #[.slice a1 n1 c1, .slice a2 n2 c2, .int .u64 (ef : Int), .int .u64 (eh : Int), .int .i64 el, .int .i64 en] 26)).heap.size = w.heap.size + 1 := by simp
  have hx0 := heap_alloc_new w (.cells #[.slice a1 n1 c1, .slice a2 n2 c2, .int .u64 (ef : Int), .int .u64 (eh : Int), .int .i64 el, .int .i64 en] 26)
  have hb0 : Below w.heap.size w (w.alloc (.cells #[.slice a1 n1 c1, .slice a2 n2 c2, .int .u64 (ef : Int), .int .u64 (eh : Int), .int .i64 el, .int .i64 en] 26)) := (Below.refl _ w).alloc (Nat.le_refl _) _
  have HWl := Lib.hid hwl
  have HX0 := Lib.hid hx0
  have HB0 := Lib.hid hb0
  clear hwl hx0 hb0
  go_enter Try.func8, Try.ntmps8
  go_wp2_with (go_at_call 19; go_must (refine (HCke.out _ HB0.out).mono ?_))
  rintro e w1 ⟨rfl, b1⟩
  generalize w.alloc (.cells #[.slice a1 n1 c1, .slice a2 n2 c2, .int .u64 (ef : Int), .int .u64 (eh : Int), .int .i64 el, .int .i64 en] 26) = W1 at *
  have hs1 := b1.size
  rw [HWl.out] at hs1
  have hx1 := (b1.block _ (by rw [HWl.out]; omega)).trans HX0.out
  have hb1 : Below w.heap.size w w1 := HB0.out.trans (b1.mono (by rw [HWl.out]; omega))
  clear b1
  cases hr : right ⟨add, drop, ef, eh, el, en⟩ with
  | false =>
    have her : erE ⟨add, drop, ef, eh, el, en⟩ = 1 := HEr.out.trans (by rw [hr]; rfl)
    have HEr1 := Lib.hid her
    have HRr := Lib.hid hr
    have HB1 := Lib.hid hb1
    rw [her]
    clear hr her hx1 hb1
    go_wp2
    go_ret2
    refine ⟨none, 0, 0, by rw [HEr1.out]; rfl, ?_, HB1.out⟩
    rw [HRr.out]
    exact nil_reads _
  | true =>
    have her : erE ⟨add, drop, ef, eh, el, en⟩ = 0 := HEr.out.trans (by rw [hr]; rfl)
    have HEr1 := Lib.hid her
    have HRr := Lib.hid hr
    have hri := HRi.out
    rw [hr] at hri
    have hri2 := hri.symm
    rw [Bool.and_eq_true, Bool.and_eq_true, Bool.and_eq_true] at hri2
    obtain ⟨⟨⟨hlog, hnext⟩, hdrop⟩, hadd⟩ := hri2
    obtain ⟨lg, rfl, hlg⟩ := inB_nat hlog
    obtain ⟨nx, rfl, hnx⟩ := inB_nat hnext
    have HDr := Lib.hid hdrop
    have HAd := Lib.hid hadd
    rw [her]
    have wlg : IntKind.u64.wrap (lg : Int) = (lg : Int) := IntWalk.u64_in _ (by omega)
    have wnx : IntKind.u64.wrap (nx : Int) = (nx : Int) := IntWalk.u64_in _ (by omega)
    have wn1 : IntKind.u64.wrap (n1 : Int) = (n1 : Int) := IntWalk.u64_in _ (by omega)
    have wn2 : IntKind.u64.wrap (n2 : Int) = (n2 : Int) := IntWalk.u64_in _ (by omega)
    have e0 := Lib.cell_of_heap hx1 0
    have e1 := Lib.cell_of_heap hx1 1
    have e2 := Lib.cell_of_heap hx1 2
    have e3 := Lib.cell_of_heap hx1 3
    have e4 := Lib.cell_of_heap hx1 4
    have e5 := Lib.cell_of_heap hx1 5
    simp at e0 e1 e2 e3 e4 e5
    have lt0 : w.heap.size < w1.heap.size := by omega
    have hwa := wat_new w1 w.heap.size (by omega)
    have HWa := Lib.hid hwa
    have HX1 := Lib.hid hx1
    have HB1 := Lib.hid hb1
    clear hr her hri hlog hnext hdrop hadd hx1 hb1 hwa
    go_wp2_with (go_at_call 20; go_must (refine (wnums_lit _ w.heap.size w1.heap.size [] [n1] _ rfl 1 rfl HWa.out (by simp; omega) (by decide) (by simp; omega) (by have := nums_len [n1] (by simp; omega); simp at this ⊢; omega) (by simp)).mono ?_))
    rintro e w2 ⟨rfl, hw2, hb2, hk2⟩
    have hx2 := hk2 w.heap.size _ _ _ ((Below.heap_alloc w1 (.cells #[.slice none 0 0] 51) _ lt0).trans HX1.out) (by decide) (by omega)
    have hbw2 : Below w.heap.size w w2 := HB1.out.trans ((((Below.refl _ w1).alloc (Nat.le_refl _) _).mono (by omega)).trans hb2)
    have hgs := hw2.lt
    have HW2 := Lib.hid hw2
    have HX := Lib.hid hx2
    have HBw := Lib.hid hbw2
    clear hb2 hk2 hw2 hx2 hbw2 HWa HX1 HB1 e0 e1 e2 e3 e4 e5
    generalize w1.heap.size = G at *
    have lt2 : w.heap.size < w2.heap.size := by omega
    have e0 := Lib.cell_of_heap HX.out 0
    have e1 := Lib.cell_of_heap HX.out 1
    have e2 := Lib.cell_of_heap HX.out 2
    have e3 := Lib.cell_of_heap HX.out 3
    have e4 := Lib.cell_of_heap HX.out 4
    have e5 := Lib.cell_of_heap HX.out 5
    simp at e0 e1 e2 e3 e4 e5
    go_wp2
    clear e0 e1 e2 e3 e4 e5
    go_loopw [27] (fun iv wr => EncRel1 w.heap.size w2 G add (nums [n1]) iv wr) (fun iv _ => n1 - (intOf iv).toNat)
    case atStart => exact ⟨0, rfl, Nat.zero_le _, by simpa using HW2.out, Below.refl _ _, KeepW.refl _ _⟩
    case round =>
      obtain ⟨k, rfl, hk, hw, hb, hkw⟩ := hrel
      rw [LA.out] at hk
      have HW := Lib.hid hw
      have HB := Lib.hid hb
      have HK := Lib.hid hkw
      have hbs := hb.size
      have hbw := HBw.out.trans hb
      by_cases hlt : k < n1
      · have hkI : (k : Int) < n1 := by omega
        obtain ⟨x, hx⟩ : ∃ x, add[k]? = some x := ⟨add[k]'(by rw [LA.out]; exact hlt), List.getElem?_eq_getElem _⟩
        obtain ⟨g, off, rfl, hg, k0, k1, k2, k3, k4⟩ := (TRows.below HA.out hbw).row hx
        have hmem := List.mem_of_getElem? hx
        have hin := List.all_eq_true.1 HAd.out x hmem
        have htx := HF.out.txt x hmem
        have hsn : (add.take (k + 1)).flatMap tabB = (add.take k).flatMap tabB ++ tabB x := by rw [List.take_add_one, hx]; simp
        have hl1 : ((add.take k).flatMap tabB).length ≤ 2100 * (add.take k).length := flat_len _ (fun t ht => by
          have hm := List.mem_of_mem_take ht
          have := HF.out.txt t hm
          exact tabB_len this.1 this.2 (List.all_eq_true.1 HAd.out t hm))
        have hl2 : (add.take k).length ≤ 1000 := by rw [List.length_take, LA.out]; omega
        have hl3 := tabB_len htx.1 htx.2 hin
        have hl4 : (nums [n1]).length ≤ 10 := nums_len [n1] (by simp; omega)
        obtain ⟨xn, xl, xz, xf, xt⟩ := x
        simp only at k0 k1 k2 k3 k4 htx
        unfold inT at hin
        simp only [Bool.and_eq_true] at hin
        obtain ⟨⟨hq1, hq2⟩, hq3⟩ := hin
        obtain ⟨an, rfl, han⟩ := inB_nat hq1
        obtain ⟨al, rfl, hal⟩ := inB_nat hq2
        obtain ⟨az, rfl, haz⟩ := inB_nat hq3
        have y1 : IntKind.u64.wrap (an : Int) = (an : Int) := IntWalk.u64_in _ (by omega)
        have y2 : IntKind.u64.wrap (al : Int) = (al : Int) := IntWalk.u64_in _ (by omega)
        have y3 : IntKind.u64.wrap (az : Int) = (az : Int) := IntWalk.u64_in _ (by omega)
        have htb : tabB ⟨an, al, az, xf, xt⟩ = nums [an, al, az] ++ txts [xf, xt] := rfl
        rw [htb] at hsn hl3
        have HSn := Lib.hid hsn
        have hl5 : (nums [an, al, az] ++ txts [xf, xt]).length = (nums [an, al, az]).length + (txts [xf, xt]).length := List.length_append
        rw [hl5] at hl3
        obtain ⟨L, hL⟩ : ∃ L, nums [n1] ++ (add.take k).flatMap tabB = L := ⟨_, rfl⟩
        have hLl : L.length ≤ 10 + 2100 * 1000 := by rw [← hL, List.length_append]; omega
        rw [hL] at hw
        have HL := Lib.hid hL
        have hwl := hw.below ((Below.refl _ wr).alloc (Nat.le_refl _) (.cells #[.int .i64 (an : Int), .int .i64 (al : Int), .int .i64 (az : Int), .string xf, .string xt] 45))
        have HWl := Lib.hid hwl
        have HT1 := Lib.hid hl3
        clear hx hmem hq1 hq2 hq3 htb hsn hl1 hl2 hl3 hl4 hl5 hL hw hwl htx HW hb hkw hbw
        go_wp2_with (go_at_call 20; go_must (refine (wnums_lit _ w.heap.size G L [an, al, az] _ rfl 3 rfl HWl.out (by simp; omega) (by decide) (by simp; omega) (by have := HT1.out; omega) (by simp)).mono ?_))
        rintro e w3 ⟨rfl, hw3, hb3, hk3⟩
        have hx3 := hk3 wr.heap.size _ _ _ (heap_alloc_new wr (.cells #[.int .i64 (an : Int), .int .i64 (al : Int), .int .i64 (az : Int), .string xf, .string xt] 45)) (by decide) (by omega)
        have hs3 := hb3.size
        simp at hs3
        have hl6 : (nums [an, al, az]).length ≤ 2100 := by have := HT1.out; omega
        have z3 := Lib.cell_of_heap hx3 3
        have z4 := Lib.cell_of_heap hx3 4
        simp at z3 z4
        have lt3 : wr.heap.size < w3.heap.size := by omega
        have HW3 := Lib.hid hw3
        have HB3 := Lib.hid (HB.out.trans ((((Below.refl _ wr).alloc (Nat.le_refl _) (.cells #[.int .i64 (an : Int), .int .i64 (al : Int), .int .i64 (az : Int), .string xf, .string xt] 45)).mono (by omega)).trans hb3))
        have HK3 := Lib.hid ((HK.out.trans (KeepW.of_below ((Below.refl _ wr).alloc (Nat.le_refl _) (.cells #[.int .i64 (an : Int), .int .i64 (al : Int), .int .i64 (az : Int), .string xf, .string xt] 45)))).trans hk3)
        clear hw3 hb3 hk3 hx3 HWl
        go_wp2_with (go_at_call 21; go_must (refine (wtxts_lit _ w.heap.size G _ [xf, xt] _ rfl 2 rfl HW3.out (by omega) (by decide) (by have := HT1.out; rw [List.length_append]; omega) rfl).mono ?_))
        rintro e w4 ⟨rfl, hw4, hb4, hk4⟩
        have hfin : nums [n1] ++ (add.take (k + 1)).flatMap tabB = L ++ nums [an, al, az] ++ txts [xf, xt] := by rw [HSn.out, ← HL.out]; simp [List.append_assoc]
        rw [← hfin] at hw4
        have HW4 := Lib.hid hw4
        have HB4 := Lib.hid (HB3.out.trans hb4)
        have HK4 := Lib.hid (HK3.out.trans hk4)
        clear hw4 hb4 hk4 hfin z3 z4
        go_wp2
        exact ⟨⟨k + 1, by go_num, by rw [LA.out]; omega, HW4.out, HB4.out, HK4.out⟩, by simp [intOf]; omega⟩
      · obtain rfl : k = n1 := by omega
        rw [List.take_of_length_le (by rw [LA.out]; exact Nat.le_refl _)] at hw
        have hl1 : (add.flatMap tabB).length ≤ 2100 * add.length := flat_len _ (fun t ht => by
          have := HF.out.txt t ht
          exact tabB_len this.1 this.2 (List.all_eq_true.1 HAd.out t ht))
        rw [LA.out] at hl1
        have hl4 : (nums [k]).length ≤ 10 := nums_len [k] (by simp; omega)
        obtain ⟨L, hL⟩ : ∃ L, nums [k] ++ add.flatMap tabB = L := ⟨_, rfl⟩
        have hLl : L.length ≤ 10 + 2100 * 1000 := by rw [← hL, List.length_append]; omega
        rw [hL] at hw
        have HL := Lib.hid hL
        have HWL := Lib.hid hw
        have hx6 := hkw w.heap.size _ _ _ HX.out (by decide) (by omega)
        have lt6 : w.heap.size < wr.heap.size := by omega
        have e0 := Lib.cell_of_heap hx6 0
        have e1 := Lib.cell_of_heap hx6 1
        have e2 := Lib.cell_of_heap hx6 2
        have e3 := Lib.cell_of_heap hx6 3
        have e4 := Lib.cell_of_heap hx6 4
        have e5 := Lib.cell_of_heap hx6 5
        simp at e0 e1 e2 e3 e4 e5
        have HX6 := Lib.hid hx6
        have HBw6 := Lib.hid hbw
        clear hl1 hl4 hL hw hx6 hbw hb hkw HW HB HK HX HBw HW2
        go_wp2_with (go_at_call 20; go_must (refine (wnums_lit _ w.heap.size G L [n2] _ rfl 1 rfl HWL.out (by omega) (by decide) (by simp; omega) (by have := nums_len [n2] (by simp; omega); simp at this; omega) rfl).mono ?_))
        rintro e w5 ⟨rfl, hw5, hb5, hk5⟩
        have hx7 := hk5 w.heap.size _ _ _ HX6.out (by decide) (by omega)
        have hbw7 := HBw6.out.trans hb5
        have hs7 := hb5.size
        have lt7 : w.heap.size < w5.heap.size := by omega
        have HW7 := Lib.hid hw5
        have HX7 := Lib.hid hx7
        have HBw7 := Lib.hid hbw7
        clear e0 e1 e2 e3 e4 e5 lt6 HX6 HBw6 HWL hw5 hb5 hk5
        have e0 := Lib.cell_of_heap hx7 0
        have e1 := Lib.cell_of_heap hx7 1
        have e2 := Lib.cell_of_heap hx7 2
        have e3 := Lib.cell_of_heap hx7 3
        have e4 := Lib.cell_of_heap hx7 4
        have e5 := Lib.cell_of_heap hx7 5
        simp at e0 e1 e2 e3 e4 e5
        clear hx7 hbw7
        go_wp2
        clear e0 e1 e2 e3 e4 e5
        go_loopw [61] (fun iv wi => EncRel2 w.heap.size w5 G drop (L ++ nums [n2]) iv wi) (fun iv _ => n2 - (intOf iv).toNat)
        case atStart => exact ⟨0, rfl, Nat.zero_le _, by simpa [nums] using HW7.out, Below.refl _ _, KeepW.refl _ _⟩
        case round =>
          rename World => wi
          obtain ⟨j, rfl, hj, hw, hb, hkw⟩ := hrel
          rw [LD.out] at hj
          have HB := Lib.hid hb
          have HK := Lib.hid hkw
          have hbs := hb.size
          have hbw := HBw7.out.trans hb
          have hl4 : (nums [n2]).length ≤ 10 := nums_len [n2] (by simp; omega)
          have hdn : ∀ y ∈ drop.map Int.toNat, y < 18446744073709551616 := fun y hy => by
            obtain ⟨z, hz, rfl⟩ := List.mem_map.1 hy
            obtain ⟨m, rfl, hm⟩ := inB_nat (List.all_eq_true.1 HDr.out z hz)
            omega
          have hdl : (nums (drop.map Int.toNat)).length ≤ 10 * 1000 := by
            have := nums_len (drop.map Int.toNat) hdn
            rw [List.length_map, LD.out] at this
            omega
          by_cases hlt : j < n2
          · have hjI : (j : Int) < n2 := by omega
            obtain ⟨x, hx⟩ : ∃ x, drop[j]? = some x := ⟨drop[j]'(by rw [LD.out]; exact hlt), List.getElem?_eq_getElem _⟩
            obtain ⟨g, off, rfl, hg, c0⟩ := num_cell' (HD.out.below' hbw) hx
            obtain ⟨m, rfl, hm⟩ := inB_nat (List.all_eq_true.1 HDr.out x (List.mem_of_getElem? hx))
            have wm : IntKind.u64.wrap (m : Int) = (m : Int) := IntWalk.u64_in _ (by omega)
            have hsn : nums ((drop.take (j + 1)).map Int.toNat) = nums ((drop.take j).map Int.toNat) ++ nums [m] := by
              rw [List.take_add_one, hx]
              simp [nums]
            have htk : (nums ((drop.take j).map Int.toNat)).length ≤ 10 * 1000 := by
              have := nums_len ((drop.take j).map Int.toNat) (fun y hy => by
                obtain ⟨z, hz, rfl⟩ := List.mem_map.1 hy
                exact hdn _ (List.mem_map_of_mem (List.mem_of_mem_take hz)))
              rw [List.length_map, List.length_take, LD.out] at this
              omega
            have HSn := Lib.hid hsn
            obtain ⟨K, hK⟩ : ∃ K, L ++ nums [n2] ++ nums ((drop.take j).map Int.toNat) = K := ⟨_, rfl⟩
            have hKl : K.length ≤ 20 + 2100 * 1000 + 10 * 1000 := by rw [← hK, List.length_append, List.length_append]; omega
            rw [hK] at hw
            have HKq := Lib.hid hK
            have HWq := Lib.hid hw
            clear hx hsn htk hK hw hdn hdl hl4 hb hkw hbw
            go_wp2_with (go_at_call 20; go_must (refine (wnums_lit _ w.heap.size G K [m] _ rfl 1 rfl HWq.out (by omega) (by decide) (by simp; omega) (by have := nums_len [m] (by simp; omega); simp at this; omega) rfl).mono ?_))
            rintro e w8 ⟨rfl, hw8, hb8, hk8⟩
            have hfin : L ++ nums [n2] ++ nums ((drop.take (j + 1)).map Int.toNat) = K ++ nums [m] := by rw [HSn.out, ← HKq.out]; simp [List.append_assoc]
            rw [← hfin] at hw8
            have HW8 := Lib.hid hw8
            have HB8 := Lib.hid (HB.out.trans hb8)
            have HK8 := Lib.hid (HK.out.trans hk8)
            clear hw8 hb8 hk8 hfin
            go_wp2
            exact ⟨⟨j + 1, by go_num, by rw [LD.out]; omega, HW8.out, HB8.out, HK8.out⟩, by simp [intOf]; omega⟩
          · obtain rfl : j = n2 := by omega
            rw [List.take_of_length_le (by rw [LD.out]; exact Nat.le_refl _)] at hw
            obtain ⟨K, hK⟩ : ∃ K, L ++ nums [j] ++ nums (drop.map Int.toNat) = K := ⟨_, rfl⟩
            have hKl : K.length ≤ 20 + 2100 * 1000 + 10 * 1000 := by rw [← hK, List.length_append, List.length_append]; omega
            rw [hK] at hw
            have HKq := Lib.hid hK
            have HWq := Lib.hid hw
            have hx9 := hkw w.heap.size _ _ _ HX7.out (by decide) (by omega)
            have lt9 : w.heap.size < wi.heap.size := by omega
            have e0 := Lib.cell_of_heap hx9 0
            have e1 := Lib.cell_of_heap hx9 1
            have e2 := Lib.cell_of_heap hx9 2
            have e3 := Lib.cell_of_heap hx9 3
            have e4 := Lib.cell_of_heap hx9 4
            have e5 := Lib.cell_of_heap hx9 5
            simp at e0 e1 e2 e3 e4 e5
            have HBw9 := Lib.hid hbw
            clear hK hw hdn hdl hl4 hb hkw hbw hx9
            go_wp2_with (go_at_call 20; go_must (refine (wnums_lit _ w.heap.size G K [ef, eh, lg, nx] _ rfl 4 rfl HWq.out (by omega) (by decide) (by simp; omega) (by have := nums_len [ef, eh, lg, nx] (by simp; omega); simp at this; omega) rfl).mono ?_))
            rintro e w8 ⟨rfl, hw8, hb8, hk8⟩
            have hfin : encB ⟨add, drop, ef, eh, (lg : Int), (nx : Int)⟩ = K ++ nums [ef, eh, lg, nx] := by rw [HEn.out, ← HKq.out, ← HL.out]; simp [LA.out, LD.out, List.append_assoc]
            rw [← hfin] at hw8
            have hbf := HBw9.out.trans hb8
            obtain ⟨a8, c8, hg8, ho8, _⟩ := hw8
            have q0 := Lib.cell_of_heap hg8 0
            simp at q0
            have HO8 := Lib.hid (ownsRow.reads ho8)
            have HBf := Lib.hid hbf
            clear hb8 hk8 hfin hbf hg8 ho8 e0 e1 e2 e3 e4 e5
            go_wp2
            go_ret2
            refine ⟨a8, _, c8, by rw [HEr1.out]; rfl, ?_, HBf.out⟩
            rw [HRr.out]
            exact HO8.out
end Go.Proofs.Ythjimldojdhccaa
