/- Versions and edits: what may be, what becomes of one by the other. -/
import Derived.Test.YthjimldojdhccaaZEditIn
import Derived.Test.YthjimldojdhccaaMga
namespace Go.Proofs.Ythjimldojdhccaa
open Go Go.RowKit Go.Lib

structure Ver where
  tabs : List Tb
  floor : Nat
  head : Nat
  log : Int
  next : Int

structure Ed where
  add : List Tb
  drop : List Int
  floor : Nat
  head : Nat
  log : Int
  next : Int

/-- May its numbers be? -/
def inT (t : Tb) : Bool := inB t.num && inB t.lev && inB t.size
def right (e : Ed) : Bool := (inB e.log && inB e.next && e.drop.all inB) && e.add.all inT

def erE (e : Ed) : Int := if right e then 0 else 1

/-- A table behind others. -/
def okTab (next : Int) (pre : List Tb) (t : Tb) : Bool := !(pre.any fun u => u.num == t.num) && mayT t next && (match pre.getLast? with | none => true | some u => folT u t)

def goodTabs (next : Int) : List Tb → List Tb → Bool
  | _, [] => true
  | pre, t :: r => okTab next pre t && goodTabs next (pre ++ [t]) r

def headOk (v : Ver) : Bool := decide (v.floor ≤ v.head) && decide (1 ≤ v.next) && decide (v.next < 4611686018427387904) && decide (0 ≤ v.log) && decide (v.log ≤ v.next)
def chk (v : Ver) : Int := if headOk v && goodTabs v.next [] v.tabs then 0 else 9

def dropT : List Int → List Tb → Option (List Tb)
  | [], l => some l
  | n :: r, l => if l.any (fun t => t.num == n) then dropT r (l.filter fun t => !(t.num == n)) else none
def addT : List Tb → List Tb → Option (List Tb)
  | [], l => some l
  | t :: r, l => if l.any (fun u => u.num == t.num) then none else addT r (l ++ [t])

def ver0 : Ver := ⟨[], 0, 0, 0, 0⟩
def newV (v : Ver) (e : Ed) (m : List Tb) : Ver := ⟨srt m, max v.floor e.floor, max v.head e.head, max v.log e.log, max v.next e.next⟩

/-- What a version becomes, and the error. -/
def appl (v : Ver) (e : Ed) : Ver × Int :=
  if chk v ≠ 0 then (ver0, chk v) else
  if right e = false then (ver0, 1) else
  match dropT e.drop v.tabs with
  | none => (ver0, 4)
  | some l =>
    match addT e.add l with
    | none => (ver0, 3)
    | some m => if chk (newV v e m) = 0 then (newV v e m, 0) else (ver0, 11)

def TRows (w : World) (v : Value) (l : List Tb) : Prop := Reads w 5 v l.length (l.flatMap Tb.cells)

theorem TRows.below {w w' : World} {v : Value} {l : List Tb} (h : TRows w v l) (hb : Below w.heap.size w w') : TRows w' v l := Reads.below' h hb

theorem TRows.row {w : World} {a : Option Addr} {n cap : Nat} {l : List Tb} (h : TRows w (.slice a n cap) l) {k : Nat} {t : Tb} (hk : l[k]? = some t) :
    ∃ g off, a = some ⟨g, off, none⟩ ∧ g < w.heap.size ∧ w.cell? ⟨g, off + k * 5, none⟩ = some (.int .i64 t.num) ∧ w.cell? ⟨g, off + k * 5 + 1, none⟩ = some (.int .i64 t.lev) ∧ w.cell? ⟨g, off + k * 5 + 2, none⟩ = some (.int .i64 t.size) ∧
      w.cell? ⟨g, off + k * 5 + 3, none⟩ = some (.string t.first) ∧ w.cell? ⟨g, off + k * 5 + 4, none⟩ = some (.string t.last) := by
  have hc := fun j (hj : j < 5) => flat_cell Tb.cells 5 Tb.cells_length l k t hk j hj
  obtain ⟨rfl, _⟩ : n = l.length ∧ True := by
    obtain ⟨_, _, _, e, _⟩ := h
    cases e
    exact ⟨rfl, trivial⟩
  have h' : Reads w 5 (.slice a l.length cap) l.length (l.flatMap Tb.cells) := h
  obtain ⟨g, off, rfl, hg, c0⟩ := h'.at (hc 0 (by decide))
  obtain ⟨_, _, e1, _, c1⟩ := h'.at (hc 1 (by decide))
  cases e1
  obtain ⟨_, _, e1, _, c2⟩ := h'.at (hc 2 (by decide))
  cases e1
  obtain ⟨_, _, e1, _, c3⟩ := h'.at (hc 3 (by decide))
  cases e1
  obtain ⟨_, _, e1, _, c4⟩ := h'.at (hc 4 (by decide))
  cases e1
  exact ⟨g, off, rfl, hg, c0, by rw [Nat.add_assoc]; exact c1, by rw [Nat.add_assoc]; exact c2, by rw [Nat.add_assoc]; exact c3, by rw [Nat.add_assoc]; exact c4⟩

theorem all_snoc' {α : Type} {p : α → Bool} {l : List α} {k : Nat} {x : α} (h : l[k]? = some x) : (l.take (k + 1)).all p = ((l.take k).all p && p x) := by
  rw [List.take_add_one, List.all_append, h]
  simp

def ev (e : Ed) (a1 a2 : Option Addr) (n1 c1 n2 c2 : Nat) : Value := .agg #[.slice a1 n1 c1, .slice a2 n2 c2, .int .u64 (e.floor : Int), .int .u64 (e.head : Int), .int .i64 e.log, .int .i64 e.next]
def vv (v : Ver) (a1 : Option Addr) (n1 c1 : Nat) : Value := .agg #[.slice a1 n1 c1, .int .u64 (v.floor : Int), .int .u64 (v.head : Int), .int .i64 v.log, .int .i64 v.next]

theorem below_drewN {B : Nat} {w w' : World} (h : Below B w w') (q : Nat) : Below B w (w'.drewN q) := ⟨h.os, h.tape, h.output, h.size, h.block⟩

def ChRel (w : World) (b0 : Bool) (l : List Tb) (ov iv : Value) (wr : World) : Prop :=
  ∃ (k : Nat) (b : Bool), iv = .int .i64 (k : Int) ∧ k ≤ l.length ∧ ov = .bool b ∧ b = (b0 && (l.take k).all inT) ∧ Below w.heap.size w wr

theorem three_reads (w : World) (x y z : Int) : Reads (w.alloc (.cells #[.int .i64 x, .int .i64 y, .int .i64 z] 3)) 1 (.slice (some ⟨w.heap.size, 0, none⟩) 3 3) 3 (ncells [x, y, z]) := by
  refine ⟨rfl, _, _, rfl, Nat.le_refl _, by decide, fun j u hj => ⟨w.heap.size, 0, rfl, by simp, ?_⟩⟩
  rw [Nat.zero_add]
  refine new_cell _ _ _ rfl ?_
  match j, hj with
  | 0, hj => simpa [ncells] using hj
  | 1, hj => simpa [ncells] using hj
  | 2, hj => simpa [ncells] using hj
  | n + 3, hj => simp [ncells] at hj

theorem two_reads (w : World) (x y : Int) : Reads (w.alloc (.cells #[.int .i64 x, .int .i64 y] 3)) 1 (.slice (some ⟨w.heap.size, 0, none⟩) 2 2) 2 (ncells [x, y]) := by
  refine ⟨rfl, _, _, rfl, Nat.le_refl _, by decide, fun j u hj => ⟨w.heap.size, 0, rfl, by simp, ?_⟩⟩
  rw [Nat.zero_add]
  refine new_cell _ _ _ rfl ?_
  match j, hj with
  | 0, hj => simpa [ncells] using hj
  | 1, hj => simpa [ncells] using hj
  | n + 2, hj => simp [ncells] at hj

set_option maxRecDepth 100000 in
set_option maxHeartbeats 2000000 in
theorem check_any (w : World) (e : Ed) (a1 a2 : Option Addr) (n1 c1 n2 c2 : Nat) (h1 : TRows w (.slice a1 n1 c1) e.add) (h2 : Reads w 1 (.slice a2 n2 c2) n2 (ncells e.drop)) :
    Calls Try.prog 19 #[ev e a1 a2 n1 c1 n2 c2] w (GivesInt w (erE e)) := by
  obtain ⟨add, drop, fl, hd, log, next⟩ := e
  simp only [ev] at *
  have hw2 := fun W (hb : Below w.heap.size w W) => within_any W a2 n2 c2 drop (h2.below' hb)
  have hw1 : ∀ (W : World) (N : Nat), W.heap.size = N → Calls Try.prog 39 #[.slice (some ⟨N, 0, none⟩) 2 2] (W.alloc (.cells #[.int .i64 log, .int .i64 next] 3)) (NumPost (W.alloc (.cells #[.int .i64 log, .int .i64 next] 3)) ([log, next].all inB)) := by
    intro W N hN
    subst hN
    exact within_any _ _ 2 2 [log, next] (two_reads W log next)
  have hl1 : n1 ≤ c1 ∧ c1 ≤ maxLen ∧ add.length = n1 := by
    obtain ⟨_, _, _, e, q1, q2, _⟩ := h1
    cases e
    exact ⟨q1, q2, rfl⟩
  have hr : right ⟨add, drop, fl, hd, log, next⟩ = ((inB log && inB next && drop.all inB) && add.all inT) := rfl
  have hlist : [log, next].all inB = (inB log && inB next) := by simp
  rw [hlist] at hw1
  generalize hb1 : (inB log && inB next) = b1 at *
  generalize hb2 : drop.all inB = b2 at *
  clear hb1 hb2
  obtain ⟨hc1, hc2, hc3⟩ := hl1
  unfold maxLen at hc2
  have HL := Lib.hid hc3
  have HR := Lib.hid hr
  have H1 := Lib.hid h1
  clear hr h1 h2 hc3 hlist
  have HW2 := Lib.hid hw2
  have HW1 := Lib.hid hw1
  clear hw1 hw2
  go_enter Try.func19, Try.ntmps19
  go_wp2_with (go_at_call 39; go_must (refine (HW1.out _ _ (by simp)).mono ?_))
  rintro e w1 ⟨rfl, q, rfl⟩
  obtain ⟨b0, hb0⟩ : ∃ b0, b0 = (b1 && b2) := ⟨_, rfl⟩
  have HR0 := Lib.hid (show right ⟨add, drop, fl, hd, log, next⟩ = (b0 && add.all inT) by rw [hb0]; exact HR.out)
  have HBl := Lib.hid (below_drewN (((Below.refl w.heap.size w).alloc (Nat.le_refl _) (.cells #[.slice a1 n1 c1, .slice a2 n2 c2, .int .u64 (fl : Int), .int .u64 (hd : Int), .int .i64 log, .int .i64 next] 26)).alloc (by simp) (.cells #[.int .i64 log, .int .i64 next] 3)) q)
  clear HR
  cases b1 with
  | false =>
    go_wp2
    have HB0 := Lib.hid (show Value.bool false = Value.bool (b0 && (add.take 0).all inT) by rw [hb0]; rfl)
    clear hb0
    generalize ((w.alloc (.cells #[.slice a1 n1 c1, .slice a2 n2 c2, .int .u64 (fl : Int), .int .u64 (hd : Int), .int .i64 log, .int .i64 next] 26)).alloc (.cells #[.int .i64 log, .int .i64 next] 3)).drewN q = W0 at *
    go_loopw [3, 20] (fun ov iv wr => ChRel w b0 add ov iv wr) (fun _ iv _ => n1 - (intOf iv).toNat)
    case atStart => exact ⟨0, _, rfl, Nat.zero_le _, HB0.out, rfl, HBl.out⟩
    case round =>
      obtain ⟨k, b, rfl, hk, rfl, hbb, hb⟩ := hrel
      rw [HL.out] at hk
      have HBs := Lib.hid hb
      have HBb := Lib.hid hbb
      clear hbb
      by_cases hlt : k < n1
      · have hkI : (k : Int) < n1 := by omega
        obtain ⟨x, hx⟩ : ∃ x, add[k]? = some x := ⟨add[k]'(by rw [HL.out]; exact hlt), List.getElem?_eq_getElem _⟩
        obtain ⟨g, off, rfl, hg, k0, k1, k2, k3, k4⟩ := (TRows.below H1.out hb).row hx
        have hal := all_snoc' (p := inT) hx
        have HA := Lib.hid hal
        obtain ⟨xn, xl, xz, xf, xt⟩ := x
        simp only at k0 k1 k2 k3 k4
        clear hal hx hb
        cases b with
        | false =>
          go_wp2
          refine ⟨⟨k + 1, false, by go_num, by rw [HL.out]; omega, rfl, ?_, ?_⟩, by simp [intOf]; omega⟩
          · rw [HA.out, ← Bool.and_assoc, ← HBb.out]
            rfl
          · exact HBs.out.trans (((Below.refl _ wr).alloc (Nat.le_refl _) _).mono HBs.out.size)
        | true =>
          have hw3 : ∀ (W : World) (N : Nat), W.heap.size = N → Calls Try.prog 39 #[.slice (some ⟨N, 0, none⟩) 3 3] (W.alloc (.cells #[.int .i64 xn, .int .i64 xl, .int .i64 xz] 3)) (NumPost (W.alloc (.cells #[.int .i64 xn, .int .i64 xl, .int .i64 xz] 3)) ([xn, xl, xz].all inB)) := by
            intro W N hN
            subst hN
            exact within_any _ _ 3 3 [xn, xl, xz] (three_reads W xn xl xz)
          have hq3 : [xn, xl, xz].all inB = inT ⟨xn, xl, xz, xf, xt⟩ := by simp [inT, Bool.and_assoc]
          rw [hq3] at hw3
          clear hq3
          generalize inT ⟨xn, xl, xz, xf, xt⟩ = bx at *
          go_wp2_with (go_at_call 39; go_must (refine (hw3 _ _ (by simp)).mono ?_))
          rintro e w6 ⟨rfl, q6, rfl⟩
          go_wp2
          refine ⟨⟨k + 1, bx, by go_num, by rw [HL.out]; omega, rfl, ?_, ?_⟩, by simp [intOf]; omega⟩
          · rw [HA.out, ← Bool.and_assoc, ← HBb.out]
            rfl
          · exact below_drewN (HBs.out.trans ((((Below.refl _ wr).alloc (Nat.le_refl _) _).alloc (by simp) _).mono HBs.out.size)) _
      · obtain rfl : k = n1 := by omega
        rw [List.take_of_length_le (by rw [HL.out]; exact Nat.le_refl _)] at HBb
        have HE := Lib.hid (show erE ⟨add, drop, fl, hd, log, next⟩ = if b then 0 else 1 by unfold erE; rw [HR0.out, HBb.out])
        clear hb
        cases b with
        | true =>
          go_wp2
          go_ret
          exact ⟨by rw [HE.out]; rfl, HBs.out⟩
        | false =>
          go_wp2
          go_ret
          exact ⟨by rw [HE.out]; rfl, HBs.out⟩
  | true =>
    go_wp2_with (go_at_call 39; go_must (refine (HW2.out _ HBl.out).mono ?_))
    rintro e w1 ⟨rfl, q2, rfl⟩
    go_wp2
    have HB0 := Lib.hid (show Value.bool b2 = Value.bool (b0 && (add.take 0).all inT) by rw [hb0]; simp)
    clear hb0
    replace HBl := Lib.hid (below_drewN (((Below.refl w.heap.size w).alloc (Nat.le_refl _) (.cells #[.slice a1 n1 c1, .slice a2 n2 c2, .int .u64 (fl : Int), .int .u64 (hd : Int), .int .i64 log, .int .i64 next] 26)).alloc (by simp) (.cells #[.int .i64 log, .int .i64 next] 3)) (q + q2))
    generalize ((w.alloc (.cells #[.slice a1 n1 c1, .slice a2 n2 c2, .int .u64 (fl : Int), .int .u64 (hd : Int), .int .i64 log, .int .i64 next] 26)).alloc (.cells #[.int .i64 log, .int .i64 next] 3)).drewN (q + q2) = W0 at *
    go_loopw [3, 20] (fun ov iv wr => ChRel w b0 add ov iv wr) (fun _ iv _ => n1 - (intOf iv).toNat)
    case atStart => exact ⟨0, _, rfl, Nat.zero_le _, HB0.out, rfl, HBl.out⟩
    case round =>
      obtain ⟨k, b, rfl, hk, rfl, hbb, hb⟩ := hrel
      rw [HL.out] at hk
      have HBs := Lib.hid hb
      have HBb := Lib.hid hbb
      clear hbb
      by_cases hlt : k < n1
      · have hkI : (k : Int) < n1 := by omega
        obtain ⟨x, hx⟩ : ∃ x, add[k]? = some x := ⟨add[k]'(by rw [HL.out]; exact hlt), List.getElem?_eq_getElem _⟩
        obtain ⟨g, off, rfl, hg, k0, k1, k2, k3, k4⟩ := (TRows.below H1.out hb).row hx
        have hal := all_snoc' (p := inT) hx
        have HA := Lib.hid hal
        obtain ⟨xn, xl, xz, xf, xt⟩ := x
        simp only at k0 k1 k2 k3 k4
        clear hal hx hb
        cases b with
        | false =>
          go_wp2
          refine ⟨⟨k + 1, false, by go_num, by rw [HL.out]; omega, rfl, ?_, ?_⟩, by simp [intOf]; omega⟩
          · rw [HA.out, ← Bool.and_assoc, ← HBb.out]
            rfl
          · exact HBs.out.trans (((Below.refl _ wr).alloc (Nat.le_refl _) _).mono HBs.out.size)
        | true =>
          have hw3 : ∀ (W : World) (N : Nat), W.heap.size = N → Calls Try.prog 39 #[.slice (some ⟨N, 0, none⟩) 3 3] (W.alloc (.cells #[.int .i64 xn, .int .i64 xl, .int .i64 xz] 3)) (NumPost (W.alloc (.cells #[.int .i64 xn, .int .i64 xl, .int .i64 xz] 3)) ([xn, xl, xz].all inB)) := by
            intro W N hN
            subst hN
            exact within_any _ _ 3 3 [xn, xl, xz] (three_reads W xn xl xz)
          have hq3 : [xn, xl, xz].all inB = inT ⟨xn, xl, xz, xf, xt⟩ := by simp [inT, Bool.and_assoc]
          rw [hq3] at hw3
          clear hq3
          generalize inT ⟨xn, xl, xz, xf, xt⟩ = bx at *
          go_wp2_with (go_at_call 39; go_must (refine (hw3 _ _ (by simp)).mono ?_))
          rintro e w6 ⟨rfl, q6, rfl⟩
          go_wp2
          refine ⟨⟨k + 1, bx, by go_num, by rw [HL.out]; omega, rfl, ?_, ?_⟩, by simp [intOf]; omega⟩
          · rw [HA.out, ← Bool.and_assoc, ← HBb.out]
            rfl
          · exact below_drewN (HBs.out.trans ((((Below.refl _ wr).alloc (Nat.le_refl _) _).alloc (by simp) _).mono HBs.out.size)) _
      · obtain rfl : k = n1 := by omega
        rw [List.take_of_length_le (by rw [HL.out]; exact Nat.le_refl _)] at HBb
        have HE := Lib.hid (show erE ⟨add, drop, fl, hd, log, next⟩ = if b then 0 else 1 by unfold erE; rw [HR0.out, HBb.out])
        clear hb
        cases b with
        | true =>
          go_wp2
          go_ret
          exact ⟨by rw [HE.out]; rfl, HBs.out⟩
        | false =>
          go_wp2
          go_ret
          exact ⟨by rw [HE.out]; rfl, HBs.out⟩
end Go.Proofs.Ythjimldojdhccaa
