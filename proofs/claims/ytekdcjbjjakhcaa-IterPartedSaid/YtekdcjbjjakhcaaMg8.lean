/- What the proof stands on, part 8. -/
import Derived.Test.YtekdcjbjjakhcaaMg7
import Derived.RegionTactic
/- drop.At, whole. -/
namespace Go.Proofs.Ytekdcjbjjakhcaa
open Go Go.RowKit

def atOut (f : Nat) (ks : List ByteArray) : List ByteArray := match decs ks with
  | none => []
  | some es => if rises ks then keysOf (gF false true f (ks.zip es)).1 else []

def AtPost (w : World) (f : Nat) (ks : List ByteArray) (e : Ending) (w' : World) : Prop :=
  ∃ a cap, e = .returned (.tuple #[.slice a (atOut f ks).length cap, .int .i64 (errOf ks : Int)]) ∧ Reads w' 1 (.slice a (atOut f ks).length cap) (atOut f ks).length (scells (atOut f ks)) ∧ Below w.heap.size w w'

set_option maxRecDepth 100000 in
set_option maxHeartbeats 4000000 in
theorem firstat_any (N : Nat) (w : World) (a : Option Addr) (n cap : Nat) (ks : List ByteArray) (f : Nat) (hr : ∀ w', Below N w w' → Reads w' 1 (.slice a n cap) n (scells ks)) (hsz : ∀ k ∈ ks, k.size ≤ 1000000) (hn : n ≤ 1000)
    (hs : w.heap.size = N + 1) (b0 : w.heap[N]? = some (Obj.cells #[.slice none 0 0] 26 (0, 0))) :
    Calls Try.prog 36 #[.slice a n cap, .int .u64 (f : Int), skipC, tellC N] w (EachPost N w ks (fun xs w' => AB N f (gF false true f xs) w')) := by
  have hmf : ∀ (fn : Fn) (first cap : Array Value) (w : World), (Instr.makeFunc fn first cap).run Try.prog w = .ok (.func fn first cap) w := fun _ _ _ _ => rfl
  have HR := Lib.hid hr
  have HS := Lib.hid hsz
  have B0 := Lib.hid b0
  clear hr hsz b0
  have hkb : ∀ w5, (∀ i, i < N + 1 → w5.heap[i]? = w.heap[i]?) → w5.heap[N + 1]? = some (Obj.cells #[.int .u64 (f : Int)] 23 (0, 0)) → w5.heap[N + 2]? = some (Obj.cells #[skipC] 69 (0, 0)) → w5.heap[N + 3]? = some (Obj.cells #[tellC N] 69 (0, 0)) →
      w5.heap[N + 4]? = some (Obj.cells #[.string ⟨#[]⟩] 9 (0, 0)) → w5.heap[N + 5]? = some (Obj.cells #[.bool false] 4 (0, 0)) → w5.heap.size = N + 6 → AB N f (gF false true f []) w5 := fun w5 h0 h3 h4 h5 h6 h7 hs5 =>
    ⟨.slice none 0 0, ⟨#[]⟩, false, .inl ⟨rfl, rfl⟩, ⟨(h0 _ (by omega)).trans B0.out, h3, h4, h5, h6, h7⟩, owns_nil _ _ _ _, by omega⟩
  have HKB := Lib.hid hkb
  have hvis : ∀ es, decs ks = some es → rises ks → Visits N (ks.zip es) 51 #[.pointer (some ⟨N + 1, 0, none⟩), .pointer (some ⟨N + 1 + 1, 0, none⟩), .pointer (some ⟨N + 1 + 1 + 1 + 1 + 1, 0, none⟩), .pointer (some ⟨N + 1 + 1 + 1 + 1, 0, none⟩), .pointer (some ⟨N + 1 + 1 + 1, 0, none⟩)] (fun xs w' => AB N f (gF false true f xs) w') := fun es hd _ => by
    refine ⟨enter51, fun i x w' hx hJ _ => ?_⟩
    have hlen : (gF false true f ((ks.zip es).take i)).1.length ≤ 100000 := by
      have h1 := gF_length false true f ((ks.zip es).take i)
      have h2 := (HR.out w (Below.refl _ _)).1
      rw [scells_length] at h2
      rw [List.length_take, List.length_zip] at h1
      omega
    have hk := at51 N f _ w' x hJ hlen
    rw [gF_take false true f _ i x hx]
    exact hk.mono fun e w'' h => h
  have HV := Lib.hid hvis
  clear hkb hvis
  have h1 := heap_alloc_new w (.cells #[.int .u64 (f : Int)] 23)
  have s1 : (w.alloc (.cells #[.int .u64 (f : Int)] 23)).heap.size = N + 2 := by simp; omega
  have k1 : ∀ i, i < N + 1 → (w.alloc (.cells #[.int .u64 (f : Int)] 23)).heap[i]? = w.heap[i]? := fun i hi => heap_alloc_old w _ (by omega)
  rw [hs] at h1
  unfold skipC tellC
  go_enter Try.func36, Try.ntmps36
  go_wp2_with (go_at_call 40; fail)
  generalize hw1 : w.alloc (.cells #[.int .u64 (f : Int)] 23) = w1 at *
  have h2 := heap_alloc_new w1 (.cells #[skipC] 69)
  have s2 : (w1.alloc (.cells #[skipC] 69)).heap.size = N + 3 := by simp; omega
  have k2 : ∀ i, i < N + 2 → (w1.alloc (.cells #[skipC] 69)).heap[i]? = w1.heap[i]? := fun i hi => heap_alloc_old w1 _ (by omega)
  rw [s1] at h2
  change Calls _ _ _ ((((w1.alloc (.cells #[skipC] 69)).alloc (.cells #[tellC N] 69)).alloc (.cells #[.string ⟨#[]⟩] 9)).alloc (.cells #[.bool false] 4)) _
  generalize hw2 : w1.alloc (.cells #[skipC] 69) = w2 at *
  have h3 := heap_alloc_new w2 (.cells #[tellC N] 69)
  have s3 : (w2.alloc (.cells #[tellC N] 69)).heap.size = N + 4 := by simp; omega
  have k3 : ∀ i, i < N + 3 → (w2.alloc (.cells #[tellC N] 69)).heap[i]? = w2.heap[i]? := fun i hi => heap_alloc_old w2 _ (by omega)
  rw [s2] at h3
  generalize hw3 : w2.alloc (.cells #[tellC N] 69) = w3 at *
  have h4 := heap_alloc_new w3 (.cells #[.string ⟨#[]⟩] 9)
  have s4 : (w3.alloc (.cells #[.string ⟨#[]⟩] 9)).heap.size = N + 5 := by simp; omega
  have k4 : ∀ i, i < N + 4 → (w3.alloc (.cells #[.string ⟨#[]⟩] 9)).heap[i]? = w3.heap[i]? := fun i hi => heap_alloc_old w3 _ (by omega)
  rw [s3] at h4
  generalize hw4 : w3.alloc (.cells #[.string ⟨#[]⟩] 9) = w4 at *
  have h5 := heap_alloc_new w4 (.cells #[.bool false] 4)
  have s5 : (w4.alloc (.cells #[.bool false] 4)).heap.size = N + 6 := by simp; omega
  have k5 : ∀ i, i < N + 5 → (w4.alloc (.cells #[.bool false] 4)).heap[i]? = w4.heap[i]? := fun i hi => heap_alloc_old w4 _ (by omega)
  rw [s4] at h5
  have hbw : Below N w (w4.alloc (.cells #[.bool false] 4)) := by
    rw [← hw4, ← hw3, ← hw2, ← hw1]
    refine (((((Below.refl N w).alloc (by omega) _).alloc ?_ _).alloc ?_ _).alloc ?_ _).alloc ?_ _ <;> (simp; try omega)
  generalize hw5 : w4.alloc (.cells #[.bool false] 4) = w5 at *
  have hK := HKB.out w5 (fun i hi => (k5 i (by omega)).trans ((k4 i (by omega)).trans ((k3 i (by omega)).trans ((k2 i (by omega)).trans (k1 i hi)))))
    ((k5 _ (by omega)).trans ((k4 _ (by omega)).trans ((k3 _ (by omega)).trans ((k2 _ (by omega)).trans h1)))) ((k5 _ (by omega)).trans ((k4 _ (by omega)).trans ((k3 _ (by omega)).trans h2)))
    ((k5 _ (by omega)).trans ((k4 _ (by omega)).trans h3)) ((k5 _ (by omega)).trans h4) h5 s5
  have hea := each_any N w5 a n cap ks (fun w' hb => HR.out w' (hbw.trans hb)) HS.out hn (by omega) _ _ _ (fun w' hb => hK.below hb) HV.out
  have HEa := Lib.hid hea
  have HBw := Lib.hid hbw
  clear hea hbw hK HKB HV hw1 hw2 hw3 hw4 hw5 h1 h2 h3 h4 h5 s1 s2 s3 s4 s5 k1 k2 k3 k4 k5 hs
  refine HEa.out.mono ?_
  rintro e w6 ⟨rfl, hb6, hd6⟩
  have HB6 := Lib.hid (HBw.out.trans hb6)
  have HD6 := Lib.hid hd6
  clear hb6 hd6
  go_wp2
  go_ret
  exact ⟨rfl, HB6.out, HD6.out⟩

theorem atOut_none {f : Nat} {ks : List ByteArray} (h : decs ks = none ∨ ¬ rises ks) : atOut f ks = [] := by
  unfold atOut
  rcases h with h | h
  · rw [h]
  · cases decs ks with
    | none => rfl
    | some es => show (if rises ks then _ else _) = _; rw [if_neg h]

theorem atOut_some {f : Nat} {ks : List ByteArray} {es : List Ent} (h : decs ks = some es) (hr : rises ks) : atOut f ks = keysOf (gF false true f (ks.zip es)).1 := by
  unfold atOut
  rw [h]
  show (if rises ks then _ else _) = _
  rw [if_pos hr]

/-- What Keep has at last. -/
theorem at_out {N f : Nat} {ks : List ByteArray} {w : World} (h : (∃ es, decs ks = some es ∧ rises ks ∧ AB N f (gF false true f (ks.zip es)) w) ∨ ((decs ks = none ∨ ¬ rises ks) ∧ AB N f (gF false true f []) w)) :
    ∃ a cap, w.heap[N]? = some (Obj.cells #[.slice a (atOut f ks).length cap] 26 (0, 0)) ∧ Reads w 1 (.slice a (atOut f ks).length cap) (atOut f ks).length (scells (atOut f ks)) := by
  rcases h with ⟨es, hd, hr, lv, last, sm, _, h2, h3, _⟩ | ⟨hn, lv, last, sm, _, h2, h3, _⟩
  · rw [atOut_some hd hr]
    have hlen : (keysOf (gF false true f (ks.zip es)).1).length = (gF false true f (ks.zip es)).1.length := List.length_map ..
    rw [hlen]
    have hb1 := h2.b0
    obtain ⟨a, cap, rfl, _, _⟩ := (ownsRow.reads h3).le
    exact ⟨a, cap, hb1, ownsRow.reads h3⟩
  · rw [atOut_none hn]
    have hb1 := h2.b0
    have h3' : w.ownsRow (N + 6) 9 1 lv 0 (scells []) := h3
    obtain ⟨a, cap, rfl, _, _⟩ := (ownsRow.reads h3').le
    exact ⟨a, cap, hb1, ownsRow.reads h3'⟩

set_option maxRecDepth 100000 in
set_option maxHeartbeats 4000000 in
theorem at_any18 (w : World) (a : Option Addr) (n cap : Nat) (ks : List ByteArray) (f : Nat) (hr : Reads w 1 (.slice a n cap) n (scells ks)) (hsz : ∀ k ∈ ks, k.size ≤ 1000000) (hn : n ≤ 1000) :
    Calls Try.prog 15 #[.slice a n cap, .int .u64 (f : Int)] w (AtPost w f ks) := by
  have hmf : ∀ (fn : Fn) (first cap : Array Value) (w : World), (Instr.makeFunc fn first cap).run Try.prog w = .ok (.func fn first cap) w := fun _ _ _ _ => rfl
  have HR := Lib.hid hr
  have HS := Lib.hid hsz
  clear hr hsz
  go_enter Try.func15, Try.ntmps15
  go_wp2_with (go_at_call 36; fail)
  change Calls _ _ #[_, _, skipC, tellC w.heap.size] (w.alloc (.cells #[.slice none 0 0] 26)) _
  have h1 := heap_alloc_new w (.cells #[.slice none 0 0] 26)
  have s1 : (w.alloc (.cells #[.slice none 0 0] 26)).heap.size = w.heap.size + 1 := by simp
  have hb1 : Below w.heap.size w (w.alloc (.cells #[.slice none 0 0] 26)) := (Below.refl _ _).alloc (Nat.le_refl _) _
  generalize hN : w.heap.size = N at *
  generalize w.alloc (.cells #[.slice none 0 0] 26) = w3 at *
  have hfi := firstat_any N w3 a n cap ks f (fun w' hb => by subst hN; exact HR.out.below' (hb1.trans hb)) HS.out hn s1 h1
  have HFi := Lib.hid hfi
  have HB3 := Lib.hid hb1
  clear hfi hb1 h1 s1
  refine HFi.out.mono ?_
  rintro e w6 ⟨rfl, hb6, hd6⟩
  obtain ⟨oa, ocap, hcell, hrd⟩ := at_out hd6
  have HB6 := Lib.hid (HB3.out.trans hb6)
  have HW := Lib.hid hrd
  have q1 := Lib.cell_of_heap hcell 0
  simp at q1
  have hf0 : AtPost w f ks (.returned (.tuple #[.slice oa (atOut f ks).length ocap, .int .i64 (errOf ks : Int)])) w6 := ⟨oa, ocap, rfl, HW.out, by rw [hN]; exact HB6.out⟩
  have HFin := Lib.hid hf0
  clear hb6 hd6 hcell hrd hf0
  generalize (atOut f ks).length = m at *
  generalize errOf ks = er at *
  go_wp2
  go_ret2
  exact HFin.out
end Go.Proofs.Ytekdcjbjjakhcaa

/- What is kept is kept again, and tells the same. -/
namespace Go.Proofs.Ytekdcjbjjakhcaa
open Go Go.RowKit

/-- Rows of inner keys that rise, and their entries. -/
structure RowsOk (xs : List KE) : Prop where
  up : rises (xs.map (·.1))
  one : ∀ x ∈ xs, x.1 = innB x.2 ∧ x.2.rev < 18446744073709551616

theorem RowsOk.keys {xs : List KE} (h : RowsOk xs) : xs.map (·.1) = (xs.map (·.2)).map innB := by
  rw [List.map_map]
  exact List.map_congr_left fun x hx => (h.one x hx).1

theorem zip_parts (xs : List KE) : (xs.map (·.1)).zip (xs.map (·.2)) = xs := by
  induction xs with
  | nil => rfl
  | cons x t ih => simp only [List.map_cons, List.zip_cons_cons, ih]

theorem RowsOk.told {xs : List KE} (h : RowsOk xs) : decs (xs.map (·.1)) = some (xs.map (·.2)) ∧ mono xs := by
  have hv : ∀ e ∈ xs.map (·.2), e.rev < 18446744073709551616 := fun e he => by
    obtain ⟨x, hx, rfl⟩ := List.mem_map.1 he
    exact (h.one x hx).2
  have hu := h.up
  rw [h.keys] at hu
  obtain ⟨h1, h2⟩ := inn_mono hu hv
  rw [← h.keys] at h1 h2
  rw [zip_parts] at h2
  exact ⟨h1, h2⟩

theorem RowsOk.sub {xs ys : List KE} (h : RowsOk xs) (k : ys.Sublist xs) : RowsOk ys :=
  ⟨List.Pairwise.sublist (k.map _) h.up, fun x hx => h.one x (k.subset hx)⟩

theorem RowsOk.err {xs : List KE} (h : RowsOk xs) : errOf (xs.map (·.1)) = 0 := by rw [errOf_some h.told.1, if_pos h.up]

theorem RowsOk.keep {xs : List KE} (h : RowsOk xs) (f : Nat) (b : Bool) : keepOut f b (xs.map (·.1)) = (gS true b f [] xs).map (·.1) := by
  rw [keepOut_some h.told.1 h.up, zip_parts, gF_eq _ _ _ _ h.told.2]

theorem RowsOk.at_ {xs : List KE} (h : RowsOk xs) (f : Nat) : atOut f (xs.map (·.1)) = keysOf (gS false true f [] xs) := by
  rw [atOut_some h.told.1 h.up, zip_parts, gF_eq _ _ _ _ h.told.2]

theorem rows_ok {es : List Ent} (hv : ∀ x ∈ es, x.key.size ≤ 100 ∧ x.rev < 18446744073709551616) : ∃ xs, rowsL es = xs.map (·.1) ∧ RowsOk xs ∧ ∀ x ∈ xs, x.2 ∈ es := by
  obtain ⟨h1, _, h3⟩ := rowsL_all es
  have go : ∀ (l : List ByteArray), (∀ k ∈ l, ∃ x ∈ es, k = innB x) → ∃ xs : List KE, l = xs.map (·.1) ∧ ∀ x ∈ xs, x.1 = innB x.2 ∧ x.2 ∈ es := by
    intro l
    induction l with
    | nil => intro _; exact ⟨[], rfl, fun x hx => by cases hx⟩
    | cons k t ih =>
      intro h
      obtain ⟨x, hx, he⟩ := h k (by simp)
      obtain ⟨xs, e1, e2⟩ := ih (fun y hy => h y (by simp [hy]))
      refine ⟨(k, x) :: xs, by simp [e1], fun y hy => ?_⟩
      rcases List.mem_cons.1 hy with rfl | hy
      · exact ⟨he, hx⟩
      · exact e2 y hy
  obtain ⟨xs, e1, e2⟩ := go _ h3
  refine ⟨xs, e1, ⟨e1 ▸ h1, fun x hx => ⟨(e2 x hx).1, (hv _ (e2 x hx).2).2⟩⟩, fun x hx => (e2 x hx).2⟩

structure DropFacts (f f' : Nat) (b : Bool) (K : List ByteArray) : Prop where
  err : errOf K = 0
  errA : errOf (keepOut f b K) = 0
  same : keepOut f b (keepOut f b K) = keepOut f b K
  more : keepOut f' b (keepOut f b K) = keepOut f' b K
  len : (keepOut f' b K).length ≤ (keepOut f b K).length
  short : (keepOut f b K).length ≤ K.length
  size : ∀ k ∈ keepOut f b K, k.size ≤ 1000000
  tell : atOut f' (keepOut f b K) = atOut f' K

theorem drop_facts {es : List Ent} (hv : ∀ x ∈ es, x.key.size ≤ 100 ∧ x.rev < 18446744073709551616) {f f' : Nat} (h : f ≤ f') (b : Bool) : DropFacts f f' b (rowsL es) := by
  obtain ⟨xs, e1, hok, _⟩ := rows_ok hv
  have hsz := rowsL_size (es := es) (fun x hx => (hv x hx).1)
  rw [e1] at hsz ⊢
  have hA : RowsOk (gS true b f [] xs) := hok.sub (gS_sub _ _ _ _ _)
  have hkk := g_keep true b b f f' h (fun h => h) xs [] [] [] hok.told.2 (fun p hp => hp) (fun p hp => hp) (fun p hp => by cases hp)
  have hk0 := g_keep true b b f f (Nat.le_refl _) (fun h => h) xs [] [] [] hok.told.2 (fun p hp => hp) (fun p hp => hp) (fun p hp => by cases hp)
  have hat := g_keep false b true f f' h (fun _ => rfl) xs [] [] [] hok.told.2 (fun p hp => hp) (fun p hp => hp) (fun p hp => by cases hp)
  have hsub := gS_sub true b f [] xs
  refine ⟨hok.err, ?_, ?_, ?_, ?_, ?_, ?_, ?_⟩
  · rw [hok.keep, hA.err]
  · rw [hok.keep, hA.keep, hk0]
  · rw [hok.keep, hA.keep, hkk, ← hok.keep]
  · rw [hok.keep, hok.keep, ← hkk, List.length_map, List.length_map]
    exact (gS_sub true b f' [] _).length_le
  · rw [hok.keep, List.length_map, List.length_map]
    exact hsub.length_le
  · rw [hok.keep]
    exact fun k hk => hsz k ((hsub.map _).subset hk)
  · rw [hok.keep, hA.at_, hat, ← hok.at_]
end Go.Proofs.Ytekdcjbjjakhcaa

/- The newest version of a Key: of rows that are as they should be. -/
namespace Go.Proofs.Ytekdcjbjjakhcaa
open Go Go.RowKit

/-- The first of that Key whose revision isn't greater. -/
def getK (xs : List KE) (key : ByteArray) (r : Nat) : Option Ent := (xs.find? fun x => decide (x.2.key = key) && decide (x.2.rev ≤ r)).map (·.2)

theorem getK_cons (x : KE) (t : List KE) (key : ByteArray) (r : Nat) : getK (x :: t) key r = if x.2.key = key ∧ x.2.rev ≤ r then some x.2 else getK t key r := by
  unfold getK
  rw [List.find?_cons]
  by_cases h : x.2.key = key ∧ x.2.rev ≤ r
  · rw [if_pos h, decide_eq_true h.1, decide_eq_true h.2]
    rfl
  · rw [if_neg h]
    have : (decide (x.2.key = key) && decide (x.2.rev ≤ r)) = false := by
      by_cases h1 : x.2.key = key
      · rw [decide_eq_false (fun h2 => h ⟨h1, h2⟩), Bool.and_false]
      · rw [decide_eq_false h1, Bool.false_and]
    rw [this]

/-- What iter.Get makes of what comes first. -/
def pickK (key : ByteArray) : Option Ent → Option Ent
  | none => none
  | some x => if x.key = key then some x else none

theorem get_first {xs : List KE} (h : RowsOk xs) (key : ByteArray) (r : Nat) (hr : r < 18446744073709551616) : pickK key ((sk (xs.map (·.1)) (newestB key r)).bind dec) = getK xs key r := by
  have hm := h.told.2
  have h1 := h.one
  clear h
  induction xs with
  | nil => rfl
  | cons x t ih =>
    have hp := List.pairwise_cons.1 hm
    obtain ⟨e1, e2⟩ := h1 x (by simp)
    have hb := bl_newest x.2 key r e2 hr
    rw [← e1] at hb
    unfold sk
    rw [List.map_cons, List.find?_cons, hb, getK_cons]
    by_cases hk : x.2.key = key
    · rw [hk, bl_irrefl, decide_eq_true rfl, Bool.false_or, Bool.true_and]
      by_cases hrr : x.2.rev ≤ r
      · rw [decide_eq_false (by omega), if_pos ⟨rfl, hrr⟩]
        show pickK key (dec x.1) = _
        rw [e1, dec_inn e2]
        show (if x.2.key = key then _ else _) = _
        rw [if_pos hk]
      · rw [decide_eq_true (by omega), if_neg (fun h => hrr h.2)]
        exact ih hp.2 (fun y hy => h1 y (by simp [hy]))
    · rw [decide_eq_false hk, Bool.false_and, Bool.or_false, if_neg (fun h => hk h.1)]
      cases hlt : bl x.2.key key with
      | true => exact ih hp.2 (fun y hy => h1 y (by simp [hy]))
      | false =>
        show pickK key (dec x.1) = _
        rw [e1, dec_inn e2]
        show (if x.2.key = key then _ else _) = _
        rw [if_neg hk]
        symm
        unfold getK
        rw [Option.map_eq_none_iff, List.find?_eq_none]
        intro y hy hyk
        simp at hyk
        have hxy := (hp.1 y hy).1
        have hgt : bl key x.2.key = true := bl_ge hlt hk
        rw [hyk.1, hgt] at hxy
        cases hxy
end Go.Proofs.Ytekdcjbjjakhcaa

/- The Keys that are there, told one by one. -/
namespace Go.Proofs.Ytekdcjbjjakhcaa
open Go Go.RowKit

theorem head_dropWhile {α : Type} (p : α → Bool) : ∀ (l : List α), (l.dropWhile p).head? = l.find? (fun x => !p x)
  | [] => rfl
  | a :: t => by
    rw [List.dropWhile_cons, List.find?_cons]
    cases p a with
    | true => exact head_dropWhile p t
    | false => rfl

theorem mem_takeWhile {α : Type} {p : α → Bool} {x : α} : ∀ {l : List α}, x ∈ l.takeWhile p → p x = true
  | [], h => by cases h
  | a :: t, h => by
    rw [List.takeWhile_cons] at h
    split at h
    · rcases List.mem_cons.1 h with rfl | h
      · assumption
      · exact mem_takeWhile h
    · cases h

def leK (k : ByteArray) (x : KE) : Bool := bl x.2.key k || decide (x.2.key = k)
def dropLe (D : List KE) (k : ByteArray) : List KE := D.dropWhile (leK k)

theorem gS_seen (ab b : Bool) (r : Nat) (D : List KE) : ∀ (S T : List ByteArray), (∀ x ∈ D, x.2.key ∈ S ↔ x.2.key ∈ T) → gS ab b r S D = gS ab b r T D := by
  induction D with
  | nil => intro S T _; rfl
  | cons x t ih =>
    intro S T h
    have ht : ∀ y ∈ t, y.2.key ∈ S ↔ y.2.key ∈ T := fun y hy => h y (by simp [hy])
    have hx : ∀ y ∈ t, y.2.key ∈ x.2.key :: S ↔ y.2.key ∈ x.2.key :: T := fun y hy => by simp [ht y hy]
    rw [gS_cons, gS_cons, ih S T ht, ih _ _ hx]
    by_cases hm : x.2.key ∈ S
    · rw [if_pos hm, if_pos ((h x (by simp)).1 hm)]
    · rw [if_neg hm, if_neg (fun h' => hm ((h x (by simp)).2 h'))]

theorem dropLe_above {D : List KE} (h : mono D) (k : ByteArray) : ∀ y ∈ dropLe D k, bl k y.2.key = true := by
  induction D with
  | nil => intro y hy; cases hy
  | cons x t ih =>
    have hp := List.pairwise_cons.1 h
    intro y hy
    unfold dropLe at hy
    rw [List.dropWhile_cons] at hy
    split at hy
    · exact ih hp.2 y hy
    · rename_i hx
      unfold leK at hx
      simp at hx
      have hxk : bl k x.2.key = true := bl_ge hx.1 hx.2
      rcases List.mem_cons.1 hy with rfl | hy
      · exact hxk
      · have h1 := (hp.1 y hy).1
        by_cases he : y.2.key = x.2.key
        · rw [he]; exact hxk
        · exact bl_trans hxk (bl_ge h1 he)

theorem dropLe_cons (x : KE) (t : List KE) (k : ByteArray) : dropLe (x :: t) k = if leK k x then dropLe t k else x :: t := by
  unfold dropLe
  rw [List.dropWhile_cons]

theorem gS_skip (r : Nat) (k : ByteArray) (D : List KE) : ∀ (S : List ByteArray), k ∈ S → (∀ x ∈ D, bl x.2.key k = false) → gS false true r S D = gS false true r S (dropLe D k) := by
  induction D with
  | nil => intro S _ _; rfl
  | cons x t ih =>
    intro S hk hx
    have h0 := hx x (by simp)
    rw [dropLe_cons]
    by_cases he : x.2.key = k
    · have hl : leK k x = true := by unfold leK; rw [decide_eq_true he, Bool.or_true]
      rw [hl, if_pos rfl, gS_cons, ih S hk (fun y hy => hx y (by simp [hy]))]
      split
      · rfl
      · rw [if_pos (by rw [he]; exact hk)]
    · have hl : leK k x = false := by unfold leK; rw [h0, decide_eq_false he]; rfl
      rw [hl, if_neg (by decide)]

/-- What is told of a Key. -/
def tellOne (k : ByteArray) : Option Ent → List ByteArray
  | none => []
  | some y => if y.del then [] else [k]

def tellsK (r : Nat) (D : List KE) : List ByteArray := keysOf (gS false true r [] D)

theorem gS_group (r : Nat) (k : ByteArray) (D : List KE) : ∀ (S : List ByteArray), mono D → k ∉ S → (∀ x ∈ D, bl x.2.key k = false) → keysOf (gS false true r S D) = tellOne k (getK D k r) ++ keysOf (gS false true r S (dropLe D k)) := by
  induction D with
  | nil => intro S _ _ _; rfl
  | cons x t ih =>
    intro S hm hk hx
    have hp := List.pairwise_cons.1 hm
    have h0 := hx x (by simp)
    have hxt : ∀ y ∈ t, bl y.2.key k = false := fun y hy => hx y (by simp [hy])
    rw [dropLe_cons]
    by_cases he : x.2.key = k
    · have hl : leK k x = true := by unfold leK; rw [decide_eq_true he, Bool.or_true]
      rw [hl, if_pos rfl, gS_cons, getK_cons]
      by_cases hr : r < x.2.rev
      · rw [if_pos hr, if_neg (by decide), if_neg (fun h => by omega)]
        exact ih S hp.2 hk hxt
      · have hsame : gS false true r (x.2.key :: S) t = gS false true r S (dropLe t k) := by
          rw [gS_skip r k t _ (by rw [he]; simp) hxt]
          refine gS_seen _ _ _ _ _ _ (fun y hy => ?_)
          have := dropLe_above hp.2 k y hy
          have hne : y.2.key ≠ k := fun e => bl_ne this e.symm
          rw [he]
          simp [hne]
        have hif : (if x.2.key = k ∧ x.2.rev ≤ r then some x.2 else getK t k r) = some x.2 := if_pos ⟨he, by omega⟩
        rw [if_neg hr, if_neg (by rw [he]; exact hk), hif, hsame]
        unfold tellOne
        cases hd : x.2.del with
        | true => simp [hd]
        | false => simp [keysOf, he, hd]
    · have hl : leK k x = false := by unfold leK; rw [h0, decide_eq_false he]; rfl
      have hg : getK (x :: t) k r = none := by
        unfold getK
        rw [Option.map_eq_none_iff, List.find?_eq_none]
        intro y hy hyk
        simp at hyk
        have hkx : bl k x.2.key = true := bl_ge h0 he
        rcases List.mem_cons.1 hy with rfl | hy
        · exact he hyk.1
        · have := (hp.1 y hy).1
          rw [hyk.1, hkx] at this
          cases this
      rw [hl, if_neg (by decide), hg]
      rfl

theorem tells_group {r : Nat} {x : KE} {t : List KE} (hm : mono (x :: t)) : tellsK r (x :: t) = tellOne x.2.key (getK (x :: t) x.2.key r) ++ tellsK r (dropLe (x :: t) x.2.key) := by
  refine gS_group r x.2.key (x :: t) [] hm (by simp) (fun y hy => ?_)
  rcases List.mem_cons.1 hy with rfl | hy
  · exact bl_irrefl _
  · exact (List.rel_of_pairwise_cons hm hy).1

theorem tells_mem {r : Nat} {D : List KE} {k : ByteArray} (h : k ∈ tellsK r D) : ∃ x ∈ D, x.2.key = k := by
  obtain ⟨x, hx, rfl⟩ := List.mem_map.1 h
  exact ⟨x, (gS_sub _ _ _ _ _).subset hx, rfl⟩

theorem dropLe_less (x : KE) (t : List KE) : (dropLe (x :: t) x.2.key).length ≤ t.length := by
  rw [dropLe_cons]
  have : leK x.2.key x = true := by unfold leK; simp
  rw [this, if_pos rfl]
  exact (List.dropWhile_sublist _).length_le

theorem mono_sub {D E : List KE} (h : mono D) (k : E.Sublist D) : mono E := List.Pairwise.sublist k h

/-- What is not less. -/
def xsuf (xs : List KE) (at' : ByteArray) : List KE := xs.dropWhile fun x => bl x.1 at'

theorem sk_suf (xs : List KE) (at' : ByteArray) : sk (xs.map (·.1)) at' = (xsuf xs at').head?.map (·.1) := by
  unfold xsuf sk
  rw [head_dropWhile]
  induction xs with
  | nil => rfl
  | cons x t ih =>
    rw [List.map_cons, List.find?_cons, List.find?_cons]
    cases bl x.1 at' with
    | false => rfl
    | true => exact ih

/-- Keys ahead of a place are less than those behind it. -/
def Bnd (xs : List KE) (at' : ByteArray) : Prop := ∀ a ∈ xs, ∀ x ∈ xs, bl a.1 at' = true → bl x.1 at' = false → bl a.2.key x.2.key = true

theorem bnd_past {xs : List KE} (h : RowsOk xs) (k : ByteArray) : Bnd xs (pastB k) := by
  intro a ha x hx h1 h2
  rw [(h.one a ha).1, bl_past] at h1
  rw [(h.one x hx).1, bl_past] at h2
  simp at h1 h2
  have hkx : bl k x.2.key = true := bl_ge h2.1 h2.2
  rcases h1 with h1 | h1
  · exact bl_trans h1 hkx
  · rw [h1]; exact hkx

theorem bnd_newest {xs : List KE} (h : RowsOk xs) (k : ByteArray) : Bnd xs (newestB k 18446744073709551615) := by
  intro a ha x hx h1 h2
  have ha2 := (h.one a ha).2
  have hx2 := (h.one x hx).2
  rw [(h.one a ha).1, bl_newest _ _ _ ha2 (by decide)] at h1
  rw [(h.one x hx).1, bl_newest _ _ _ hx2 (by decide)] at h2
  rw [decide_eq_false (show ¬ 18446744073709551615 < a.2.rev by omega), Bool.and_false, Bool.or_false] at h1
  rw [decide_eq_false (show ¬ 18446744073709551615 < x.2.rev by omega), Bool.and_false, Bool.or_false] at h2
  by_cases he : x.2.key = k
  · rw [he]; exact h1
  · exact bl_trans h1 (bl_ge h2 he)

theorem drop_drop {α : Type} (p q : α → Bool) : ∀ (l : List α), (∀ a ∈ l, p a = true → q a = true) → (l.dropWhile p).dropWhile q = l.dropWhile q
  | [], _ => rfl
  | a :: t, h => by
    rw [List.dropWhile_cons]
    split
    · rename_i hp
      rw [List.dropWhile_cons, if_pos (h a (by simp) hp)]
      exact drop_drop p q t (fun b hb => h b (by simp [hb]))
    · rfl

theorem suf_mem {xs : List KE} {at' : ByteArray} {x : KE} {t : List KE} (h : xsuf xs at' = x :: t) : x ∈ xs ∧ bl x.1 at' = false := by
  constructor
  · have : x ∈ xsuf xs at' := by rw [h]; simp
    exact (List.dropWhile_sublist _).subset this
  · have := head_dropWhile (fun y : KE => bl y.1 at') xs
    unfold xsuf at h
    rw [h] at this
    simp at this
    have h2 := List.find?_some this.symm
    simpa using h2

theorem suf_next {xs : List KE} {at' : ByteArray} {x : KE} {t : List KE} (hok : RowsOk xs) (hb : Bnd xs at') (h : xsuf xs at' = x :: t) : xsuf xs (pastB x.2.key) = dropLe (x :: t) x.2.key := by
  obtain ⟨hx, hxa⟩ := suf_mem h
  unfold dropLe
  rw [← h]
  unfold xsuf
  rw [drop_drop]
  · have go : ∀ l : List KE, (∀ a ∈ l, a ∈ xs) → l.dropWhile (fun y => bl y.1 (pastB x.2.key)) = l.dropWhile (leK x.2.key) := by
      intro l
      induction l with
      | nil => intro _; rfl
      | cons a l ih =>
        intro hl
        rw [List.dropWhile_cons, List.dropWhile_cons, ih (fun b hb => hl b (by simp [hb]))]
        have e : bl a.1 (pastB x.2.key) = leK x.2.key a := by
          rw [(hok.one a (hl a (by simp))).1, bl_past]
          rfl
        rw [e]
    exact go xs (fun a ha => ha)
  · intro a ha hp
    unfold leK
    rw [hb a ha x hx hp hxa]
    rfl

theorem suf_get {xs : List KE} {at' : ByteArray} {x : KE} {t : List KE} (hb : Bnd xs at') (h : xsuf xs at' = x :: t) (r : Nat) : getK xs x.2.key r = getK (x :: t) x.2.key r := by
  obtain ⟨hx, hxa⟩ := suf_mem h
  unfold getK
  congr 1
  have hs : xs = xs.takeWhile (fun y => bl y.1 at') ++ xsuf xs at' := (List.takeWhile_append_dropWhile ..).symm
  conv => lhs; rw [hs]
  rw [List.find?_append, h]
  have hnone : (xs.takeWhile fun y => bl y.1 at').find? (fun y => decide (y.2.key = x.2.key) && decide (y.2.rev ≤ r)) = none := by
    rw [List.find?_eq_none]
    intro y hy hyk
    simp at hyk
    have hyx : y ∈ xs := (List.takeWhile_sublist _).subset hy
    have hya : bl y.1 at' = true := mem_takeWhile (p := fun y : KE => bl y.1 at') hy
    have := hb y hyx x hx hya hxa
    exact bl_ne this hyk.1
  rw [hnone]
  rfl

/-- What is still ahead. -/
def wants (upTo : ByteArray) (k : ByteArray) : Bool := decide (upTo = ⟨#[]⟩) || bl k upTo
def fin (upTo : ByteArray) (most : Int) (r : Nat) (out : List ByteArray) (D : List KE) : List ByteArray :=
  if 1 ≤ most then out ++ ((tellsK r D).takeWhile (wants upTo)).take (most.toNat - out.length) else out ++ (tellsK r D).takeWhile (wants upTo)

theorem fin_nil (upTo : ByteArray) (most : Int) (r : Nat) (out : List ByteArray) : fin upTo most r out [] = out := by
  unfold fin tellsK keysOf
  simp [gS]

theorem fin_stop {upTo : ByteArray} {most : Int} {r : Nat} {out : List ByteArray} {x : KE} {t : List KE} (hm : mono (x :: t)) (hw : wants upTo x.2.key = false) : fin upTo most r out (x :: t) = out := by
  have h0 : (tellsK r (x :: t)).takeWhile (wants upTo) = [] := by
    cases hl : tellsK r (x :: t) with
    | nil => rfl
    | cons k l =>
      obtain ⟨y, hy, hk⟩ := tells_mem (r := r) (D := x :: t) (k := k) (by rw [hl]; simp)
      rw [List.takeWhile_cons]
      have : wants upTo k = false := by
        unfold wants at hw ⊢
        rw [Bool.or_eq_false_iff] at hw ⊢
        refine ⟨hw.1, ?_⟩
        rw [← hk]
        rcases List.mem_cons.1 hy with rfl | hy
        · exact hw.2
        · have h1 := (List.rel_of_pairwise_cons hm hy).1
          cases hb : bl y.2.key upTo with
          | false => rfl
          | true =>
            by_cases he : y.2.key = x.2.key
            · rw [he, hw.2] at hb
              cases hb
            · have := bl_trans (bl_ge h1 he) hb
              rw [hw.2] at this
              cases this
      rw [this]
      rfl
  unfold fin
  rw [h0]
  simp

theorem fin_skip {upTo : ByteArray} {most : Int} {r : Nat} {out : List ByteArray} {x : KE} {t : List KE} (hm : mono (x :: t)) (hg : tellOne x.2.key (getK (x :: t) x.2.key r) = []) : fin upTo most r out (x :: t) = fin upTo most r out (dropLe (x :: t) x.2.key) := by
  unfold fin
  rw [tells_group hm, hg, List.nil_append]

theorem fin_more {upTo : ByteArray} {most : Int} {r : Nat} {out : List ByteArray} {x : KE} {t : List KE} (hm : mono (x :: t)) (hg : tellOne x.2.key (getK (x :: t) x.2.key r) = [x.2.key]) (hw : wants upTo x.2.key = true) (hl : 1 ≤ most → (out.length : Int) < most) :
    fin upTo most r out (x :: t) = if (out.length : Int) + 1 = most then out ++ [x.2.key] else fin upTo most r (out ++ [x.2.key]) (dropLe (x :: t) x.2.key) := by
  have e : (tellsK r (x :: t)).takeWhile (wants upTo) = x.2.key :: (tellsK r (dropLe (x :: t) x.2.key)).takeWhile (wants upTo) := by
    rw [tells_group hm, hg, List.singleton_append, List.takeWhile_cons, hw]
    rfl
  unfold fin
  rw [e]
  by_cases h1 : 1 ≤ most
  · have := hl h1
    rw [if_pos h1]
    obtain ⟨c, hc⟩ : ∃ c, most.toNat - out.length = c + 1 := ⟨most.toNat - out.length - 1, by omega⟩
    rw [hc, List.take_succ_cons]
    by_cases h2 : (out.length : Int) + 1 = most
    · rw [if_pos h2]
      have : c = 0 := by omega
      subst this
      simp
    · rw [if_neg h2, if_pos h1, List.length_append]
      have : most.toNat - (out.length + [x.2.key].length) = c := by simp; omega
      rw [this]
      simp
  · rw [if_neg h1, if_neg (by omega), if_neg h1]
    simp
end Go.Proofs.Ytekdcjbjjakhcaa

/- iter.newest, iter.Get. -/
namespace Go.Proofs.Ytekdcjbjjakhcaa
open Go Go.RowKit

def GivesStr (w : World) (s : ByteArray) (e : Ending) (w' : World) : Prop := e = .returned (.string s) ∧ Below w.heap.size w w'

set_option maxRecDepth 100000 in
set_option maxHeartbeats 1000000 in
theorem inewest_any (w : World) (key : ByteArray) (r : Nat) (hn : key.size ≤ 1000000) (hr : r < 18446744073709551616) :
    Calls Try.prog 47 #[.string key, .int .u64 (r : Int)] w (GivesStr w (newestB key r)) := by
  have hin := inner_any w key r true (by omega) hr
  have HI := Lib.hid hin
  clear hin
  go_enter Try.func47, Try.ntmps47
  go_wp2_with (go_at_call 53; go_must (refine HI.out.mono ?_))
  rintro e w1 ⟨rfl, b1⟩
  go_wp2
  go_ret
  exact ⟨rfl, b1⟩

set_option maxRecDepth 100000 in
set_option maxHeartbeats 4000000 in
theorem iget_any (w : World) (v : Value) (n : Nat) (srcs : List (Option (List ByteArray))) (key : ByteArray) (r : Nat) (h : Srcs w v n srcs) (hok : SrcOk srcs) (hn : n ≤ 1000) (hk : key.size ≤ 1000000) (hr : r < 18446744073709551616) :
    Calls Try.prog 25 #[v, .string key, .int .u64 (r : Int)] w (FoundPost w (pickK key ((firstL (rowsOf srcs) (newestB key r)).bind dec))) := by
  have HS := Lib.hid h
  have HOk := Lib.hid hok
  obtain ⟨a, cap, rfl, hc1, hc2, hll, hx0⟩ := h
  clear hx0
  unfold maxLen at hc2
  have hal : Below w.heap.size w (w.alloc (.cells #[.string ⟨#[]⟩, .int .u64 0, .bool false] 48)) := (Below.refl _ _).alloc (Nat.le_refl _) _
  have hg0 := heap_alloc_new w (.cells #[.string ⟨#[]⟩, .int .u64 0, .bool false] 48)
  have HB0 := Lib.hid hal
  have HG0 := Lib.hid hg0
  have HNw := Lib.hid fun w' => inewest_any w' key r hk hr
  clear hok hll hal hg0
  go_enter Try.func25, Try.ntmps25
  go_wp2_with (go_at_call 47; go_must (refine (HNw.out _).mono ?_))
  rintro e w1 ⟨rfl, b1⟩
  have hb1 : Below w.heap.size w w1 := HB0.out.trans (b1.mono (by simp))
  have hg1 := (b1.block w.heap.size (by simp)).trans HG0.out
  have hfi := ifirst_any w1 (.slice a n cap) n srcs (newestB key r) (HS.out.below hb1) HOk.out hn
  have HFi := Lib.hid hfi
  have HB1 := Lib.hid hb1
  have HG1 := Lib.hid hg1
  clear b1 hb1 hg1 hfi HNw HB0 HG0
  generalize (firstL (rowsOf srcs) (newestB key r)).bind dec = o at *
  go_wp2_with (go_at_call 46; go_must (refine HFi.out.mono ?_))
  rintro e w2 ⟨rfl, b2⟩
  have hg2 := (b2.block w.heap.size (Array.getElem?_eq_some_iff.1 HG1.out).1).trans HG1.out
  have HB2 := Lib.hid (HB1.out.trans (b2.mono HB1.out.size))
  have hlt := (Array.getElem?_eq_some_iff.1 hg2).1
  have c0 := Lib.cell_of_heap hg2 0
  have c1 := Lib.cell_of_heap hg2 1
  have c2 := Lib.cell_of_heap hg2 2
  have f0 := Lib.frozen_of_heap hg2
  simp at c0 c1 c2
  clear b2 hg2 HFi
  have hbs2 := HB2.out.size
  cases o with
  | none =>
    have HP := Lib.hid (show pickK key none = none from rfl)
    unfold foundV
    go_wp2
    refine bodyPost_ret (v := foundV none) (by simp [results, Try.results25, go_sem, foundV, c0, c1, c2, hlt]) rfl ?_
    rw [HP.out]
    exact ⟨rfl, (((HB2.out.setCell (p := ⟨w.heap.size, 0, none⟩) (Nat.le_refl _) _).setCell (p := ⟨w.heap.size, 1, none⟩) (Nat.le_refl _) _).setCell (p := ⟨w.heap.size, 2, none⟩) (Nat.le_refl _) _).alloc (by simp; omega) _⟩
  | some x =>
    obtain ⟨xk, xr, xd⟩ := x
    have e3 := str_eq xk key
    by_cases hkk : xk = key
    · rw [decide_eq_true hkk] at e3
      have HP := Lib.hid (show pickK key (some ⟨xk, xr, xd⟩) = some ⟨xk, xr, xd⟩ from if_pos hkk)
      subst hkk
      unfold foundV
      go_wp2
      refine bodyPost_ret (v := foundV (some ⟨xk, xr, xd⟩)) (by simp [results, Try.results25, go_sem, foundV, c0, c1, c2, hlt]) rfl ?_
      rw [HP.out]
      exact ⟨rfl, (((HB2.out.setCell (p := ⟨w.heap.size, 0, none⟩) (Nat.le_refl _) _).setCell (p := ⟨w.heap.size, 1, none⟩) (Nat.le_refl _) _).setCell (p := ⟨w.heap.size, 2, none⟩) (Nat.le_refl _) _).alloc (by simp; omega) _⟩
    · rw [decide_eq_false hkk] at e3
      have HP := Lib.hid (show pickK key (some ⟨xk, xr, xd⟩) = none from if_neg hkk)
      clear hkk
      unfold foundV
      go_wp2
      refine bodyPost_ret (v := foundV none) (by simp [results, Try.results25, go_sem, foundV, c0, c1, c2, hlt]) rfl ?_
      rw [HP.out]
      exact ⟨rfl, (((HB2.out.setCell (p := ⟨w.heap.size, 0, none⟩) (Nat.le_refl _) _).setCell (p := ⟨w.heap.size, 1, none⟩) (Nat.le_refl _) _).setCell (p := ⟨w.heap.size, 2, none⟩) (Nat.le_refl _) _).alloc (by simp; omega) _⟩

theorem past_text (key : ByteArray) : (innB ⟨key, 0, false⟩).size = (esc key.data.toList).length + 11 ∧ ((innB ⟨key, 0, false⟩).data.toList.take ((esc key.data.toList).length + 1)) ++ [2] = (pastB key).data.toList := by
  constructor
  · unfold innB
    show (inner key.data.toList 0 false).toArray.size = _
    simp [inner, innTo, revBytes_length]
  · unfold innB pastB inner innTo
    simp [List.take_append, List.take_of_length_le]

theorem ext_two (s : ByteArray) (m : Nat) : (s.extract 0 m ++ (⟨#[2]⟩ : ByteArray)).data.toList = s.data.toList.take m ++ [2] := by
  simp [ByteArray.data_append, ByteArray.data_extract]

set_option maxRecDepth 100000 in
set_option maxHeartbeats 1000000 in
theorem past_any (w : World) (key : ByteArray) (hn : key.size ≤ 1000000) :
    Calls Try.prog 49 #[.string key] w (GivesStr w (pastB key)) := by
  have hin := inner_any w key 0 false (by omega) (by decide)
  obtain ⟨h1, h2⟩ := past_text key
  have HI := Lib.hid hin
  have H2 := Lib.hid h2
  have hss : (⟨(inner key.data.toList 0 false).toArray⟩ : ByteArray) = innB ⟨key, 0, false⟩ := rfl
  have hel := esc_length key.data.toList
  have hkl : key.data.toList.length = key.size := Array.length_toList
  clear hin h2
  generalize (esc key.data.toList).length = m at *
  go_enter Try.func49, Try.ntmps49
  go_wp2_with (go_at_call 53; go_must (refine HI.out.mono ?_))
  rintro e w1 ⟨rfl, b1⟩
  rw [hss]
  generalize innB ⟨key, 0, false⟩ = s at *
  have hsI : (s.size : Int) = (m : Int) + 11 := by omega
  have hres : s.extract 0 (m + 1) ++ (⟨#[2]⟩ : ByteArray) = pastB key := Go.WideShapes.bytes_inj ((ext_two s (m + 1)).trans H2.out)
  have HRes := Lib.hid hres
  clear hres
  go_wp2
  rw [HRes.out]
  go_ret
  exact ⟨rfl, b1⟩
end Go.Proofs.Ytekdcjbjjakhcaa

/- iter.Scan. -/
namespace Go.Proofs.Ytekdcjbjjakhcaa
open Go Go.RowKit

/-- All rows together are xs. -/
structure Told (srcs : List (Option (List ByteArray))) (xs : List KE) : Prop where
  ok : SrcOk srcs
  rows : RowsOk xs
  all : allK (rowsOf srcs) = xs.map (·.1)

theorem rowsOf_mem {srcs : List (Option (List ByteArray))} {l : List ByteArray} (h : l ∈ rowsOf srcs) : some l ∈ srcs := by
  unfold rowsOf at h
  simpa using h

theorem esc_least (a : List UInt8) : a.length ≤ (esc a).length := by
  induction a with
  | nil => simp
  | cons c r ih =>
    unfold esc
    split <;> simp <;> omega

theorem Told.size {srcs : List (Option (List ByteArray))} {xs : List KE} (h : Told srcs xs) {x : KE} (hx : x ∈ xs) : x.2.key.size ≤ 1000000 := by
  have h1 : x.1 ∈ allK (rowsOf srcs) := by rw [h.all]; exact List.mem_map_of_mem hx
  obtain ⟨l, hl, hxl⟩ := ((allK_ok (rowsOf srcs)).2.1 x.1).1 h1
  have h2 := ((h.ok l (rowsOf_mem hl)).2.2 x.1 hxl).1
  rw [(h.rows.one x hx).1] at h2
  have h3 : (innB x.2).size = (esc x.2.key.data.toList).length + 11 := by
    unfold innB
    show (inner x.2.key.data.toList x.2.rev x.2.del).toArray.size = _
    simp [inner, innTo, revBytes_length]
  have h4 := esc_least x.2.key.data.toList
  have h5 : x.2.key.data.toList.length = x.2.key.size := Array.length_toList
  omega

theorem Told.first {srcs : List (Option (List ByteArray))} {xs : List KE} (h : Told srcs xs) (at' : ByteArray) : (firstL (rowsOf srcs) at').bind dec = (xsuf xs at').head?.map (·.2) := by
  rw [firstL_eq (fun l hl => (h.ok l (rowsOf_mem hl)).1), h.all, sk_suf]
  cases hs : xsuf xs at' with
  | nil => rfl
  | cons x t =>
    obtain ⟨hx, _⟩ := suf_mem hs
    obtain ⟨e1, e2⟩ := h.rows.one x hx
    show dec x.1 = some x.2
    rw [e1, dec_inn e2]

theorem Told.get {srcs : List (Option (List ByteArray))} {xs : List KE} (h : Told srcs xs) (key : ByteArray) (r : Nat) (hr : r < 18446744073709551616) : pickK key ((firstL (rowsOf srcs) (newestB key r)).bind dec) = getK xs key r := by
  rw [firstL_eq (fun l hl => (h.ok l (rowsOf_mem hl)).1), h.all, get_first h.rows key r hr]

theorem getK_key {xs : List KE} {key : ByteArray} {r : Nat} {y : Ent} (h : getK xs key r = some y) : y.key = key := by
  unfold getK at h
  rw [Option.map_eq_some_iff] at h
  obtain ⟨z, hz, rfl⟩ := h
  have := List.find?_some hz
  simp at this
  exact this.1

def strOf : Value → ByteArray
  | .string s => s
  | _ => ⟨#[]⟩

def ScanPost (w : World) (ks : List ByteArray) (e : Ending) (w' : World) : Prop :=
  ∃ kv, e = .returned (.tuple #[kv, .int .i64 0]) ∧ w'.ownsRow w.heap.size 9 1 kv ks.length (scells ks) ∧ Below w.heap.size w w'

/-- What is answered, seen from a place in the middle. -/
structure Mid (xs : List KE) (upTo : ByteArray) (most : Int) (r : Nat) (ks : List ByteArray) (at' : ByteArray) (out : List ByteArray) : Prop where
  bnd : Bnd xs at'
  fin : fin upTo most r out (xsuf xs at') = ks
  len : out.length + (xsuf xs at').length ≤ xs.length
  most : 1 ≤ most → (out.length : Int) < most

def ScanRel (w : World) (xs : List KE) (upTo : ByteArray) (most : Int) (r : Nat) (ks : List ByteArray) (kv av : Value) (wr : World) : Prop :=
  ∃ (at' : ByteArray) (out : List ByteArray), av = .string at' ∧ Mid xs upTo most r ks at' out ∧ wr.ownsRow w.heap.size 9 1 kv out.length (scells out) ∧ Below w.heap.size w wr

theorem mono_rows {xs : List KE} (h : RowsOk xs) : mono xs := h.told.2

theorem mono_suf {xs : List KE} (h : RowsOk xs) (at' : ByteArray) : mono (xsuf xs at') := mono_sub (mono_rows h) (List.dropWhile_sublist _)

theorem Mid.nil {xs : List KE} {upTo : ByteArray} {most : Int} {r : Nat} {ks : List ByteArray} {at' : ByteArray} {out : List ByteArray} (m : Mid xs upTo most r ks at' out) (h : xsuf xs at' = []) : out = ks := by
  have := m.fin
  rw [h, fin_nil] at this
  exact this

theorem Mid.stop {xs : List KE} {upTo : ByteArray} {most : Int} {r : Nat} {ks : List ByteArray} {at' : ByteArray} {out : List ByteArray} (hr : RowsOk xs) (m : Mid xs upTo most r ks at' out) {x : KE} {t : List KE} (h : xsuf xs at' = x :: t) (hw : wants upTo x.2.key = false) : out = ks := by
  have := m.fin
  have hm := mono_suf hr at'
  rw [h] at this hm
  rw [fin_stop hm hw] at this
  exact this

theorem Mid.skip {xs : List KE} {upTo : ByteArray} {most : Int} {r : Nat} {ks : List ByteArray} {at' : ByteArray} {out : List ByteArray} (hr : RowsOk xs) (m : Mid xs upTo most r ks at' out) {x : KE} {t : List KE} (h : xsuf xs at' = x :: t) (hg : tellOne x.2.key (getK xs x.2.key r) = []) : Mid xs upTo most r ks (pastB x.2.key) out ∧ (xsuf xs (pastB x.2.key)).length < (xsuf xs at').length := by
  have hm := mono_suf hr at'
  have hl := dropLe_less x t
  have hf := m.fin
  have hn := m.len
  have e := suf_next hr m.bnd h
  rw [suf_get m.bnd h] at hg
  rw [h] at hm hf hn ⊢
  rw [fin_skip hm hg] at hf
  refine ⟨⟨bnd_past hr _, ?_, ?_, m.most⟩, ?_⟩
  · rw [e]; exact hf
  · rw [e]; simp at hn; omega
  · rw [e]; simp; omega

theorem Mid.more {xs : List KE} {upTo : ByteArray} {most : Int} {r : Nat} {ks : List ByteArray} {at' : ByteArray} {out : List ByteArray} (hr : RowsOk xs) (m : Mid xs upTo most r ks at' out) {x : KE} {t : List KE} (h : xsuf xs at' = x :: t) (hg : tellOne x.2.key (getK xs x.2.key r) = [x.2.key]) (hw : wants upTo x.2.key = true) :
    if (out.length : Int) + 1 = most then out ++ [x.2.key] = ks else Mid xs upTo most r ks (pastB x.2.key) (out ++ [x.2.key]) ∧ (xsuf xs (pastB x.2.key)).length < (xsuf xs at').length := by
  have hm := mono_suf hr at'
  have hl := dropLe_less x t
  have hf := m.fin
  have hn := m.len
  have e := suf_next hr m.bnd h
  rw [suf_get m.bnd h] at hg
  rw [h] at hm hf hn ⊢
  rw [fin_more hm hg hw m.most] at hf
  by_cases he : (out.length : Int) + 1 = most
  · rw [if_pos he] at hf ⊢
    exact hf
  · rw [if_neg he] at hf ⊢
    refine ⟨⟨bnd_past hr _, ?_, ?_, ?_⟩, ?_⟩
    · rw [e]; exact hf
    · rw [e]; simp at hn ⊢; omega
    · intro h1
      have := m.most h1
      simp
      omega
    · rw [e]; simp; omega
end Go.Proofs.Ytekdcjbjjakhcaa

namespace Go.Proofs.Ytekdcjbjjakhcaa
open Go Go.RowKit

def zeroEntry : Obj := .cells #[.string ⟨#[]⟩, .int .u64 0, .bool false] 48

def RefOutRel (w : World) (s : ByteArray) (v c : Value) (wr : World) : Prop :=
  ∃ (i : Nat) (ys : List UInt8), c = .int .i64 (i : Int) ∧ i ≤ s.size ∧ ys.length ≤ i ∧ unesc s.data.toList = (unesc (s.data.toList.drop i)).map (fun x => (ys ++ x.1, x.2)) ∧
    Fresh (w.heap.size + 1) wr 5 1 v ys.length (bcells ys) ∧ Below (w.heap.size + 1) (w.alloc zeroEntry) wr

def RefRevRel (r : List UInt8) (v c : Value) : Prop := ∃ k V : Nat, c = .int .i64 (k : Int) ∧ k ≤ 8 ∧ v = .int .u64 (V : Int) ∧ V = 256 ^ k - 1 - beVal (r.take k)

theorem unesc_drop {l : List UInt8} {i : Nat} (h : i + 1 < l.length) : unesc (l.drop i) =
    if l.getD i 0 = 0 then (if l.getD (i + 1) 0 = 1 then some ([], l.drop (i + 2)) else if l.getD (i + 1) 0 = 255 then (unesc (l.drop (i + 2))).map fun x => (0 :: x.1, x.2) else none) else (unesc (l.drop (i + 1))).map fun x => (l.getD i 0 :: x.1, x.2) := by
  have e1 : l.drop i = l.getD i 0 :: l.getD (i + 1) 0 :: l.drop (i + 2) := by
    rw [List.drop_eq_getElem_cons (show i < l.length by omega), List.drop_eq_getElem_cons h]
    simp [List.getD, h, show i < l.length by omega]
  have e2 : l.drop (i + 1) = l.getD (i + 1) 0 :: l.drop (i + 2) := by
    rw [List.drop_eq_getElem_cons h]
    simp [List.getD, h]
  rw [e1, unesc, e2]

theorem unesc_short {l : List UInt8} {i : Nat} (h : l.length ≤ i + 1) : unesc (l.drop i) = none := by
  have hl : (l.drop i).length ≤ 1 := by rw [List.length_drop]; omega
  match l.drop i, hl with
  | [], _ => rfl
  | [_], _ => rfl
  | _ :: _ :: _, h => simp at h

set_option maxRecDepth 100000 in
set_option maxHeartbeats 8000000 in
theorem refouter_any (w : World) (s : ByteArray) (hs : s.size ≤ 1000000000) :
    Calls Try.prog 44 #[.string s] w (OuterPost w (outer s.data.toList)) := by
  obtain ⟨i0, hi, hz0, hz1, hz2⟩ := info_parts info5
  have htl : s.data.toList.length = s.size := Array.length_toList
  have Htl := Lib.hid htl
  clear htl
  have hst : RefOutRel w s (.slice none 0 0) (.int .i64 0) (w.alloc zeroEntry) :=
    ⟨0, [], rfl, Nat.zero_le _, Nat.le_refl _, by simp, fresh_nil _ _ _ _, Below.refl _ _⟩
  have Hst := Lib.hid hst
  clear hst
  go_enter Try.func44, Try.ntmps44
  go_wp2
  go_loopw [4, 5] (fun v c wr => RefOutRel w s v c wr) (fun _ c _ => s.size - (intOf c).toNat)
  case atStart => exact Hst.out
  case round =>
    obtain ⟨i, ys, rfl, hi1, hy, heq, hf, hb⟩ := hrel
    have hbs := hb.size
    simp at hbs
    have Heq := Lib.hid heq
    clear heq
    obtain ⟨hc, hfz⟩ := entryBox hb
    have c0 := hc 0
    have c1 := hc 1
    have c2 := hc 2
    have f0 := hfz 0
    have f1 := hfz 1
    have f2 := hfz 2
    simp at c0 c1 c2
    clear hc hfz
    have hbw : Below w.heap.size w wr := ((Below.refl _ _).alloc (Nat.le_refl _) _).trans (hb.mono (by omega))
    have Hbw := Lib.hid hbw
    clear hbw
    by_cases h1 : i + 1 < s.size
    · have hd := unesc_drop (l := s.data.toList) (i := i) (by rw [Htl.out]; exact h1)
      have hg0 : s.data.toList.getD i 0 = s[i] := by
        rw [List.getD_eq_getElem?_getD, List.getElem?_eq_getElem (by rw [Htl.out]; omega)]
        rfl
      have hg1 : s.data.toList.getD (i + 1) 0 = s[i + 1] := by
        rw [List.getD_eq_getElem?_getD, List.getElem?_eq_getElem (by rw [Htl.out]; omega)]
        rfl
      rw [hg0, hg1] at hd
      have Hd := Lib.hid hd
      clear hd hg0 hg1
      by_cases z0 : s[i] = 0
      · have e0 : ((s[i].toNat : Int) != 0) = false := by rw [z0]; rfl
        have Z0 := Lib.hid z0
        clear z0
        by_cases d1 : s[i + 1] = 1
        · have e1 : ((s[i + 1].toNat : Int) == 1) = true := by rw [d1]; rfl
          have D1 := Lib.hid d1
          clear d1
          have hun : unesc s.data.toList = some (ys, (s.extract (i + 2) s.size).data.toList) := by
            rw [Heq.out, Hd.out, if_pos Z0.out, if_pos D1.out, Lib.extract_to_end]
            simp
          have Hun := Lib.hid hun
          have hts : (s.extract (i + 2) s.size).size = s.size - (i + 2) := by simp [ByteArray.size_extract]
          have htt : (s.extract (i + 2) s.size).data.toList.length = (s.extract (i + 2) s.size).size := Array.length_toList
          have Hts := Lib.hid hts
          have Htt := Lib.hid htt
          have hcv := Reads.conv (P := Try.prog) (src := 82) (e := 5) (dst := 9) Try.underlying82 Try.underlying5 Try.underlying9 hf.1
          have Hcv := Lib.hid hcv
          have Hf := Lib.hid hf
          have Hb := Lib.hid hb
          clear hun hts htt hcv hf hb
          by_cases h9 : s.size - (i + 2) = 9
          · have h8 : 8 < (s.extract (i + 2) s.size).size := by rw [Hts.out]; omega
            have hg8 : (s.extract (i + 2) s.size).data.toList.getD 8 0 = (s.extract (i + 2) s.size)[8] := by
              rw [List.getD_eq_getElem?_getD, List.getElem?_eq_getElem (by rw [Htt.out]; exact h8)]
              rfl
            have Hg8 := Lib.hid hg8
            have H9 := Lib.hid h9
            have hne : (((s.size - (i + 2) : Nat) : Int) != 9) = false := by rw [h9]; rfl
            have h8i : 8 < s.size - (i + 2) := by omega
            clear hg8 h9
            by_cases hg : 1 < (s.extract (i + 2) s.size)[8].toNat
            · have hg' : (1 : Int) < (s.extract (i + 2) s.size)[8].toNat := by omega
              have ho : outer s.data.toList = none := by
                unfold outer
                rw [Hun.out]
                simp only
                rw [if_neg]
                rw [Hg8.out]
                omega
              have Ho := Lib.hid ho
              clear ho
              go_wp2
              refine bodyPost_ret (v := entryVal none) (by simp [results, Try.results44, go_sem, entryVal, c0, c1, c2]) rfl ⟨by rw [Ho.out], ?_⟩
              exact ((Hbw.out.setCell (p := ⟨w.heap.size, 0, none⟩) (Nat.le_refl _) _).setCell (p := ⟨w.heap.size, 1, none⟩) (Nat.le_refl _) _).setCell (p := ⟨w.heap.size, 2, none⟩) (Nat.le_refl _) _
            · have hg' : ¬ (1 : Int) < (s.extract (i + 2) s.size)[8].toNat := by omega
              have ho : outer s.data.toList = some (ys, 18446744073709551615 - beVal ((s.extract (i + 2) s.size).data.toList.take 8), decide ((s.extract (i + 2) s.size)[8].toNat = 0)) := by
                unfold outer
                rw [Hun.out]
                simp only
                rw [Hg8.out, if_pos ⟨by rw [Htt.out, Hts.out]; exact H9.out, by omega⟩]
              have Ho := Lib.hid ho
              clear ho
              have hg8n : (s.extract (i + 2) s.size)[8].toNat ≤ 1 := by omega
              go_wp2
              go_loop [7, 8] (fun v c => RefRevRel (s.extract (i + 2) s.size).data.toList v c) (fun _ c => 20 - (intOf c).toNat)
              case atStart => exact ⟨0, 0, rfl, by omega, rfl, by simp [beVal]⟩
              case round =>
                obtain ⟨j, V, rfl, hj, rfl, hV⟩ := hrel
                have HV := Lib.hid hV
                clear hV
                have hlt8 : beVal ((s.extract (i + 2) s.size).data.toList.take j) < 256 ^ j := by
                  have h := beVal_lt ((s.extract (i + 2) s.size).data.toList.take j)
                  rwa [List.length_take, Htt.out, Hts.out, H9.out, Nat.min_eq_left (by omega)] at h
                have Hlt := Lib.hid hlt8
                clear hlt8
                by_cases hj8 : j < 8
                · have hjt : j < (s.extract (i + 2) s.size).size := by rw [Hts.out, H9.out]; omega
                  have hjt2 : (j : Int) < ((s.size - (i + 2) : Nat) : Int) := by rw [H9.out]; omega
                  have hsn : beVal ((s.extract (i + 2) s.size).data.toList.take (j + 1)) = beVal ((s.extract (i + 2) s.size).data.toList.take j) * 256 + (s.extract (i + 2) s.size)[j].toNat := by
                    have hjl : j < (s.extract (i + 2) s.size).data.toList.length := by rw [Htt.out]; exact hjt
                    rw [List.take_succ_eq_append_getElem hjl, beVal_snoc]
                    rfl
                  have Hsn := Lib.hid hsn
                  clear hsn
                  have hV7 : V < 72057594037927936 := by
                    have h2 : 256 ^ j ≤ 256 ^ 7 := Nat.pow_le_pow_right (by omega) (by omega)
                    have h3 : (256 : Nat) ^ 7 = 72057594037927936 := by decide
                    have h4 := HV.out
                    have h5 : 0 < 256 ^ j := Nat.pow_pos (by omega)
                    omega
                  have hcj := (s.extract (i + 2) s.size)[j].toNat_lt
                  have ew : IntKind.u64.wrap (IntKind.u64.wrap ((V : Int) * 256) + (255 - ((s.extract (i + 2) s.size)[j].toNat : Int)) % 256) = ((V * 256 + (255 - (s.extract (i + 2) s.size)[j].toNat) : Nat) : Int) := by
                    rw [IntKind.wrap_u64, IntKind.wrap_u64]
                    omega
                  have Ew := Lib.hid ew
                  have H7 := Lib.hid hV7
                  clear ew hV7 hcj
                  go_wp2
                  refine ⟨⟨j + 1, V * 256 + (255 - (s.extract (i + 2) s.size)[j].toNat), by go_num, by omega, by rw [Ew.out], ?_⟩, by simp [intOf]; omega⟩
                  have h1 := Hlt.out
                  have h2 := (s.extract (i + 2) s.size)[j].toNat_lt
                  rw [Hsn.out, HV.out, Nat.pow_succ]
                  omega
                · have hj8' : ¬ ((j : Int) < 8) := by omega
                  obtain rfl : j = 8 := by omega
                  have hcvd := Reads.conv (P := Try.prog) (src := 82) (e := 5) (dst := 9) Try.underlying82 Try.underlying5 Try.underlying9 Hf.out.1.drew
                  go_wp2_with fail
                  go_region
                  all_goals
                    go_wp2
                    refine bodyPost_ret (v := entryVal (some (ys, 18446744073709551615 - beVal ((s.extract (i + 2) s.size).data.toList.take 8), decide ((s.extract (i + 2) s.size)[8].toNat = 0)))) ?_ rfl ⟨by rw [Ho.out], ?_⟩
                    · have hv : V = 18446744073709551615 - beVal ((s.extract (i + 2) s.size).data.toList.take 8) := HV.out
                      rw [← hv]
                      simp [results, Try.results44, go_sem, entryVal, c0, c1, c2]
                      rw [Bool.eq_iff_iff]
                      simp
                    · exact ((Hbw.out.drew.setCell (p := ⟨w.heap.size, 0, none⟩) (Nat.le_refl _) _).setCell (p := ⟨w.heap.size, 1, none⟩) (Nat.le_refl _) _).setCell (p := ⟨w.heap.size, 2, none⟩) (Nat.le_refl _) _
          · have hne : (((s.size - (i + 2) : Nat) : Int) != 9) = true := by
              rw [bne_iff_ne]
              omega
            have ho : outer s.data.toList = none := by
              unfold outer
              rw [Hun.out]
              simp only
              rw [if_neg]
              rw [Htt.out, Hts.out]
              exact fun h => h9 h.1
            have Ho := Lib.hid ho
            clear ho
            go_wp2
            refine bodyPost_ret (v := entryVal none) (by simp [results, Try.results44, go_sem, entryVal, c0, c1, c2]) rfl ⟨by rw [Ho.out], ?_⟩
            exact ((Hbw.out.setCell (p := ⟨w.heap.size, 0, none⟩) (Nat.le_refl _) _).setCell (p := ⟨w.heap.size, 1, none⟩) (Nat.le_refl _) _).setCell (p := ⟨w.heap.size, 2, none⟩) (Nat.le_refl _) _
        · have e1 : ((s[i + 1].toNat : Int) == 1) = false := by
            rw [beq_eq_false_iff_ne]
            intro h
            exact d1 (UInt8.toNat_inj.1 (by simp; omega))
          have D1 := Lib.hid d1
          clear d1
          by_cases d2 : s[i + 1] = 255
          · have e2 : ((s[i + 1].toNat : Int) != 255) = false := by rw [d2]; rfl
            have D2 := Lib.hid d2
            clear d2
            go_wp2_with (at_builtin; go_must (refine wpList_append_one (w0 := wr) rfl _ _ 82 rfl (w.heap.size + 1) 5 i0 (.int .u8 0) 1 Try.underlying82 hi hz0 hz1 hz2 rfl hf rfl rfl rfl ?_ ?_ hbs ?_))
            · unfold maxLen; omega
            · omega
            intro v1 w4 f4 g4 b6 m4
            rw [bcells_snoc (z := 0) _ (0 : UInt8) rfl] at f4
            have b7 := hb.trans b6
            clear c0 c1 c2 f0 f1 f2
            go_wp2
            refine ⟨⟨i + 2, ys ++ [0], by go_num, by omega, by simp; omega, ?_, by simpa using f4, b7⟩, by simp [intOf]; omega⟩
            rw [Heq.out, Hd.out, if_pos Z0.out, if_neg D1.out, if_pos D2.out]
            simp [Option.map_map, Function.comp_def]
          · have e2 : ((s[i + 1].toNat : Int) != 255) = true := by
              rw [bne_iff_ne]
              intro h
              exact d2 (UInt8.toNat_inj.1 (by simp; omega))
            have ho : outer s.data.toList = none := by
              unfold outer
              rw [Heq.out, Hd.out, if_pos Z0.out, if_neg D1.out, if_neg d2]
              rfl
            rw [ho]
            clear ho d2
            go_wp2
            refine bodyPost_ret (v := entryVal none) (by simp [results, Try.results44, go_sem, entryVal, c0, c1, c2]) rfl ⟨rfl, ?_⟩
            exact ((Hbw.out.setCell (p := ⟨w.heap.size, 0, none⟩) (Nat.le_refl _) _).setCell (p := ⟨w.heap.size, 1, none⟩) (Nat.le_refl _) _).setCell (p := ⟨w.heap.size, 2, none⟩) (Nat.le_refl _) _
      · have e0 : ((s[i].toNat : Int) != 0) = true := by
          rw [bne_iff_ne]
          intro h
          exact z0 (UInt8.toNat_inj.1 (by simp; omega))
        have Z0 := Lib.hid z0
        clear z0
        go_wp2_with (at_builtin; go_must (refine wpList_append_one (w0 := wr) rfl _ _ 82 rfl (w.heap.size + 1) 5 i0 (.int .u8 0) 1 Try.underlying82 hi hz0 hz1 hz2 rfl hf rfl rfl rfl ?_ ?_ hbs ?_))
        · unfold maxLen; omega
        · omega
        intro v1 w4 f4 g4 b6 m4
        rw [bcells_snoc _ s[i] rfl] at f4
        have b7 := hb.trans b6
        clear c0 c1 c2 f0 f1 f2
        go_wp2
        refine ⟨⟨i + 1, ys ++ [s[i]], by go_num, by omega, by simp; omega, ?_, by simpa using f4, b7⟩, by simp [intOf]; omega⟩
        rw [Heq.out, Hd.out, if_neg Z0.out]
        simp [Option.map_map, Function.comp_def]
    · have hn := unesc_short (l := s.data.toList) (i := i) (by rw [Htl.out]; omega)
      have ho : outer s.data.toList = none := by unfold outer; rw [Heq.out, hn]; rfl
      rw [ho]
      clear ho hn
      have h1' : (s.size : Int) ≤ (i : Int) + 1 := by omega
      go_wp2
      refine bodyPost_ret (v := entryVal none) (by simp [results, Try.results44, go_sem, entryVal, c0, c1, c2]) rfl ⟨rfl, ?_⟩
      exact ((Hbw.out.setCell (p := ⟨w.heap.size, 0, none⟩) (Nat.le_refl _) _).setCell (p := ⟨w.heap.size, 1, none⟩) (Nat.le_refl _) _).setCell (p := ⟨w.heap.size, 2, none⟩) (Nat.le_refl _) _
end Go.Proofs.Ytekdcjbjjakhcaa
