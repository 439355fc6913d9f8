/- drop.At, whole. -/
import Derived.Test.YtekdcjbjjakhcaaDropAt
namespace Go.Proofs.Ytekdcjbjjakhcaa
open Go Go.RowKit

def atOut (f : Nat) (ks : List ByteArray) : List ByteArray := match decs ks with
  | none => []
  | some es => if rises ks then keysOf (gF false true f (ks.zip es)).1 else []

def AtPost (w : World) (f : Nat) (ks : List ByteArray) (e : Ending) (w' : World) : Prop :=
  ∃ a cap, e = .returned (.tuple #[.slice a (atOut f ks).length cap, .int .i64 (errOf ks : Int)]) ∧ Reads w' 1 (.slice a (atOut f ks).length cap) (atOut f ks).length (scells (atOut f ks)) ∧ Below w.heap.size w w'

set_option maxRecDepth 100000 in
set_option maxHeartbeats 4000000 in
theorem firstat_any (N : Nat) (w : World) (a : Option Addr) (n cap : Nat) (ks : List ByteArray) (f : Nat) (hr : ∀ w', Below N w w' → Reads w' 1 (.slice a n cap) n (scells ks)) (hsz : ∀ k ∈ ks, k.size ≤ 1000000) (hn : n ≤ 1000)
    (hs : w.heap.size = N + 1) (b0 : w.heap[N]? = some (Obj.cells #[.slice none 0 0] 26 (0, 0))) :
    Calls Try.prog 36 #[.slice a n cap, .int .u64 (f : Int), skipC, tellC N] w (EachPost N w ks (fun xs w' => AB N f (gF false true f xs) w')) := by
  have hmf : ∀ (fn : Fn) (first cap : Array Value) (w : World), (Instr.makeFunc fn first cap).run Try.prog w = .ok (.func fn first cap) w := fun _ _ _ _ => rfl
  have HR := Lib.hid hr
  have HS := Lib.hid hsz
  have B0 := Lib.hid b0
  clear hr hsz b0
  have hkb : ∀ w5, (∀ i, i < N + 1 → w5.heap[i]? = w.heap[i]?) → w5.heap[N + 1]? = some (Obj.cells #[.int .u64 (f : Int)] 23 (0, 0)) → w5.heap[N + 2]? = some (Obj.cells #[skipC] 69 (0, 0)) → w5.heap[N + 3]? = some (Obj.cells #[tellC N] 69 (0, 0)) →
      w5.heap[N + 4]? = some (Obj.cells #[.string ⟨#[]⟩] 9 (0, 0)) → w5.heap[N + 5]? = some (Obj.cells #[.bool false] 4 (0, 0)) → w5.heap.size = N + 6 → AB N f (gF false true f []) w5 := fun w5 h0 h3 h4 h5 h6 h7 hs5 =>
    ⟨.slice none 0 0, ⟨#[]⟩, false, .inl ⟨rfl, rfl⟩, ⟨(h0 _ (by omega)).trans B0.out, h3, h4, h5, h6, h7⟩, owns_nil _ _ _ _, by omega⟩
  have HKB := Lib.hid hkb
  have hvis : ∀ es, decs ks = some es → rises ks → Visits N (ks.zip es) 51 #[.pointer (some ⟨N + 1, 0, none⟩), .pointer (some ⟨N + 1 + 1, 0, none⟩), .pointer (some ⟨N + 1 + 1 + 1 + 1 + 1, 0, none⟩), .pointer (some ⟨N + 1 + 1 + 1 + 1, 0, none⟩), .pointer (some ⟨N + 1 + 1 + 1, 0, none⟩)] (fun xs w' => AB N f (gF false true f xs) w') := fun es hd _ => by
    refine ⟨enter51, fun i x w' hx hJ _ => ?_⟩
    have hlen : (gF false true f ((ks.zip es).take i)).1.length ≤ 100000 := by
      have h1 := gF_length false true f ((ks.zip es).take i)
      have h2 := (HR.out w (Below.refl _ _)).1
      rw [scells_length] at h2
      rw [List.length_take, List.length_zip] at h1
      omega
    have hk := at51 N f _ w' x hJ hlen
    rw [gF_take false true f _ i x hx]
    exact hk.mono fun e w'' h => h
  have HV := Lib.hid hvis
  clear hkb hvis
  have h1 := heap_alloc_new w (.cells #[.int .u64 (f : Int)] 23)
  have s1 : (w.alloc (.cells #[.int .u64 (f : Int)] 23)).heap.size = N + 2 := by simp; omega
  have k1 : ∀ i, i < N + 1 → (w.alloc (.cells #[.int .u64 (f : Int)] 23)).heap[i]? = w.heap[i]? := fun i hi => heap_alloc_old w _ (by omega)
  rw [hs] at h1
  unfold skipC tellC
  go_enter Try.func36, Try.ntmps36
  go_wp2_with (go_at_call 40; fail)
  generalize hw1 : w.alloc (.cells #[.int .u64 (f : Int)] 23) = w1 at *
  have h2 := heap_alloc_new w1 (.cells #[skipC] 69)
  have s2 : (w1.alloc (.cells #[skipC] 69)).heap.size = N + 3 := by simp; omega
  have k2 : ∀ i, i < N + 2 → (w1.alloc (.cells #[skipC] 69)).heap[i]? = w1.heap[i]? := fun i hi => heap_alloc_old w1 _ (by omega)
  rw [s1] at h2
  change Calls _ _ _ ((((w1.alloc (.cells #[skipC] 69)).alloc (.cells #[tellC N] 69)).alloc (.cells #[.string ⟨#[]⟩] 9)).alloc (.cells #[.bool false] 4)) _
  generalize hw2 : w1.alloc (.cells #[skipC] 69) = w2 at *
  have h3 := heap_alloc_new w2 (.cells #[tellC N] 69)
  have s3 : (w2.alloc (.cells #[tellC N] 69)).heap.size = N + 4 := by simp; omega
  have k3 : ∀ i, i < N + 3 → (w2.alloc (.cells #[tellC N] 69)).heap[i]? = w2.heap[i]? := fun i hi => heap_alloc_old w2 _ (by omega)
  rw [s2] at h3
  generalize hw3 : w2.alloc (.cells #[tellC N] 69) = w3 at *
  have h4 := heap_alloc_new w3 (.cells #[.string ⟨#[]⟩] 9)
  have s4 : (w3.alloc (.cells #[.string ⟨#[]⟩] 9)).heap.size = N + 5 := by simp; omega
  have k4 : ∀ i, i < N + 4 → (w3.alloc (.cells #[.string ⟨#[]⟩] 9)).heap[i]? = w3.heap[i]? := fun i hi => heap_alloc_old w3 _ (by omega)
  rw [s3] at h4
  generalize hw4 : w3.alloc (.cells #[.string ⟨#[]⟩] 9) = w4 at *
  have h5 := heap_alloc_new w4 (.cells #[.bool false] 4)
  have s5 : (w4.alloc (.cells #[.bool false] 4)).heap.size = N + 6 := by simp; omega
  have k5 : ∀ i, i < N + 5 → (w4.alloc (.cells #[.bool false] 4)).heap[i]? = w4.heap[i]? := fun i hi => heap_alloc_old w4 _ (by omega)
  rw [s4] at h5
  have hbw : Below N w (w4.alloc (.cells #[.bool false] 4)) := by
    rw [← hw4, ← hw3, ← hw2, ← hw1]
    refine (((((Below.refl N w).alloc (by omega) _).alloc ?_ _).alloc ?_ _).alloc ?_ _).alloc ?_ _ <;> (simp; try omega)
  generalize hw5 : w4.alloc (.cells #[.bool false] 4) = w5 at *
  have hK := HKB.out w5 (fun i hi => (k5 i (by omega)).trans ((k4 i (by omega)).trans ((k3 i (by omega)).trans ((k2 i (by omega)).trans (k1 i hi)))))
    ((k5 _ (by omega)).trans ((k4 _ (by omega)).trans ((k3 _ (by omega)).trans ((k2 _ (by omega)).trans h1)))) ((k5 _ (by omega)).trans ((k4 _ (by omega)).trans ((k3 _ (by omega)).trans h2)))
    ((k5 _ (by omega)).trans ((k4 _ (by omega)).trans h3)) ((k5 _ (by omega)).trans h4) h5 s5
  have hea := each_any N w5 a n cap ks (fun w' hb => HR.out w' (hbw.trans hb)) HS.out hn (by omega) _ _ _ (fun w' hb => hK.below hb) HV.out
  have HEa := Lib.hid hea
  have HBw := Lib.hid hbw
  clear hea hbw hK HKB HV hw1 hw2 hw3 hw4 hw5 h1 h2 h3 h4 h5 s1 s2 s3 s4 s5 k1 k2 k3 k4 k5 hs
  refine HEa.out.mono ?_
  rintro e w6 ⟨rfl, hb6, hd6⟩
  have HB6 := Lib.hid (HBw.out.trans hb6)
  have HD6 := Lib.hid hd6
  clear hb6 hd6
  go_wp2
  go_ret
  exact ⟨rfl, HB6.out, HD6.out⟩

theorem atOut_none {f : Nat} {ks : List ByteArray} (h : decs ks = none ∨ ¬ rises ks) : atOut f ks = [] := by
  unfold atOut
  rcases h with h | h
  · rw [h]
  · cases decs ks with
    | none => rfl
    | some es => show (if rises ks then _ else _) = _; rw [if_neg h]

theorem atOut_some {f : Nat} {ks : List ByteArray} {es : List Ent} (h : decs ks = some es) (hr : rises ks) : atOut f ks = keysOf (gF false true f (ks.zip es)).1 := by
  unfold atOut
  rw [h]
  show (if rises ks then _ else _) = _
  rw [if_pos hr]

/-- What Keep has at last. -/
theorem at_out {N f : Nat} {ks : List ByteArray} {w : World} (h : (∃ es, decs ks = some es ∧ rises ks ∧ AB N f (gF false true f (ks.zip es)) w) ∨ ((decs ks = none ∨ ¬ rises ks) ∧ AB N f (gF false true f []) w)) :
    ∃ a cap, w.heap[N]? = some (Obj.cells #[.slice a (atOut f ks).length cap] 26 (0, 0)) ∧ Reads w 1 (.slice a (atOut f ks).length cap) (atOut f ks).length (scells (atOut f ks)) := by
  rcases h with ⟨es, hd, hr, lv, last, sm, _, h2, h3, _⟩ | ⟨hn, lv, last, sm, _, h2, h3, _⟩
  · rw [atOut_some hd hr]
    have hlen : (keysOf (gF false true f (ks.zip es)).1).length = (gF false true f (ks.zip es)).1.length := List.length_map ..
    rw [hlen]
    have hb1 := h2.b0
    obtain ⟨a, cap, rfl, _, _⟩ := (ownsRow.reads h3).le
    exact ⟨a, cap, hb1, ownsRow.reads h3⟩
  · rw [atOut_none hn]
    have hb1 := h2.b0
    have h3' : w.ownsRow (N + 6) 9 1 lv 0 (scells []) := h3
    obtain ⟨a, cap, rfl, _, _⟩ := (ownsRow.reads h3').le
    exact ⟨a, cap, hb1, ownsRow.reads h3'⟩

set_option maxRecDepth 100000 in
set_option maxHeartbeats 4000000 in
theorem at_any18 (w : World) (a : Option Addr) (n cap : Nat) (ks : List ByteArray) (f : Nat) (hr : Reads w 1 (.slice a n cap) n (scells ks)) (hsz : ∀ k ∈ ks, k.size ≤ 1000000) (hn : n ≤ 1000) :
    Calls Try.prog 15 #[.slice a n cap, .int .u64 (f : Int)] w (AtPost w f ks) := by
  have hmf : ∀ (fn : Fn) (first cap : Array Value) (w : World), (Instr.makeFunc fn first cap).run Try.prog w = .ok (.func fn first cap) w := fun _ _ _ _ => rfl
  have HR := Lib.hid hr
  have HS := Lib.hid hsz
  clear hr hsz
  go_enter Try.func15, Try.ntmps15
  go_wp2_with (go_at_call 36; fail)
  change Calls _ _ #[_, _, skipC, tellC w.heap.size] (w.alloc (.cells #[.slice none 0 0] 26)) _
  have h1 := heap_alloc_new w (.cells #[.slice none 0 0] 26)
  have s1 : (w.alloc (.cells #[.slice none 0 0] 26)).heap.size = w.heap.size + 1 := by simp
  have hb1 : Below w.heap.size w (w.alloc (.cells #[.slice none 0 0] 26)) := (Below.refl _ _).alloc (Nat.le_refl _) _
  generalize hN : w.heap.size = N at *
  generalize w.alloc (.cells #[.slice none 0 0] 26) = w3 at *
  have hfi := firstat_any N w3 a n cap ks f (fun w' hb => by subst hN; exact HR.out.below' (hb1.trans hb)) HS.out hn s1 h1
  have HFi := Lib.hid hfi
  have HB3 := Lib.hid hb1
  clear hfi hb1 h1 s1
  refine HFi.out.mono ?_
  rintro e w6 ⟨rfl, hb6, hd6⟩
  obtain ⟨oa, ocap, hcell, hrd⟩ := at_out hd6
  have HB6 := Lib.hid (HB3.out.trans hb6)
  have HW := Lib.hid hrd
  have q1 := Lib.cell_of_heap hcell 0
  simp at q1
  have hf0 : AtPost w f ks (.returned (.tuple #[.slice oa (atOut f ks).length ocap, .int .i64 (errOf ks : Int)])) w6 := ⟨oa, ocap, rfl, HW.out, by rw [hN]; exact HB6.out⟩
  have HFin := Lib.hid hf0
  clear hb6 hd6 hcell hrd hf0
  generalize (atOut f ks).length = m at *
  generalize errOf ks = er at *
  go_wp2
  go_ret2
  exact HFin.out
end Go.Proofs.Ytekdcjbjjakhcaa
