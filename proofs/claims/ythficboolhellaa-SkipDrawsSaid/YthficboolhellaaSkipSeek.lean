/- The towers' small questions: told, Seek, After, Last, Len, Size, Has. -/
import Derived.Test.YthficboolhellaaSkipPath
import Derived.Test.YthficboolhellaaRef11Seek
namespace Go.Proofs.Ythficboolhellaa
open Go Go.RowKit

/-- A slice of bytes that are drawn of. -/
def Draws (w : World) (v : Value) : Prop := ∃ (a : Option Addr) (n cap : Nat) (l : List UInt8), v = .slice a n cap ∧ Reads w 1 (.slice a n cap) n (bcells l) ∧ ∀ g, v.ownBlock = some g → ∃ cs fz, w.heap[g]? = some (Obj.cells cs 5 fz)

def sumSz (K : List ByteArray) : Nat := (K.map (·.size)).sum

/-- A list of towers with the keys K. -/
structure SkL (w : World) (L : Nat) (ns : List Nat) (key : Nat → ByteArray) (ht : Nat → Nat) (K : List ByteArray) : Prop where
  nodes : SkN w L ns key ht
  keys : ns.map key = K
  up : rises K
  draws : ∃ v, w.cell? ⟨L, 9, none⟩ = some v ∧ Draws w v
  len : w.cell? ⟨L, 10, none⟩ = some (.int .i64 (K.length : Int))
  size : w.cell? ⟨L, 11, none⟩ = some (.int .i64 (sumSz K : Int))

theorem bytes_of_draws {w w' : World} {v : Value} (h : Draws w v) (hk : ∀ (g : Nat) (cs : Array Value) (fz : Nat × Nat), w.heap[g]? = some (Obj.cells cs 5 fz) → w'.heap[g]? = some (Obj.cells cs 5 fz)) (hsz : w.heap.size ≤ w'.heap.size) : Draws w' v := by
  obtain ⟨a, n, cap, l, rfl, hr, ho⟩ := h
  refine ⟨a, n, cap, l, rfl, ?_, fun g hg => ?_⟩
  · obtain ⟨hl, a', cap', hv, h1, h2, h3⟩ := hr
    cases hv
    refine ⟨hl, a, cap, rfl, h1, h2, fun j u hj => ?_⟩
    obtain ⟨b, off, rfl, hlt, hc⟩ := h3 j u hj
    obtain ⟨cs, fz, hh⟩ := ho b rfl
    refine ⟨b, off, rfl, Nat.lt_of_lt_of_le hlt hsz, ?_⟩
    have hs := hk _ _ _ hh
    have : w'.heap[b]? = w.heap[b]? := hs.trans hh.symm
    exact (World.cell?_of_block (a := ⟨b, off + j, none⟩) this).trans hc
  · obtain ⟨cs, fz, hh⟩ := ho g hg
    exact ⟨cs, fz, hk _ _ _ hh⟩

theorem SkL.below {w w' : World} {L : Nat} {ns : List Nat} {key : Nat → ByteArray} {ht : Nat → Nat} {K : List ByteArray} (h : SkL w L ns key ht K) (hb : Below w.heap.size w w') : SkL w' L ns key ht K := by
  have hL : w'.heap[L]? = w.heap[L]? := hb.block L (h.nodes.lt (by simp))
  obtain ⟨v, hv, hd⟩ := h.draws
  refine ⟨h.nodes.below hb, h.keys, h.up, ⟨v, (cell_same hL).trans hv, bytes_of_draws hd (fun g cs fz hg => (hb.block g (Array.getElem?_eq_some_iff.1 hg).1).trans hg) hb.size⟩, (cell_same hL).trans h.len, (cell_same hL).trans h.size⟩

/-- The nodes are parted by a question that rising keys answer yes, then no. -/
theorem SkL.part {w : World} {L : Nat} {ns : List Nat} {key : Nat → ByteArray} {ht : Nat → Nat} {K : List ByteArray} (h : SkL w L ns key ht K) (P : ByteArray → Bool) (hP : ∀ x y, bl x y = true → P y = true → P x = true) :
    ∃ A B, ns = A ++ B ∧ (∀ x ∈ A, P (key x) = true) ∧ (∀ x ∈ B, P (key x) = false) := by
  have hr := h.up
  rw [← h.keys] at hr
  clear h
  induction ns with
  | nil => exact ⟨[], [], rfl, (fun x hx => by simp at hx), (fun x hx => by simp at hx)⟩
  | cons a t ih =>
    have hp := List.pairwise_cons.1 hr
    obtain ⟨A, B, h1, h2, h3⟩ := ih hp.2
    cases ha : P (key a) with
    | true =>
      refine ⟨a :: A, B, by rw [h1]; rfl, fun x hx => ?_, h3⟩
      rcases List.mem_cons.1 hx with rfl | hx
      · exact ha
      · exact h2 x hx
    | false =>
      refine ⟨[], a :: t, rfl, (fun x hx => by simp at hx), fun x hx => ?_⟩
      rcases List.mem_cons.1 hx with rfl | hx
      · exact ha
      · cases hpx : P (key x) with
        | false => rfl
        | true =>
          have := hP _ _ (hp.1 (key x) (List.mem_map.2 ⟨x, hx, rfl⟩)) hpx
          rw [ha] at this
          cases this

theorem told_none (w : World) : Calls Try.prog 25 #[.pointer none] w (Sk11Post w none) := by
  go_enter Try.func25, Try.ntmps25
  go_wp2
  refine bodyPost_ret (v := .tuple #[.string ⟨#[]⟩, .bool false]) (by simp [results, Try.results25, go_sem]) rfl ?_
  exact ⟨rfl, rfl⟩

theorem told_some (w : World) (b : Nat) (k : ByteArray) (hc : w.cell? ⟨b, 0, none⟩ = some (.string k)) : Calls Try.prog 25 #[.pointer (some ⟨b, 0, none⟩)] w (Sk11Post w (some k)) := by
  go_enter Try.func25, Try.ntmps25
  go_wp2
  refine bodyPost_ret (v := .tuple #[.string k, .bool true]) (by simp [results, Try.results25, go_sem]) rfl ?_
  exact ⟨rfl, rfl⟩

theorem len_any (w : World) (L : Nat) (n : Int) (h : w.cell? ⟨L, 10, none⟩ = some (.int .i64 n)) : Calls Try.prog 12 #[.pointer (some ⟨L, 0, none⟩)] w fun e w' => e = .returned (.int .i64 n) ∧ w = w' := by
  go_enter Try.func12, Try.ntmps12
  go_wp2
  go_ret
  exact ⟨rfl, rfl⟩

theorem size_any (w : World) (L : Nat) (n : Int) (h : w.cell? ⟨L, 11, none⟩ = some (.int .i64 n)) : Calls Try.prog 13 #[.pointer (some ⟨L, 0, none⟩)] w fun e w' => e = .returned (.int .i64 n) ∧ w = w' := by
  go_enter Try.func13, Try.ntmps13
  go_wp2
  go_ret
  exact ⟨rfl, rfl⟩
/-- The first key behind a part. -/
theorem nodes_next {w : World} {L : Nat} {A B : List Nat} {key : Nat → ByteArray} {ht : Nat → Nat} (h : SkN w L (A ++ B) key ht) : w.cell? ⟨lastP L A, 1, none⟩ = some (ptrO B.head?) := by
  have hz : fl (A ++ B) ht 0 = A ++ B := fl_zero h.tall
  have hc := h.chain 0 (by omega) A.length (lastP L A) (by rw [hz]; exact lastP_at L A B)
  rw [hz, List.getElem?_append_right (Nat.le_refl _), Nat.sub_self] at hc
  cases B with
  | nil => exact hc
  | cons b t => exact hc

theorem fl_left {w : World} {L : Nat} {A B : List Nat} {key : Nat → ByteArray} {ht : Nat → Nat} (h : SkN w L (A ++ B) key ht) : fl A ht 0 = A := fl_zero fun b hb => h.tall b (by simp [hb])

theorem find_part {A B : List Nat} {key : Nat → ByteArray} {P Q : ByteArray → Bool} (hPQ : ∀ k, Q k = !P k) (hA : ∀ x ∈ A, P (key x) = true) (hB : ∀ x ∈ B, P (key x) = false) : ((A ++ B).map key).find? Q = B.head?.map key := by
  rw [List.map_append, List.find?_append]
  have : (A.map key).find? Q = none := by
    rw [List.find?_eq_none]
    intro k hk
    obtain ⟨x, hx, rfl⟩ := List.mem_map.1 hk
    rw [hPQ, hA x hx]
    decide
  rw [this]
  cases B with
  | nil => rfl
  | cons b t =>
    rw [List.map_cons, List.find?_cons, hPQ, hB b (by simp)]
    rfl

theorem boxed {w : World} (k : ByteArray) {w' : World} (h : Below (w.alloc (.cells #[.string k] 9)).heap.size (w.alloc (.cells #[.string k] 9)) w') : w'.cell? ⟨w.heap.size, 0, none⟩ = some (.string k) := by
  have := (h.block w.heap.size (by simp)).trans (heap_alloc_new w (.cells #[.string k] 9))
  rw [Lib.cell_of_heap this 0]
  rfl

def ltP (key k : ByteArray) : Bool := bl k key
def leP (key k : ByteArray) : Bool := bl k key || decide (k = key)

set_option maxRecDepth 100000 in
theorem asks_seek (w : World) (key : ByteArray) : Asks (w.alloc (.cells #[.string key] 9)) (ltP key) 26 #[.pointer (some ⟨w.heap.size, 0, none⟩)] where
  enter := fun _ _ => by kernel_rfl
  call := fun k w' hb => by
    have hc := boxed key hb
    have e1 := bl_spell k key
    have hl : ltP key k = bl k key := rfl
    rw [hl]
    generalize bl k key = b at *
    go_enter Try.func26, Try.ntmps26
    go_wp2
    go_ret
    exact ⟨rfl, rfl⟩

set_option maxRecDepth 100000 in
theorem asks_put (w : World) (key : ByteArray) : Asks (w.alloc (.cells #[.string key] 9)) (ltP key) 23 #[.pointer (some ⟨w.heap.size, 0, none⟩)] where
  enter := fun _ _ => by kernel_rfl
  call := fun k w' hb => by
    have hc := boxed key hb
    have e1 := bl_spell k key
    have hl : ltP key k = bl k key := rfl
    rw [hl]
    generalize bl k key = b at *
    go_enter Try.func23, Try.ntmps23
    go_wp2
    go_ret
    exact ⟨rfl, rfl⟩

set_option maxRecDepth 100000 in
theorem asks_after (w : World) (key : ByteArray) : Asks (w.alloc (.cells #[.string key] 9)) (leP key) 27 #[.pointer (some ⟨w.heap.size, 0, none⟩)] where
  enter := fun _ _ => by kernel_rfl
  call := fun k w' hb => by
    have hc := boxed key hb
    have e1 := bl_spell k key
    have e2 := bl_spell key k
    have e3 := str_eq k key
    have hl : leP key k = (bl k key || decide (k = key)) := rfl
    rw [hl]
    go_enter Try.func27, Try.ntmps27
    go_wp2
    go_ret
    exact ⟨rfl, rfl⟩

set_option maxRecDepth 100000 in
theorem asks_last (w : World) : Asks w (fun _ => true) 28 #[] where
  enter := fun _ _ => by kernel_rfl
  call := fun k w' hb => by
    go_enter Try.func28, Try.ntmps28
    go_wp2
    go_ret
    exact ⟨rfl, rfl⟩

theorem index_lit (v0 v1 v2 v3 v4 v5 v6 v7 : Value) (w : World) : (Instr.index 43 (.agg #[v0, v1, v2, v3, v4, v5, v6, v7]) (.int .i64 0)).run Try.prog w = .ok v0 w := by kernel_rfl

theorem index_head {vs : List Value} (h : vs.length = 8) {v : Value} (hv : vs[0]? = some v) (w : World) : (Instr.index 43 (.agg vs.toArray) (.int .i64 0)).run Try.prog w = .ok v w := by
  match vs, h, hv with
  | [v0, v1, v2, v3, v4, v5, v6, v7], _, hv =>
    cases hv
    exact index_lit _ _ _ _ _ _ _ _ w
end Go.Proofs.Ythficboolhellaa
