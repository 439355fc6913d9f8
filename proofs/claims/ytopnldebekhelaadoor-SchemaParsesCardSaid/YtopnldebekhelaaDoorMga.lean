/- What the proof stands on, the small texts. -/
import Derived.WalkKit
import Derived.WalkSpells
import Derived.WalkLawsBesides
import Derived.Deep.Upon
import Derived.Deep.CutRange
import Derived.Maps.AppendAt
import Derived.Laws.BytesArg
import Derived.Laws.BytesString
import Derived.Lib.Hide
import Derived.Test.YtopnldebekhelaaDoorRows
import Derived.Lib.Builder
import Derived.Maps.OwnSet
import Derived.Deep.RegionLaw
import Derived.Orders
/- Slices that may be appended to without a store into old memory. -/
namespace Go.Proofs.YtopnldebekhelaaDoor
open Go Go.RowKit

theorem below_undrew {B : Nat} {w w' : World} (h : Below B w.drew w') : Below B w w' := ⟨h.os, h.tape, h.output, h.size, h.block⟩

/-- The slice value v has n elements of size cells each; its cells read xs. -/
def Reads (w : World) (size : Nat) (v : Value) (n : Nat) (xs : List Value) : Prop :=
  xs.length = n * size ∧ ∃ a cap, v = .slice a n cap ∧ n ≤ cap ∧ cap ≤ maxLen ∧ (∀ j u, xs[j]? = some u → ∃ b off, a = some ⟨b, off, none⟩ ∧ b < w.heap.size ∧ w.cell? ⟨b, off + j, none⟩ = some u)

/-- What is appended to it goes into a new row, or into its own, which is new (block B or later). -/
def Fresh (B : Nat) (w : World) (e : TypeId) (size : Nat) (v : Value) (n : Nat) (xs : List Value) : Prop :=
  Reads w size v n xs ∧ ((∃ a, v = .slice a n n) ∨ w.ownsRow B e size v n xs)

theorem Reads.firstCells {P : Program} {w : World} {size n : Nat} {v : Value} {xs : List Value} (h : Reads w size v n xs) (w' : World) (hw : w'.heap = w.heap) :
    (Builtin.firstCells size n v).run P w' = .ok xs.toArray w' := by
  obtain ⟨hl, a, cap, rfl, h1, h2, h3⟩ := h
  cases a with
  | none =>
    have : xs = [] := by
      cases xs with
      | nil => rfl
      | cons x r => obtain ⟨_, _, hc, _⟩ := h3 0 x rfl; cases hc
    subst this
    exact run_firstCells_none w' size n n cap
  | some a =>
    refine run_firstCells_some w' size n a n cap xs hl ?_
    intro j u hj
    obtain ⟨b, off, hc, _, hr⟩ := h3 j u hj
    cases hc
    rw [Addr.add_lit, World.cell?_of_block (w := w) (by rw [hw])]
    exact hr

theorem Reads.grown {w w' : World} {row : Option Nat} {size n : Nat} {v : Value} {xs : List Value} (h : Reads w size v n xs) (hg : w.grownBy w' row) (hne : v.ownBlock = none ∨ v.ownBlock ≠ row) : Reads w' size v n xs := by
  obtain ⟨hl, a, cap, rfl, h1, h2, h3⟩ := h
  refine ⟨hl, a, cap, rfl, h1, h2, fun j u hj => ?_⟩
  obtain ⟨b, off, rfl, hb, hr⟩ := h3 j u hj
  refine ⟨b, off, rfl, Nat.lt_of_lt_of_le hb hg.size, hg.cell hr ?_⟩
  rcases hne with hne | hne
  · cases hne
  · exact hne

theorem Fresh.grown {B : Nat} {w w' : World} {e : TypeId} {row : Option Nat} {size n : Nat} {v : Value} {xs : List Value} (h : Fresh B w e size v n xs) (hg : w.grownBy w' row) (hne : v.ownBlock = none ∨ v.ownBlock ≠ row) : Fresh B w' e size v n xs :=
  ⟨h.1.grown hg hne, h.2.imp id fun k => k.kept hg hne⟩

theorem Fresh.alloc {B : Nat} {w : World} {e : TypeId} {size n : Nat} {v : Value} {xs : List Value} (h : Fresh B w e size v n xs) (o : Obj) : Fresh B (w.alloc o) e size v n xs := by
  refine h.grown (World.grownBy_alloc w o none) ?_
  cases v.ownBlock <;> simp

theorem Fresh.drew {B : Nat} {w : World} {e : TypeId} {size n : Nat} {v : Value} {xs : List Value} (h : Fresh B w e size v n xs) : Fresh B w.drew e size v n xs := h

theorem ownsRow.reads {B : Nat} {w : World} {e : TypeId} {size n : Nat} {v : Value} {xs : List Value} (h : w.ownsRow B e size v n xs) : Reads w size v n xs := by
  refine ⟨h.1, ?_⟩
  rcases h.2 with ⟨rfl, rfl⟩ | ⟨g, cap, cur, rfl, h1, h2, h3, h4, h5, h6⟩
  · refine ⟨none, 0, rfl, Nat.le_refl _, Nat.zero_le _, fun j u hj => ?_⟩
    have := h.1
    simp at this
    subst this
    simp at hj
  · refine ⟨_, cap, rfl, h3, h4, fun j u hj => ⟨g, 0, rfl, (Array.getElem?_eq_some_iff.1 h2).1, ?_⟩⟩
    have := h.cells (g := g) rfl j u hj
    rwa [Addr.add_lit] at this

theorem tape_setCells (g : Nat) (vs : List Value) (o : Nat) (w : World) : (w.setCells g o vs).tape = w.tape := by
  induction vs generalizing o w with
  | nil => rfl
  | cons v vs ih => rw [World.setCells, ih]; rfl

theorem heap_setCells_same (g : Nat) (e : TypeId) (fz : Nat × Nat) (vs : List Value) (o : Nat) (w : World) (cur : Array Value) (h : w.heap[g]? = some (.cells cur e fz)) :
    ∃ cur', (w.setCells g o vs).heap[g]? = some (.cells cur' e fz) ∧ cur'.size = cur.size := by
  induction vs generalizing o w cur with
  | nil => exact ⟨cur, h, rfl⟩
  | cons v vs ih =>
    rw [World.setCells]
    have h1 : (w.setCell ⟨g, o, none⟩ v).heap[g]? = some (.cells (cur.setIfInBounds o v) e fz) := by
      have hlt := (Array.getElem?_eq_some_iff.1 h).1
      simp [World.setCell, Array.getElem?_modify, h]
    obtain ⟨cur', k1, k2⟩ := ih (o + 1) _ _ h1
    exact ⟨cur', k1, by rw [k2, Array.size_setIfInBounds]⟩

/-- The row of what is handed back is the one that it had, or a new one. -/
def Moves (w : World) (v v' : Value) : Prop := ∀ b, b < w.heap.size → v.ownBlock ≠ some b → v'.ownBlock ≠ some b

theorem run_append_fresh {P : Program} {w : World} (B : Nat) (t tx ty e : TypeId) (i : TypeInfo) (z : Value) (size bytes : Nat) (ht : P.underlying t = some (.slice e)) (hi : P.info? e = some i) (hz : i.zero = some z)
    (hsize : i.size = size) (hby : i.bytes = bytes) (hzs : z.cells.size = size)
    (v : Value) (n : Nat) (xs : List Value) (h : Fresh B w e size v n xs) (x : Value) (m : Nat) (news : List Value) (hs : Src P size tx x m news w)
    (h63 : n + m ≤ maxLen) (hbytes : (n + m) * bytes ≤ 140737488355328) (hB : B ≤ w.heap.size) :
    ∃ v' w', (Builtin.append_ #[t, tx] ty #[v, x]).run P w = .ok v' w' ∧ Fresh B w' e size v' (n + m) (xs ++ news) ∧ w.grownBy w' v.ownBlock ∧ Below B w w' ∧ Moves w v v' := by
  subst hsize
  subst hby
  have hsmall : n + m ≤ 9223372036854775807 := by simp only [maxLen] at h63; omega
  have hnl := hs.newsLen
  have hxl := h.1.1
  have hlen : (xs ++ news).length = (n + m) * i.size := by rw [List.length_append, hxl, hnl, Nat.add_mul]
  have grow : ∀ (bs : Option Addr) (sc : Nat), v = .slice bs n sc → sc < n + m →
      ∃ v' w', (Builtin.append_ #[t, tx] ty #[v, x]).run P w = .ok v' w' ∧ Fresh B w' e i.size v' (n + m) (xs ++ news) ∧ w.grownBy w' v.ownBlock ∧ Below B w w' ∧ Moves w v v' := by
    rintro bs sc hv hg
    have hold := h.1.firstCells (P := P) w.drew rfl
    subst hv
    have hrun := run_append_grow_src (P := P) w t tx ty e i z ht hi hz bs n sc xs hold x m news hs hg (by omega) (growslice_fits hg hbytes)
    have hge := grownCap_ge w (n + m) sc e
    have hcm := grownCap_le_maxLen w (n + m) sc e h63
    have hblk : ∀ k, k < w.heap.size → (w.drew.alloc (.cells ((xs ++ news).toArray ++ Builtin.zeroCells z.cells (grownCap w (n + m) sc e - (n + m))) e)).heap[k]? = w.heap[k]? := fun k hk => Below.heap_alloc w.drew _ k hk
    have hown : (w.drew.alloc (.cells ((xs ++ news).toArray ++ Builtin.zeroCells z.cells (grownCap w (n + m) sc e - (n + m))) e)).ownsRow B e i.size (.slice (some ⟨w.heap.size, 0, none⟩) (n + m) (grownCap w (n + m) sc e)) (n + m) (xs ++ news) := by
      refine ⟨hlen, .inr ⟨w.heap.size, _, _, rfl, hB, heap_alloc_new w.drew _, hge, hcm, ?_, ?_⟩⟩
      · rw [Array.size_append, List.size_toArray, hlen, size_zeroCells, hzs, ← Nat.add_mul]
        congr 1
        omega
      · simp only [Array.toList_append]
        rw [← hlen]
        exact List.take_left
    exact ⟨_, _, hrun, ⟨ownsRow.reads hown, .inr hown⟩, ⟨rfl, rfl, rfl, by simp, fun k hk _ => hblk k hk⟩, ⟨rfl, rfl, rfl, by simp, fun k hk => hblk k (by omega)⟩, fun b hb _ => by simp [Value.ownBlock]; omega⟩
  by_cases hm : m = 0
  · subst hm
    have hn : news = [] := List.eq_nil_of_length_eq_zero (by simpa using hnl)
    subst hn
    obtain ⟨_, a, cap, rfl, h1, h2, h3⟩ := h.1
    exact ⟨_, w, run_append_nothing (P := P) w t tx ty e i ht hi a n cap h1 x hs, by simpa using h, World.grownBy.refl _ _, Below.refl _ _, fun _ _ h => h⟩
  · rcases h.2 with ⟨a, hv⟩ | hown
    · exact grow a n hv (by omega)
    · rcases hown.2 with ⟨hv, h0⟩ | ⟨g, cap, cur, hv, hbg, hg, hnc, hcm, hcs, htake⟩
      · subst h0
        exact grow none 0 hv (by omega)
      · by_cases hroom : n + m ≤ cap
        · subst hv
          have hfit : n * i.size + news.length ≤ cur.size := by rw [hnl, hcs, ← Nat.add_mul]; exact Nat.mul_le_mul_right _ hroom
          have hc : ∀ j, j < news.length → (w.cell? ⟨g, 0 + n * i.size + j, none⟩).isSome = true := by
            intro j hj
            have hlt : n * i.size + j < cur.size := by omega
            simp [World.cell?, hg, Array.getElem?_eq_getElem hlt]
          have hf : ∀ j, j < news.length → w.frozen? ⟨g, 0 + n * i.size + j, none⟩ = false := by
            intro j hj
            simp [World.frozen?, hg]
          have hrun := run_append_room_src (P := P) w t tx ty e i ht hi g 0 n cap x m news hs hroom hc hf
          have hk := World.keptBut_setCells g (may := fun p => p.block = g) news (0 + n * i.size) w (fun _ _ => rfl)
          have hblk : ∀ k, k < w.heap.size → k ≠ g → (w.setCells g (0 + n * i.size) news).heap[k]? = w.heap[k]? := fun k hk1 hk2 => World.heap_setCells_other w g _ news hk1 hk2
          have hcell : ∀ j u, (xs ++ news)[j]? = some u → (w.setCells g (0 + n * i.size) news).cell? ⟨g, 0 + j, none⟩ = some u := by
            intro j u hj
            by_cases hjx : j < xs.length
            · rw [World.cell?_setCells_out g _ _ _ _ (fun _ _ => Or.inl (by show 0 + j < 0 + n * i.size; omega))]
              rw [List.getElem?_append_left hjx] at hj
              have := hown.cells (g := g) rfl j u hj
              rwa [Addr.add_lit] at this
            · rw [List.getElem?_append_right (by omega)] at hj
              obtain ⟨hjl, hju⟩ := List.getElem?_eq_some_iff.1 hj
              have := World.cell?_setCells_in g news (0 + n * i.size) w hc (j - xs.length) hjl
              rw [show 0 + n * i.size + (j - xs.length) = 0 + j by omega] at this
              rw [this, hju]
          obtain ⟨cur', hc1, hc2⟩ := heap_setCells_same g e (0, 0) news (0 + n * i.size) w cur hg
          have hown' : (w.setCells g (0 + n * i.size) news).ownsRow B e i.size (.slice (some ⟨g, 0, none⟩) (n + m) cap) (n + m) (xs ++ news) := by
            refine ⟨hlen, .inr ⟨g, cap, cur', rfl, hbg, hc1, hroom, hcm, by rw [hc2, hcs], ?_⟩⟩
            have hl1 : (n + m) * i.size ≤ cap * i.size := Nat.mul_le_mul_right _ hroom
            apply List.ext_getElem?
            intro j
            by_cases hj : j < (xs ++ news).length
            · have hr := hcell j _ (List.getElem?_eq_getElem hj)
              rw [List.getElem?_eq_getElem hj, ← hr, List.getElem?_take_of_lt (by omega)]
              unfold World.cell?
              rw [hc1]
              simp
            · rw [List.getElem?_eq_none (by rw [List.length_take]; omega), List.getElem?_eq_none (by omega)]
          exact ⟨_, _, hrun, ⟨ownsRow.reads hown', .inr hown'⟩, ⟨World.os_setCells _ _ _ _, tape_setCells _ _ _ _, World.output_setCells _ _ _ _, hk.size, fun k hk1 hk2 => hblk k hk1 (fun e => hk2 (by simp [Value.ownBlock, e]))⟩, ⟨World.os_setCells _ _ _ _, tape_setCells _ _ _ _, World.output_setCells _ _ _ _, hk.size, fun k hk1 => hblk k (by omega) (by omega)⟩, fun _ _ h => h⟩
        · exact grow _ cap hv (by omega)

/-- 'append(s, x...)' for the walk. -/
theorem wpList_append_fresh {P : Program} {w : World} {ops : Array Oper} {rest : List Oper} {o : Oper} {a : Act} {Q : Exit → Act → World → Prop} (hgd : o.guard = none) (s x : Operand) (t tx : TypeId)
    (ho : o.op = .call { callee := .builtin .append, args := #[s, x], argTypes := #[t, tx] })
    (B : Nat) (e : TypeId) (i : TypeInfo) (z : Value) (size bytes : Nat) (ht : P.underlying t = some (.slice e)) (hi : P.info? e = some i) (hz : i.zero = some z)
    (hsize : i.size = size) (hby : i.bytes = bytes) (hzs : z.cells.size = size)
    (v : Value) (n : Nat) (xs : List Value) (hs : a.eval s = v) (hown : Fresh B w e size v n xs)
    (xv : Value) (m : Nat) (news : List Value) (hx : a.eval x = xv) (hsrc : Src P size tx xv m news w)
    (h63 : n + m ≤ maxLen) (hbytes : (n + m) * bytes ≤ 140737488355328) (hB : B ≤ w.heap.size)
    (h : ∀ v' w', Fresh B w' e size v' (n + m) (xs ++ news) → w.grownBy w' v.ownBlock → Below B w w' → Moves w v v' → wpList P ops Q rest (a.put o.dst v') w') : wpList P ops Q (o :: rest) a w := by
  refine wpList_plain hgd fun K hK => ?_
  obtain ⟨v', w', hr, h2, h3, h4, h5⟩ := run_append_fresh (P := P) B t tx o.type e i z size bytes ht hi hz hsize hby hzs v n xs hown xv m news hsrc h63 hbytes hB
  unfold Oper.wp execOp
  simp only [ho, resolve, invoke, builtin, Sem.run_bind, Sem.run_pure, Result.andThen_ok, List.map_toArray, List.map_cons, List.map_nil, hs, hx, hr]
  exact hK _ _ (h v' w' h2 h3 h4 h5)

theorem Src.ofLits {P : Program} {tx e' e : TypeId} (hk : P.underlying tx = some (.slice e')) (w0 : World) (n : Nat) (us : List Value) (hl : us.length = n) (h1 : ∀ u ∈ us, u.oneCell' = true) :
    Src P 1 tx (.slice (some ⟨w0.heap.size, 0, none⟩) n n) n us (w0.alloc (.cells us.toArray e)) := by
  refine Src.ofSlice _ hk _ _ _ _ (by omega) ?_ h1
  intro j y hj
  rw [Addr.add_lit]
  rw [show (0 + j) = j by omega]
  rw [World.cell?_alloc_new w0 _ _ j]
  simpa using hj

/-- 'append(s, x, ..)' of cells that have just been laid in a block of their own. -/
theorem wpList_append_lits {P : Program} {w0 : World} {ops : Array Oper} {rest : List Oper} {o : Oper} {a : Act} {Q : Exit → Act → World → Prop} (hgd : o.guard = none) (s x : Operand) (t : TypeId)
    (ho : o.op = .call { callee := .builtin .append, args := #[s, x], argTypes := #[t, t] })
    (B : Nat) (e : TypeId) (i : TypeInfo) (z : Value) (bytes : Nat) (ht : P.underlying t = some (.slice e)) (hi : P.info? e = some i) (hz : i.zero = some z)
    (hsize : i.size = 1) (hby : i.bytes = bytes) (hzs : z.cells.size = 1)
    {v : Value} {n : Nat} {xs : List Value} (us : List Value) (m : Nat) (hl : us.length = m) (hown : Fresh B w0 e 1 v n xs) (hs : a.eval s = v) (hx : a.eval x = .slice (some ⟨w0.heap.size, 0, none⟩) m m) (h1 : ∀ u ∈ us, u.oneCell' = true)
    (h63 : n + m ≤ maxLen) (hbytes : (n + m) * bytes ≤ 140737488355328) (hB : B ≤ w0.heap.size)
    (h : ∀ v' w', Fresh B w' e 1 v' (n + m) (xs ++ us) → w0.grownBy w' v.ownBlock → Below B w0 w' → Moves w0 v v' → wpList P ops Q rest (a.put o.dst v') w') : wpList P ops Q (o :: rest) a (w0.alloc (.cells us.toArray e)) := by
  refine wpList_append_fresh hgd s x t t ho B e i z 1 bytes ht hi hz hsize hby hzs v n xs hs (hown.alloc _) _ m us hx (Src.ofLits ht w0 m us hl h1) h63 hbytes (by simp; omega) (fun v' w' k1 k2 k3 k4 => h v' w' k1 ((World.grownBy_alloc w0 _ _).trans k2) (((Below.refl _ _).alloc hB _).trans k3) (fun b hb => k4 b (by simp; omega)))

/-- 'append(s, x)' of one cell that has just been laid in a block of its own. -/
theorem wpList_append_one {P : Program} {w0 : World} {ops : Array Oper} {rest : List Oper} {o : Oper} {a : Act} {Q : Exit → Act → World → Prop} (hgd : o.guard = none) (s x : Operand) (t : TypeId)
    (ho : o.op = .call { callee := .builtin .append, args := #[s, x], argTypes := #[t, t] })
    (B : Nat) (e : TypeId) (i : TypeInfo) (z : Value) (bytes : Nat) (ht : P.underlying t = some (.slice e)) (hi : P.info? e = some i) (hz : i.zero = some z)
    (hsize : i.size = 1) (hby : i.bytes = bytes) (hzs : z.cells.size = 1)
    {v : Value} {n : Nat} {xs : List Value} {u : Value} (hown : Fresh B w0 e 1 v n xs) (hs : a.eval s = v) (hx : a.eval x = .slice (some ⟨w0.heap.size, 0, none⟩) 1 1) (h1 : u.oneCell' = true)
    (h63 : n + 1 ≤ maxLen) (hbytes : (n + 1) * bytes ≤ 140737488355328) (hB : B ≤ w0.heap.size)
    (h : ∀ v' w', Fresh B w' e 1 v' (n + 1) (xs ++ [u]) → w0.grownBy w' v.ownBlock → Below B w0 w' → Moves w0 v v' → wpList P ops Q rest (a.put o.dst v') w') : wpList P ops Q (o :: rest) a (w0.alloc (.cells #[u] e)) :=
  wpList_append_lits hgd s x t ho B e i z bytes ht hi hz hsize hby hzs [u] 1 rfl hown hs hx (fun y hy => by simp at hy; subst hy; exact h1) h63 hbytes hB h

theorem Reads.src {P : Program} {w : World} {size n : Nat} {v : Value} {xs : List Value} {tx e' : TypeId} (hk : P.underlying tx = some (.slice e')) (h : Reads w size v n xs) (h1 : ∀ u ∈ xs, u.oneCell' = true) : Src P size tx v n xs w := by
  refine ⟨.inl ⟨e', hk⟩, fun w' => ?_, h.firstCells w rfl, h.firstCells w.drew rfl, h.1, h1⟩
  obtain ⟨_, a, cap, rfl, _⟩ := h
  rfl

theorem Reads.alloc {w : World} {size n : Nat} {v : Value} {xs : List Value} (h : Reads w size v n xs) (o : Obj) : Reads (w.alloc o) size v n xs := by
  refine h.grown (World.grownBy_alloc w o none) ?_
  cases v.ownBlock <;> simp

theorem Reads.drew {w : World} {size n : Nat} {v : Value} {xs : List Value} (h : Reads w size v n xs) : Reads w.drew size v n xs := h

/-- What lies in old blocks reads as it did. -/
theorem Reads.below {B : Nat} {w w' : World} {size n : Nat} {v : Value} {xs : List Value} (h : Reads w size v n xs) (hb : Below B w w') (hB : ∀ b, v.ownBlock = some b → b < B) : Reads w' size v n xs := by
  obtain ⟨hl, a, cap, rfl, h1, h2, h3⟩ := h
  refine ⟨hl, a, cap, rfl, h1, h2, fun j u hj => ?_⟩
  obtain ⟨b, off, rfl, hlt, hr⟩ := h3 j u hj
  exact ⟨b, off, rfl, Nat.lt_of_lt_of_le hlt hb.size, (hb.cell (hB b rfl)).trans hr⟩

theorem Reads.below' {w w' : World} {size n : Nat} {v : Value} {xs : List Value} (h : Reads w size v n xs) (hb : Below w.heap.size w w') : Reads w' size v n xs := by
  obtain ⟨hl, a, cap, rfl, h1, h2, h3⟩ := h
  refine ⟨hl, a, cap, rfl, h1, h2, fun j u hj => ?_⟩
  obtain ⟨b, off, rfl, hlt, hr⟩ := h3 j u hj
  exact ⟨b, off, rfl, Nat.lt_of_lt_of_le hlt hb.size, (hb.cell hlt).trans hr⟩

/-- The bytes l, as cells. -/
def bcells (l : List UInt8) : List Value := l.map fun b => Value.int .u8 (b.toNat : Int)

theorem bcells_append (a b : List UInt8) : bcells (a ++ b) = bcells a ++ bcells b := List.map_append ..
theorem bcells_length (a : List UInt8) : (bcells a).length = a.length := List.length_map ..
theorem bcells_one (a : List UInt8) : ∀ u ∈ bcells a, u.oneCell' = true := by
  intro u hu
  obtain ⟨_, _, rfl⟩ := List.mem_map.1 hu
  rfl
theorem bcells_byteCells (s : ByteArray) : byteCells s = bcells s.data.toList := rfl

theorem bcells_snoc (l : List UInt8) (b : UInt8) {z : Int} (h : z = (b.toNat : Int)) : bcells l ++ [Value.int .u8 z] = bcells (l ++ [b]) := by
  subst h; simp [bcells]

theorem Reads.head {w : World} {n : Nat} {v : Value} {l : List UInt8} (h : Reads w 1 v n (bcells l)) (hp : 0 < n) :
    ∃ b off cap, v = .slice (some ⟨b, off, none⟩) n cap ∧ n ≤ cap ∧ cap ≤ maxLen ∧ l.length = n ∧ ∀ j, (hj : j < n) → w.cell? ⟨b, off + j, none⟩ = some (.int .u8 ((l.getD j 0).toNat : Int)) := by
  obtain ⟨hl, a, cap, rfl, h1, h2, h3⟩ := h
  rw [bcells_length] at hl
  have hg : ∀ j, j < n → (bcells l)[j]? = some (.int .u8 ((l.getD j 0).toNat : Int)) := by
    intro j hj
    simp [bcells, List.getElem?_eq_getElem (show j < l.length by omega)]
  obtain ⟨b, off, rfl, _, _⟩ := h3 0 _ (hg 0 hp)
  refine ⟨b, off, cap, rfl, h1, h2, by omega, fun j hj => ?_⟩
  obtain ⟨b', off', e, _, hr⟩ := h3 j _ (hg j hj)
  cases e
  exact hr

/-- 'string(b)'. -/
theorem Reads.conv {P : Program} {w : World} {n : Nat} {v : Value} {l : List UInt8} {src e dst : TypeId} (hs : P.underlying src = some (.slice e)) (he : P.underlying e = some (.int .u8)) (hd : P.underlying dst = some .string)
    (h : Reads w 1 v n (bcells l)) : (convert src dst v).run P w = .ok (.string ⟨l.toArray⟩) w := by
  by_cases hp : n = 0
  · subst hp
    obtain ⟨hl, a, cap, rfl, h1, h2, h3⟩ := h
    obtain rfl : l = [] := by simpa [bcells_length] using hl
    cases a with
    | none => exact run_convert_bytes_nil w src e hs he _ _ dst hd
    | some a =>
      have hl : (loadCells a 0).run P w = .ok ((([] : List Int)).map (Value.int .u8)).toArray w := by
        simp [loadCells, loadCellsFrom]
      rw [run_convert_bytes_string w src dst e _ 0 cap hs he hd, run_bytesToString w _ 0 cap [] hl]
      rfl
  · obtain ⟨b, off, cap, rfl, h1, h2, hl, hcell⟩ := h.head (by omega)
    have := run_convert_bytes_arg w src e hs he b off n cap (l.map fun b => (b.toNat : Int)) (by simpa using hl) (fun i hi => by
      rw [hcell i hi]
      simp [List.getD, show i < l.length by omega]) dst hd
    rw [this]
    have e : (l.map fun b => (b.toNat : Int)).map (fun n => UInt8.ofNat n.toNat) = l := by
      rw [List.map_map]
      exact (List.map_congr_left fun b _ => by simp).trans (List.map_id l)
    unfold strOfNums
    rw [e]

/-- What a slice of bytes that came in reads as. -/
def IsRow (k : IntKind) (w : World) (a : Option Addr) (len cap : Nat) (zs : List Int) : Prop :=
  (a = none ∧ len = 0 ∧ cap = 0 ∧ zs = []) ∨
  ∃ x, a = some x ∧ len ≤ cap ∧ cap ≤ maxLen ∧ zs.length = cap ∧ (∀ i, i < zs.length → w.cell? (x.add i) = some (.int k (zs.getD i 0))) ∧ ∀ n ∈ zs, (Lit.int k n).wf = true

theorem IsRow.reads {w : World} {a : Option Addr} {len cap : Nat} {zs : List Int} (h : IsRow .u8 w a len cap zs) : ∃ l : List UInt8, l.length = len ∧ Reads w 1 (.slice a len cap) len (bcells l) := by
  rcases h with ⟨rfl, rfl, rfl, rfl⟩ | ⟨x, rfl, h1, h2, h3, h4, h5⟩
  · exact ⟨[], rfl, by simp [bcells], none, 0, rfl, Nat.le_refl _, Nat.zero_le _, fun j u hj => by simp [bcells] at hj⟩
  · refine ⟨(zs.take len).map fun z => UInt8.ofNat z.toNat, by simp; omega, by simp [bcells]; omega, _, cap, rfl, h1, h2, fun j u hj => ?_⟩
    have hj' := (List.getElem?_eq_some_iff.1 hj).1
    simp [bcells] at hj'
    have hj1 : j < len := by omega
    have hj2 : j < zs.length := by omega
    have hw := h5 zs[j] (List.getElem_mem _)
    have hb : 0 ≤ zs[j] ∧ zs[j] ≤ 255 := by simpa [Lit.wf, IntKind.min, IntKind.max, IntKind.signed, IntKind.bits] using hw
    have hc := h4 j (by omega)
    obtain ⟨b, off, spot⟩ := x
    have hspot : spot = none := by
      have h0 := h4 0 (by omega)
      simpa [Addr.add] using World.cell?_spot h0
    subst hspot
    rw [Addr.add_lit] at hc
    refine ⟨b, off, rfl, World.block_lt_of_cell? _ _ hc, ?_⟩
    rw [hc]
    simp [bcells, hj1, hj2] at hj
    rw [← hj]
    simp [List.getD, hj2]
    omega

theorem Reads.take {w : World} {n : Nat} {v : Value} {l : List UInt8} (h : Reads w 1 v n (bcells l)) (k : Nat) (hk : k ≤ n) :
    ∃ a cap, v = .slice a n cap ∧ n ≤ cap ∧ cap ≤ maxLen ∧ Reads w 1 (.slice a k cap) k (bcells (l.take k)) := by
  obtain ⟨hl, a, cap, rfl, h1, h2, h3⟩ := h
  rw [bcells_length] at hl
  refine ⟨a, cap, rfl, h1, h2, by rw [bcells_length, List.length_take]; omega, a, cap, rfl, by omega, h2, fun j u hj => h3 j u ?_⟩
  simp only [bcells, List.map_take] at hj ⊢
  rw [List.getElem?_take] at hj
  split at hj
  · exact hj
  · cases hj

/-- A slice of what is read. -/
theorem Reads.skip {w : World} {n : Nat} {b off cap : Nat} {l : List UInt8} (h : Reads w 1 (.slice (some ⟨b, off, none⟩) n cap) n (bcells l)) (k : Nat) (hk : k ≤ n) :
    Reads w 1 (.slice (some ⟨b, off + k, none⟩) (n - k) (cap - k)) (n - k) (bcells (l.drop k)) := by
  obtain ⟨hl, a, cap', hv, h1, h2, h3⟩ := h
  cases hv
  rw [bcells_length] at hl
  refine ⟨by rw [bcells_length, List.length_drop]; omega, _, _, rfl, by omega, by omega, fun j u hj => ?_⟩
  simp only [bcells, List.map_drop] at hj h3
  rw [List.getElem?_drop] at hj
  obtain ⟨b', off', e, hb, hr⟩ := h3 _ _ hj
  cases e
  exact ⟨_, _, rfl, hb, by rw [Nat.add_assoc]; exact hr⟩

theorem Reads.le {w : World} {size n : Nat} {v : Value} {xs : List Value} (h : Reads w size v n xs) : ∃ a cap, v = .slice a n cap ∧ n ≤ cap ∧ cap ≤ maxLen := by
  obtain ⟨_, a, cap, rfl, h1, h2, _⟩ := h
  exact ⟨a, cap, rfl, h1, h2⟩

/-- '[]byte(s)'. -/
theorem wpList_bytes {P : Program} {w : World} {ops : Array Oper} {rest : List Oper} {o : Oper} {a : Act} {Q : Exit → Act → World → Prop} (hgd : o.guard = none) (x : Operand) (src dst e : TypeId)
    (ho : o.op = .convert src dst x) (hs : P.underlying src = some .string) (hd : P.underlying dst = some (.slice e)) (he : P.underlying e = some (.int .u8)) (s : ByteArray) (hx : a.eval x = .string s) (hlen : s.size ≤ maxLen)
    (h : ∀ cap w', Reads w' 1 (.slice (some ⟨w.heap.size, 0, none⟩) s.size cap) s.size (bcells s.data.toList) → w.grownBy w' none → Below w.heap.size w w' → w.heap.size < w'.heap.size → wpList P ops Q rest (a.put o.dst (.slice (some ⟨w.heap.size, 0, none⟩) s.size cap)) w') : wpList P ops Q (o :: rest) a w := by
  refine wpList_plain hgd fun K hK => ?_
  have hrun := run_bytes_of_string (P := P) w src dst e s hs hd he
  have hge := grownCap_ge w s.size 0 e
  have hle := grownCap_le_maxLen w s.size 0 e hlen
  unfold Oper.wp execOp
  simp only [ho, Sem.run_bind, Sem.run_pure, Result.andThen_ok, hx, hrun]
  refine hK _ _ (h _ _ ⟨?_, _, _, rfl, hge, hle, fun j u hj => ⟨_, _, rfl, by simp, ?_⟩⟩ ⟨rfl, rfl, rfl, by simp, fun k hk _ => Below.heap_alloc w.drew _ k hk⟩ ⟨rfl, rfl, rfl, by simp, fun k hk => Below.heap_alloc w.drew _ k hk⟩ (by simp))
  · rw [bcells_length, Array.length_toList, Nat.mul_one]
    rfl
  · obtain ⟨hjl, hju⟩ := List.getElem?_eq_some_iff.1 hj
    rw [bcells_length, Array.length_toList] at hjl
    have : ((w.drew.alloc (.cells (bytesRow s (grownCap w s.size 0 e)) e ((bytesRow s (grownCap w s.size 0 e)).size, (bytesRow s (grownCap w s.size 0 e)).size + 1))).heap[w.heap.size]?) = some (.cells (bytesRow s (grownCap w s.size 0 e)) e ((bytesRow s (grownCap w s.size 0 e)).size, (bytesRow s (grownCap w s.size 0 e)).size + 1)) := heap_alloc_new w.drew _
    unfold World.cell?
    simp only [this]
    simp only [bcells, List.getElem_map, Array.getElem_toList] at hju
    have hjs : j < s.size := hjl
    simp [bytesRow, ← hju, Array.getElem?_append, hjs]

/-- 'make([]T, 0, n)'. -/
theorem wpList_make_fresh {P : Program} {w : World} {ops : Array Oper} {rest : List Oper} {o : Oper} {a : Act} {Q : Exit → Act → World → Prop} (hg : o.guard = none) (l c : Operand) (t : TypeId) (hop : o.op = Op.makeSlice t l c)
    (B : Nat) (e : TypeId) (i : TypeInfo) (z : Value) (size bytes : Nat) (h1 : P.underlying t = some (.slice e)) (h2 : P.info? e = some i) (h3 : i.zero = some z) (h4 : i.size = size) (h5 : i.bytes = bytes)
    (kl kc : IntKind) (C : Int) (n : Nat) (hl : a.eval l = .int kl 0) (hc : a.eval c = .int kc C) (hC : C = (n : Int)) (b2 : bytes * n ≤ 281474976710656) (b3 : n ≤ maxLen) (b4 : B ≤ w.heap.size)
    (hK : ∀ w', Fresh B w' e size (.slice (some ⟨w.heap.size, 0, none⟩) 0 n) 0 [] → w.grownBy w' none → Below w.heap.size w w' → w.heap.size < w'.heap.size → wpList P ops Q rest (a.put o.dst (.slice (some ⟨w.heap.size, 0, none⟩) 0 n)) w') : wpList P ops Q (o :: rest) a w := by
  subst h5
  refine wpList_make_own w hg l c t hop B e i z size h1 h2 h3 h4 kl kc C n hl hc hC b2 b3 b4 fun w' hown hg => ?_
  refine hK w' ⟨ownsRow.reads hown, .inr hown⟩ hg ⟨hg.os, hg.tape, hg.output, hg.size, fun k hk => hg.block k hk (by simp)⟩ ?_
  exact (hown.lt w.heap.size rfl).2
end Go.Proofs.YtopnldebekhelaaDoor

/- What several layers' walks share. -/
namespace Go.Proofs.YtopnldebekhelaaDoor
open Go.RowKit

theorem info5 : (Tryd.prog.info? 5).map (fun i => (i.zero, i.size, i.bytes)) = some (some (.int .u8 0), 1, 1) := by kernel_rfl

/-- A slice of bytes is handed back that reads l and is new, or has no spare room; nothing old is changed. -/
def GivesBytes (w : World) (l : List UInt8) (e : Ending) (w' : World) : Prop :=
  ∃ v', e = .returned v' ∧ Fresh w.heap.size w' 5 1 v' l.length (bcells l) ∧ Below w.heap.size w w'

def SaysTrue (w : World) (e : Ending) (w' : World) : Prop := e = .returned (.bool true) ∧ Below w.heap.size w w'

/-- A truth is told; nothing old is changed. -/
def GivesBool (w : World) (b : Bool) (e : Ending) (w' : World) : Prop := e = .returned (.bool b) ∧ Below w.heap.size w w'

/-- A number of 64 bits is told; nothing old is changed. -/
def GivesU64 (w : World) (n : Nat) (e : Ending) (w' : World) : Prop := e = .returned (.int .u64 (n : Int)) ∧ Below w.heap.size w w'

/-- The strings l, as cells. -/
def scells (l : List ByteArray) : List Value := l.map Value.string

theorem Reads.scell {w : World} {a : Option Addr} {n cap : Nat} {l : List ByteArray} (h : Reads w 1 (.slice a n cap) n (scells l)) (j : Nat) (hj : j < n) :
    ∃ b off s, a = some ⟨b, off, none⟩ ∧ l[j]? = some s ∧ b < w.heap.size ∧ w.cell? ⟨b, off + j, none⟩ = some (.string s) := by
  obtain ⟨hl, a', cap', hv, _, _, h3⟩ := h
  cases hv
  have hlen : j < l.length := by simp [scells] at hl; omega
  obtain ⟨b, off, rfl, hb, hc⟩ := h3 j (.string l[j]) (by simp [scells, hlen])
  exact ⟨b, off, l[j], rfl, List.getElem?_eq_getElem hlen, hb, hc⟩

theorem Reads.bcell {w : World} {b off n cap : Nat} {l : List UInt8} (h : Reads w 1 (.slice (some ⟨b, off, none⟩) n cap) n (bcells l)) (k : Nat) (hk : k < n) :
    w.cell? ⟨b, off + k, none⟩ = some (.int .u8 ((l.getD k 0).toNat : Int)) := by
  obtain ⟨b', off', cap', hv, _, _, _, hc⟩ := h.head (by omega)
  cases hv
  exact hc k hk

/-- A row of no cells that has just been laid. -/
theorem fresh_empty (w : World) (e : TypeId) (size : Nat) : Fresh w.heap.size (w.alloc (.cells #[] e)) e size (.slice (some ⟨w.heap.size, 0, none⟩) 0 0) 0 [] :=
  ⟨⟨by simp, _, 0, rfl, Nat.le_refl _, Nat.zero_le _, fun j u h => by simp at h⟩, .inl ⟨_, rfl⟩⟩

theorem entryBox {w w1 : World} {cs : Array Value} {t : TypeId} (b : Below (w.heap.size + 1) (w.alloc (.cells cs t)) w1) :
    (∀ j, w1.cell? ⟨w.heap.size, j, none⟩ = cs[j]?) ∧ (∀ j, w1.frozen? ⟨w.heap.size, j, none⟩ = false) := by
  have h : w1.heap[w.heap.size]? = some (.cells cs t (0, 0)) := (b.block _ (Nat.lt_succ_self _)).trans (heap_alloc_new w _)
  exact ⟨fun j => Lib.cell_of_heap h j, fun j => Lib.frozen_of_heap h j⟩
end Go.Proofs.YtopnldebekhelaaDoor

/- Names, tuples' texts, as lists of bytes. -/
namespace Go.Proofs.YtopnldebekhelaaDoor
open Go Go.RowKit

def okB (c : UInt8) : Bool := decide (97 ≤ c.toNat ∧ c.toNat ≤ 122) || decide (48 ≤ c.toNat ∧ c.toNat ≤ 57) || decide (c.toNat = 95) || decide (c.toNat = 45)

def nameL (l : List UInt8) : Bool := l.all okB && decide (1 ≤ l.length) && decide (l.length ≤ 32)

/-- The ways of a byte of a name, or of none. -/
theorem okB_ways (c : UInt8) :
    (okB c = true ∧ ((97 ≤ c.toNat ∧ c.toNat ≤ 122) ∨ (48 ≤ c.toNat ∧ c.toNat ≤ 57) ∨ c.toNat = 95 ∨ c.toNat = 45)) ∨
    (okB c = false ∧ ((c.toNat < 48 ∧ c.toNat ≠ 45) ∨ (57 < c.toNat ∧ c.toNat < 97 ∧ c.toNat ≠ 95) ∨ 122 < c.toNat)) := by
  cases h : okB c with
  | true =>
    left
    simp [okB] at h
    refine ⟨rfl, ?_⟩
    omega
  | false =>
    right
    simp [okB] at h
    refine ⟨rfl, ?_⟩
    omega

/-- The six parts of a tuple. -/
structure Six where
  (a b c d e f : ByteArray)

def Six.val (t : Six) : Value := .agg #[.string t.a, .string t.b, .string t.c, .string t.d, .string t.e, .string t.f]

def nameB (s : ByteArray) : Bool := nameL s.data.toList

def Six.ok (t : Six) : Bool := nameB t.a && nameB t.b && nameB t.c && nameB t.d && nameB t.e && (decide (t.f.size = 0) || nameB t.f)

end Go.Proofs.YtopnldebekhelaaDoor

/- Layer 2's plain mathematics. -/
namespace Go.Proofs.YtopnldebekhelaaDoor

/-- a number's bytes -/
def enc (v : Nat) : List UInt8 :=
  if v < 128 then [UInt8.ofNat v] else UInt8.ofNat (v % 128 + 128) :: enc (v / 128)
termination_by v
decreasing_by omega

theorem enc_lt {v : Nat} (h : v < 128) : enc v = [UInt8.ofNat v] := by rw [enc, if_pos h]
theorem enc_ge {v : Nat} (h : ¬ v < 128) : enc v = UInt8.ofNat (v % 128 + 128) :: enc (v / 128) := by rw [enc, if_neg h]

theorem enc_pos (v : Nat) : 0 < (enc v).length := by
  by_cases h : v < 128
  · rw [enc_lt h]; simp
  · rw [enc_ge h]; simp

theorem enc_length_le (k : Nat) : ∀ v : Nat, v < 128 ^ (k + 1) → (enc v).length ≤ k + 1 := by
  induction k with
  | zero => intro v h; rw [enc_lt (by simpa using h)]; simp
  | succ k ih =>
    intro v h
    by_cases h1 : v < 128
    · rw [enc_lt h1]; simp
    · rw [enc_ge h1]
      have := ih (v / 128) (by rw [Nat.div_lt_iff_lt_mul (by omega)]; rwa [Nat.pow_succ] at h)
      simp; omega

/-- what codec.Get comes to, at byte i, with v so far: the number, how many bytes, the error -/
def getGo (i v : Nat) : List UInt8 → Nat × Nat × Nat
  | [] => (0, 0, if 10 ≤ i then 9 else 7)
  | c :: r =>
    if 10 ≤ i then (0, 0, 9)
    else if 128 ≤ c.toNat then getGo (i + 1) (v + c.toNat % 128 * 128 ^ i % 18446744073709551616) r
    else if (0 < i ∧ c.toNat = 0) ∨ (i = 9 ∧ 1 < c.toNat) then (0, 0, 9)
    else (v + c.toNat % 128 * 128 ^ i % 18446744073709551616, i + 1, 0)

theorem get_grows {V k c : Nat} (hV : V < 128 ^ k) : V + c % 128 * 128 ^ k % 18446744073709551616 < 128 ^ (k + 1) := by
  have h1 := Nat.mod_le (c % 128 * 128 ^ k) 18446744073709551616
  have h2 : c % 128 * 128 ^ k ≤ 127 * 128 ^ k := Nat.mul_le_mul_right _ (by omega)
  rw [Nat.pow_succ]
  omega

theorem getGo_more {k V : Nat} {l : List UInt8} (h : k < l.length) (h10 : k < 10) (hc : 128 ≤ (l.getD k 0).toNat) :
    getGo k V (l.drop k) = getGo (k + 1) (V + (l.getD k 0).toNat % 128 * 128 ^ k % 18446744073709551616) (l.drop (k + 1)) := by
  have e : l.drop k = l.getD k 0 :: l.drop (k + 1) := by
    rw [List.drop_eq_getElem_cons h]; simp [h]
  rw [e, getGo, if_neg (by omega), if_pos hc]

theorem getGo_bad {k V : Nat} {l : List UInt8} (h : k < l.length) (h10 : k < 10) (hc : ¬ 128 ≤ (l.getD k 0).toNat) (hb : (0 < k ∧ (l.getD k 0).toNat = 0) ∨ (k = 9 ∧ 1 < (l.getD k 0).toNat)) :
    getGo k V (l.drop k) = (0, 0, 9) := by
  have e : l.drop k = l.getD k 0 :: l.drop (k + 1) := by
    rw [List.drop_eq_getElem_cons h]; simp [h]
  rw [e, getGo, if_neg (by omega), if_neg hc, if_pos hb]

theorem getGo_good {k V : Nat} {l : List UInt8} (h : k < l.length) (h10 : k < 10) (hc : ¬ 128 ≤ (l.getD k 0).toNat) (hb : ¬ ((0 < k ∧ (l.getD k 0).toNat = 0) ∨ (k = 9 ∧ 1 < (l.getD k 0).toNat))) :
    getGo k V (l.drop k) = (V + (l.getD k 0).toNat % 128 * 128 ^ k % 18446744073709551616, k + 1, 0) := by
  have e : l.drop k = l.getD k 0 :: l.drop (k + 1) := by
    rw [List.drop_eq_getElem_cons h]; simp [h]
  rw [e, getGo, if_neg (by omega), if_neg hc, if_neg hb]

theorem getGo_end {k V : Nat} {l : List UInt8} (h : l.length ≤ k) : getGo k V (l.drop k) = (0, 0, if 10 ≤ k then 9 else 7) := by
  rw [List.drop_of_length_le h, getGo]

theorem getGo_ten {V : Nat} {l : List UInt8} : getGo 10 V (l.drop 10) = (0, 0, 9) := by
  cases l.drop 10 with
  | nil => rfl
  | cons c r => rw [getGo, if_pos (by omega)]

theorem getGo_enc_go (k : Nat) : ∀ (i N V : Nat) (r : List UInt8), N < 128 ^ (k + 1) → i + k ≤ 9 → (i = 0 ∨ 0 < N) → V + N * 128 ^ i < 18446744073709551616 →
    getGo i V (enc N ++ r) = (V + N * 128 ^ i, i + (enc N).length, 0) := by
  have small : ∀ (i N V : Nat) (r : List UInt8), N < 128 → i ≤ 9 → (i = 0 ∨ 0 < N) → V + N * 128 ^ i < 18446744073709551616 →
      getGo i V (enc N ++ r) = (V + N * 128 ^ i, i + (enc N).length, 0) := by
    intro i N V r hN hi h0 hb
    have hc : (UInt8.ofNat N).toNat = N := by simp; omega
    have h9 : ¬ (i = 9 ∧ 1 < N) := by
      rintro ⟨rfl, h1⟩
      have : 2 * 128 ^ 9 ≤ N * 128 ^ 9 := Nat.mul_le_mul_right _ h1
      have e : 2 * 128 ^ 9 = 18446744073709551616 := by decide
      omega
    rw [enc_lt hN]
    simp only [List.singleton_append, List.length_singleton, getGo, hc]
    rw [if_neg (by omega), if_neg (by omega), if_neg (by omega), Nat.mod_eq_of_lt hN, Nat.mod_eq_of_lt (by omega)]
  induction k with
  | zero =>
    intro i N V r hN hi h0 hb
    exact small i N V r (by simpa using hN) (by omega) h0 hb
  | succ k ih =>
    intro i N V r hN hi h0 hb
    by_cases h : N < 128
    · exact small i N V r h (by omega) h0 hb
    · have hc : (UInt8.ofNat (N % 128 + 128)).toNat = N % 128 + 128 := by simp; omega
      have e1 : N % 128 * 128 ^ i + N / 128 * 128 ^ (i + 1) = N * 128 ^ i := by
        rw [Nat.pow_succ, Nat.mul_comm (128 ^ i) 128, ← Nat.mul_assoc, ← Nat.add_mul]
        congr 1
        omega
      rw [enc_ge h]
      simp only [List.cons_append, getGo, hc, List.length_cons]
      rw [if_neg (by omega), if_pos (by omega), show (N % 128 + 128) % 128 = N % 128 by omega, Nat.mod_eq_of_lt (a := N % 128 * 128 ^ i) (by omega)]
      rw [ih (i + 1) (N / 128) _ r (by rw [Nat.div_lt_iff_lt_mul (by omega)]; rwa [Nat.pow_succ] at hN) (by omega) (.inr (by omega)) (by omega)]
      refine Prod.ext ?_ (Prod.ext ?_ rfl) <;> simp only <;> omega

/-- a key's bytes, each 0 followed by 255 -/
def esc : List UInt8 → List UInt8
  | [] => []
  | c :: r => if c = 0 then c :: 255 :: esc r else c :: esc r

theorem esc_append (a b : List UInt8) : esc (a ++ b) = esc a ++ esc b := by
  induction a with
  | nil => rfl
  | cons c r ih =>
    rw [List.cons_append, esc, esc, ih]
    split <;> rfl

theorem esc_length (a : List UInt8) : (esc a).length ≤ 2 * a.length := by
  induction a with
  | nil => simp [esc]
  | cons c r ih => rw [esc]; split <;> simp <;> omega

theorem esc_snoc0 (l : List UInt8) (c : UInt8) (h : c = 0) : esc (l ++ [c]) = esc l ++ [c, 255] := by
  rw [esc_append]; simp [esc, h]
theorem esc_snoc1 (l : List UInt8) (c : UInt8) (h : ¬ c = 0) : esc (l ++ [c]) = esc l ++ [c] := by
  rw [esc_append]; simp [esc, h]

/-- byte number i (from the low end) of a revision, turned round -/
def revByte (rev i : Nat) : UInt8 := UInt8.ofNat (255 - rev / 256 ^ i % 256)
theorem revByte_up (rev k : Nat) (hr : rev < 18446744073709551616) (hk : k < 8) : (18446744073709551615 - rev) / 256 ^ k % 256 = (revByte rev k).toNat := by
  have h : (18446744073709551615 - rev) / 256 ^ k % 256 = 255 - rev / 256 ^ k % 256 := by
    match k, hk with
    | 0, _ => simp only [Nat.pow_zero, Nat.div_one]; omega
    | 1, _ => simp only [show (256 : Nat) ^ 1 = 256 from rfl]; omega
    | 2, _ => simp only [show (256 : Nat) ^ 2 = 65536 from rfl]; omega
    | 3, _ => simp only [show (256 : Nat) ^ 3 = 16777216 from rfl]; omega
    | 4, _ => simp only [show (256 : Nat) ^ 4 = 4294967296 from rfl]; omega
    | 5, _ => simp only [show (256 : Nat) ^ 5 = 1099511627776 from rfl]; omega
    | 6, _ => simp only [show (256 : Nat) ^ 6 = 281474976710656 from rfl]; omega
    | 7, _ => simp only [show (256 : Nat) ^ 7 = 72057594037927936 from rfl]; omega
  rw [h, revByte]
  simp
  omega

/-- the first k of the eight bytes -/
def revBytes (rev : Nat) : Nat → List UInt8
  | 0 => []
  | k + 1 => revBytes rev k ++ [revByte rev (7 - k)]

theorem revBytes_length (rev k : Nat) : (revBytes rev k).length = k := by
  induction k with
  | zero => rfl
  | succ k ih => simp [revBytes, ih]

/-- an inner key up to k bytes of the revision -/
def innTo (key : List UInt8) (rev k : Nat) : List UInt8 := esc key ++ [0, 1] ++ revBytes rev k
theorem innTo_succ (key : List UInt8) (rev k : Nat) : innTo key rev (k + 1) = innTo key rev k ++ [revByte rev (7 - k)] := by
  simp [innTo, revBytes]
theorem innTo_length (key : List UInt8) (rev k : Nat) : (innTo key rev k).length = (esc key).length + 2 + k := by
  simp [innTo, revBytes_length]; omega

/-- an entry's inner key -/
def inner (key : List UInt8) (rev : Nat) (del : Bool) : List UInt8 := innTo key rev 8 ++ [if del then 0 else 1]
end Go.Proofs.YtopnldebekhelaaDoor

/- Rows of the call's own, appended to: they stay the call's own. -/
namespace Go.Proofs.YtopnldebekhelaaDoor
open Go Go.RowKit

theorem run_append_owns {P : Program} {w : World} (B : Nat) (t tx ty e : TypeId) (i : TypeInfo) (z : Value) (size bytes : Nat) (ht : P.underlying t = some (.slice e)) (hi : P.info? e = some i) (hz : i.zero = some z)
    (hsize : i.size = size) (hby : i.bytes = bytes) (hzs : z.cells.size = size)
    (v : Value) (n : Nat) (xs : List Value) (h0 : w.ownsRow B e size v n xs) (x : Value) (m : Nat) (news : List Value) (hs : Src P size tx x m news w)
    (h63 : n + m ≤ maxLen) (hbytes : (n + m) * bytes ≤ 140737488355328) (hB : B ≤ w.heap.size) :
    ∃ v' w', (Builtin.append_ #[t, tx] ty #[v, x]).run P w = .ok v' w' ∧ w'.ownsRow B e size v' (n + m) (xs ++ news) ∧ w.grownBy w' v.ownBlock ∧ Below B w w' ∧ Moves w v v' := by
  subst hsize
  subst hby
  have h : Fresh B w e i.size v n xs := ⟨ownsRow.reads h0, .inr h0⟩
  have hsmall : n + m ≤ 9223372036854775807 := by simp only [maxLen] at h63; omega
  have hnl := hs.newsLen
  have hxl := h.1.1
  have hlen : (xs ++ news).length = (n + m) * i.size := by rw [List.length_append, hxl, hnl, Nat.add_mul]
  have grow : ∀ (bs : Option Addr) (sc : Nat), v = .slice bs n sc → sc < n + m →
      ∃ v' w', (Builtin.append_ #[t, tx] ty #[v, x]).run P w = .ok v' w' ∧ w'.ownsRow B e i.size v' (n + m) (xs ++ news) ∧ w.grownBy w' v.ownBlock ∧ Below B w w' ∧ Moves w v v' := by
    rintro bs sc hv hg
    have hold := h.1.firstCells (P := P) w.drew rfl
    subst hv
    have hrun := run_append_grow_src (P := P) w t tx ty e i z ht hi hz bs n sc xs hold x m news hs hg (by omega) (growslice_fits hg hbytes)
    have hge := grownCap_ge w (n + m) sc e
    have hcm := grownCap_le_maxLen w (n + m) sc e h63
    have hblk : ∀ k, k < w.heap.size → (w.drew.alloc (.cells ((xs ++ news).toArray ++ Builtin.zeroCells z.cells (grownCap w (n + m) sc e - (n + m))) e)).heap[k]? = w.heap[k]? := fun k hk => Below.heap_alloc w.drew _ k hk
    have hown : (w.drew.alloc (.cells ((xs ++ news).toArray ++ Builtin.zeroCells z.cells (grownCap w (n + m) sc e - (n + m))) e)).ownsRow B e i.size (.slice (some ⟨w.heap.size, 0, none⟩) (n + m) (grownCap w (n + m) sc e)) (n + m) (xs ++ news) := by
      refine ⟨hlen, .inr ⟨w.heap.size, _, _, rfl, hB, heap_alloc_new w.drew _, hge, hcm, ?_, ?_⟩⟩
      · rw [Array.size_append, List.size_toArray, hlen, size_zeroCells, hzs, ← Nat.add_mul]
        congr 1
        omega
      · simp only [Array.toList_append]
        rw [← hlen]
        exact List.take_left
    exact ⟨_, _, hrun, hown, ⟨rfl, rfl, rfl, by simp, fun k hk _ => hblk k hk⟩, ⟨rfl, rfl, rfl, by simp, fun k hk => hblk k (by omega)⟩, fun b hb _ => by simp [Value.ownBlock]; omega⟩
  by_cases hm : m = 0
  · subst hm
    have hn : news = [] := List.eq_nil_of_length_eq_zero (by simpa using hnl)
    subst hn
    obtain ⟨_, a, cap, rfl, h1, h2, h3⟩ := h.1
    exact ⟨_, w, run_append_nothing (P := P) w t tx ty e i ht hi a n cap h1 x hs, by simpa using h0, World.grownBy.refl _ _, Below.refl _ _, fun _ _ h => h⟩
  · have hown := h0
    · rcases hown.2 with ⟨hv, h0⟩ | ⟨g, cap, cur, hv, hbg, hg, hnc, hcm, hcs, htake⟩
      · subst h0
        exact grow none 0 hv (by omega)
      · by_cases hroom : n + m ≤ cap
        · subst hv
          have hfit : n * i.size + news.length ≤ cur.size := by rw [hnl, hcs, ← Nat.add_mul]; exact Nat.mul_le_mul_right _ hroom
          have hc : ∀ j, j < news.length → (w.cell? ⟨g, 0 + n * i.size + j, none⟩).isSome = true := by
            intro j hj
            have hlt : n * i.size + j < cur.size := by omega
            simp [World.cell?, hg, Array.getElem?_eq_getElem hlt]
          have hf : ∀ j, j < news.length → w.frozen? ⟨g, 0 + n * i.size + j, none⟩ = false := by
            intro j hj
            simp [World.frozen?, hg]
          have hrun := run_append_room_src (P := P) w t tx ty e i ht hi g 0 n cap x m news hs hroom hc hf
          have hk := World.keptBut_setCells g (may := fun p => p.block = g) news (0 + n * i.size) w (fun _ _ => rfl)
          have hblk : ∀ k, k < w.heap.size → k ≠ g → (w.setCells g (0 + n * i.size) news).heap[k]? = w.heap[k]? := fun k hk1 hk2 => World.heap_setCells_other w g _ news hk1 hk2
          have hcell : ∀ j u, (xs ++ news)[j]? = some u → (w.setCells g (0 + n * i.size) news).cell? ⟨g, 0 + j, none⟩ = some u := by
            intro j u hj
            by_cases hjx : j < xs.length
            · rw [World.cell?_setCells_out g _ _ _ _ (fun _ _ => Or.inl (by show 0 + j < 0 + n * i.size; omega))]
              rw [List.getElem?_append_left hjx] at hj
              have := hown.cells (g := g) rfl j u hj
              rwa [Addr.add_lit] at this
            · rw [List.getElem?_append_right (by omega)] at hj
              obtain ⟨hjl, hju⟩ := List.getElem?_eq_some_iff.1 hj
              have := World.cell?_setCells_in g news (0 + n * i.size) w hc (j - xs.length) hjl
              rw [show 0 + n * i.size + (j - xs.length) = 0 + j by omega] at this
              rw [this, hju]
          obtain ⟨cur', hc1, hc2⟩ := heap_setCells_same g e (0, 0) news (0 + n * i.size) w cur hg
          have hown' : (w.setCells g (0 + n * i.size) news).ownsRow B e i.size (.slice (some ⟨g, 0, none⟩) (n + m) cap) (n + m) (xs ++ news) := by
            refine ⟨hlen, .inr ⟨g, cap, cur', rfl, hbg, hc1, hroom, hcm, by rw [hc2, hcs], ?_⟩⟩
            have hl1 : (n + m) * i.size ≤ cap * i.size := Nat.mul_le_mul_right _ hroom
            apply List.ext_getElem?
            intro j
            by_cases hj : j < (xs ++ news).length
            · have hr := hcell j _ (List.getElem?_eq_getElem hj)
              rw [List.getElem?_eq_getElem hj, ← hr, List.getElem?_take_of_lt (by omega)]
              unfold World.cell?
              rw [hc1]
              simp
            · rw [List.getElem?_eq_none (by rw [List.length_take]; omega), List.getElem?_eq_none (by omega)]
          exact ⟨_, _, hrun, hown', ⟨World.os_setCells _ _ _ _, tape_setCells _ _ _ _, World.output_setCells _ _ _ _, hk.size, fun k hk1 hk2 => hblk k hk1 (fun e => hk2 (by simp [Value.ownBlock, e]))⟩, ⟨World.os_setCells _ _ _ _, tape_setCells _ _ _ _, World.output_setCells _ _ _ _, hk.size, fun k hk1 => hblk k (by omega) (by omega)⟩, fun _ _ h => h⟩
        · exact grow _ cap hv (by omega)

/-- 'append(s, x...)' for the walk. -/
theorem wpList_append_owns {P : Program} {w : World} {ops : Array Oper} {rest : List Oper} {o : Oper} {a : Act} {Q : Exit → Act → World → Prop} (hgd : o.guard = none) (s x : Operand) (t tx : TypeId)
    (ho : o.op = .call { callee := .builtin .append, args := #[s, x], argTypes := #[t, tx] })
    (B : Nat) (e : TypeId) (i : TypeInfo) (z : Value) (size bytes : Nat) (ht : P.underlying t = some (.slice e)) (hi : P.info? e = some i) (hz : i.zero = some z)
    (hsize : i.size = size) (hby : i.bytes = bytes) (hzs : z.cells.size = size)
    (v : Value) (n : Nat) (xs : List Value) (hs : a.eval s = v) (hown : w.ownsRow B e size v n xs)
    (xv : Value) (m : Nat) (news : List Value) (hx : a.eval x = xv) (hsrc : Src P size tx xv m news w)
    (h63 : n + m ≤ maxLen) (hbytes : (n + m) * bytes ≤ 140737488355328) (hB : B ≤ w.heap.size)
    (h : ∀ v' w', w'.ownsRow B e size v' (n + m) (xs ++ news) → w.grownBy w' v.ownBlock → Below B w w' → Moves w v v' → wpList P ops Q rest (a.put o.dst v') w') : wpList P ops Q (o :: rest) a w := by
  refine wpList_plain hgd fun K hK => ?_
  obtain ⟨v', w', hr, h2, h3, h4, h5⟩ := run_append_owns (P := P) B t tx o.type e i z size bytes ht hi hz hsize hby hzs v n xs hown xv m news hsrc h63 hbytes hB
  unfold Oper.wp execOp
  simp only [ho, resolve, invoke, builtin, Sem.run_bind, Sem.run_pure, Result.andThen_ok, List.map_toArray, List.map_cons, List.map_nil, hs, hx, hr]
  exact hK _ _ (h v' w' h2 h3 h4 h5)

/-- 'append(s, x, ..)' of cells that have just been laid in a block of their own. -/
theorem wpList_append_owns_lits {P : Program} {w0 : World} {ops : Array Oper} {rest : List Oper} {o : Oper} {a : Act} {Q : Exit → Act → World → Prop} (hgd : o.guard = none) (s x : Operand) (t : TypeId)
    (ho : o.op = .call { callee := .builtin .append, args := #[s, x], argTypes := #[t, t] })
    (B : Nat) (e : TypeId) (i : TypeInfo) (z : Value) (bytes : Nat) (ht : P.underlying t = some (.slice e)) (hi : P.info? e = some i) (hz : i.zero = some z)
    (hsize : i.size = 1) (hby : i.bytes = bytes) (hzs : z.cells.size = 1)
    {v : Value} {n : Nat} {xs : List Value} (us : List Value) (m : Nat) (hl : us.length = m) (hown : w0.ownsRow B e 1 v n xs) (hs : a.eval s = v) (hx : a.eval x = .slice (some ⟨w0.heap.size, 0, none⟩) m m) (h1 : ∀ u ∈ us, u.oneCell' = true)
    (h63 : n + m ≤ maxLen) (hbytes : (n + m) * bytes ≤ 140737488355328) (hB : B ≤ w0.heap.size)
    (h : ∀ v' w', w'.ownsRow B e 1 v' (n + m) (xs ++ us) → w0.grownBy w' v.ownBlock → Below B w0 w' → Moves w0 v v' → wpList P ops Q rest (a.put o.dst v') w') : wpList P ops Q (o :: rest) a (w0.alloc (.cells us.toArray e)) := by
  refine wpList_append_owns hgd s x t t ho B e i z 1 bytes ht hi hz hsize hby hzs v n xs hs (hown.alloc _) _ m us hx (Src.ofLits ht w0 m us hl h1) h63 hbytes (by simp; omega) (fun v' w' k1 k2 k3 k4 => h v' w' k1 ((World.grownBy_alloc w0 _ _).trans k2) (((Below.refl _ _).alloc hB _).trans k3) (fun b hb => k4 b (by simp; omega)))

end Go.Proofs.YtopnldebekhelaaDoor

/- Rows of structs: appended to cell by cell. -/
namespace Go.Proofs.YtopnldebekhelaaDoor
open Go Go.RowKit

/-- 'append(s, x, ..)' of structs of size cells each that have just been laid in a block of their own. -/
theorem wpList_append_rows {P : Program} {w0 : World} {ops : Array Oper} {rest : List Oper} {o : Oper} {a : Act} {Q : Exit → Act → World → Prop} (hgd : o.guard = none) (s x : Operand) (t : TypeId)
    (ho : o.op = .call { callee := .builtin .append, args := #[s, x], argTypes := #[t, t] })
    (B : Nat) (e : TypeId) (i : TypeInfo) (z : Value) (size bytes : Nat) (ht : P.underlying t = some (.slice e)) (hi : P.info? e = some i) (hz : i.zero = some z)
    (hsize : i.size = size) (hby : i.bytes = bytes) (hzs : z.cells.size = size)
    {v : Value} {n : Nat} {xs : List Value} (us : List Value) (m : Nat) (hl : us.length = m * size) (hown : Fresh B w0 e size v n xs) (hs : a.eval s = v) (hx : a.eval x = .slice (some ⟨w0.heap.size, 0, none⟩) m m) (h1 : ∀ u ∈ us, u.oneCell' = true)
    (h63 : n + m ≤ maxLen) (hbytes : (n + m) * bytes ≤ 140737488355328) (hB : B ≤ w0.heap.size)
    (h : ∀ v' w', Fresh B w' e size v' (n + m) (xs ++ us) → w0.grownBy w' v.ownBlock → Below B w0 w' → Moves w0 v v' → wpList P ops Q rest (a.put o.dst v') w') : wpList P ops Q (o :: rest) a (w0.alloc (.cells us.toArray e)) := by
  refine wpList_append_fresh hgd s x t t ho B e i z size bytes ht hi hz hsize hby hzs v n xs hs (hown.alloc _) _ m us hx ?_ h63 hbytes (by simp; omega) (fun v' w' k1 k2 k3 k4 => h v' w' k1 ((World.grownBy_alloc w0 _ _).trans k2) (((Below.refl _ _).alloc hB _).trans k3) (fun b hb => k4 b (by simp; omega)))
  refine Src.ofSlice _ ht _ _ _ _ hl ?_ h1
  intro j y hj
  rw [Addr.add_lit]
  rw [show (0 + j) = j by omega]
  rw [World.cell?_alloc_new w0 _ _ j]
  simpa using hj

/-- 'append(s, x, ..)' of structs of size cells each that have just been laid in a block of their own. -/
theorem wpList_append_rows_own {P : Program} {w0 : World} {ops : Array Oper} {rest : List Oper} {o : Oper} {a : Act} {Q : Exit → Act → World → Prop} (hgd : o.guard = none) (s x : Operand) (t : TypeId)
    (ho : o.op = .call { callee := .builtin .append, args := #[s, x], argTypes := #[t, t] })
    (B : Nat) (e : TypeId) (i : TypeInfo) (z : Value) (size bytes : Nat) (ht : P.underlying t = some (.slice e)) (hi : P.info? e = some i) (hz : i.zero = some z)
    (hsize : i.size = size) (hby : i.bytes = bytes) (hzs : z.cells.size = size)
    {v : Value} {n : Nat} {xs : List Value} (us : List Value) (m : Nat) (hl : us.length = m * size) (hown : w0.ownsRow B e size v n xs) (hs : a.eval s = v) (hx : a.eval x = .slice (some ⟨w0.heap.size, 0, none⟩) m m) (h1 : ∀ u ∈ us, u.oneCell' = true)
    (h63 : n + m ≤ maxLen) (hbytes : (n + m) * bytes ≤ 140737488355328) (hB : B ≤ w0.heap.size)
    (h : ∀ v' w', w'.ownsRow B e size v' (n + m) (xs ++ us) → w0.grownBy w' v.ownBlock → Below B w0 w' → Moves w0 v v' → wpList P ops Q rest (a.put o.dst v') w') : wpList P ops Q (o :: rest) a (w0.alloc (.cells us.toArray e)) := by
  refine wpList_append_owns hgd s x t t ho B e i z size bytes ht hi hz hsize hby hzs v n xs hs (hown.alloc _) _ m us hx ?_ h63 hbytes (by simp; omega) (fun v' w' k1 k2 k3 k4 => h v' w' k1 ((World.grownBy_alloc w0 _ _).trans k2) (((Below.refl _ _).alloc hB _).trans k3) (fun b hb => k4 b (by simp; omega)))
  refine Src.ofSlice _ ht _ _ _ _ hl ?_ h1
  intro j y hj
  rw [Addr.add_lit]
  rw [show (0 + j) = j by omega]
  rw [World.cell?_alloc_new w0 _ _ j]
  simpa using hj

theorem owns_other {w : World} {B n s g : Nat} {e e' : TypeId} {v : Value} {xs : List Value} {cs : Array Value} {fz : Nat × Nat} (h : w.ownsRow B e s v n xs) (hg : w.heap[g]? = some (.cells cs e' fz)) (he : e' ≠ e) : v.ownBlock ≠ some g := by
  rcases h.2 with ⟨rfl, _⟩ | ⟨g', cap, cur, rfl, _, hh, _⟩
  · simp [Value.ownBlock]
  · intro h
    simp [Value.ownBlock] at h
    subst h
    rw [hg] at hh
    injection hh with hh
    injection hh with _ h2 _
    exact he h2

/-- A block of other cells stays as a row grows. -/
theorem grown_other {w w' : World} {B n s g : Nat} {e e' : TypeId} {v : Value} {xs : List Value} {cs : Array Value} {fz : Nat × Nat} (h : w.ownsRow B e s v n xs) (hgr : w.grownBy w' v.ownBlock) (hg : w.heap[g]? = some (.cells cs e' fz)) (he : e' ≠ e) : w'.heap[g]? = some (.cells cs e' fz) :=
  (hgr.block g (Array.getElem?_eq_some_iff.1 hg).1 (fun h' => owns_other h hg he h'.symm)).trans hg

theorem owns_nil (w : World) (B : Nat) (e : TypeId) (s : Nat) : w.ownsRow B e s (.slice none 0 0) 0 [] := ⟨by simp, .inl ⟨rfl, rfl⟩⟩

theorem owns_below {w w' : World} {B n s : Nat} {e : TypeId} {v : Value} {xs : List Value} (h : w.ownsRow B e s v n xs) (hb : Below w.heap.size w w') : w'.ownsRow B e s v n xs :=
  h.kept (row := none) ⟨hb.os, hb.tape, hb.output, hb.size, fun k hk _ => hb.block k hk⟩ (by cases v.ownBlock <;> simp)

/-- Cells of rows, one behind the other. -/
theorem flat_cell {α : Type} (f : α → List Value) (s : Nat) (hf : ∀ x, (f x).length = s) : ∀ (l : List α) (k : Nat) (x : α), l[k]? = some x → ∀ j, j < s → (l.flatMap f)[k * s + j]? = (f x)[j]?
  | [], k, x, h, _, _ => by simp at h
  | y :: l, 0, x, h, j, hj => by
    simp at h
    subst h
    rw [List.flatMap_cons, Nat.zero_mul, Nat.zero_add, List.getElem?_append_left (by rw [hf]; exact hj)]
  | y :: l, k + 1, x, h, j, hj => by
    rw [List.flatMap_cons, List.getElem?_append_right (by rw [hf, Nat.add_mul, Nat.one_mul]; omega), hf]
    rw [show (k + 1) * s + j - s = k * s + j by rw [Nat.add_mul, Nat.one_mul]; omega]
    exact flat_cell f s hf l k x (by simpa using h) j hj

theorem flat_length {α : Type} (f : α → List Value) (s : Nat) (hf : ∀ x, (f x).length = s) : ∀ (l : List α), (l.flatMap f).length = l.length * s
  | [] => by simp
  | y :: l => by rw [List.flatMap_cons, List.length_append, hf, flat_length f s hf l, List.length_cons, Nat.add_mul]; omega

/-- A cell of a slice of rows. -/
theorem Reads.at {w : World} {s n cap : Nat} {a : Option Addr} {xs : List Value} (h : Reads w s (.slice a n cap) n xs) {j : Nat} {u : Value} (hj : xs[j]? = some u) :
    ∃ b off, a = some ⟨b, off, none⟩ ∧ b < w.heap.size ∧ w.cell? ⟨b, off + j, none⟩ = some u := by
  obtain ⟨hl, a', cap', hv, _, _, h3⟩ := h
  cases hv
  exact h3 j u hj

/-- 'append(s, x)' of structs that have just been laid in block N. -/
theorem wpList_append_rows_at {P : Program} {w0 : World} {ops : Array Oper} {rest : List Oper} {o : Oper} {a : Act} {Q : Exit → Act → World → Prop} (hgd : o.guard = none) (s x : Operand) (t : TypeId)
    (ho : o.op = .call { callee := .builtin .append, args := #[s, x], argTypes := #[t, t] })
    (B : Nat) (e : TypeId) (i : TypeInfo) (z : Value) (size bytes : Nat) (ht : P.underlying t = some (.slice e)) (hi : P.info? e = some i) (hz : i.zero = some z)
    (hsize : i.size = size) (hby : i.bytes = bytes) (hzs : z.cells.size = size)
    {v : Value} {n : Nat} {xs : List Value} (us : List Value) (m : Nat) (hl : us.length = m * size) {N : Nat} (hN : w0.heap.size = N) (hown : w0.ownsRow B e size v n xs) (hs : a.eval s = v) (hx : a.eval x = .slice (some ⟨N, 0, none⟩) m m) (h1 : ∀ u ∈ us, u.oneCell' = true)
    (h63 : n + m ≤ maxLen) (hbytes : (n + m) * bytes ≤ 140737488355328) (hB : B ≤ w0.heap.size)
    (h : ∀ v' w', w'.ownsRow B e size v' (n + m) (xs ++ us) → w0.grownBy w' v.ownBlock → Below B w0 w' → Moves w0 v v' → wpList P ops Q rest (a.put o.dst v') w') : wpList P ops Q (o :: rest) a (w0.alloc (.cells us.toArray e)) := by
  subst hN
  exact wpList_append_rows_own hgd s x t ho B e i z size bytes ht hi hz hsize hby hzs us m hl hown hs hx h1 h63 hbytes hB h
end Go.Proofs.YtopnldebekhelaaDoor

/- Requests as bytes. -/
namespace Go.Proofs.YtopnldebekhelaaDoor
open Go Go.RowKit

/-- Six texts: a tuple, or a point and a subject. -/
structure T6 where
  a : ByteArray
  b : ByteArray
  c : ByteArray
  d : ByteArray
  e : ByteArray
  f : ByteArray

def T6.list (t : T6) : List ByteArray := [t.a, t.b, t.c, t.d, t.e, t.f]
def T6.val (t : T6) : Value := .agg #[.string t.a, .string t.b, .string t.c, .string t.d, .string t.e, .string t.f]

/-- A truth, and a tuple. -/
structure Wri where
  is : Bool
  t : T6

def Wri.val (x : Wri) : Value := .agg #[.bool x.is, .string x.t.a, .string x.t.b, .string x.t.c, .string x.t.d, .string x.t.e, .string x.t.f]

structure Arg4 where
  name : ByteArray
  kind : Int
  n : Int
  s : ByteArray

def Arg4.val (x : Arg4) : Value := .agg #[.string x.name, .int .i64 x.kind, .int .i64 x.n, .string x.s]

def in64 (n : Int) : Prop := -9223372036854775808 ≤ n ∧ n ≤ 9223372036854775807

/-- A whole number's place: what is below 0 stands between those that aren't. -/
def zig (n : Int) : Nat := if n < 0 then (2 * (-(n + 1)) + 1).toNat else (2 * n).toNat

theorem zig_lt {n : Int} (h : in64 n) : zig n < 18446744073709551616 := by
  unfold in64 at h
  unfold zig
  split <;> omega

def unzig (v : Nat) : Int := if v % 2 = 0 then ((v / 2 : Nat) : Int) else -((v / 2 : Nat) : Int) - 1

theorem unzig_zig {n : Int} (h : in64 n) : unzig (zig n) = n := by
  unfold in64 at h
  unfold unzig zig
  split
  · rw [if_neg (by omega)]
    omega
  · rw [if_pos (by omega)]
    omega

theorem unzig_in (v : Nat) (h : v < 18446744073709551616) : in64 (unzig v) := by
  unfold in64 unzig
  split <;> omega

theorem zig_unzig (v : Nat) (h : v < 18446744073709551616) : zig (unzig v) = v := by
  unfold zig unzig
  split
  · rw [if_neg (by omega)]
    omega
  · rw [if_pos (by omega)]
    omega

def txt (s : ByteArray) : List UInt8 := enc s.size ++ s.data.toList
def txts (l : List ByteArray) : List UInt8 := l.flatMap txt
def bitN (b : Bool) : Nat := if b then 1 else 0
def t6B (t : T6) : List UInt8 := txts t.list
def wriB (x : Wri) : List UInt8 := enc (bitN x.is) ++ t6B x.t
def argB (x : Arg4) : List UInt8 := txt x.name ++ enc (zig x.kind) ++ enc (zig x.n) ++ txt x.s
def listB {α : Type} (f : α → List UInt8) (l : List α) : List UInt8 := enc l.length ++ l.flatMap f

structure Req where
  client : ByteArray
  id : Nat
  kind : Int
  how : Int
  token : ByteArray
  n : Nat
  typ : ByteArray
  f1 : ByteArray
  f2 : ByteArray
  f3 : ByteArray
  writes : List Wri
  pres : List Wri
  asks : List T6
  args : List Arg4

def reqB (q : Req) : List UInt8 :=
  [113, 49] ++ txt q.client ++ enc q.id ++ enc (zig q.kind) ++ enc (zig q.how) ++ txt q.token ++ enc q.n ++ txts [q.typ, q.f1, q.f2, q.f3] ++
    listB wriB q.writes ++ listB wriB q.pres ++ listB t6B q.asks ++ listB argB q.args

theorem txt_len {s : ByteArray} (h : s.size ≤ 1000000000) : (txt s).length ≤ s.size + 10 := by
  have h1 := enc_length_le 9 s.size (by omega)
  have h2 : s.data.toList.length = s.size := Array.length_toList
  unfold txt
  rw [List.length_append]
  omega

theorem bit_enc (b : Bool) : enc (bitN b) = [if b then 1 else 0] := by
  cases b
  · rw [show bitN false = 0 from rfl, enc_lt (by decide)]
    rfl
  · rw [show bitN true = 1 from rfl, enc_lt (by decide)]
    rfl
end Go.Proofs.YtopnldebekhelaaDoor

/- Trees, and trees in memory. -/
namespace Go.Proofs.YtopnldebekhelaaDoor
open Go Go.RowKit

inductive Tr (α : Type) where
  | mk (head : α) (parts : List (Tr α))

def Tr.head {α : Type} : Tr α → α
  | .mk h _ => h

def Tr.parts {α : Type} : Tr α → List (Tr α)
  | .mk _ ps => ps

mutual
def Tr.depth {α : Type} : Tr α → Nat
  | .mk _ ps => Tr.depthL ps + 1
def Tr.depthL {α : Type} : List (Tr α) → Nat
  | [] => 0
  | p :: ps => max p.depth (Tr.depthL ps)
end

mutual
def Tr.bytes {α : Type} (f : α → List UInt8) : Tr α → List UInt8
  | .mk h ps => f h ++ (enc ps.length ++ Tr.bytesL f ps)
def Tr.bytesL {α : Type} (f : α → List UInt8) : List (Tr α) → List UInt8
  | [] => []
  | p :: ps => p.bytes f ++ Tr.bytesL f ps
end

theorem Tr.bytesL_flat {α : Type} (f : α → List UInt8) : ∀ ps : List (Tr α), Tr.bytesL f ps = ps.flatMap (Tr.bytes f)
  | [] => by rw [Tr.bytesL]; rfl
  | p :: ps => by rw [Tr.bytesL, Tr.bytesL_flat f ps, List.flatMap_cons]

theorem Tr.bytes_mk {α : Type} (f : α → List UInt8) (h : α) (ps : List (Tr α)) : (Tr.mk h ps).bytes f = f h ++ listB (Tr.bytes f) ps := by
  rw [Tr.bytes, Tr.bytesL_flat]
  rfl

theorem Tr.depth_mk {α : Type} (h : α) (ps : List (Tr α)) : (Tr.mk h ps).depth = Tr.depthL ps + 1 := by rw [Tr.depth]

theorem Tr.depthL_le {α : Type} {n : Nat} : ∀ (ps : List (Tr α)), Tr.depthL ps ≤ n ↔ ∀ p ∈ ps, p.depth ≤ n
  | [] => by rw [Tr.depthL]; simp
  | p :: ps => by
    rw [Tr.depthL, Nat.max_le, Tr.depthL_le ps]
    simp

mutual
/-- All heads are good. -/
def Tr.all {α : Type} (q : α → Prop) : Tr α → Prop
  | .mk h ps => q h ∧ Tr.allL q ps
def Tr.allL {α : Type} (q : α → Prop) : List (Tr α) → Prop
  | [] => True
  | p :: ps => p.all q ∧ Tr.allL q ps
end

theorem Tr.all_mk {α : Type} (q : α → Prop) (h : α) (ps : List (Tr α)) : (Tr.mk h ps).all q ↔ q h ∧ ∀ p ∈ ps, p.all q := by
  rw [Tr.all]
  have : ∀ ps : List (Tr α), Tr.allL q ps ↔ ∀ p ∈ ps, p.all q := by
    intro ps
    induction ps with
    | nil => rw [Tr.allL]; simp
    | cons p ps ih => rw [Tr.allL, ih]; simp
  rw [this]

/-- The blocks that may count stay. -/
structure Keeps (ok : Nat → Prop) (w w' : World) : Prop where
  size : w.heap.size ≤ w'.heap.size
  block : ∀ b, ok b → b < w.heap.size → w'.heap[b]? = w.heap[b]?

theorem Keeps.refl (ok : Nat → Prop) (w : World) : Keeps ok w w := ⟨Nat.le_refl _, fun _ _ _ => rfl⟩
theorem Keeps.trans {ok : Nat → Prop} {a b c : World} (h : Keeps ok a b) (k : Keeps ok b c) : Keeps ok a c :=
  ⟨Nat.le_trans h.size k.size, fun x hx hl => (k.block x hx (Nat.lt_of_lt_of_le hl h.size)).trans (h.block x hx hl)⟩
theorem Keeps.mono {ok ok' : Nat → Prop} {a b : World} (h : Keeps ok a b) (hk : ∀ x, x < a.heap.size → ok' x → ok x) : Keeps ok' a b := ⟨h.size, fun x hx hl => h.block x (hk x hl hx) hl⟩
theorem Keeps.of_below {B : Nat} {a b : World} (h : Below B a b) : Keeps (· < B) a b := ⟨h.size, fun x hx _ => h.block x hx⟩
theorem Keeps.of_below_size {ok : Nat → Prop} {a b : World} (h : Below a.heap.size a b) : Keeps ok a b := ⟨h.size, fun x _ hl => h.block x hl⟩

theorem cell_same {w w' : World} {b : Nat} (h : w'.heap[b]? = w.heap[b]?) (j : Nat) : w'.cell? ⟨b, j, none⟩ = w.cell? ⟨b, j, none⟩ := by
  unfold World.cell?
  simp only [h]

/-- Rows whose blocks count. -/
def RowsAt (ok : Nat → Prop) (w : World) (v : Value) (n : Nat) (xs : List Value) : Prop :=
  ∃ a cap, v = .slice a n cap ∧ n ≤ cap ∧ cap ≤ maxLen ∧ ∀ j u, xs[j]? = some u → ∃ b off, a = some ⟨b, off, none⟩ ∧ ok b ∧ b < w.heap.size ∧ w.cell? ⟨b, off + j, none⟩ = some u

theorem RowsAt.keep {ok : Nat → Prop} {w w' : World} {v : Value} {n : Nat} {xs : List Value} (h : RowsAt ok w v n xs) (k : Keeps ok w w') : RowsAt ok w' v n xs := by
  obtain ⟨a, cap, hv, h1, h2, h3⟩ := h
  refine ⟨a, cap, hv, h1, h2, fun j u hj => ?_⟩
  obtain ⟨b, off, ha, hb, hl, hc⟩ := h3 j u hj
  exact ⟨b, off, ha, hb, Nat.lt_of_lt_of_le hl k.size, (cell_same (k.block b hb hl) _).trans hc⟩

theorem RowsAt.mono {ok ok' : Nat → Prop} {w : World} {v : Value} {n : Nat} {xs : List Value} (h : RowsAt ok w v n xs) (hk : ∀ x, x < w.heap.size → ok x → ok' x) : RowsAt ok' w v n xs := by
  obtain ⟨a, cap, hv, h1, h2, h3⟩ := h
  refine ⟨a, cap, hv, h1, h2, fun j u hj => ?_⟩
  obtain ⟨b, off, ha, hb, hl, hc⟩ := h3 j u hj
  exact ⟨b, off, ha, hk b hl hb, hl, hc⟩

theorem RowsAt.reads {ok : Nat → Prop} {w : World} {v : Value} {n k : Nat} {xs : List Value} (h : RowsAt ok w v n xs) (hl : xs.length = n * k) : Reads w k v n xs := by
  obtain ⟨a, cap, hv, h1, h2, h3⟩ := h
  refine ⟨hl, a, cap, hv, h1, h2, fun j u hj => ?_⟩
  obtain ⟨b, off, ha, _, hb, hc⟩ := h3 j u hj
  exact ⟨b, off, ha, hb, hc⟩

theorem Reads.rowsAt {w : World} {v : Value} {n k : Nat} {xs : List Value} (h : Reads w k v n xs) : RowsAt (· < w.heap.size) w v n xs := by
  obtain ⟨hl, a, cap, hv, h1, h2, h3⟩ := h
  refine ⟨a, cap, hv, h1, h2, fun j u hj => ?_⟩
  obtain ⟨b, off, ha, hb, hc⟩ := h3 j u hj
  exact ⟨b, off, ha, hb, hb, hc⟩

section
variable {α : Type}
mutual
/-- Cells in memory that are a tree's. -/
def TrAt (hd : (Nat → Prop) → World → List Value → α → Prop) (ok : Nat → Prop) (s : Nat) (w : World) : List Value → Tr α → Prop
  | cs, .mk h ps => ∃ hc a cap, cs = hc ++ [.slice a ps.length cap] ∧ hc.length + 1 = s ∧ hd ok w hc h ∧ ps.length ≤ cap ∧ cap ≤ maxLen ∧ TrsAt hd ok s w a 0 ps
def TrsAt (hd : (Nat → Prop) → World → List Value → α → Prop) (ok : Nat → Prop) (s : Nat) (w : World) : Option Addr → Nat → List (Tr α) → Prop
  | _, _, [] => True
  | a, i, p :: ps => (∃ b off cs, a = some ⟨b, off, none⟩ ∧ ok b ∧ b < w.heap.size ∧ cs.length = s ∧ (∀ (j : Nat) (u : Value), cs[j]? = some u → w.cell? ⟨b, off + i * s + j, none⟩ = some u) ∧ TrAt hd ok s w cs p) ∧ TrsAt hd ok s w a (i + 1) ps
end

theorem TrsAt.get {hd : (Nat → Prop) → World → List Value → α → Prop} {ok : Nat → Prop} {s : Nat} {w : World} {a : Option Addr} : ∀ {ps : List (Tr α)} {i0 : Nat}, TrsAt hd ok s w a i0 ps → ∀ {i : Nat} {p : Tr α}, ps[i]? = some p →
    ∃ b off cs, a = some ⟨b, off, none⟩ ∧ ok b ∧ b < w.heap.size ∧ cs.length = s ∧ (∀ (j : Nat) (u : Value), cs[j]? = some u → w.cell? ⟨b, off + (i0 + i) * s + j, none⟩ = some u) ∧ TrAt hd ok s w cs p
  | [], _, _, _, _, hi => by simp at hi
  | q :: qs, i0, h, i, p, hi => by
    rw [TrsAt] at h
    cases i with
    | zero => simp at hi; subst hi; exact h.1
    | succ i =>
      have := TrsAt.get h.2 (i := i) (p := p) (by simpa using hi)
      rwa [show i0 + 1 + i = i0 + (i + 1) by omega] at this

theorem TrsAt.of_all {hd : (Nat → Prop) → World → List Value → α → Prop} {ok : Nat → Prop} {s : Nat} {w : World} {a : Option Addr} : ∀ (ps : List (Tr α)) (i0 : Nat), (∀ (i : Nat) (p : Tr α), ps[i]? = some p →
    ∃ b off cs, a = some ⟨b, off, none⟩ ∧ ok b ∧ b < w.heap.size ∧ cs.length = s ∧ (∀ (j : Nat) (u : Value), cs[j]? = some u → w.cell? ⟨b, off + (i0 + i) * s + j, none⟩ = some u) ∧ TrAt hd ok s w cs p) → TrsAt hd ok s w a i0 ps
  | [], _, _ => by rw [TrsAt]; trivial
  | q :: qs, i0, h => by
    rw [TrsAt]
    refine ⟨h 0 q rfl, TrsAt.of_all qs (i0 + 1) fun i p hi => ?_⟩
    have := h (i + 1) p (by simpa using hi)
    rwa [show i0 + (i + 1) = i0 + 1 + i by omega] at this

mutual
theorem TrAt.keep {hd : (Nat → Prop) → World → List Value → α → Prop} {ok : Nat → Prop} {s : Nat} {w w' : World} (hk : Keeps ok w w') (hhd : ∀ hc h, hd ok w hc h → hd ok w' hc h) : ∀ {cs : List Value} (t : Tr α), TrAt hd ok s w cs t → TrAt hd ok s w' cs t
  | cs, .mk h ps, ht => by
    rw [TrAt] at ht ⊢
    obtain ⟨hc, a, cap, h1, h2, h3, h4, h5, h6⟩ := ht
    exact ⟨hc, a, cap, h1, h2, hhd _ _ h3, h4, h5, TrsAt.keep hk hhd ps h6⟩
theorem TrsAt.keep {hd : (Nat → Prop) → World → List Value → α → Prop} {ok : Nat → Prop} {s : Nat} {w w' : World} (hk : Keeps ok w w') (hhd : ∀ hc h, hd ok w hc h → hd ok w' hc h) {a : Option Addr} : ∀ {i : Nat} (ps : List (Tr α)), TrsAt hd ok s w a i ps → TrsAt hd ok s w' a i ps
  | _, [], _ => by rw [TrsAt]; trivial
  | i, p :: ps, h => by
    rw [TrsAt] at h ⊢
    obtain ⟨⟨b, off, cs, h1, h2, h3, h4, h5, h6⟩, h7⟩ := h
    exact ⟨⟨b, off, cs, h1, h2, Nat.lt_of_lt_of_le h3 hk.size, h4, fun j u hj => (cell_same (hk.block b h2 h3) _).trans (h5 j u hj), TrAt.keep hk hhd p h6⟩, TrsAt.keep hk hhd ps h7⟩
end

mutual
theorem TrAt.mono {hd : (Nat → Prop) → World → List Value → α → Prop} {ok ok' : Nat → Prop} {s : Nat} {w : World} (hk : ∀ x, x < w.heap.size → ok x → ok' x) (hhd : ∀ hc h, hd ok w hc h → hd ok' w hc h) : ∀ {cs : List Value} (t : Tr α), TrAt hd ok s w cs t → TrAt hd ok' s w cs t
  | cs, .mk h ps, ht => by
    rw [TrAt] at ht ⊢
    obtain ⟨hc, a, cap, h1, h2, h3, h4, h5, h6⟩ := ht
    exact ⟨hc, a, cap, h1, h2, hhd _ _ h3, h4, h5, TrsAt.mono hk hhd ps h6⟩
theorem TrsAt.mono {hd : (Nat → Prop) → World → List Value → α → Prop} {ok ok' : Nat → Prop} {s : Nat} {w : World} (hk : ∀ x, x < w.heap.size → ok x → ok' x) (hhd : ∀ hc h, hd ok w hc h → hd ok' w hc h) {a : Option Addr} : ∀ {i : Nat} (ps : List (Tr α)), TrsAt hd ok s w a i ps → TrsAt hd ok' s w a i ps
  | _, [], _ => by rw [TrsAt]; trivial
  | i, p :: ps, h => by
    rw [TrsAt] at h ⊢
    obtain ⟨⟨b, off, cs, h1, h2, h3, h4, h5, h6⟩, h7⟩ := h
    exact ⟨⟨b, off, cs, h1, hk b h3 h2, h3, h4, h5, TrAt.mono hk hhd p h6⟩, TrsAt.mono hk hhd ps h7⟩
end
end
end Go.Proofs.YtopnldebekhelaaDoor

/- What a call that writes into blocks of its caller's own leaves. -/
namespace Go.Proofs.YtopnldebekhelaaDoor
open Go Go.RowKit

/-- w' is w but for the blocks l, and new ones. -/
structure Touch (w w' : World) (l : List Nat) : Prop where
  os : w'.os = w.os
  tape : w'.tape = w.tape
  output : w'.output = w.output
  size : w.heap.size ≤ w'.heap.size
  block : ∀ k, k < w.heap.size → k ∉ l → w'.heap[k]? = w.heap[k]?

theorem Touch.refl (w : World) (l : List Nat) : Touch w w l := ⟨rfl, rfl, rfl, Nat.le_refl _, fun _ _ _ => rfl⟩

theorem Touch.trans {a b c : World} {l m n : List Nat} (h : Touch a b l) (k : Touch b c m) (hl : ∀ x, x ∈ l → x ∈ n) (hm : ∀ x, x ∈ m → x ∈ n ∨ a.heap.size ≤ x) : Touch a c n :=
  ⟨k.os.trans h.os, k.tape.trans h.tape, k.output.trans h.output, Nat.le_trans h.size k.size, fun i hi hn =>
    (k.block i (Nat.lt_of_lt_of_le hi h.size) (fun e => (hm i e).elim hn (fun h' => absurd hi (by omega)))).trans (h.block i hi (fun e => hn (hl i e)))⟩

theorem Touch.same {a b c : World} {l : List Nat} (h : Touch a b l) (k : Touch b c l) : Touch a c l := h.trans k (fun _ h => h) (fun _ h => .inl h)

theorem Touch.mono {a b : World} {l m : List Nat} (h : Touch a b l) (hl : ∀ x, x ∈ l → x ∈ m) : Touch a b m :=
  ⟨h.os, h.tape, h.output, h.size, fun i hi hn => h.block i hi (fun e => hn (hl i e))⟩

theorem Touch.of_below {w w' : World} (h : Below w.heap.size w w') (l : List Nat) : Touch w w' l := ⟨h.os, h.tape, h.output, h.size, fun i hi _ => h.block i hi⟩

theorem Touch.of_grown {w w' : World} {b : Nat} (h : w.grownBy w' (some b)) : Touch w w' [b] := ⟨h.os, h.tape, h.output, h.size, fun i hi hn => h.block i hi (fun e => hn (by cases e; simp))⟩

theorem Touch.alloc {w w' : World} {l : List Nat} (h : Touch w w' l) (o : Obj) : Touch w (w'.alloc o) l :=
  h.same ⟨rfl, rfl, rfl, by simp, fun k hk _ => Below.heap_alloc _ _ _ hk⟩

theorem Touch.drew {w w' : World} {l : List Nat} (h : Touch w w' l) : Touch w w'.drew l := ⟨h.os, h.tape, h.output, h.size, h.block⟩

theorem Touch.drewN {w w' : World} {l : List Nat} (h : Touch w w' l) (n : Nat) : Touch w (w'.drewN n) l := ⟨h.os, h.tape, h.output, h.size, h.block⟩

theorem Touch.setCell {w w' : World} {l : List Nat} (h : Touch w w' l) {p : Addr} (hp : p.block ∈ l ∨ w.heap.size ≤ p.block) (u : Value) : Touch w (w'.setCell p u) l :=
  ⟨h.os, h.tape, h.output, Nat.le_trans h.size (by simp [World.setCell]), fun k hk hn => by
    have hne : k ≠ p.block := by
      rcases hp with hp | hp
      · intro e; exact hn (e ▸ hp)
      · omega
    exact (Below.heap_setCell _ _ _ _ hne).trans (h.block k hk hn)⟩

/-- Below a number under which no block is touched, all is as it was. -/
theorem Touch.below {w w' : World} {l : List Nat} {B : Nat} (h : Touch w w' l) (hB : B ≤ w.heap.size) (hl : ∀ x, x ∈ l → B ≤ x) : Below B w w' :=
  ⟨h.os, h.tape, h.output, h.size, fun k hk => h.block k (by omega) (fun e => by have := hl k e; omega)⟩

/-- A block that isn't touched. -/
theorem Touch.keep {w w' : World} {l : List Nat} {g : Nat} {o : Obj} (h : Touch w w' l) (hg : w.heap[g]? = some o) (hn : g ∉ l) : w'.heap[g]? = some o :=
  (h.block g (Array.getElem?_eq_some_iff.1 hg).1 hn).trans hg

theorem Touch.keepMap {H : Type} {P : Program} {k : TypeId} {R : Value → Option (DataW H × List MemPlace)} {b n : Nat} {D : DataW H} {w w' : World} {l : List Nat} (h : Touch w w' l) (hm : w.ownsMap P k R b n D) (hn : b ∉ l) : w'.ownsMap P k R b n D := by
  obtain ⟨es, clock, hb, F, hs, hD⟩ := hm
  exact ⟨es, clock, h.keep hb hn, F, hs, hD⟩

/-- What lies in a block. -/
theorem Touch.reads {w w' : World} {l : List Nat} {size n : Nat} {v : Value} {xs : List Value} (h : Touch w w' l) (hr : Reads w size v n xs) (hn : ∀ g, v.ownBlock = some g → g ∉ l) : Reads w' size v n xs := by
  obtain ⟨hl, a, cap, rfl, h1, h2, h3⟩ := hr
  refine ⟨hl, a, cap, rfl, h1, h2, fun j u hj => ?_⟩
  obtain ⟨b, off, rfl, hlt, hr⟩ := h3 j u hj
  refine ⟨b, off, rfl, Nat.lt_of_lt_of_le hlt h.size, ?_⟩
  have := h.block b hlt (hn b rfl)
  simp only [World.cell?] at hr ⊢
  rw [this]
  exact hr
end Go.Proofs.YtopnldebekhelaaDoor

/- Slices of strings, cut. -/
namespace Go.Proofs.YtopnldebekhelaaDoor
open Go Go.RowKit

theorem scells_length (l : List ByteArray) : (scells l).length = l.length := List.length_map ..
theorem scells_append (a b : List ByteArray) : scells (a ++ b) = scells a ++ scells b := List.map_append ..
theorem scells_one (l : List ByteArray) : ∀ u ∈ scells l, u.oneCell' = true := by
  intro u hu
  obtain ⟨_, _, rfl⟩ := List.mem_map.1 hu
  rfl

theorem info9 : (Tryd.prog.info? 9).map (fun i => (i.zero, i.size, i.bytes)) = some (some (.string ⟨#[]⟩), 1, 16) := by kernel_rfl

theorem Reads.stake {w : World} {a : Option Addr} {n cap : Nat} {l : List ByteArray} (h : Reads w 1 (.slice a n cap) n (scells l)) (k : Nat) (hk : k ≤ n) : Reads w 1 (.slice a k cap) k (scells (l.take k)) := by
  obtain ⟨hl, a', cap', hv, h1, h2, h3⟩ := h
  cases hv
  rw [scells_length] at hl
  refine ⟨by rw [scells_length, List.length_take]; omega, a, cap, rfl, by omega, h2, fun j u hj => h3 j u ?_⟩
  simp only [scells, List.map_take] at hj ⊢
  rw [List.getElem?_take] at hj
  split at hj
  · exact hj
  · cases hj

/-- The address behind the first k elements, as the model leaves it. -/
def behind (a : Option Addr) (k cap : Nat) : Option Addr := if cap = k then a else a.map fun x => x.add k

theorem Reads.sdrop {w : World} {a : Option Addr} {n cap : Nat} {l : List ByteArray} (h : Reads w 1 (.slice a n cap) n (scells l)) (k : Nat) (hk : k ≤ n) : Reads w 1 (.slice (behind a k cap) (n - k) (cap - k)) (n - k) (scells (l.drop k)) := by
  obtain ⟨hl, a', cap', hv, h1, h2, h3⟩ := h
  cases hv
  rw [scells_length] at hl
  refine ⟨by rw [scells_length, List.length_drop]; omega, _, _, rfl, by omega, by omega, fun j u hj => ?_⟩
  have hjl := (List.getElem?_eq_some_iff.1 hj).1
  rw [scells_length, List.length_drop] at hjl
  simp only [scells, List.map_drop] at hj h3
  rw [List.getElem?_drop] at hj
  obtain ⟨b, off, rfl, hb, hr⟩ := h3 _ _ hj
  unfold behind
  rw [if_neg (by omega)]
  exact ⟨b, off + k, by simp [Addr.add], hb, by rw [Nat.add_assoc]; exact hr⟩
end Go.Proofs.YtopnldebekhelaaDoor

/- Rules as trees in memory; rows of them. -/
namespace Go.Proofs.YtopnldebekhelaaDoor
open Go Go.RowKit

structure RuH where
  kind : Int
  a : ByteArray
  b : ByteArray

def ruHd (_ : Nat → Prop) (_ : World) (hc : List Value) (x : RuH) : Prop := hc = [.int .i64 x.kind, .string x.a, .string x.b]

theorem ruHd_keep {ok : Nat → Prop} {w w' : World} (_ : Keeps ok w w') (hc : List Value) (h : RuH) (k : ruHd ok w hc h) : ruHd ok w' hc h := k
theorem ruHd_mono {ok ok' : Nat → Prop} {w : World} (_ : ∀ x, x < w.heap.size → ok x → ok' x) (hc : List Value) (h : RuH) (k : ruHd ok w hc h) : ruHd ok' w hc h := k

theorem ownsRow_base {w : World} {B C k n : Nat} {e : TypeId} {v : Value} {xs : List Value} (h : w.ownsRow C e k v n xs) (hB : B ≤ C) : w.ownsRow B e k v n xs := by
  refine ⟨h.1, ?_⟩
  rcases h.2 with h | ⟨g, cap, cur, hv, hb, rest⟩
  · exact .inl h
  · exact .inr ⟨g, cap, cur, hv, Nat.le_trans hB hb, rest⟩

theorem rows_at {α : Type} (f : α → List Value) (k : Nat) (hk : ∀ x, (f x).length = k) {w : World} {a : Option Addr} {n cap : Nat} {xs : List α} (h : Reads w k (.slice a n cap) n (xs.flatMap f)) {i : Nat} {x : α} (hx : xs[i]? = some x) (h0 : 0 < k) :
    ∃ b off, a = some ⟨b, off, none⟩ ∧ b < w.heap.size ∧ ∀ (j : Nat) (u : Value), (f x)[j]? = some u → w.cell? ⟨b, off + i * k + j, none⟩ = some u := by
  have hj0 : ∃ u, (f x)[0]? = some u := ⟨_, List.getElem?_eq_getElem (by rw [hk]; exact h0)⟩
  obtain ⟨u0, hu0⟩ := hj0
  obtain ⟨b, off, rfl, hb, _⟩ := h.at (j := i * k + 0) (u := u0) (by rw [flat_cell f k hk xs i x hx 0 h0]; exact hu0)
  refine ⟨b, off, rfl, hb, fun j u hj => ?_⟩
  have hjk : j < k := by
    have := (List.getElem?_eq_some_iff.1 hj).1
    rwa [hk] at this
  obtain ⟨b2, off2, hv, _, hc⟩ := h.at (j := i * k + j) (u := u) (by rw [flat_cell f k hk xs i x hx j hjk]; exact hj)
  cases hv
  rw [Nat.add_assoc]
  exact hc

/-- What elements of a row lead on to stays where its blocks stay. -/
structure EKeep {ε : Type} (eat : (Nat → Prop) → World → ε → Prop) : Prop where
  keep : ∀ ok w w' e, Keeps ok w w' → eat ok w e → eat ok w' e
  mono : ∀ (ok ok' : Nat → Prop) w e, (∀ x, x < w.heap.size → ok x → ok' x) → eat ok w e → eat ok' w e

/-- A row of one's own whose elements lead on to blocks of one's own. -/
def EOwn {ε : Type} (ec : ε → List Value) (eat : (Nat → Prop) → World → ε → Prop) (ty : TypeId) (s B0 : Nat) (w : World) (v : Value) (es : List ε) : Prop :=
  w.ownsRow B0 ty s v es.length (es.flatMap ec) ∧ ∀ e ∈ es, eat (fun b => B0 ≤ b ∧ v.ownBlock ≠ some b) w e

section
variable {ε : Type} {ec : ε → List Value} {eat : (Nat → Prop) → World → ε → Prop} {ty : TypeId} {s B0 : Nat}

theorem EOwn.nil (w : World) : EOwn ec eat ty s B0 w (.slice none 0 0) [] := ⟨owns_nil _ _ _ _, fun e he => by cases he⟩

theorem EOwn.touch {w w' : World} {v : Value} {es : List ε} {g c : Nat} (hk : EKeep eat) (h : EOwn ec eat ty s B0 w v es) (ht : Touch w w' [g, c]) (hg : g < B0) (hc : c < B0) : EOwn ec eat ty s B0 w' v es := by
  refine ⟨?_, fun e he => hk.keep _ _ _ _ ⟨ht.size, fun b hb hl => ht.block b hl (by simp; omega)⟩ (h.2 e he)⟩
  obtain ⟨h1, h2 | ⟨k, cap, cur, hv, hb, hh, rest⟩⟩ := h.1
  · exact ⟨h1, .inl h2⟩
  · exact ⟨h1, .inr ⟨k, cap, cur, hv, hb, (ht.block k (Array.getElem?_eq_some_iff.1 hh).1 (by simp; omega)).trans hh, rest⟩⟩

theorem EOwn.base {w : World} {v : Value} {es : List ε} {C : Nat} (hk : EKeep eat) (h : EOwn ec eat ty s C w v es) (hB : B0 ≤ C) : EOwn ec eat ty s B0 w v es :=
  ⟨ownsRow_base h.1 hB, fun e he => hk.mono _ _ _ _ (fun _ _ hx => ⟨Nat.le_trans hB hx.1, hx.2⟩) (h.2 e he)⟩

theorem EOwn.push {w w6 : World} {v v6 : Value} {es : List ε} {e : ε} {C : Nat} (hk : EKeep eat) (h : EOwn ec eat ty s B0 w v es) (he : eat (fun b => C ≤ b) w e) (hC : B0 ≤ C) (hv : ∀ c, v.ownBlock = some c → c < C)
    (o6 : w6.ownsRow B0 ty s v6 (es.length + 1) (es.flatMap ec ++ ec e)) (g6 : w.grownBy w6 v.ownBlock) (m6 : Moves w v v6) : EOwn ec eat ty s B0 w6 v6 (es ++ [e]) := by
  refine ⟨by rw [List.length_append, List.flatMap_append, List.flatMap_cons, List.flatMap_nil, List.append_nil]; exact o6, fun x hx => ?_⟩
  have hkp : Keeps (fun b => v.ownBlock ≠ some b) w w6 := ⟨g6.size, fun b hb hl => g6.block b hl (fun e => hb e.symm)⟩
  have hin : eat (fun b => B0 ≤ b ∧ v.ownBlock ≠ some b) w x := by
    rcases List.mem_append.1 hx with hx | hx
    · exact h.2 x hx
    · simp at hx
      subst hx
      exact hk.mono _ _ _ _ (fun b _ hb => ⟨Nat.le_trans hC hb, fun e => by have := hv b e; omega⟩) he
  have h1 := hk.keep _ _ _ _ (hkp.mono (fun b _ hb => hb.2)) (hk.mono _ (fun b => (B0 ≤ b ∧ v.ownBlock ≠ some b) ∧ v6.ownBlock ≠ some b) _ _ (fun b hl hb => ⟨hb, m6 b hl hb.2⟩) hin |> hk.mono _ (fun b => (B0 ≤ b ∧ v6.ownBlock ≠ some b) ∧ v.ownBlock ≠ some b) _ _ (fun b _ hb => ⟨⟨hb.1.1, hb.2⟩, hb.1.2⟩))
  exact hk.mono _ _ _ _ (fun b _ hb => hb.1) h1

end

structure RuE where
  h : RuH
  ps : List (Tr RuH)
  a : Option Addr
  cap : Nat

def RuE.cells (e : RuE) : List Value := [.int .i64 e.h.kind, .string e.h.a, .string e.h.b, .slice e.a e.ps.length e.cap]

def ruEAt (ok : Nat → Prop) (w : World) (e : RuE) : Prop := e.ps.length ≤ e.cap ∧ e.cap ≤ maxLen ∧ TrsAt ruHd ok 4 w e.a 0 e.ps

theorem ruE_keep : EKeep ruEAt := ⟨fun _ _ _ _ k h => ⟨h.1, h.2.1, TrsAt.keep k (ruHd_keep k) _ h.2.2⟩, fun _ _ _ _ k h => ⟨h.1, h.2.1, TrsAt.mono k (ruHd_mono k) _ h.2.2⟩⟩

def RuE.tree (e : RuE) : Tr RuH := .mk e.h e.ps

theorem RuE.at {ok : Nat → Prop} {w : World} {e : RuE} (h : ruEAt ok w e) : TrAt ruHd ok 4 w e.cells e.tree := by
  unfold RuE.tree
  rw [TrAt]
  exact ⟨[.int .i64 e.h.kind, .string e.h.a, .string e.h.b], e.a, e.cap, rfl, rfl, rfl, h.1, h.2.1, h.2.2⟩

/-- A row of trees' elements is a list of trees. -/
theorem EOwn.trs {α ε : Type} {hd : (Nat → Prop) → World → List Value → α → Prop} {ec : ε → List Value} {eat : (Nat → Prop) → World → ε → Prop} {ty : TypeId} {s B0 : Nat} {w : World} {v : Value} {es : List ε} (et : ε → Tr α) (hs : 0 < s) (hec : ∀ e, (ec e).length = s)
    (hat : ∀ ok e, eat ok w e → TrAt hd ok s w (ec e) (et e)) (hk : EKeep eat) (h : EOwn ec eat ty s B0 w v es) : ∃ a cap, v = .slice a es.length cap ∧ es.length ≤ cap ∧ cap ≤ maxLen ∧ TrsAt hd (fun b => B0 ≤ b) s w a 0 (es.map et) := by
  obtain ⟨a, cap, hv, h1, h2⟩ := (ownsRow.reads h.1).le
  refine ⟨a, cap, hv, h1, h2, TrsAt.of_all _ _ fun i p hi => ?_⟩
  rw [List.getElem?_map] at hi
  obtain ⟨e, he, rfl⟩ := Option.map_eq_some_iff.1 hi
  subst hv
  obtain ⟨b, off, rfl, hb, hc⟩ := rows_at ec s hec (ownsRow.reads h.1) he hs
  have hbB : B0 ≤ b := by
    obtain ⟨_, ⟨h3, _⟩ | ⟨k, c2, cur, h3, h4, _⟩⟩ := h.1
    · cases h3
    · cases h3
      exact h4
  refine ⟨b, off, ec e, rfl, hbB, hb, hec e, fun j u hj => ?_, hat _ _ (hk.mono _ _ _ _ (fun _ _ hx => hx.1) (h.2 e (List.mem_of_getElem? he)))⟩
  rw [Nat.zero_add]
  exact hc j u hj

theorem trRu_open {ok : Nat → Prop} {w : World} {cs : List Value} {h : RuH} {ps : List (Tr RuH)} (k : TrAt ruHd ok 4 w cs (.mk h ps)) : ∃ a cap, cs = [.int .i64 h.kind, .string h.a, .string h.b, .slice a ps.length cap] ∧ ps.length ≤ cap ∧ cap ≤ maxLen ∧ TrsAt ruHd ok 4 w a 0 ps := by
  rw [TrAt] at k
  obtain ⟨hc, a, cap, rfl, _, h3, h4, h5, h6⟩ := k
  exact ⟨a, cap, by rw [h3]; rfl, h4, h5, h6⟩

theorem sub_own {w w' : World} {B n k : Nat} {e : TypeId} {v : Value} {xs : List Value} {g c : Nat} (h : w.ownsRow B e k v n xs) (ht : Touch w w' [g, c]) (hg : g < B) (hc : c < B) : w'.ownsRow B e k v n xs := by
  obtain ⟨h1, h2 | ⟨q, cap, cur, hv, hb, hh, rest⟩⟩ := h
  · exact ⟨h1, .inl h2⟩
  · exact ⟨h1, .inr ⟨q, cap, cur, hv, hb, (ht.block q (Array.getElem?_eq_some_iff.1 hh).1 (by simp; omega)).trans hh, rest⟩⟩

theorem own_rowsAt {w : World} {B n k : Nat} {e : TypeId} {v : Value} {xs : List Value} (h : w.ownsRow B e k v n xs) : RowsAt (fun b => B ≤ b) w v n xs := by
  obtain ⟨hl, a, cap, hv, h1, h2, h3⟩ := ownsRow.reads h
  refine ⟨a, cap, hv, h1, h2, fun j u hj => ?_⟩
  obtain ⟨b, off, ha, hb, hc⟩ := h3 j u hj
  have hbB : B ≤ b := by
    obtain ⟨_, ⟨h4, _⟩ | ⟨q, c2, cur, h4, h5, _⟩⟩ := h
    · rw [hv, ha] at h4; cases h4
    · rw [hv, ha] at h4; cases h4; exact h5
  exact ⟨b, off, ha, hbB, hb, hc⟩

theorem below_quietS {B : Nat} {w wr : World} (h : Below B w wr) (n : Nat) : Below B w (wr.drewN n) := ⟨h.os, h.tape, h.output, h.size, h.block⟩

end Go.Proofs.YtopnldebekhelaaDoor

namespace Go.Proofs.YtopnldebekhelaaDoor
open Go Go.RowKit

def NameRel (l : List UInt8) (i : Value) : Prop := ∃ k : Nat, i = .int .i64 (k : Int) ∧ k ≤ l.length ∧ (l.take k).all okB = true

theorem take_succ_all (l : List UInt8) (k : Nat) (h : k < l.length) : (l.take (k + 1)).all okB = ((l.take k).all okB && okB (l.getD k 0)) := by
  rw [List.take_add_one, List.getElem?_eq_getElem h, List.all_append]; simp [List.getD, h]

theorem all_false (l : List UInt8) (k : Nat) (h : k < l.length) (hc : okB (l.getD k 0) = false) : nameL l = false := by
  have : l.all okB = false := by
    rw [List.all_eq_false]
    refine ⟨l.getD k 0, ?_, by rw [hc]; decide⟩
    simp [List.getD, h]
  unfold nameL
  rw [this]; rfl

set_option maxRecDepth 100000 in
set_option maxHeartbeats 1000000 in
theorem name_any (w : World) (s : ByteArray) (hs : s.size ≤ 1000000000) :
    Calls Tryd.prog 47 #[.string s] w (GivesBool w (nameB s)) := by
  have hsl : s.data.toList.length = s.size := Array.length_toList
  have Hsl := Lib.hid hsl
  clear hsl
  go_enter Tryd.func47, Tryd.ntmps47
  go_wp2_with (refine wpList_bytes rfl _ 9 34 5 rfl Tryd.underlying9 Tryd.underlying34 Tryd.underlying5 s rfl ?_ ?_)
  · unfold maxLen; omega
  intro cap w1 r1 g1 b1 lt1
  go_wp2
  go_loop [10] (fun i => NameRel s.data.toList i) (fun i => s.size - (intOf i).toNat)
  case atStart => exact ⟨0, rfl, Nat.zero_le _, rfl⟩
  case round =>
    obtain ⟨k, rfl, hk, hall⟩ := hrel
    rw [Hsl.out] at hk
    have Hall := Lib.hid hall
    clear hall
    by_cases hlt : k < s.size
    · have hsucc := take_succ_all s.data.toList k (by rw [Hsl.out]; exact hlt)
      have hfalse := all_false s.data.toList k (by rw [Hsl.out]; exact hlt)
      have c1 := r1.bcell k hlt
      simp only [Nat.zero_add] at c1
      generalize s.data.toList.getD k 0 = c at c1 hsucc hfalse
      have Hsucc := Lib.hid hsucc
      have Hfalse := Lib.hid hfalse
      clear hsucc hfalse
      rcases okB_ways c with ⟨hok, hw⟩ | ⟨hok, hw⟩
      · have Hok := Lib.hid hok
        clear hok
        rcases hw with hw | hw | hw | hw
        all_goals
          go_wp2
          refine ⟨⟨k + 1, by go_num, by rw [Hsl.out]; omega, ?_⟩, by simp [intOf]; omega⟩
          rw [Hsucc.out, Hall.out, Hok.out]; rfl
      · have Hok := Lib.hid hok
        clear hok
        have e95 : ((c.toNat : Int) != 95) = true := by simp; omega
        have e45 : ((c.toNat : Int) != 45) = true := by simp; omega
        have k57 : 57 < c.toNat → decide ((c.toNat : Int) ≤ 57) = false := fun h => by simp; omega
        have k122 : 122 < c.toNat → decide ((c.toNat : Int) ≤ 122) = false := fun h => by simp; omega
        rcases hw with hw | hw | hw
        · clear k57 k122
          go_wp2
          go_ret
          rw [nameB, Hfalse.out Hok.out]
          exact ⟨rfl, b1⟩
        · replace k57 := k57 (by omega)
          clear k122
          go_wp2
          go_ret
          rw [nameB, Hfalse.out Hok.out]
          exact ⟨rfl, b1⟩
        · replace k57 := k57 (by omega)
          replace k122 := k122 (by omega)
          go_wp2
          go_ret
          rw [nameB, Hfalse.out Hok.out]
          exact ⟨rfl, b1⟩
    · have e : List.take k s.data.toList = s.data.toList := List.take_of_length_le (by rw [Hsl.out]; omega)
      have hn : nameB s = (decide (1 ≤ s.size) && decide (s.size ≤ 32)) := by
        have h := Hall.out
        rw [e] at h
        unfold nameB nameL
        rw [h, Hsl.out]; rfl
      have Hn := Lib.hid hn
      clear hn e
      obtain rfl : k = s.size := by omega
      by_cases h1 : 1 ≤ s.size
      · have hn : nameB s = decide ((s.size : Int) ≤ 32) := by
          rw [Hn.out, decide_eq_true h1, Bool.true_and]
          simp
          omega
        have Hn' := Lib.hid hn
        clear hn
        go_wp2
        go_ret
        rw [Hn'.out]
        exact ⟨rfl, b1⟩
      · have hn : nameB s = false := by
          rw [Hn.out, decide_eq_false h1]
          rfl
        have Hn' := Lib.hid hn
        clear hn
        go_wp2
        go_ret
        rw [Hn'.out]
        exact ⟨rfl, b1⟩
end Go.Proofs.YtopnldebekhelaaDoor

/- An append of what a value holds, as a step of a region that draws its order. -/
namespace Go.Proofs.YtopnldebekhelaaDoor
open Go Go.RowKit

theorem step_append_src {P : Program} {w : World} {ops : Array Oper} {o : Oper} {a : Act} {K : Act → World → Prop} {Q : Exit → Act → World → Prop} {E : Prop} (hgd : o.guard = none) (s x : Operand) (t tx : TypeId)
    (ho : o.op = .call { callee := .builtin .append, args := #[s, x], argTypes := #[t, tx] })
    (B : Nat) (e : TypeId) (i : TypeInfo) (z : Value) (size bytes : Nat) (ht : P.underlying t = some (.slice e)) (hi : P.info? e = some i) (hz : i.zero = some z)
    (hsize : i.size = size) (hby : i.bytes = bytes) (hzs : z.cells.size = size)
    (v : Value) (n : Nat) (xs : List Value) (hs : a.eval s = v) (hown : w.ownsRow B e size v n xs)
    (xv : Value) (m : Nat) (news : List Value) (hx : a.eval x = xv) (hsrc : Src P size tx xv m news w)
    (h63 : n + m ≤ maxLen) (hbytes : (n + m) * bytes ≤ 140737488355328) (hB : B ≤ w.heap.size)
    (h : ∀ v' w', w'.ownsRow B e size v' (n + m) (xs ++ news) → w.grownBy w' v.ownBlock → Below B w w' → Moves w v v' → K (a.put o.dst v') w') :
    if Region.wanted o (yielded ops a.tmps) = true then Oper.wp P o a w K Q else E := by
  have hw : Region.wanted o (yielded ops a.tmps) = true := by simp [Region.wanted, hgd]
  rw [if_pos hw]
  obtain ⟨v', w', hr, h2, h3, h4, h5⟩ := run_append_owns (P := P) B t tx o.type e i z size bytes ht hi hz hsize hby hzs v n xs hown xv m news hsrc h63 hbytes hB
  unfold Oper.wp execOp
  simp only [ho, resolve, invoke, builtin, Sem.run_bind, Sem.run_pure, Result.andThen_ok, List.map_toArray, List.map_cons, List.map_nil, hs, hx, hr]
  exact h v' w' h2 h3 h4 h5

end Go.Proofs.YtopnldebekhelaaDoor

/- A region that draws its order, shown by one fact an operation: what each leaves in its slot, in whatever world that has grown. -/
namespace Go.Proofs.YtopnldebekhelaaDoor
open Go Go.RowKit

/-- The operation o, its operands being ρ's, yields in the world w a value of which R holds, with the world behind it. -/
def YieldsP (P : Program) (ρ : Operand → Value) (o : Oper) (w : World) (R : Value → World → Prop) : Prop :=
  match (execOp ρ o).run P w with
  | .ok (.value v) w' => R v w'
  | .ok .skip w' => R undef w'
  | .ok (.enter f args) w' => Calls P f args w' fun e w'' => ∃ v, e = .returned v ∧ R v w''
  | _ => False

/-- dsts are unlike and lie in the frame; edges lead back. -/
def drawnOk (l : List Oper) (n : Nat) : Bool :=
  (List.range l.length).all fun i =>
    match l[i]? with
    | none => false
    | some o => (o.after.all fun e => !Region.binds .any e || decide (e.on < i)) &&
        (match o.dst with
         | none => true
         | some d => decide (d < n) && (List.range l.length).all fun j => j == i || (match l[j]? with | some o' => o'.dst != some d | none => true)) &&
        (match o.guard with
         | none => true
         | some (j, _) => (o.after.any fun e => Region.binds .any e && e.on == j) && (match l[j]? with | some o' => o'.dst.isSome | none => false))

section
variable {P : Program} {id : Nat} {l : List Oper} {Q : Exit → Act → World → Prop} {a0 : Act} {w0 : World}

/-- what operation o leans on holds of ρ -/
def Leans (l : List Oper) (F : Nat → Value → World → Prop) (o : Oper) (ρ : Operand → Value) (w : World) : Prop :=
  ∀ j, (o.after.any fun e => Region.binds .any e && e.on == j) = true → ∀ d, (l[j]?).bind (·.dst) = some d → F j (ρ (.tmp d)) w

/-- ρ is the frame's, where no operation of the region writes. -/
structure Like (l : List Oper) (a0 : Act) (ρ : Operand → Value) : Prop where
  const : ∀ c, ρ (.const c) = c
  func : ∀ f, ρ (.func f) = .func (.func f) #[] #[]
  tmp : ∀ k, (l.all fun o => o.dst != some k) = true → ρ (.tmp k) = a0.tmps.getD k undef

structure Inv (l : List Oper) (F : Nat → Value → World → Prop) (a0 : Act) (w0 : World) (listed : Array Bool) (a : Act) (w : World) : Prop where
  defers : a.defers = a0.defers
  size : a.tmps.size = a0.tmps.size
  len : listed.size = l.length
  like : Like l a0 a.eval
  below : Below w0.heap.size w0 w
  facts : ∀ i o d, l[i]? = some o → o.dst = some d → listed.getD i true = true → F i (a.tmps.getD d undef) w

theorem drawnOk_at {n : Nat} (h : drawnOk l n = true) {i : Nat} {o : Oper} (hi : l[i]? = some o) :
    (∀ e ∈ o.after, Region.binds .any e = true → e.on < i) ∧ (∀ d, o.dst = some d → d < n ∧ ∀ j o', l[j]? = some o' → j ≠ i → o'.dst ≠ some d) ∧
    (∀ j b, o.guard = some (j, b) → (o.after.any fun e => Region.binds .any e && e.on == j) = true ∧ ∃ d, (l[j]?).bind (·.dst) = some d) := by
  have hlt : i < l.length := (List.getElem?_eq_some_iff.1 hi).1
  have h1 := List.all_eq_true.1 h i (List.mem_range.2 hlt)
  simp only [hi, Bool.and_eq_true] at h1
  obtain ⟨⟨h1, h2⟩, h3⟩ := h1
  refine ⟨fun e he hb => ?_, fun d hd => ?_, fun j b hg => ?_⟩
  · have := Array.all_eq_true_iff_forall_mem.1 h1 e he
    simpa [hb] using this
  · simp only [hd, Bool.and_eq_true, decide_eq_true_eq] at h2
    refine ⟨h2.1, fun j o' hj hne hdst => ?_⟩
    have hjl : j < l.length := (List.getElem?_eq_some_iff.1 hj).1
    have := List.all_eq_true.1 h2.2 j (List.mem_range.2 hjl)
    simp [hne, hj, hdst] at this
  · simp only [hg, Bool.and_eq_true] at h3
    refine ⟨h3.1, ?_⟩
    have h4 := h3.2
    cases hj : l[j]? with
    | none => simp [hj] at h4
    | some o' =>
      simp [hj] at h4
      obtain ⟨d, hd⟩ := Option.isSome_iff_exists.1 h4
      exact ⟨d, by simp [hd]⟩

theorem all_listed (hok : drawnOk l a0.tmps.size = true) {listed : Array Bool} (hl : listed.size = l.length) (hr : Region.ready .any l.toArray listed = []) :
    ∀ i, i < l.length → listed.getD i true = true := by
  intro i
  induction i using Nat.strongRecOn with
  | ind i ih =>
    intro hi
    by_cases hlist : listed.getD i true = true
    · exact hlist
    · exfalso
      have ho : l[i]? = some l[i] := List.getElem?_eq_getElem hi
      have h1 := (drawnOk_at hok ho).1
      have : i ∈ Region.ready .any l.toArray listed := by
        unfold Region.ready
        rw [List.mem_filter]
        refine ⟨List.mem_range.2 (by simpa using hi), ?_⟩
        simp only [Bool.and_eq_true, Bool.not_eq_true', List.getElem?_toArray, ho, Option.map_some, Option.getD_some]
        refine ⟨by simpa using hlist, ?_⟩
        rw [Array.all_eq_true_iff_forall_mem]
        intro e he
        by_cases hb : Region.binds .any e = true
        · have hlt := h1 e he hb
          have := ih e.on hlt (by omega)
          have hsz : e.on < listed.size := by omega
          simp [Array.getD, hsz] at this ⊢
          right
          exact this
        · simp [hb]
      rw [hr] at this
      cases this

theorem getD_put {a : Act} {d k : Nat} {v : Value} (h : k ≠ d) : (a.put (some d) v).tmps.getD k undef = a.tmps.getD k undef := by
  simp [Act.put, Ne.symm h]

theorem getD_put_same {a : Act} {d : Nat} {v : Value} (h : d < a.tmps.size) : (a.put (some d) v).tmps.getD d undef = v := by
  simp [Act.put, h]

theorem Inv.step {F : Nat → Value → World → Prop} (hF : ∀ i v w w', F i v w → Below w.heap.size w w' → F i v w') (hok : drawnOk l a0.tmps.size = true)
    {listed : Array Bool} {a : Act} {w w' : World} (h : Inv l F a0 w0 listed a w) {i : Nat} {o : Oper} (hi : l[i]? = some o) {v : Value} (hv : F i v w') (hb : Below w.heap.size w w') :
    Inv l F a0 w0 (listed.setIfInBounds i true) (a.put o.dst v) w' := by
  obtain ⟨_, h2, _⟩ := drawnOk_at hok hi
  refine ⟨?_, ?_, by simpa using h.len, ⟨fun c => rfl, fun f => rfl, fun k hk => ?_⟩, h.below.trans (hb.mono h.below.size), fun j o' d hj hd hl => ?_⟩
  · cases o.dst <;> exact h.defers
  · cases hd : o.dst with
    | none => exact h.size
    | some d => simpa [Act.put] using h.size
  · show (a.put o.dst v).tmps.getD k undef = _
    cases hd : o.dst with
    | none => exact h.like.tmp k hk
    | some d =>
      have hne : k ≠ d := by
        have := List.all_eq_true.1 hk o (List.mem_of_getElem? hi)
        simp [hd] at this
        exact fun e => this e.symm
      rw [getD_put hne]
      exact h.like.tmp k hk
  · by_cases hji : j = i
    · subst hji
      rw [hi] at hj
      cases hj
      obtain ⟨h3, _⟩ := h2 d hd
      rw [hd, getD_put_same (by rw [h.size]; exact h3)]
      exact hv
    · have hl' : listed.getD j true = true := by
        simp only [Array.getD_eq_getD_getElem?, Array.getElem?_setIfInBounds] at hl ⊢
        rw [if_neg (fun e => hji e.symm)] at hl
        exact hl
      have := hF _ _ _ _ (h.facts j o' d hj hd hl') hb
      cases hdo : o.dst with
      | none => exact this
      | some d' =>
        have hne : d ≠ d' := by
          intro e
          subst e
          exact (h2 d hdo).2 j o' hj hji hd
        rw [getD_put hne]
        exact this

theorem wp_of_yields {o : Oper} {a : Act} {w : World} {K : Act → World → Prop} {R : Value → World → Prop} (hy : YieldsP P a.eval o w R) (hK : ∀ v w', R v w' → K (a.put o.dst v) w') : o.wp P a w K Q := by
  unfold Oper.wp
  unfold YieldsP at hy
  generalize (execOp a.eval o).run P w = r at hy
  cases r with
  | ok n w' =>
    cases n <;> simp only at hy
    case value u => exact hK _ _ hy
    case skip => exact hK _ _ hy
    case enter f args => exact hy.mono fun e w'' ⟨v, he, hr⟩ => by subst he; exact hK _ _ hr
  | halt x w' => simp only at hy

theorem wpAny_of_facts {F : Nat → Value → World → Prop} (hF : ∀ i v w w', F i v w → Below w.heap.size w w' → F i v w') (hok : drawnOk l a0.tmps.size = true) (G : Nat → Bool)
    (hop : ∀ (i : Nat) (o : Oper), l[i]? = some o → ∀ ρ w, Like l a0 ρ → Below w0.heap.size w0 w → Leans l F o ρ w → if G i = true then YieldsP P ρ o w (fun v w' => F i v w' ∧ Below w.heap.size w w') else F i undef w)
    (hguard : ∀ (i : Nat) (o : Oper), l[i]? = some o → match o.guard with | none => G i = true | some (j, b) => ∀ v w, F j v w → ∃ b', v = .bool b' ∧ (b' == b) = G i)
    (hend : ∀ a w, a.defers = a0.defers → a.tmps.size = a0.tmps.size → Like l a0 a.eval → Below w0.heap.size w0 w → (∀ (i : Nat) (o : Oper) (d : Nat), l[i]? = some o → o.dst = some d → F i (a.tmps.getD d undef) w) → Q .normal a w) :
    ∀ (fuel : Nat) (listed : Array Bool) (a : Act) (w : World), (listed.toList.countP (· == false)) ≤ fuel → Inv l F a0 w0 listed a w → wpAny P .any l.toArray Q fuel listed a w := by
  have fin : ∀ (listed : Array Bool) (a : Act) (w : World), Inv l F a0 w0 listed a w → Region.ready .any l.toArray listed = [] → Q .normal a w := by
    intro listed a w h hr
    refine hend a w h.defers h.size h.like h.below fun i o d hi hd => h.facts i o d hi hd ?_
    exact all_listed hok h.len hr i (List.getElem?_eq_some_iff.1 hi).1
  intro fuel
  induction fuel with
  | zero =>
    intro listed a w hc h
    have hr : Region.ready .any l.toArray listed = [] := by
      unfold Region.ready
      rw [List.filter_eq_nil_iff]
      intro i hi
      have hil : i < listed.size := by rw [h.len]; simpa using hi
      have h0 : listed.toList.countP (· == false) = 0 := by omega
      rw [List.countP_eq_zero] at h0
      have := h0 listed[i] (by simp)
      simp [Array.getD, hil] at this ⊢
      simp [this]
    exact ⟨hr, fin listed a w h hr⟩
  | succ fuel ih =>
    intro listed a w hc h
    refine ⟨fin listed a w h, fun i hi => ?_⟩
    unfold Region.ready at hi
    rw [List.mem_filter] at hi
    obtain ⟨hi1, hi2⟩ := hi
    have hil : i < l.length := by simpa using hi1
    have ho : l[i]? = some l[i] := List.getElem?_eq_getElem hil
    simp only [Bool.and_eq_true, Bool.not_eq_true', List.getElem?_toArray, ho, Option.map_some, Option.getD_some] at hi2
    obtain ⟨hnl, haft⟩ := hi2
    rw [Array.all_eq_true_iff_forall_mem] at haft
    have hls : i < listed.size := by rw [h.len]; exact hil
    have hleans : Leans l F l[i] a.eval w := by
      intro j hj d hd
      rw [Array.any_eq_true'] at hj
      obtain ⟨e, he, hej⟩ := hj
      simp only [Bool.and_eq_true, beq_iff_eq] at hej
      obtain ⟨hb, rfl⟩ := hej
      have hle := haft e he
      rw [hb] at hle
      obtain ⟨oj, hoj, hdj⟩ := Option.bind_eq_some_iff.1 hd
      refine h.facts e.on oj d hoj hdj ?_
      have hjl : e.on < listed.size := by rw [h.len]; exact (List.getElem?_eq_some_iff.1 hoj).1
      simp [Array.getD, hjl] at hle ⊢
      exact hle
    have hcount : ((listed.setIfInBounds i true).toList.countP (· == false)) ≤ fuel := by
      have hli : listed.toList[i]'(by simpa using hls) = false := by
        simp [Array.getD, hls] at hnl
        simpa using hnl
      rw [Array.toList_setIfInBounds, List.countP_set (h := by simpa using hls), hli]
      have hpos : 0 < listed.toList.countP (· == false) := List.countP_pos_iff.2 ⟨false, by rw [← hli]; exact List.getElem_mem _, rfl⟩
      rw [if_pos (by decide), if_neg (by decide)]
      omega
    have hstep := fun (v : Value) (w' : World) (hv : F i v w') (hb : Below w.heap.size w w') => ih (listed.setIfInBounds i true) (a.put l[i].dst v) w' hcount (h.step hF hok ho hv hb)
    have hO := hop i l[i] ho a.eval w h.like h.below hleans
    have hGd := hguard i l[i] ho
    unfold wpOp
    simp only [List.getElem?_toArray, ho]
    have hw : Region.wanted l[i] (yielded l.toArray a.tmps) = G i := by
      unfold Region.wanted
      cases hg : l[i].guard with
      | none => simp only [hg] at hGd; exact hGd.symm
      | some jb =>
        obtain ⟨j, b⟩ := jb
        simp only [hg] at hGd
        obtain ⟨hbind, d, hd⟩ := (drawnOk_at hok ho).2.2 j b hg
        obtain ⟨b', hv', hbb⟩ := hGd _ _ (hleans j hbind d hd)
        obtain ⟨oj, hoj, hdj⟩ := Option.bind_eq_some_iff.1 hd
        have hdlt := ((drawnOk_at hok hoj).2.1 d hdj).1
        have hsz : d < a.tmps.size := by rw [h.size]; exact hdlt
        have hval : a.tmps[d]? = some (.bool b') := by
          rw [Array.getElem?_eq_getElem hsz]
          have : a.eval (.tmp d) = a.tmps[d] := by simp [Act.eval, Array.getD, hsz]
          rw [← this, hv']
        simp only [yielded, List.getElem?_toArray, hoj, Option.bind_some, hdj, hval]
        rw [← hbb]
        cases b' <;> cases b <;> rfl
    rw [hw]
    by_cases hG : G i = true
    · rw [if_pos hG] at hO ⊢
      exact .inl (wp_of_yields hO fun v w' hr => hstep v w' hr.1 hr.2)
    · rw [if_neg hG] at hO ⊢
      exact hstep undef w hO (Below.refl _ _)

/-- THE REGION. -/
theorem wp_region_facts (hm : P.follows .mixedOrders = true) {F : Nat → Value → World → Prop} (hF : ∀ i v w w', F i v w → Below w.heap.size w w' → F i v w') (hok : drawnOk l a0.tmps.size = true) (G : Nat → Bool)
    (hop : ∀ (i : Nat) (o : Oper), l[i]? = some o → ∀ ρ w, Like l a0 ρ → Below w0.heap.size w0 w → Leans l F o ρ w → if G i = true then YieldsP P ρ o w (fun v w' => F i v w' ∧ Below w.heap.size w w') else F i undef w)
    (hguard : ∀ (i : Nat) (o : Oper), l[i]? = some o → match o.guard with | none => G i = true | some (j, b) => ∀ v w, F j v w → ∃ b', v = .bool b' ∧ (b' == b) = G i)
    (hend : ∀ a w, a.defers = a0.defers → a.tmps.size = a0.tmps.size → Like l a0 a.eval → Below w0.heap.size w0 w → (∀ (i : Nat) (o : Oper) (d : Nat), l[i]? = some o → o.dst = some d → F i (a.tmps.getD d undef) w) → Q .normal a w) :
    (Code.region id l.toArray true).wp P Q a0 w0 := by
  refine wp_region_any hm ?_
  refine wpAny_of_facts hF hok G hop hguard hend _ _ _ _ ?_ ⟨rfl, rfl, by simp, ⟨fun _ => rfl, fun _ => rfl, fun _ _ => rfl⟩, ⟨rfl, rfl, rfl, Nat.le_refl _, fun _ _ => rfl⟩, fun i o d hi _ hl => ?_⟩
  · exact Nat.le_trans List.countP_le_length (by simp)
  · have := (List.getElem?_eq_some_iff.1 hi).1
    simp [Array.getD, this] at hl

/-- A fact on a slot that goes on holding as the world grows. -/
structure SlotFact where
  p : Value → World → Prop
  stable : ∀ v w w', p v w → Below w.heap.size w w' → p v w'

/-- the slot holds x -/
def eqF (x : Value) : SlotFact := ⟨fun v _ => v = x, fun _ _ _ h _ => h⟩
def anyF : SlotFact := ⟨fun _ _ => True, fun _ _ _ _ _ => trivial⟩
def factsOf (fs : List SlotFact) (i : Nat) : Value → World → Prop := ((fs[i]?).getD anyF).p

theorem factsOf_stable (fs : List SlotFact) : ∀ i v w w', factsOf fs i v w → Below w.heap.size w w' → factsOf fs i v w' := fun _ v w w' h hb => SlotFact.stable _ v w w' h hb

def AllFrom (T : Nat → Oper → Prop) : Nat → List Oper → Prop
  | _, [] => True
  | i, o :: r => T i o ∧ AllFrom T (i + 1) r

theorem AllFrom.at {T : Nat → Oper → Prop} : ∀ {l : List Oper} {k : Nat}, AllFrom T k l → ∀ i o, l[i]? = some o → T (k + i) o
  | [], _, _, _, _, h => by simp at h
  | o :: r, k, h, i, o', hi => by
    cases i with
    | zero => simp at hi; subst hi; exact h.1
    | succ i =>
      have := AllFrom.at h.2 i o' (by simpa using hi)
      rwa [show k + 1 + i = k + (i + 1) by omega] at this

/-- what is to be shown of one operation -/
def OpGoal (P : Program) (l : List Oper) (fs : List SlotFact) (a0 : Act) (w0 : World) (i : Nat) (o : Oper) : Prop :=
  ∀ ρ w, Like l a0 ρ → Below w0.heap.size w0 w → Leans l (factsOf fs) o ρ w → YieldsP P ρ o w (fun v w' => factsOf fs i v w' ∧ Below w.heap.size w w')

def GuardGoal (fs : List SlotFact) (o : Oper) : Prop := match o.guard with | none => True | some (j, b) => ∀ v w, factsOf fs j v w → v = .bool b

/-- THE REGION, ALL OF WHOSE OPERATIONS ARE CARRIED OUT. -/
theorem wp_region_all (hm : P.follows .mixedOrders = true) (fs : List SlotFact) (hok : drawnOk l a0.tmps.size = true)
    (hop : AllFrom (OpGoal P l fs a0 w0) 0 l) (hguard : AllFrom (fun _ o => GuardGoal fs o) 0 l)
    (hend : ∀ a w, a.defers = a0.defers → a.tmps.size = a0.tmps.size → Like l a0 a.eval → Below w0.heap.size w0 w → (∀ (i : Nat) (o : Oper) (d : Nat), l[i]? = some o → o.dst = some d → factsOf fs i (a.tmps.getD d undef) w) → Q .normal a w) :
    (Code.region id l.toArray true).wp P Q a0 w0 := by
  refine wp_region_facts hm (factsOf_stable fs) hok (fun _ => true) (fun i o hi ρ w h1 h2 h3 => ?_) (fun i o hi => ?_) hend
  · rw [if_pos rfl]
    have := hop.at i o hi
    rw [Nat.zero_add] at this
    exact this ρ w h1 h2 h3
  · have := hguard.at i o hi
    unfold GuardGoal at this
    cases hg : o.guard with
    | none => rfl
    | some jb =>
      obtain ⟨j, b⟩ := jb
      simp only [hg] at this ⊢
      intro v w hv
      exact ⟨b, this v w hv, by simp⟩

theorem y_val {ρ : Operand → Value} {o : Oper} {w : World} {v : Value} {p : Value → World → Prop} (h : (execOp ρ o).run P w = .ok (.value v) w) (hp : p v w) : YieldsP P ρ o w (fun u w' => p u w' ∧ Below w.heap.size w w') := by
  unfold YieldsP
  rw [h]
  exact ⟨hp, Below.refl _ _⟩

theorem y_call {ρ : Operand → Value} {o : Oper} {w : World} {f : FuncId} {args : Array Value} {p : Value → World → Prop} (h : (execOp ρ o).run P w = .ok (.enter f args) w) (hc : Calls P f args w fun e w'' => ∃ v, e = .returned v ∧ p v w'' ∧ Below w.heap.size w w'') : YieldsP P ρ o w (fun u w' => p u w' ∧ Below w.heap.size w w') := by
  unfold YieldsP
  rw [h]
  exact hc
end

/-- the slot holds a slice of the bytes l -/
def bytesF (l : List UInt8) : SlotFact := ⟨fun v w => ∃ n, Reads w 1 v n (bcells l), fun _ _ _ ⟨n, h⟩ hb => ⟨n, h.below' hb⟩⟩
end Go.Proofs.YtopnldebekhelaaDoor

/- Behind a region that draws its order, the frame is the one before it with the region's own slots put. -/
namespace Go.Proofs.YtopnldebekhelaaDoor
open Go Go.RowKit

theorem act_ext {a b : Act} (hd : a.defers = b.defers) (hs : a.tmps.size = b.tmps.size) (h : ∀ k, k < a.tmps.size → a.tmps.getD k undef = b.tmps.getD k undef) : a = b := by
  cases a with
  | mk ta da =>
    cases b with
    | mk tb db =>
      simp only at hd hs h
      have ht : ta = tb := Array.ext hs fun k h1 h2 => by
        have := h k h1
        simpa [Array.getD, h1, h2] using this
      subst ht
      subst hd
      rfl

theorem size_put (a : Act) (d : Nat) (v : Value) : (a.put (some d) v).tmps.size = a.tmps.size := by simp [Act.put]
theorem defers_put (a : Act) (d : Nat) (v : Value) : (a.put (some d) v).defers = a.defers := rfl

def putAll (aa a : Act) (ds : List Nat) : Act := ds.foldl (fun a d => a.put (some d) (aa.tmps.getD d undef)) a

theorem putAll_spec (aa : Act) : ∀ (ds : List Nat) (a : Act), (putAll aa a ds).defers = a.defers ∧ (putAll aa a ds).tmps.size = a.tmps.size ∧
    ∀ k, k < a.tmps.size → (putAll aa a ds).tmps.getD k undef = if k ∈ ds then aa.tmps.getD k undef else a.tmps.getD k undef
  | [], a => ⟨rfl, rfl, fun k _ => by simp [putAll]⟩
  | d :: ds, a => by
    obtain ⟨h1, h2, h3⟩ := putAll_spec aa ds (a.put (some d) (aa.tmps.getD d undef))
    refine ⟨h1, h2.trans (size_put a d _), fun k hk => ?_⟩
    have := h3 k (by rw [size_put]; exact hk)
    show (putAll aa (a.put (some d) (aa.tmps.getD d undef)) ds).tmps.getD k undef = _
    rw [this]
    by_cases hkd : k = d
    · subst hkd
      rw [getD_put_same hk]
      simp
    · rw [getD_put hkd]
      simp [hkd]

theorem act_of_like {l : List Oper} {a0 aa : Act} (hdef : aa.defers = a0.defers) (hsz : aa.tmps.size = a0.tmps.size) (hlk : Like l a0 aa.eval) (ds : List Nat) (n : Nat) (hn : a0.tmps.size = n)
    (hds : ((List.range n).all fun k => ds.contains k || l.all fun o => o.dst != some k) = true) : aa = putAll aa a0 ds := by
  subst hn
  obtain ⟨h1, h2, h3⟩ := putAll_spec aa ds a0
  refine act_ext (hdef.trans h1.symm) (hsz.trans h2.symm) fun k hk => ?_
  rw [h3 k (by omega)]
  by_cases hkd : k ∈ ds
  · rw [if_pos hkd]
  · rw [if_neg hkd]
    have := List.all_eq_true.1 hds k (by simpa using (by omega : k < a0.tmps.size))
    have h4 := hlk.tmp k (by simpa [hkd] using this)
    exact h4
end Go.Proofs.YtopnldebekhelaaDoor

/- A region that draws its order, shown by an invariant over what has been carried out. -/
namespace Go.Proofs.YtopnldebekhelaaDoor
open Go Go.RowKit

section
variable {P : Program} {id : Nat} {l : List Oper} {Q : Exit → Act → World → Prop} {a0 : Act} {w0 : World}

theorem wpAny_of_inv (hok : drawnOk l a0.tmps.size = true) (hung : l.all (·.guard.isNone) = true) (J : (Nat → Bool) → Act → World → Prop)
    (hstep : ∀ (i : Nat) (o : Oper), l[i]? = some o → ∀ (L : Nat → Bool) (a : Act) (w : World), L i = false → (∀ j, (o.after.any fun e => Region.binds .any e && e.on == j) = true → L j = true) → J L a w → o.wp P a w (fun a' w' => ∀ L' : Nat → Bool, (∀ k, L' k = if k = i then true else L k) → J L' a' w') Q)
    (hend : ∀ (L : Nat → Bool) (a : Act) (w : World), (∀ i, i < l.length → L i = true) → J L a w → Q .normal a w) :
    ∀ (fuel : Nat) (listed : Array Bool) (a : Act) (w : World), listed.size = l.length → (listed.toList.countP (· == false)) ≤ fuel → J (fun i => listed.getD i true) a w → wpAny P .any l.toArray Q fuel listed a w := by
  have fin : ∀ (listed : Array Bool) (a : Act) (w : World), listed.size = l.length → J (fun i => listed.getD i true) a w → Region.ready .any l.toArray listed = [] → Q .normal a w := by
    intro listed a w hl h hr
    exact hend _ a w (fun i hi => all_listed hok hl hr i hi) h
  intro fuel
  induction fuel with
  | zero =>
    intro listed a w hl hc h
    have hr : Region.ready .any l.toArray listed = [] := by
      unfold Region.ready
      rw [List.filter_eq_nil_iff]
      intro i hi
      have hil : i < listed.size := by rw [hl]; simpa using hi
      have h0 : listed.toList.countP (· == false) = 0 := by omega
      rw [List.countP_eq_zero] at h0
      have := h0 listed[i] (by simp)
      simp [Array.getD, hil] at this ⊢
      simp [this]
    exact ⟨hr, fin listed a w hl h hr⟩
  | succ fuel ih =>
    intro listed a w hl hc h
    refine ⟨fin listed a w hl h, fun i hi => ?_⟩
    unfold Region.ready at hi
    rw [List.mem_filter] at hi
    obtain ⟨hi1, hi2⟩ := hi
    have hil : i < l.length := by simpa using hi1
    have ho : l[i]? = some l[i] := List.getElem?_eq_getElem hil
    simp only [Bool.and_eq_true, Bool.not_eq_true', List.getElem?_toArray, ho, Option.map_some, Option.getD_some] at hi2
    obtain ⟨hnl, haft⟩ := hi2
    rw [Array.all_eq_true_iff_forall_mem] at haft
    have hls : i < listed.size := by rw [hl]; exact hil
    have hprev : ∀ j, (l[i].after.any fun e => Region.binds .any e && e.on == j) = true → listed.getD j true = true := by
      intro j hj
      rw [Array.any_eq_true'] at hj
      obtain ⟨e, he, hej⟩ := hj
      simp only [Bool.and_eq_true, beq_iff_eq] at hej
      obtain ⟨hb, rfl⟩ := hej
      have hle := haft e he
      rw [hb] at hle
      by_cases hjl : e.on < listed.size
      · simp [Array.getD, hjl] at hle ⊢
        exact hle
      · simp [Array.getD, hjl]
    have hcount : ((listed.setIfInBounds i true).toList.countP (· == false)) ≤ fuel := by
      have hli : listed.toList[i]'(by simpa using hls) = false := by
        simp [Array.getD, hls] at hnl
        simpa using hnl
      rw [Array.toList_setIfInBounds, List.countP_set (h := by simpa using hls), hli]
      have hpos : 0 < listed.toList.countP (· == false) := List.countP_pos_iff.2 ⟨false, by rw [← hli]; exact List.getElem_mem _, rfl⟩
      rw [if_pos (by decide), if_neg (by decide)]
      omega
    have hLi : listed.getD i true = false := by
      simp [Array.getD, hls] at hnl ⊢
      exact hnl
    have hs := hstep i l[i] ho _ a w hLi hprev h
    have hg : l[i].guard = none := by
      have := List.all_eq_true.1 hung l[i] (List.getElem_mem _)
      simpa using this
    unfold wpOp
    simp only [List.getElem?_toArray, ho]
    rw [if_pos (by unfold Region.wanted; rw [hg])]
    refine .inl (Oper.wp_mono (fun a' w' hJ => ?_) hs)
    refine ih _ a' w' (by simpa using hl) hcount (hJ _ fun k => ?_)
    by_cases hk : k = i
    · subst hk
      simp [Array.getD, hls]
    · simp only [Array.getD_eq_getD_getElem?, Array.getElem?_setIfInBounds]
      rw [if_neg (fun e => hk e.symm), if_neg hk]

theorem wp_region_inv (hm : P.follows .mixedOrders = true) (hok : drawnOk l a0.tmps.size = true) (hung : l.all (·.guard.isNone) = true) (J : (Nat → Bool) → Act → World → Prop)
    (hJ : ∀ L : Nat → Bool, (∀ i, i < l.length → L i = false) → J L a0 w0.drew)
    (hstep : ∀ (i : Nat) (o : Oper), l[i]? = some o → ∀ (L : Nat → Bool) (a : Act) (w : World), L i = false → (∀ j, (o.after.any fun e => Region.binds .any e && e.on == j) = true → L j = true) → J L a w → o.wp P a w (fun a' w' => ∀ L' : Nat → Bool, (∀ k, L' k = if k = i then true else L k) → J L' a' w') Q)
    (hend : ∀ (L : Nat → Bool) (a : Act) (w : World), (∀ i, i < l.length → L i = true) → J L a w → Q .normal a w) :
    (Code.region id l.toArray true).wp P Q a0 w0 := by
  refine wp_region_any hm ?_
  refine wpAny_of_inv hok hung J hstep hend _ _ _ _ (by simp) ?_ (hJ _ fun i hi => ?_)
  · exact Nat.le_trans List.countP_le_length (by simp)
  · simp [Array.getD, hi]
end
end Go.Proofs.YtopnldebekhelaaDoor

/- A region that draws its order and makes two variables of its own ("x, y := a[i], b[i]", both in memory): which of them comes first is open. -/
namespace Go.Proofs.YtopnldebekhelaaDoor
open Go Go.RowKit

section
variable {P : Program} {id : Nat} {l : List Oper} {za zb zc zd : Oper} {Q : Exit → Act → World → Prop} {a0 : Act} {w0 : World}

def ptrTo (g : Nat) : Value := .pointer (some ⟨g, 0, none⟩)
theorem ptrTo_inj {g h : Nat} (e : ptrTo g = ptrTo h) : g = h := by
  unfold ptrTo at e
  cases e
  rfl

/-- the slots that o leans on, of those told ahead, hold what is told of them -/
def HoldsN (l : List Oper) (n : Nat) (vs : List Value) (o : Oper) (ρ : Operand → Value) : Prop :=
  ∀ j, (decide (j < n) && (o.after.any fun e => Region.binds .any e && e.on == j)) = true → ∀ d, (l[j]?).bind (·.dst) = some d → ρ (.tmp d) = (vs[j]?).getD undef

def TwoRead (P : Program) (l : List Oper) (n : Nat) (vs : List Value) (a0 : Act) (w0 : World) (i : Nat) (o : Oper) : Prop :=
  ∀ ρ w, Like l a0 ρ → Below w0.heap.size w0 w → HoldsN l n vs o ρ → YieldsP P ρ o w (fun v w' => v = (vs[i]?).getD undef ∧ w' = w)

def TwoMade (P : Program) (Z : Obj) (o : Oper) : Prop :=
  ∀ ρ w, YieldsP P ρ o w (fun v w' => v = ptrTo w.heap.size ∧ Below w.heap.size w w' ∧ w'.heap[w.heap.size]? = some Z)

def TwoStore (P : Program) (l : List Oper) (n : Nat) (vs : List Value) (a0 : Act) (w0 : World) (Z y : Obj) (s : Nat) (o : Oper) : Prop :=
  ∀ ρ w g, Like l a0 ρ → Below w0.heap.size w0 w → HoldsN l n vs o ρ → ρ (.tmp s) = ptrTo g → w.heap[g]? = some Z → YieldsP P ρ o w (fun _ w' => Touch w w' [g] ∧ w'.heap[g]? = some y)

structure TwoInv (l : List Oper) (n : Nat) (vs : List Value) (a0 : Act) (w0 : World) (Z ya yb : Obj) (sa sb : Nat) (L : Nat → Bool) (a : Act) (w : World) : Prop where
  defers : a.defers = a0.defers
  size : a.tmps.size = a0.tmps.size
  like : Like l a0 a.eval
  below : Below w0.heap.size w0 w
  vals : ∀ (i : Nat) (o : Oper) (d : Nat), i < n → l[i]? = some o → o.dst = some d → L i = true → a.tmps.getD d undef = (vs[i]?).getD undef
  one : L n = true → ∃ g, a.tmps.getD sa undef = ptrTo g ∧ w0.heap.size ≤ g ∧ w.heap[g]? = some (if L (n + 2) = true then ya else Z)
  two : L (n + 1) = true → ∃ g, a.tmps.getD sb undef = ptrTo g ∧ w0.heap.size ≤ g ∧ w.heap[g]? = some (if L (n + 3) = true then yb else Z)
  cl1 : L (n + 2) = true → L n = true
  cl2 : L (n + 3) = true → L (n + 1) = true
  apart : L n = true → L (n + 1) = true → a.tmps.getD sa undef ≠ a.tmps.getD sb undef

/-- One operation more: what stays of the frame. -/
theorem two_frame {n : Nat} {vs : List Value} (hok : drawnOk l a0.tmps.size = true) {i : Nat} {o : Oper} (hi : l[i]? = some o) {a : Act} (hsz : a.tmps.size = a0.tmps.size) (hdf : a.defers = a0.defers) (hlk : Like l a0 a.eval) (v : Value) {L L' : Nat → Bool} (hL' : ∀ k, L' k = if k = i then true else L k)
    (hv : ∀ (i : Nat) (o : Oper) (d : Nat), i < n → l[i]? = some o → o.dst = some d → L i = true → a.tmps.getD d undef = (vs[i]?).getD undef) (hnew : i < n → v = (vs[i]?).getD undef) :
    (a.put o.dst v).defers = a0.defers ∧ (a.put o.dst v).tmps.size = a0.tmps.size ∧ Like l a0 (a.put o.dst v).eval ∧ (∀ (i' : Nat) (o' : Oper) (d : Nat), i' < n → l[i']? = some o' → o'.dst = some d → L' i' = true → (a.put o.dst v).tmps.getD d undef = (vs[i']?).getD undef) := by
  obtain ⟨_, h2, _⟩ := drawnOk_at hok hi
  refine ⟨?_, ?_, ⟨fun c => rfl, fun f => rfl, fun k hk => ?_⟩, fun j o' d hjn hj hdj hl => ?_⟩
  · cases o.dst <;> exact hdf
  · cases hdd : o.dst with
    | none => exact hsz
    | some d => simpa [Act.put] using hsz
  · show (a.put o.dst v).tmps.getD k undef = _
    cases hdd : o.dst with
    | none => exact hlk.tmp k hk
    | some d =>
      have hne : k ≠ d := by
        have := List.all_eq_true.1 hk o (List.mem_of_getElem? hi)
        simp [hdd] at this
        exact fun e => this e.symm
      rw [getD_put hne]
      exact hlk.tmp k hk
  · by_cases hji : j = i
    · subst hji
      rw [hi] at hj
      cases hj
      obtain ⟨h3, _⟩ := h2 d hdj
      rw [hdj, getD_put_same (by rw [hsz]; exact h3)]
      exact hnew hjn
    · have hl' : L j = true := by
        rw [hL' j, if_neg hji] at hl
        exact hl
      have hvj := hv j o' d hjn hj hdj hl'
      cases hdo : o.dst with
      | none => exact hvj
      | some d' =>
        have hne : d ≠ d' := by
          intro e
          subst e
          exact (h2 d hdo).2 j o' hj hji hdj
        rw [getD_put hne]
        exact hvj

theorem put_other {L : List Oper} {n : Nat} (hok : drawnOk L n = true) {i j : Nat} {o o' : Oper} {d : Nat} (hi : L[i]? = some o) (hj : L[j]? = some o') (hne : j ≠ i) (hd : o'.dst = some d) (a : Act) (v : Value) : (a.put o.dst v).tmps.getD d undef = a.tmps.getD d undef := by
  obtain ⟨_, h2, _⟩ := drawnOk_at hok hi
  cases hdo : o.dst with
  | none => rfl
  | some d' =>
    have hdd : d ≠ d' := by
      intro e
      subst e
      exact (h2 d hdo).2 j o' hj hne hd
    exact getD_put hdd

theorem wp_region_two (hm : P.follows .mixedOrders = true) (vs : List Value) (Z ya yb : Obj) (sa sb : Nat) (hok : drawnOk (l ++ [za, zb, zc, zd]) a0.tmps.size = true) (hung : (l ++ [za, zb, zc, zd]).all (·.guard.isNone) = true)
    (hsa : za.dst = some sa) (hsb : zb.dst = some sb) (hc0 : zc.dst = none) (hd0 : zd.dst = none)
    (hwc : (zc.after.any fun e => Region.binds .any e && e.on == l.length) = true) (hwd : (zd.after.any fun e => Region.binds .any e && e.on == l.length + 1) = true)
    (hop : AllFrom (TwoRead P (l ++ [za, zb, zc, zd]) l.length vs a0 w0) 0 l) (ha : TwoMade P Z za) (hb : TwoMade P Z zb)
    (hc : TwoStore P (l ++ [za, zb, zc, zd]) l.length vs a0 w0 Z ya sa zc) (hd : TwoStore P (l ++ [za, zb, zc, zd]) l.length vs a0 w0 Z yb sb zd)
    (hend : ∀ a w g h, a.defers = a0.defers → a.tmps.size = a0.tmps.size → Like (l ++ [za, zb, zc, zd]) a0 a.eval → Below w0.heap.size w0 w → (∀ (i : Nat) (o : Oper) (d : Nat), l[i]? = some o → o.dst = some d → a.tmps.getD d undef = (vs[i]?).getD undef) → a.tmps.getD sa undef = ptrTo g → a.tmps.getD sb undef = ptrTo h → w0.heap.size ≤ g → w0.heap.size ≤ h → g ≠ h → w.heap[g]? = some ya → w.heap[h]? = some yb → Q .normal a w) :
    (Code.region id (l ++ [za, zb, zc, zd]).toArray true).wp P Q a0 w0 := by
  have g0 : (l ++ [za, zb, zc, zd])[l.length]? = some za := by rw [List.getElem?_append_right (Nat.le_refl _), Nat.sub_self]; rfl
  have g1 : (l ++ [za, zb, zc, zd])[l.length + 1]? = some zb := by rw [List.getElem?_append_right (by omega), show l.length + 1 - l.length = 1 by omega]; rfl
  have g2 : (l ++ [za, zb, zc, zd])[l.length + 2]? = some zc := by rw [List.getElem?_append_right (by omega), show l.length + 2 - l.length = 2 by omega]; rfl
  have g3 : (l ++ [za, zb, zc, zd])[l.length + 3]? = some zd := by rw [List.getElem?_append_right (by omega), show l.length + 3 - l.length = 3 by omega]; rfl
  have hlen : (l ++ [za, zb, zc, zd]).length = l.length + 4 := by simp
  refine wp_region_inv hm hok hung (TwoInv (l ++ [za, zb, zc, zd]) l.length vs a0 w0 Z ya yb sa sb) (fun L hL => ?_) (fun i o hi L a w hLi hdn hJ => ?_) (fun L a w hL hJ => ?_)
  · have hF : ∀ {i : Nat} {p : Prop}, i < l.length + 4 → L i = true → p := fun hi hl => by rw [hL _ (by omega)] at hl; cases hl
    exact ⟨rfl, rfl, ⟨fun _ => rfl, fun _ => rfl, fun _ _ => rfl⟩, ⟨rfl, rfl, rfl, Nat.le_refl _, fun _ _ => rfl⟩, fun i o d hin _ _ hl => hF (by omega) hl, fun hl => hF (by omega) hl, fun hl => hF (by omega) hl, fun hl => hF (by omega) hl, fun hl => hF (by omega) hl, fun hl => hF (by omega) hl⟩
  · have hho : HoldsN (l ++ [za, zb, zc, zd]) l.length vs o a.eval := by
      intro j hj d hdj
      rw [Bool.and_eq_true, decide_eq_true_eq] at hj
      obtain ⟨oj, hoj, hdst⟩ := Option.bind_eq_some_iff.1 hdj
      exact hJ.vals j oj d hj.1 hoj hdst (hdn j hj.2)
    have hil : i < l.length + 4 := by rw [← hlen]; exact (List.getElem?_eq_some_iff.1 hi).1
    by_cases h0 : i < l.length
    · have hi' : l[i]? = some o := by rw [List.getElem?_append_left h0] at hi; exact hi
      have hg := hop.at i o hi'
      rw [Nat.zero_add] at hg
      refine wp_of_yields (hg a.eval w hJ.like hJ.below hho) fun v w' hv => ?_
      obtain ⟨rfl, rfl⟩ := hv
      intro L' hL'
      obtain ⟨f1, f2, f3, f4⟩ := two_frame (n := l.length) (vs := vs) hok hi hJ.size hJ.defers hJ.like ((vs[i]?).getD undef) hL' hJ.vals (fun _ => rfl)
      have e0 : L' l.length = L l.length := by rw [hL', if_neg (by omega)]
      have e1 : L' (l.length + 1) = L (l.length + 1) := by rw [hL', if_neg (by omega)]
      have e2 : L' (l.length + 2) = L (l.length + 2) := by rw [hL', if_neg (by omega)]
      have e3 : L' (l.length + 3) = L (l.length + 3) := by rw [hL', if_neg (by omega)]
      refine ⟨f1, f2, f3, hJ.below, f4, fun hl => ?_, fun hl => ?_, fun hl => by rw [e0]; exact hJ.cl1 (by rw [← e2]; exact hl), fun hl => by rw [e1]; exact hJ.cl2 (by rw [← e3]; exact hl), fun hl hl2 => ?_⟩
      · rw [put_other hok hi g0 (by omega) hsa, e2]
        exact hJ.one (by rw [← e0]; exact hl)
      · rw [put_other hok hi g1 (by omega) hsb, e3]
        exact hJ.two (by rw [← e1]; exact hl)
      · rw [put_other hok hi g0 (by omega) hsa, put_other hok hi g1 (by omega) hsb]
        exact hJ.apart (by rw [← e0]; exact hl) (by rw [← e1]; exact hl2)
    · have hcase : i = l.length ∨ i = l.length + 1 ∨ i = l.length + 2 ∨ i = l.length + 3 := by omega
      rcases hcase with rfl | rfl | rfl | rfl
      · rw [g0] at hi
        cases hi
        refine wp_of_yields (ha a.eval w) fun v w' hv => ?_
        obtain ⟨rfl, hbw, hnw⟩ := hv
        intro L' hL'
        obtain ⟨f1, f2, f3, f4⟩ := two_frame (n := l.length) (vs := vs) hok g0 hJ.size hJ.defers hJ.like (ptrTo w.heap.size) hL' hJ.vals (fun h => absurd h (by omega))
        have e1 : L' (l.length + 1) = L (l.length + 1) := by rw [hL', if_neg (by omega)]
        have e2 : L' (l.length + 2) = L (l.length + 2) := by rw [hL', if_neg (by omega)]
        have e3 : L' (l.length + 3) = L (l.length + 3) := by rw [hL', if_neg (by omega)]
        have e0 : L' l.length = true := by rw [hL', if_pos rfl]
        have n2 : L (l.length + 2) = false := by
          cases h : L (l.length + 2) with
          | false => rfl
          | true => rw [hJ.cl1 h] at hLi; cases hLi
        have hsz0 : sa < a.tmps.size := by rw [hJ.size]; exact ((drawnOk_at hok g0).2.1 sa hsa).1
        have hx : (a.put za.dst (ptrTo w.heap.size)).tmps.getD sa undef = ptrTo w.heap.size := by rw [hsa]; exact getD_put_same hsz0
        have hy : (a.put za.dst (ptrTo w.heap.size)).tmps.getD sb undef = a.tmps.getD sb undef := put_other hok g0 g1 (by omega) hsb _ _
        have hbs := hJ.below.size
        refine ⟨f1, f2, f3, hJ.below.trans (hbw.mono hbs), f4, fun _ => ⟨_, hx, hbs, by rw [e2, n2, if_neg (by decide)]; exact hnw⟩, fun hl => ?_, fun _ => e0, fun hl => by rw [e1]; exact hJ.cl2 (by rw [← e3]; exact hl), fun _ hl2 => ?_⟩
        · obtain ⟨h, q1, q2, q3⟩ := hJ.two (by rw [← e1]; exact hl)
          exact ⟨h, hy.trans q1, q2, by rw [e3, hbw.block h (Array.getElem?_eq_some_iff.1 q3).1]; exact q3⟩
        · obtain ⟨h, q1, q2, q3⟩ := hJ.two (by rw [← e1]; exact hl2)
          rw [hx, hy, q1]
          intro e
          have := ptrTo_inj e
          have := (Array.getElem?_eq_some_iff.1 q3).1
          omega
      · rw [g1] at hi
        cases hi
        refine wp_of_yields (hb a.eval w) fun v w' hv => ?_
        obtain ⟨rfl, hbw, hnw⟩ := hv
        intro L' hL'
        obtain ⟨f1, f2, f3, f4⟩ := two_frame (n := l.length) (vs := vs) hok g1 hJ.size hJ.defers hJ.like (ptrTo w.heap.size) hL' hJ.vals (fun h => absurd h (by omega))
        have e0 : L' l.length = L l.length := by rw [hL', if_neg (by omega)]
        have e2 : L' (l.length + 2) = L (l.length + 2) := by rw [hL', if_neg (by omega)]
        have e3 : L' (l.length + 3) = L (l.length + 3) := by rw [hL', if_neg (by omega)]
        have e1 : L' (l.length + 1) = true := by rw [hL', if_pos rfl]
        have n3 : L (l.length + 3) = false := by
          cases h : L (l.length + 3) with
          | false => rfl
          | true => rw [hJ.cl2 h] at hLi; cases hLi
        have hsz0 : sb < a.tmps.size := by rw [hJ.size]; exact ((drawnOk_at hok g1).2.1 sb hsb).1
        have hy : (a.put zb.dst (ptrTo w.heap.size)).tmps.getD sb undef = ptrTo w.heap.size := by rw [hsb]; exact getD_put_same hsz0
        have hx : (a.put zb.dst (ptrTo w.heap.size)).tmps.getD sa undef = a.tmps.getD sa undef := put_other hok g1 g0 (by omega) hsa _ _
        have hbs := hJ.below.size
        refine ⟨f1, f2, f3, hJ.below.trans (hbw.mono hbs), f4, fun hl => ?_, fun _ => ⟨_, hy, hbs, by rw [e3, n3, if_neg (by decide)]; exact hnw⟩, fun hl => by rw [e0]; exact hJ.cl1 (by rw [← e2]; exact hl), fun _ => e1, fun hl2 _ => ?_⟩
        · obtain ⟨h, q1, q2, q3⟩ := hJ.one (by rw [← e0]; exact hl)
          exact ⟨h, hx.trans q1, q2, by rw [e2, hbw.block h (Array.getElem?_eq_some_iff.1 q3).1]; exact q3⟩
        · obtain ⟨h, q1, q2, q3⟩ := hJ.one (by rw [← e0]; exact hl2)
          rw [hx, hy, q1]
          intro e
          have := ptrTo_inj e
          have := (Array.getElem?_eq_some_iff.1 q3).1
          omega
      · rw [g2] at hi
        cases hi
        have hl0 : L l.length = true := hdn _ hwc
        obtain ⟨g, q1, q2, q3⟩ := hJ.one hl0
        rw [hLi, if_neg (by decide)] at q3
        refine wp_of_yields (hc a.eval w g hJ.like hJ.below hho q1 q3) fun v w' hv => ?_
        obtain ⟨ht, hnw⟩ := hv
        intro L' hL'
        obtain ⟨f1, f2, f3, f4⟩ := two_frame (n := l.length) (vs := vs) hok g2 hJ.size hJ.defers hJ.like v hL' hJ.vals (fun h => absurd h (by omega))
        have e0 : L' l.length = L l.length := by rw [hL', if_neg (by omega)]
        have e1 : L' (l.length + 1) = L (l.length + 1) := by rw [hL', if_neg (by omega)]
        have e3 : L' (l.length + 3) = L (l.length + 3) := by rw [hL', if_neg (by omega)]
        have e2 : L' (l.length + 2) = true := by rw [hL', if_pos rfl]
        have hp : a.put zc.dst v = a := by rw [hc0]; rfl
        rw [hp] at f1 f2 f3 f4 ⊢
        have hbs := hJ.below.size
        have hbw : Below w0.heap.size w w' := ⟨ht.os, ht.tape, ht.output, ht.size, fun k hk => ht.block k (by omega) (by simp; omega)⟩
        refine ⟨f1, f2, f3, hJ.below.trans hbw, f4, fun _ => ⟨g, q1, q2, by rw [e2, if_pos rfl]; exact hnw⟩, fun hl => ?_, fun _ => by rw [e0]; exact hl0, fun hl => by rw [e1]; exact hJ.cl2 (by rw [← e3]; exact hl), fun _ hl2 => hJ.apart hl0 (by rw [← e1]; exact hl2)⟩
        have hl1 : L (l.length + 1) = true := by rw [← e1]; exact hl
        obtain ⟨h, r1, r2, r3⟩ := hJ.two hl1
        have hne : h ≠ g := fun e => hJ.apart hl0 hl1 (by rw [q1, r1, e])
        exact ⟨h, r1, r2, by rw [e3, ht.block h (Array.getElem?_eq_some_iff.1 r3).1 (by simpa using hne)]; exact r3⟩
      · rw [g3] at hi
        cases hi
        have hl1 : L (l.length + 1) = true := hdn _ hwd
        obtain ⟨g, q1, q2, q3⟩ := hJ.two hl1
        rw [hLi, if_neg (by decide)] at q3
        refine wp_of_yields (hd a.eval w g hJ.like hJ.below hho q1 q3) fun v w' hv => ?_
        obtain ⟨ht, hnw⟩ := hv
        intro L' hL'
        obtain ⟨f1, f2, f3, f4⟩ := two_frame (n := l.length) (vs := vs) hok g3 hJ.size hJ.defers hJ.like v hL' hJ.vals (fun h => absurd h (by omega))
        have e0 : L' l.length = L l.length := by rw [hL', if_neg (by omega)]
        have e1 : L' (l.length + 1) = L (l.length + 1) := by rw [hL', if_neg (by omega)]
        have e2 : L' (l.length + 2) = L (l.length + 2) := by rw [hL', if_neg (by omega)]
        have e3 : L' (l.length + 3) = true := by rw [hL', if_pos rfl]
        have hp : a.put zd.dst v = a := by rw [hd0]; rfl
        rw [hp] at f1 f2 f3 f4 ⊢
        have hbs := hJ.below.size
        have hbw : Below w0.heap.size w w' := ⟨ht.os, ht.tape, ht.output, ht.size, fun k hk => ht.block k (by omega) (by simp; omega)⟩
        refine ⟨f1, f2, f3, hJ.below.trans hbw, f4, fun hl => ?_, fun _ => ⟨g, q1, q2, by rw [e3, if_pos rfl]; exact hnw⟩, fun hl => by rw [e0]; exact hJ.cl1 (by rw [← e2]; exact hl), fun _ => by rw [e1]; exact hl1, fun hl2 _ => hJ.apart (by rw [← e0]; exact hl2) hl1⟩
        have hl0 : L l.length = true := by rw [← e0]; exact hl
        obtain ⟨h, r1, r2, r3⟩ := hJ.one hl0
        have hne : h ≠ g := fun e => hJ.apart hl0 hl1 (by rw [q1, r1, e])
        exact ⟨h, r1, r2, by rw [e2, ht.block h (Array.getElem?_eq_some_iff.1 r3).1 (by simpa using hne)]; exact r3⟩
  · obtain ⟨g, g1, g2, g3⟩ := hJ.one (hL _ (by omega))
    obtain ⟨h, h1, h2, h3⟩ := hJ.two (hL _ (by omega))
    rw [hL _ (by omega), if_pos rfl] at g3 h3
    refine hend a w g h hJ.defers hJ.size hJ.like hJ.below (fun i o d hi hd => ?_) g1 h1 g2 h2 (fun e => hJ.apart (hL _ (by omega)) (hL _ (by omega)) (by rw [g1, h1, e])) g3 h3
    have hil := (List.getElem?_eq_some_iff.1 hi).1
    exact hJ.vals i o d hil (by rw [List.getElem?_append_left hil]; exact hi) hd (hL i (by omega))

theorem t_val {ρ : Operand → Value} {o : Oper} {w : World} {v x : Value} (h : (execOp ρ o).run P w = .ok (.value v) w) (hv : v = x) : YieldsP P ρ o w (fun u w' => u = x ∧ w' = w) := by
  unfold YieldsP
  rw [h]
  exact ⟨hv, rfl⟩

theorem t_made {ρ : Operand → Value} {o : Oper} {w w' : World} {Z : Obj} (h : (execOp ρ o).run P w = .ok (.value (ptrTo w.heap.size)) w') (hb : Below w.heap.size w w') (hz : w'.heap[w.heap.size]? = some Z) : YieldsP P ρ o w (fun v w' => v = ptrTo w.heap.size ∧ Below w.heap.size w w' ∧ w'.heap[w.heap.size]? = some Z) := by
  unfold YieldsP
  rw [h]
  exact ⟨rfl, hb, hz⟩

theorem t_store {ρ : Operand → Value} {o : Oper} {w w' : World} {y : Obj} {g : Nat} (h : (execOp ρ o).run P w = .ok .skip w') (ht : Touch w w' [g]) (hy : w'.heap[g]? = some y) : YieldsP P ρ o w (fun _ w' => Touch w w' [g] ∧ w'.heap[g]? = some y) := by
  unfold YieldsP
  rw [h]
  exact ⟨ht, hy⟩
end
end Go.Proofs.YtopnldebekhelaaDoor
