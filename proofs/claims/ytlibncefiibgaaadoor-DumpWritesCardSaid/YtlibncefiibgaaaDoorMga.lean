/- What the proof stands on, the small texts. -/
import Derived.WalkKit
import Derived.WalkSpells
import Derived.WalkLawsBesides
import Derived.Deep.Upon
import Derived.Deep.CutRange
import Derived.Maps.AppendAt
import Derived.Laws.BytesArg
import Derived.Laws.BytesString
import Derived.Lib.Hide
import Derived.Test.YtlibncefiibgaaaDoorRows
import Derived.Lib.Builder
import Derived.Laws.DeepStrings4
import Derived.Lib.IndexLaws
import Derived.Lib.IndexBytes
import Derived.Lib.Split
import Derived.Orders
import Derived.Maps.OwnSet
import Derived.Lib.SliceRun
import Derived.Lib.CountLaws
import Derived.Lib.CutLaws
import Derived.Deep.Slices
import Derived.Deep.Fields
import Derived.OpenShut
/- Slices that may be appended to without a store into old memory. -/
namespace Go.Proofs.YtlibncefiibgaaaDoor
open Go Go.RowKit

theorem below_undrew {B : Nat} {w w' : World} (h : Below B w.drew w') : Below B w w' := ⟨h.os, h.tape, h.output, h.size, h.block⟩

/-- The slice value v has n elements of size cells each; its cells read xs. -/
def Reads (w : World) (size : Nat) (v : Value) (n : Nat) (xs : List Value) : Prop :=
  xs.length = n * size ∧ ∃ a cap, v = .slice a n cap ∧ n ≤ cap ∧ cap ≤ maxLen ∧ (∀ j u, xs[j]? = some u → ∃ b off, a = some ⟨b, off, none⟩ ∧ b < w.heap.size ∧ w.cell? ⟨b, off + j, none⟩ = some u)

/-- What is appended to it goes into a new row, or into its own, which is new (block B or later). -/
def Fresh (B : Nat) (w : World) (e : TypeId) (size : Nat) (v : Value) (n : Nat) (xs : List Value) : Prop :=
  Reads w size v n xs ∧ ((∃ a, v = .slice a n n) ∨ w.ownsRow B e size v n xs)

theorem Reads.firstCells {P : Program} {w : World} {size n : Nat} {v : Value} {xs : List Value} (h : Reads w size v n xs) (w' : World) (hw : w'.heap = w.heap) :
    (Builtin.firstCells size n v).run P w' = .ok xs.toArray w' := by
  obtain ⟨hl, a, cap, rfl, h1, h2, h3⟩ := h
  cases a with
  | none =>
    have : xs = [] := by
      cases xs with
      | nil => rfl
      | cons x r => obtain ⟨_, _, hc, _⟩ := h3 0 x rfl; cases hc
    subst this
    exact run_firstCells_none w' size n n cap
  | some a =>
    refine run_firstCells_some w' size n a n cap xs hl ?_
    intro j u hj
    obtain ⟨b, off, hc, _, hr⟩ := h3 j u hj
    cases hc
    rw [Addr.add_lit, World.cell?_of_block (w := w) (by rw [hw])]
    exact hr

theorem Reads.grown {w w' : World} {row : Option Nat} {size n : Nat} {v : Value} {xs : List Value} (h : Reads w size v n xs) (hg : w.grownBy w' row) (hne : v.ownBlock = none ∨ v.ownBlock ≠ row) : Reads w' size v n xs := by
  obtain ⟨hl, a, cap, rfl, h1, h2, h3⟩ := h
  refine ⟨hl, a, cap, rfl, h1, h2, fun j u hj => ?_⟩
  obtain ⟨b, off, rfl, hb, hr⟩ := h3 j u hj
  refine ⟨b, off, rfl, Nat.lt_of_lt_of_le hb hg.size, hg.cell hr ?_⟩
  rcases hne with hne | hne
  · cases hne
  · exact hne

theorem Fresh.grown {B : Nat} {w w' : World} {e : TypeId} {row : Option Nat} {size n : Nat} {v : Value} {xs : List Value} (h : Fresh B w e size v n xs) (hg : w.grownBy w' row) (hne : v.ownBlock = none ∨ v.ownBlock ≠ row) : Fresh B w' e size v n xs :=
  ⟨h.1.grown hg hne, h.2.imp id fun k => k.kept hg hne⟩

theorem Fresh.alloc {B : Nat} {w : World} {e : TypeId} {size n : Nat} {v : Value} {xs : List Value} (h : Fresh B w e size v n xs) (o : Obj) : Fresh B (w.alloc o) e size v n xs := by
  refine h.grown (World.grownBy_alloc w o none) ?_
  cases v.ownBlock <;> simp

theorem Fresh.drew {B : Nat} {w : World} {e : TypeId} {size n : Nat} {v : Value} {xs : List Value} (h : Fresh B w e size v n xs) : Fresh B w.drew e size v n xs := h

theorem ownsRow.reads {B : Nat} {w : World} {e : TypeId} {size n : Nat} {v : Value} {xs : List Value} (h : w.ownsRow B e size v n xs) : Reads w size v n xs := by
  refine ⟨h.1, ?_⟩
  rcases h.2 with ⟨rfl, rfl⟩ | ⟨g, cap, cur, rfl, h1, h2, h3, h4, h5, h6⟩
  · refine ⟨none, 0, rfl, Nat.le_refl _, Nat.zero_le _, fun j u hj => ?_⟩
    have := h.1
    simp at this
    subst this
    simp at hj
  · refine ⟨_, cap, rfl, h3, h4, fun j u hj => ⟨g, 0, rfl, (Array.getElem?_eq_some_iff.1 h2).1, ?_⟩⟩
    have := h.cells (g := g) rfl j u hj
    rwa [Addr.add_lit] at this

theorem tape_setCells (g : Nat) (vs : List Value) (o : Nat) (w : World) : (w.setCells g o vs).tape = w.tape := by
  induction vs generalizing o w with
  | nil => rfl
  | cons v vs ih => rw [World.setCells, ih]; rfl

theorem heap_setCells_same (g : Nat) (e : TypeId) (fz : Nat × Nat) (vs : List Value) (o : Nat) (w : World) (cur : Array Value) (h : w.heap[g]? = some (.cells cur e fz)) :
    ∃ cur', (w.setCells g o vs).heap[g]? = some (.cells cur' e fz) ∧ cur'.size = cur.size := by
  induction vs generalizing o w cur with
  | nil => exact ⟨cur, h, rfl⟩
  | cons v vs ih =>
    rw [World.setCells]
    have h1 : (w.setCell ⟨g, o, none⟩ v).heap[g]? = some (.cells (cur.setIfInBounds o v) e fz) := by
      have hlt := (Array.getElem?_eq_some_iff.1 h).1
      simp [World.setCell, Array.getElem?_modify, h]
    obtain ⟨cur', k1, k2⟩ := ih (o + 1) _ _ h1
    exact ⟨cur', k1, by rw [k2, Array.size_setIfInBounds]⟩

/-- The row of what is handed back is the one that it had, or a new one. -/
def Moves (w : World) (v v' : Value) : Prop := ∀ b, b < w.heap.size → v.ownBlock ≠ some b → v'.ownBlock ≠ some b

theorem run_append_fresh {P : Program} {w : World} (B : Nat) (t tx ty e : TypeId) (i : TypeInfo) (z : Value) (size bytes : Nat) (ht : P.underlying t = some (.slice e)) (hi : P.info? e = some i) (hz : i.zero = some z)
    (hsize : i.size = size) (hby : i.bytes = bytes) (hzs : z.cells.size = size)
    (v : Value) (n : Nat) (xs : List Value) (h : Fresh B w e size v n xs) (x : Value) (m : Nat) (news : List Value) (hs : Src P size tx x m news w)
    (h63 : n + m ≤ maxLen) (hbytes : (n + m) * bytes ≤ 140737488355328) (hB : B ≤ w.heap.size) :
    ∃ v' w', (Builtin.append_ #[t, tx] ty #[v, x]).run P w = .ok v' w' ∧ Fresh B w' e size v' (n + m) (xs ++ news) ∧ w.grownBy w' v.ownBlock ∧ Below B w w' ∧ Moves w v v' := by
  subst hsize
  subst hby
  have hsmall : n + m ≤ 9223372036854775807 := by simp only [maxLen] at h63; omega
  have hnl := hs.newsLen
  have hxl := h.1.1
  have hlen : (xs ++ news).length = (n + m) * i.size := by rw [List.length_append, hxl, hnl, Nat.add_mul]
  have grow : ∀ (bs : Option Addr) (sc : Nat), v = .slice bs n sc → sc < n + m →
      ∃ v' w', (Builtin.append_ #[t, tx] ty #[v, x]).run P w = .ok v' w' ∧ Fresh B w' e i.size v' (n + m) (xs ++ news) ∧ w.grownBy w' v.ownBlock ∧ Below B w w' ∧ Moves w v v' := by
    rintro bs sc hv hg
    have hold := h.1.firstCells (P := P) w.drew rfl
    subst hv
    have hrun := run_append_grow_src (P := P) w t tx ty e i z ht hi hz bs n sc xs hold x m news hs hg (by omega) (growslice_fits hg hbytes)
    have hge := grownCap_ge w (n + m) sc e
    have hcm := grownCap_le_maxLen w (n + m) sc e h63
    have hblk : ∀ k, k < w.heap.size → (w.drew.alloc (.cells ((xs ++ news).toArray ++ Builtin.zeroCells z.cells (grownCap w (n + m) sc e - (n + m))) e)).heap[k]? = w.heap[k]? := fun k hk => Below.heap_alloc w.drew _ k hk
    have hown : (w.drew.alloc (.cells ((xs ++ news).toArray ++ Builtin.zeroCells z.cells (grownCap w (n + m) sc e - (n + m))) e)).ownsRow B e i.size (.slice (some ⟨w.heap.size, 0, none⟩) (n + m) (grownCap w (n + m) sc e)) (n + m) (xs ++ news) := by
      refine ⟨hlen, .inr ⟨w.heap.size, _, _, rfl, hB, heap_alloc_new w.drew _, hge, hcm, ?_, ?_⟩⟩
      · rw [Array.size_append, List.size_toArray, hlen, size_zeroCells, hzs, ← Nat.add_mul]
        congr 1
        omega
      · simp only [Array.toList_append]
        rw [← hlen]
        exact List.take_left
    exact ⟨_, _, hrun, ⟨ownsRow.reads hown, .inr hown⟩, ⟨rfl, rfl, rfl, by simp, fun k hk _ => hblk k hk⟩, ⟨rfl, rfl, rfl, by simp, fun k hk => hblk k (by omega)⟩, fun b hb _ => by simp [Value.ownBlock]; omega⟩
  by_cases hm : m = 0
  · subst hm
    have hn : news = [] := List.eq_nil_of_length_eq_zero (by simpa using hnl)
    subst hn
    obtain ⟨_, a, cap, rfl, h1, h2, h3⟩ := h.1
    exact ⟨_, w, run_append_nothing (P := P) w t tx ty e i ht hi a n cap h1 x hs, by simpa using h, World.grownBy.refl _ _, Below.refl _ _, fun _ _ h => h⟩
  · rcases h.2 with ⟨a, hv⟩ | hown
    · exact grow a n hv (by omega)
    · rcases hown.2 with ⟨hv, h0⟩ | ⟨g, cap, cur, hv, hbg, hg, hnc, hcm, hcs, htake⟩
      · subst h0
        exact grow none 0 hv (by omega)
      · by_cases hroom : n + m ≤ cap
        · subst hv
          have hfit : n * i.size + news.length ≤ cur.size := by rw [hnl, hcs, ← Nat.add_mul]; exact Nat.mul_le_mul_right _ hroom
          have hc : ∀ j, j < news.length → (w.cell? ⟨g, 0 + n * i.size + j, none⟩).isSome = true := by
            intro j hj
            have hlt : n * i.size + j < cur.size := by omega
            simp [World.cell?, hg, Array.getElem?_eq_getElem hlt]
          have hf : ∀ j, j < news.length → w.frozen? ⟨g, 0 + n * i.size + j, none⟩ = false := by
            intro j hj
            simp [World.frozen?, hg]
          have hrun := run_append_room_src (P := P) w t tx ty e i ht hi g 0 n cap x m news hs hroom hc hf
          have hk := World.keptBut_setCells g (may := fun p => p.block = g) news (0 + n * i.size) w (fun _ _ => rfl)
          have hblk : ∀ k, k < w.heap.size → k ≠ g → (w.setCells g (0 + n * i.size) news).heap[k]? = w.heap[k]? := fun k hk1 hk2 => World.heap_setCells_other w g _ news hk1 hk2
          have hcell : ∀ j u, (xs ++ news)[j]? = some u → (w.setCells g (0 + n * i.size) news).cell? ⟨g, 0 + j, none⟩ = some u := by
            intro j u hj
            by_cases hjx : j < xs.length
            · rw [World.cell?_setCells_out g _ _ _ _ (fun _ _ => Or.inl (by show 0 + j < 0 + n * i.size; omega))]
              rw [List.getElem?_append_left hjx] at hj
              have := hown.cells (g := g) rfl j u hj
              rwa [Addr.add_lit] at this
            · rw [List.getElem?_append_right (by omega)] at hj
              obtain ⟨hjl, hju⟩ := List.getElem?_eq_some_iff.1 hj
              have := World.cell?_setCells_in g news (0 + n * i.size) w hc (j - xs.length) hjl
              rw [show 0 + n * i.size + (j - xs.length) = 0 + j by omega] at this
              rw [this, hju]
          obtain ⟨cur', hc1, hc2⟩ := heap_setCells_same g e (0, 0) news (0 + n * i.size) w cur hg
          have hown' : (w.setCells g (0 + n * i.size) news).ownsRow B e i.size (.slice (some ⟨g, 0, none⟩) (n + m) cap) (n + m) (xs ++ news) := by
            refine ⟨hlen, .inr ⟨g, cap, cur', rfl, hbg, hc1, hroom, hcm, by rw [hc2, hcs], ?_⟩⟩
            have hl1 : (n + m) * i.size ≤ cap * i.size := Nat.mul_le_mul_right _ hroom
            apply List.ext_getElem?
            intro j
            by_cases hj : j < (xs ++ news).length
            · have hr := hcell j _ (List.getElem?_eq_getElem hj)
              rw [List.getElem?_eq_getElem hj, ← hr, List.getElem?_take_of_lt (by omega)]
              unfold World.cell?
              rw [hc1]
              simp
            · rw [List.getElem?_eq_none (by rw [List.length_take]; omega), List.getElem?_eq_none (by omega)]
          exact ⟨_, _, hrun, ⟨ownsRow.reads hown', .inr hown'⟩, ⟨World.os_setCells _ _ _ _, tape_setCells _ _ _ _, World.output_setCells _ _ _ _, hk.size, fun k hk1 hk2 => hblk k hk1 (fun e => hk2 (by simp [Value.ownBlock, e]))⟩, ⟨World.os_setCells _ _ _ _, tape_setCells _ _ _ _, World.output_setCells _ _ _ _, hk.size, fun k hk1 => hblk k (by omega) (by omega)⟩, fun _ _ h => h⟩
        · exact grow _ cap hv (by omega)

/-- 'append(s, x...)' for the walk. -/
theorem wpList_append_fresh {P : Program} {w : World} {ops : Array Oper} {rest : List Oper} {o : Oper} {a : Act} {Q : Exit → Act → World → Prop} (hgd : o.guard = none) (s x : Operand) (t tx : TypeId)
    (ho : o.op = .call { callee := .builtin .append, args := #[s, x], argTypes := #[t, tx] })
    (B : Nat) (e : TypeId) (i : TypeInfo) (z : Value) (size bytes : Nat) (ht : P.underlying t = some (.slice e)) (hi : P.info? e = some i) (hz : i.zero = some z)
    (hsize : i.size = size) (hby : i.bytes = bytes) (hzs : z.cells.size = size)
    (v : Value) (n : Nat) (xs : List Value) (hs : a.eval s = v) (hown : Fresh B w e size v n xs)
    (xv : Value) (m : Nat) (news : List Value) (hx : a.eval x = xv) (hsrc : Src P size tx xv m news w)
    (h63 : n + m ≤ maxLen) (hbytes : (n + m) * bytes ≤ 140737488355328) (hB : B ≤ w.heap.size)
    (h : ∀ v' w', Fresh B w' e size v' (n + m) (xs ++ news) → w.grownBy w' v.ownBlock → Below B w w' → Moves w v v' → wpList P ops Q rest (a.put o.dst v') w') : wpList P ops Q (o :: rest) a w := by
  refine wpList_plain hgd fun K hK => ?_
  obtain ⟨v', w', hr, h2, h3, h4, h5⟩ := run_append_fresh (P := P) B t tx o.type e i z size bytes ht hi hz hsize hby hzs v n xs hown xv m news hsrc h63 hbytes hB
  unfold Oper.wp execOp
  simp only [ho, resolve, invoke, builtin, Sem.run_bind, Sem.run_pure, Result.andThen_ok, List.map_toArray, List.map_cons, List.map_nil, hs, hx, hr]
  exact hK _ _ (h v' w' h2 h3 h4 h5)

theorem Src.ofLits {P : Program} {tx e' e : TypeId} (hk : P.underlying tx = some (.slice e')) (w0 : World) (n : Nat) (us : List Value) (hl : us.length = n) (h1 : ∀ u ∈ us, u.oneCell' = true) :
    Src P 1 tx (.slice (some ⟨w0.heap.size, 0, none⟩) n n) n us (w0.alloc (.cells us.toArray e)) := by
  refine Src.ofSlice _ hk _ _ _ _ (by omega) ?_ h1
  intro j y hj
  rw [Addr.add_lit]
  rw [show (0 + j) = j by omega]
  rw [World.cell?_alloc_new w0 _ _ j]
  simpa using hj

/-- 'append(s, x, ..)' of cells that have just been laid in a block of their own. -/
theorem wpList_append_lits {P : Program} {w0 : World} {ops : Array Oper} {rest : List Oper} {o : Oper} {a : Act} {Q : Exit → Act → World → Prop} (hgd : o.guard = none) (s x : Operand) (t : TypeId)
    (ho : o.op = .call { callee := .builtin .append, args := #[s, x], argTypes := #[t, t] })
    (B : Nat) (e : TypeId) (i : TypeInfo) (z : Value) (bytes : Nat) (ht : P.underlying t = some (.slice e)) (hi : P.info? e = some i) (hz : i.zero = some z)
    (hsize : i.size = 1) (hby : i.bytes = bytes) (hzs : z.cells.size = 1)
    {v : Value} {n : Nat} {xs : List Value} (us : List Value) (m : Nat) (hl : us.length = m) (hown : Fresh B w0 e 1 v n xs) (hs : a.eval s = v) (hx : a.eval x = .slice (some ⟨w0.heap.size, 0, none⟩) m m) (h1 : ∀ u ∈ us, u.oneCell' = true)
    (h63 : n + m ≤ maxLen) (hbytes : (n + m) * bytes ≤ 140737488355328) (hB : B ≤ w0.heap.size)
    (h : ∀ v' w', Fresh B w' e 1 v' (n + m) (xs ++ us) → w0.grownBy w' v.ownBlock → Below B w0 w' → Moves w0 v v' → wpList P ops Q rest (a.put o.dst v') w') : wpList P ops Q (o :: rest) a (w0.alloc (.cells us.toArray e)) := by
  refine wpList_append_fresh hgd s x t t ho B e i z 1 bytes ht hi hz hsize hby hzs v n xs hs (hown.alloc _) _ m us hx (Src.ofLits ht w0 m us hl h1) h63 hbytes (by simp; omega) (fun v' w' k1 k2 k3 k4 => h v' w' k1 ((World.grownBy_alloc w0 _ _).trans k2) (((Below.refl _ _).alloc hB _).trans k3) (fun b hb => k4 b (by simp; omega)))

/-- 'append(s, x)' of one cell that has just been laid in a block of its own. -/
theorem wpList_append_one {P : Program} {w0 : World} {ops : Array Oper} {rest : List Oper} {o : Oper} {a : Act} {Q : Exit → Act → World → Prop} (hgd : o.guard = none) (s x : Operand) (t : TypeId)
    (ho : o.op = .call { callee := .builtin .append, args := #[s, x], argTypes := #[t, t] })
    (B : Nat) (e : TypeId) (i : TypeInfo) (z : Value) (bytes : Nat) (ht : P.underlying t = some (.slice e)) (hi : P.info? e = some i) (hz : i.zero = some z)
    (hsize : i.size = 1) (hby : i.bytes = bytes) (hzs : z.cells.size = 1)
    {v : Value} {n : Nat} {xs : List Value} {u : Value} (hown : Fresh B w0 e 1 v n xs) (hs : a.eval s = v) (hx : a.eval x = .slice (some ⟨w0.heap.size, 0, none⟩) 1 1) (h1 : u.oneCell' = true)
    (h63 : n + 1 ≤ maxLen) (hbytes : (n + 1) * bytes ≤ 140737488355328) (hB : B ≤ w0.heap.size)
    (h : ∀ v' w', Fresh B w' e 1 v' (n + 1) (xs ++ [u]) → w0.grownBy w' v.ownBlock → Below B w0 w' → Moves w0 v v' → wpList P ops Q rest (a.put o.dst v') w') : wpList P ops Q (o :: rest) a (w0.alloc (.cells #[u] e)) :=
  wpList_append_lits hgd s x t ho B e i z bytes ht hi hz hsize hby hzs [u] 1 rfl hown hs hx (fun y hy => by simp at hy; subst hy; exact h1) h63 hbytes hB h

theorem Reads.src {P : Program} {w : World} {size n : Nat} {v : Value} {xs : List Value} {tx e' : TypeId} (hk : P.underlying tx = some (.slice e')) (h : Reads w size v n xs) (h1 : ∀ u ∈ xs, u.oneCell' = true) : Src P size tx v n xs w := by
  refine ⟨.inl ⟨e', hk⟩, fun w' => ?_, h.firstCells w rfl, h.firstCells w.drew rfl, h.1, h1⟩
  obtain ⟨_, a, cap, rfl, _⟩ := h
  rfl

theorem Reads.alloc {w : World} {size n : Nat} {v : Value} {xs : List Value} (h : Reads w size v n xs) (o : Obj) : Reads (w.alloc o) size v n xs := by
  refine h.grown (World.grownBy_alloc w o none) ?_
  cases v.ownBlock <;> simp

theorem Reads.drew {w : World} {size n : Nat} {v : Value} {xs : List Value} (h : Reads w size v n xs) : Reads w.drew size v n xs := h

/-- What lies in old blocks reads as it did. -/
theorem Reads.below {B : Nat} {w w' : World} {size n : Nat} {v : Value} {xs : List Value} (h : Reads w size v n xs) (hb : Below B w w') (hB : ∀ b, v.ownBlock = some b → b < B) : Reads w' size v n xs := by
  obtain ⟨hl, a, cap, rfl, h1, h2, h3⟩ := h
  refine ⟨hl, a, cap, rfl, h1, h2, fun j u hj => ?_⟩
  obtain ⟨b, off, rfl, hlt, hr⟩ := h3 j u hj
  exact ⟨b, off, rfl, Nat.lt_of_lt_of_le hlt hb.size, (hb.cell (hB b rfl)).trans hr⟩

theorem Reads.below' {w w' : World} {size n : Nat} {v : Value} {xs : List Value} (h : Reads w size v n xs) (hb : Below w.heap.size w w') : Reads w' size v n xs := by
  obtain ⟨hl, a, cap, rfl, h1, h2, h3⟩ := h
  refine ⟨hl, a, cap, rfl, h1, h2, fun j u hj => ?_⟩
  obtain ⟨b, off, rfl, hlt, hr⟩ := h3 j u hj
  exact ⟨b, off, rfl, Nat.lt_of_lt_of_le hlt hb.size, (hb.cell hlt).trans hr⟩

/-- The bytes l, as cells. -/
def bcells (l : List UInt8) : List Value := l.map fun b => Value.int .u8 (b.toNat : Int)

theorem bcells_append (a b : List UInt8) : bcells (a ++ b) = bcells a ++ bcells b := List.map_append ..
theorem bcells_length (a : List UInt8) : (bcells a).length = a.length := List.length_map ..
theorem bcells_one (a : List UInt8) : ∀ u ∈ bcells a, u.oneCell' = true := by
  intro u hu
  obtain ⟨_, _, rfl⟩ := List.mem_map.1 hu
  rfl
theorem bcells_byteCells (s : ByteArray) : byteCells s = bcells s.data.toList := rfl

theorem bcells_snoc (l : List UInt8) (b : UInt8) {z : Int} (h : z = (b.toNat : Int)) : bcells l ++ [Value.int .u8 z] = bcells (l ++ [b]) := by
  subst h; simp [bcells]

theorem Reads.head {w : World} {n : Nat} {v : Value} {l : List UInt8} (h : Reads w 1 v n (bcells l)) (hp : 0 < n) :
    ∃ b off cap, v = .slice (some ⟨b, off, none⟩) n cap ∧ n ≤ cap ∧ cap ≤ maxLen ∧ l.length = n ∧ ∀ j, (hj : j < n) → w.cell? ⟨b, off + j, none⟩ = some (.int .u8 ((l.getD j 0).toNat : Int)) := by
  obtain ⟨hl, a, cap, rfl, h1, h2, h3⟩ := h
  rw [bcells_length] at hl
  have hg : ∀ j, j < n → (bcells l)[j]? = some (.int .u8 ((l.getD j 0).toNat : Int)) := by
    intro j hj
    simp [bcells, List.getElem?_eq_getElem (show j < l.length by omega)]
  obtain ⟨b, off, rfl, _, _⟩ := h3 0 _ (hg 0 hp)
  refine ⟨b, off, cap, rfl, h1, h2, by omega, fun j hj => ?_⟩
  obtain ⟨b', off', e, _, hr⟩ := h3 j _ (hg j hj)
  cases e
  exact hr

/-- 'string(b)'. -/
theorem Reads.conv {P : Program} {w : World} {n : Nat} {v : Value} {l : List UInt8} {src e dst : TypeId} (hs : P.underlying src = some (.slice e)) (he : P.underlying e = some (.int .u8)) (hd : P.underlying dst = some .string)
    (h : Reads w 1 v n (bcells l)) : (convert src dst v).run P w = .ok (.string ⟨l.toArray⟩) w := by
  by_cases hp : n = 0
  · subst hp
    obtain ⟨hl, a, cap, rfl, h1, h2, h3⟩ := h
    obtain rfl : l = [] := by simpa [bcells_length] using hl
    cases a with
    | none => exact run_convert_bytes_nil w src e hs he _ _ dst hd
    | some a =>
      have hl : (loadCells a 0).run P w = .ok ((([] : List Int)).map (Value.int .u8)).toArray w := by
        simp [loadCells, loadCellsFrom]
      rw [run_convert_bytes_string w src dst e _ 0 cap hs he hd, run_bytesToString w _ 0 cap [] hl]
      rfl
  · obtain ⟨b, off, cap, rfl, h1, h2, hl, hcell⟩ := h.head (by omega)
    have := run_convert_bytes_arg w src e hs he b off n cap (l.map fun b => (b.toNat : Int)) (by simpa using hl) (fun i hi => by
      rw [hcell i hi]
      simp [List.getD, show i < l.length by omega]) dst hd
    rw [this]
    have e : (l.map fun b => (b.toNat : Int)).map (fun n => UInt8.ofNat n.toNat) = l := by
      rw [List.map_map]
      exact (List.map_congr_left fun b _ => by simp).trans (List.map_id l)
    unfold strOfNums
    rw [e]

/-- What a slice of bytes that came in reads as. -/
def IsRow (k : IntKind) (w : World) (a : Option Addr) (len cap : Nat) (zs : List Int) : Prop :=
  (a = none ∧ len = 0 ∧ cap = 0 ∧ zs = []) ∨
  ∃ x, a = some x ∧ len ≤ cap ∧ cap ≤ maxLen ∧ zs.length = cap ∧ (∀ i, i < zs.length → w.cell? (x.add i) = some (.int k (zs.getD i 0))) ∧ ∀ n ∈ zs, (Lit.int k n).wf = true

theorem IsRow.reads {w : World} {a : Option Addr} {len cap : Nat} {zs : List Int} (h : IsRow .u8 w a len cap zs) : ∃ l : List UInt8, l.length = len ∧ Reads w 1 (.slice a len cap) len (bcells l) := by
  rcases h with ⟨rfl, rfl, rfl, rfl⟩ | ⟨x, rfl, h1, h2, h3, h4, h5⟩
  · exact ⟨[], rfl, by simp [bcells], none, 0, rfl, Nat.le_refl _, Nat.zero_le _, fun j u hj => by simp [bcells] at hj⟩
  · refine ⟨(zs.take len).map fun z => UInt8.ofNat z.toNat, by simp; omega, by simp [bcells]; omega, _, cap, rfl, h1, h2, fun j u hj => ?_⟩
    have hj' := (List.getElem?_eq_some_iff.1 hj).1
    simp [bcells] at hj'
    have hj1 : j < len := by omega
    have hj2 : j < zs.length := by omega
    have hw := h5 zs[j] (List.getElem_mem _)
    have hb : 0 ≤ zs[j] ∧ zs[j] ≤ 255 := by simpa [Lit.wf, IntKind.min, IntKind.max, IntKind.signed, IntKind.bits] using hw
    have hc := h4 j (by omega)
    obtain ⟨b, off, spot⟩ := x
    have hspot : spot = none := by
      have h0 := h4 0 (by omega)
      simpa [Addr.add] using World.cell?_spot h0
    subst hspot
    rw [Addr.add_lit] at hc
    refine ⟨b, off, rfl, World.block_lt_of_cell? _ _ hc, ?_⟩
    rw [hc]
    simp [bcells, hj1, hj2] at hj
    rw [← hj]
    simp [List.getD, hj2]
    omega

theorem Reads.take {w : World} {n : Nat} {v : Value} {l : List UInt8} (h : Reads w 1 v n (bcells l)) (k : Nat) (hk : k ≤ n) :
    ∃ a cap, v = .slice a n cap ∧ n ≤ cap ∧ cap ≤ maxLen ∧ Reads w 1 (.slice a k cap) k (bcells (l.take k)) := by
  obtain ⟨hl, a, cap, rfl, h1, h2, h3⟩ := h
  rw [bcells_length] at hl
  refine ⟨a, cap, rfl, h1, h2, by rw [bcells_length, List.length_take]; omega, a, cap, rfl, by omega, h2, fun j u hj => h3 j u ?_⟩
  simp only [bcells, List.map_take] at hj ⊢
  rw [List.getElem?_take] at hj
  split at hj
  · exact hj
  · cases hj

/-- A slice of what is read. -/
theorem Reads.skip {w : World} {n : Nat} {b off cap : Nat} {l : List UInt8} (h : Reads w 1 (.slice (some ⟨b, off, none⟩) n cap) n (bcells l)) (k : Nat) (hk : k ≤ n) :
    Reads w 1 (.slice (some ⟨b, off + k, none⟩) (n - k) (cap - k)) (n - k) (bcells (l.drop k)) := by
  obtain ⟨hl, a, cap', hv, h1, h2, h3⟩ := h
  cases hv
  rw [bcells_length] at hl
  refine ⟨by rw [bcells_length, List.length_drop]; omega, _, _, rfl, by omega, by omega, fun j u hj => ?_⟩
  simp only [bcells, List.map_drop] at hj h3
  rw [List.getElem?_drop] at hj
  obtain ⟨b', off', e, hb, hr⟩ := h3 _ _ hj
  cases e
  exact ⟨_, _, rfl, hb, by rw [Nat.add_assoc]; exact hr⟩

theorem Reads.le {w : World} {size n : Nat} {v : Value} {xs : List Value} (h : Reads w size v n xs) : ∃ a cap, v = .slice a n cap ∧ n ≤ cap ∧ cap ≤ maxLen := by
  obtain ⟨_, a, cap, rfl, h1, h2, _⟩ := h
  exact ⟨a, cap, rfl, h1, h2⟩

/-- '[]byte(s)'. -/
theorem wpList_bytes {P : Program} {w : World} {ops : Array Oper} {rest : List Oper} {o : Oper} {a : Act} {Q : Exit → Act → World → Prop} (hgd : o.guard = none) (x : Operand) (src dst e : TypeId)
    (ho : o.op = .convert src dst x) (hs : P.underlying src = some .string) (hd : P.underlying dst = some (.slice e)) (he : P.underlying e = some (.int .u8)) (s : ByteArray) (hx : a.eval x = .string s) (hlen : s.size ≤ maxLen)
    (h : ∀ cap w', Reads w' 1 (.slice (some ⟨w.heap.size, 0, none⟩) s.size cap) s.size (bcells s.data.toList) → w.grownBy w' none → Below w.heap.size w w' → w.heap.size < w'.heap.size → wpList P ops Q rest (a.put o.dst (.slice (some ⟨w.heap.size, 0, none⟩) s.size cap)) w') : wpList P ops Q (o :: rest) a w := by
  refine wpList_plain hgd fun K hK => ?_
  have hrun := run_bytes_of_string (P := P) w src dst e s hs hd he
  have hge := grownCap_ge w s.size 0 e
  have hle := grownCap_le_maxLen w s.size 0 e hlen
  unfold Oper.wp execOp
  simp only [ho, Sem.run_bind, Sem.run_pure, Result.andThen_ok, hx, hrun]
  refine hK _ _ (h _ _ ⟨?_, _, _, rfl, hge, hle, fun j u hj => ⟨_, _, rfl, by simp, ?_⟩⟩ ⟨rfl, rfl, rfl, by simp, fun k hk _ => Below.heap_alloc w.drew _ k hk⟩ ⟨rfl, rfl, rfl, by simp, fun k hk => Below.heap_alloc w.drew _ k hk⟩ (by simp))
  · rw [bcells_length, Array.length_toList, Nat.mul_one]
    rfl
  · obtain ⟨hjl, hju⟩ := List.getElem?_eq_some_iff.1 hj
    rw [bcells_length, Array.length_toList] at hjl
    have : ((w.drew.alloc (.cells (bytesRow s (grownCap w s.size 0 e)) e ((bytesRow s (grownCap w s.size 0 e)).size, (bytesRow s (grownCap w s.size 0 e)).size + 1))).heap[w.heap.size]?) = some (.cells (bytesRow s (grownCap w s.size 0 e)) e ((bytesRow s (grownCap w s.size 0 e)).size, (bytesRow s (grownCap w s.size 0 e)).size + 1)) := heap_alloc_new w.drew _
    unfold World.cell?
    simp only [this]
    simp only [bcells, List.getElem_map, Array.getElem_toList] at hju
    have hjs : j < s.size := hjl
    simp [bytesRow, ← hju, Array.getElem?_append, hjs]

/-- 'make([]T, 0, n)'. -/
theorem wpList_make_fresh {P : Program} {w : World} {ops : Array Oper} {rest : List Oper} {o : Oper} {a : Act} {Q : Exit → Act → World → Prop} (hg : o.guard = none) (l c : Operand) (t : TypeId) (hop : o.op = Op.makeSlice t l c)
    (B : Nat) (e : TypeId) (i : TypeInfo) (z : Value) (size bytes : Nat) (h1 : P.underlying t = some (.slice e)) (h2 : P.info? e = some i) (h3 : i.zero = some z) (h4 : i.size = size) (h5 : i.bytes = bytes)
    (kl kc : IntKind) (C : Int) (n : Nat) (hl : a.eval l = .int kl 0) (hc : a.eval c = .int kc C) (hC : C = (n : Int)) (b2 : bytes * n ≤ 281474976710656) (b3 : n ≤ maxLen) (b4 : B ≤ w.heap.size)
    (hK : ∀ w', Fresh B w' e size (.slice (some ⟨w.heap.size, 0, none⟩) 0 n) 0 [] → w.grownBy w' none → Below w.heap.size w w' → w.heap.size < w'.heap.size → wpList P ops Q rest (a.put o.dst (.slice (some ⟨w.heap.size, 0, none⟩) 0 n)) w') : wpList P ops Q (o :: rest) a w := by
  subst h5
  refine wpList_make_own w hg l c t hop B e i z size h1 h2 h3 h4 kl kc C n hl hc hC b2 b3 b4 fun w' hown hg => ?_
  refine hK w' ⟨ownsRow.reads hown, .inr hown⟩ hg ⟨hg.os, hg.tape, hg.output, hg.size, fun k hk => hg.block k hk (by simp)⟩ ?_
  exact (hown.lt w.heap.size rfl).2
end Go.Proofs.YtlibncefiibgaaaDoor

/- What several layers' walks share. -/
namespace Go.Proofs.YtlibncefiibgaaaDoor
open Go.RowKit

theorem info5 : (Tryd.prog.info? 5).map (fun i => (i.zero, i.size, i.bytes)) = some (some (.int .u8 0), 1, 1) := by kernel_rfl

/-- A slice of bytes is handed back that reads l and is new, or has no spare room; nothing old is changed. -/
def GivesBytes (w : World) (l : List UInt8) (e : Ending) (w' : World) : Prop :=
  ∃ v', e = .returned v' ∧ Fresh w.heap.size w' 5 1 v' l.length (bcells l) ∧ Below w.heap.size w w'

def SaysTrue (w : World) (e : Ending) (w' : World) : Prop := e = .returned (.bool true) ∧ Below w.heap.size w w'

/-- A truth is told; nothing old is changed. -/
def GivesBool (w : World) (b : Bool) (e : Ending) (w' : World) : Prop := e = .returned (.bool b) ∧ Below w.heap.size w w'

/-- A number of 64 bits is told; nothing old is changed. -/
def GivesU64 (w : World) (n : Nat) (e : Ending) (w' : World) : Prop := e = .returned (.int .u64 (n : Int)) ∧ Below w.heap.size w w'

/-- The strings l, as cells. -/
def scells (l : List ByteArray) : List Value := l.map Value.string

theorem Reads.scell {w : World} {a : Option Addr} {n cap : Nat} {l : List ByteArray} (h : Reads w 1 (.slice a n cap) n (scells l)) (j : Nat) (hj : j < n) :
    ∃ b off s, a = some ⟨b, off, none⟩ ∧ l[j]? = some s ∧ b < w.heap.size ∧ w.cell? ⟨b, off + j, none⟩ = some (.string s) := by
  obtain ⟨hl, a', cap', hv, _, _, h3⟩ := h
  cases hv
  have hlen : j < l.length := by simp [scells] at hl; omega
  obtain ⟨b, off, rfl, hb, hc⟩ := h3 j (.string l[j]) (by simp [scells, hlen])
  exact ⟨b, off, l[j], rfl, List.getElem?_eq_getElem hlen, hb, hc⟩

theorem Reads.bcell {w : World} {b off n cap : Nat} {l : List UInt8} (h : Reads w 1 (.slice (some ⟨b, off, none⟩) n cap) n (bcells l)) (k : Nat) (hk : k < n) :
    w.cell? ⟨b, off + k, none⟩ = some (.int .u8 ((l.getD k 0).toNat : Int)) := by
  obtain ⟨b', off', cap', hv, _, _, _, hc⟩ := h.head (by omega)
  cases hv
  exact hc k hk

/-- A row of no cells that has just been laid. -/
theorem fresh_empty (w : World) (e : TypeId) (size : Nat) : Fresh w.heap.size (w.alloc (.cells #[] e)) e size (.slice (some ⟨w.heap.size, 0, none⟩) 0 0) 0 [] :=
  ⟨⟨by simp, _, 0, rfl, Nat.le_refl _, Nat.zero_le _, fun j u h => by simp at h⟩, .inl ⟨_, rfl⟩⟩

theorem entryBox {w w1 : World} {cs : Array Value} {t : TypeId} (b : Below (w.heap.size + 1) (w.alloc (.cells cs t)) w1) :
    (∀ j, w1.cell? ⟨w.heap.size, j, none⟩ = cs[j]?) ∧ (∀ j, w1.frozen? ⟨w.heap.size, j, none⟩ = false) := by
  have h : w1.heap[w.heap.size]? = some (.cells cs t (0, 0)) := (b.block _ (Nat.lt_succ_self _)).trans (heap_alloc_new w _)
  exact ⟨fun j => Lib.cell_of_heap h j, fun j => Lib.frozen_of_heap h j⟩
end Go.Proofs.YtlibncefiibgaaaDoor

/- Names, tuples' texts, as lists of bytes. -/
namespace Go.Proofs.YtlibncefiibgaaaDoor
open Go Go.RowKit

def okB (c : UInt8) : Bool := decide (97 ≤ c.toNat ∧ c.toNat ≤ 122) || decide (48 ≤ c.toNat ∧ c.toNat ≤ 57) || decide (c.toNat = 95) || decide (c.toNat = 45)

def nameL (l : List UInt8) : Bool := l.all okB && decide (1 ≤ l.length) && decide (l.length ≤ 32)

/-- The ways of a byte of a name, or of none. -/
theorem okB_ways (c : UInt8) :
    (okB c = true ∧ ((97 ≤ c.toNat ∧ c.toNat ≤ 122) ∨ (48 ≤ c.toNat ∧ c.toNat ≤ 57) ∨ c.toNat = 95 ∨ c.toNat = 45)) ∨
    (okB c = false ∧ ((c.toNat < 48 ∧ c.toNat ≠ 45) ∨ (57 < c.toNat ∧ c.toNat < 97 ∧ c.toNat ≠ 95) ∨ 122 < c.toNat)) := by
  cases h : okB c with
  | true =>
    left
    simp [okB] at h
    refine ⟨rfl, ?_⟩
    omega
  | false =>
    right
    simp [okB] at h
    refine ⟨rfl, ?_⟩
    omega

/-- The six parts of a tuple. -/
structure Six where
  (a b c d e f : ByteArray)

def Six.val (t : Six) : Value := .agg #[.string t.a, .string t.b, .string t.c, .string t.d, .string t.e, .string t.f]

def nameB (s : ByteArray) : Bool := nameL s.data.toList

def Six.ok (t : Six) : Bool := nameB t.a && nameB t.b && nameB t.c && nameB t.d && nameB t.e && (decide (t.f.size = 0) || nameB t.f)

end Go.Proofs.YtlibncefiibgaaaDoor

/- Tuples held against each other, field by field. -/
namespace Go.Proofs.YtlibncefiibgaaaDoor
open Go Go.RowKit

theorem ba_extL {x y : ByteArray} (h : x.toList = y.toList) : x = y := by
  rw [Go.ByteArray.toList_eq, Go.ByteArray.toList_eq] at h
  cases x with
  | mk d =>
    cases y with
    | mk d' =>
      congr 1
      exact Array.toList_inj.1 h

set_option maxRecDepth 100000 in
theorem six_ne (w : World) {t u : Six} (h : t ≠ u) : (binOp .eql 37 (.agg #[.string t.a, .string t.b, .string t.c, .string t.d, .string t.e, .string t.f]) (.agg #[.string u.a, .string u.b, .string u.c, .string u.d, .string u.e, .string u.f])).run Tryd.prog w = .ok (.bool false) w := by
  obtain ⟨a, b, c, d, e, f⟩ := t
  obtain ⟨a', b', c', d', e', f'⟩ := u
  simp [go_sem]
  intro h1 h2 h3 h4 h5 h6
  exact h (by rw [ba_extL h1, ba_extL h2, ba_extL h3, ba_extL h4, ba_extL h5, ba_extL h6])

set_option maxRecDepth 100000 in
theorem six_nq (w : World) {t u : Six} (h : t ≠ u) : (binOp .neq 37 (.agg #[.string t.a, .string t.b, .string t.c, .string t.d, .string t.e, .string t.f]) (.agg #[.string u.a, .string u.b, .string u.c, .string u.d, .string u.e, .string u.f])).run Tryd.prog w = .ok (.bool true) w := by
  obtain ⟨a, b, c, d, e, f⟩ := t
  obtain ⟨a', b', c', d', e', f'⟩ := u
  simp [go_sem]
  intro h1 h2 h3 h4 h5 h6
  exact h (by rw [ba_extL h1, ba_extL h2, ba_extL h3, ba_extL h4, ba_extL h5, ba_extL h6])
end Go.Proofs.YtlibncefiibgaaaDoor

namespace Go.Proofs.YtlibncefiibgaaaDoor
open Go Go.RowKit

def NameRel (l : List UInt8) (i : Value) : Prop := ∃ k : Nat, i = .int .i64 (k : Int) ∧ k ≤ l.length ∧ (l.take k).all okB = true

theorem take_succ_all (l : List UInt8) (k : Nat) (h : k < l.length) : (l.take (k + 1)).all okB = ((l.take k).all okB && okB (l.getD k 0)) := by
  rw [List.take_add_one, List.getElem?_eq_getElem h, List.all_append]; simp [List.getD, h]

theorem all_false (l : List UInt8) (k : Nat) (h : k < l.length) (hc : okB (l.getD k 0) = false) : nameL l = false := by
  have : l.all okB = false := by
    rw [List.all_eq_false]
    refine ⟨l.getD k 0, ?_, by rw [hc]; decide⟩
    simp [List.getD, h]
  unfold nameL
  rw [this]; rfl

set_option maxRecDepth 100000 in
set_option maxHeartbeats 1000000 in
theorem name_any (w : World) (s : ByteArray) (hs : s.size ≤ 1000000000) :
    Calls Tryd.prog 35 #[.string s] w (GivesBool w (nameB s)) := by
  have hsl : s.data.toList.length = s.size := Array.length_toList
  have Hsl := Lib.hid hsl
  clear hsl
  go_enter Tryd.func35, Tryd.ntmps35
  go_wp2_with (refine wpList_bytes rfl _ 9 41 5 rfl Tryd.underlying9 Tryd.underlying41 Tryd.underlying5 s rfl ?_ ?_)
  · unfold maxLen; omega
  intro cap w1 r1 g1 b1 lt1
  go_wp2
  go_loop [10] (fun i => NameRel s.data.toList i) (fun i => s.size - (intOf i).toNat)
  case atStart => exact ⟨0, rfl, Nat.zero_le _, rfl⟩
  case round =>
    obtain ⟨k, rfl, hk, hall⟩ := hrel
    rw [Hsl.out] at hk
    have Hall := Lib.hid hall
    clear hall
    by_cases hlt : k < s.size
    · have hsucc := take_succ_all s.data.toList k (by rw [Hsl.out]; exact hlt)
      have hfalse := all_false s.data.toList k (by rw [Hsl.out]; exact hlt)
      have c1 := r1.bcell k hlt
      simp only [Nat.zero_add] at c1
      generalize s.data.toList.getD k 0 = c at c1 hsucc hfalse
      have Hsucc := Lib.hid hsucc
      have Hfalse := Lib.hid hfalse
      clear hsucc hfalse
      rcases okB_ways c with ⟨hok, hw⟩ | ⟨hok, hw⟩
      · have Hok := Lib.hid hok
        clear hok
        rcases hw with hw | hw | hw | hw
        all_goals
          go_wp2
          refine ⟨⟨k + 1, by go_num, by rw [Hsl.out]; omega, ?_⟩, by simp [intOf]; omega⟩
          rw [Hsucc.out, Hall.out, Hok.out]; rfl
      · have Hok := Lib.hid hok
        clear hok
        have e95 : ((c.toNat : Int) != 95) = true := by simp; omega
        have e45 : ((c.toNat : Int) != 45) = true := by simp; omega
        have k57 : 57 < c.toNat → decide ((c.toNat : Int) ≤ 57) = false := fun h => by simp; omega
        have k122 : 122 < c.toNat → decide ((c.toNat : Int) ≤ 122) = false := fun h => by simp; omega
        rcases hw with hw | hw | hw
        · clear k57 k122
          go_wp2
          go_ret
          rw [nameB, Hfalse.out Hok.out]
          exact ⟨rfl, b1⟩
        · replace k57 := k57 (by omega)
          clear k122
          go_wp2
          go_ret
          rw [nameB, Hfalse.out Hok.out]
          exact ⟨rfl, b1⟩
        · replace k57 := k57 (by omega)
          replace k122 := k122 (by omega)
          go_wp2
          go_ret
          rw [nameB, Hfalse.out Hok.out]
          exact ⟨rfl, b1⟩
    · have e : List.take k s.data.toList = s.data.toList := List.take_of_length_le (by rw [Hsl.out]; omega)
      have hn : nameB s = (decide (1 ≤ s.size) && decide (s.size ≤ 32)) := by
        have h := Hall.out
        rw [e] at h
        unfold nameB nameL
        rw [h, Hsl.out]; rfl
      have Hn := Lib.hid hn
      clear hn e
      obtain rfl : k = s.size := by omega
      by_cases h1 : 1 ≤ s.size
      · have hn : nameB s = decide ((s.size : Int) ≤ 32) := by
          rw [Hn.out, decide_eq_true h1, Bool.true_and]
          simp
          omega
        have Hn' := Lib.hid hn
        clear hn
        go_wp2
        go_ret
        rw [Hn'.out]
        exact ⟨rfl, b1⟩
      · have hn : nameB s = false := by
          rw [Hn.out, decide_eq_false h1]
          rfl
        have Hn' := Lib.hid hn
        clear hn
        go_wp2
        go_ret
        rw [Hn'.out]
        exact ⟨rfl, b1⟩
end Go.Proofs.YtlibncefiibgaaaDoor

namespace Go.Proofs.YtlibncefiibgaaaDoor
open Go Go.RowKit

/-- A value is told; nothing old is changed. -/
def GivesVal (w : World) (v : Value) (e : Ending) (w' : World) : Prop := e = .returned v ∧ Below w.heap.size w w'

set_option maxRecDepth 100000 in
set_option maxHeartbeats 1000000 in
theorem parts_any (w : World) (t : Six) : Calls Tryd.prog 34 #[t.val] w (GivesVal w t.val) := by
  obtain ⟨a, b, c, d, e, f⟩ := t
  unfold Six.val
  go_enter Tryd.func34, Tryd.ntmps34
  go_wp2
  refine bodyPost_ret (v := .agg #[.string a, .string b, .string c, .string d, .string e, .string f]) ?_ rfl ⟨rfl, ?_⟩
  · simp [results, Tryd.results34, go_sem]
  · exact (Below.refl _ _).alloc (Nat.le_refl _) _ |>.alloc (by simp) _

set_option maxRecDepth 100000 in
set_option maxHeartbeats 1000000 in
theorem whole_any (w : World) (t : Six) : Calls Tryd.prog 51 #[t.val] w (GivesVal w t.val) := by
  obtain ⟨a, b, c, d, e, f⟩ := t
  unfold Six.val
  go_enter Tryd.func51, Tryd.ntmps51
  go_wp2
  refine bodyPost_ret (v := .agg #[.string a, .string b, .string c, .string d, .string e, .string f]) ?_ rfl ⟨rfl, ?_⟩
  · simp [results, Tryd.results51, go_sem]
  · exact (Below.refl _ _).alloc (Nat.le_refl _) _ |>.alloc (by simp) _

def Six.five (t : Six) : List ByteArray := [t.a, t.b, t.c, t.d, t.e]

theorem Six.five_ok (t : Six) : t.ok = (t.five.all nameB && (decide (t.f.size = 0) || nameB t.f)) := by
  simp [Six.ok, Six.five, Bool.and_assoc]

/-- Are all parts short? -/
def Six.short (t : Six) (n : Nat) : Prop := t.a.size ≤ n ∧ t.b.size ≤ n ∧ t.c.size ≤ n ∧ t.d.size ≤ n ∧ t.e.size ≤ n ∧ t.f.size ≤ n

def checkV (b : Bool) : Value := .int .i64 (if b then 0 else 2)

theorem not_empty {f : ByteArray} (h : f ≠ ⟨#[]⟩) : f.toList.isEmpty = false := by
  rw [Go.ByteArray.toList_eq]
  cases f with
  | mk d =>
    cases hd : d.toList with
    | cons x r => rfl
    | nil => exact absurd (congrArg ByteArray.mk (Array.toList_eq_nil_iff.1 hd)) h

theorem size_empty {f : ByteArray} : f.size = 0 ↔ f = ⟨#[]⟩ := by
  constructor
  · intro h
    cases f with
    | mk d => have : d = #[] := Array.eq_empty_of_size_eq_zero h; rw [this]
  · rintro rfl; rfl

def CheckRel (w : World) (g : Nat) (t : Six) (i : Value) (wr : World) : Prop :=
  ∃ k : Nat, i = .int .i64 (k : Int) ∧ k ≤ 5 ∧ (t.five.take k).all nameB = true ∧ Below w.heap.size w wr ∧
    wr.heap[g]? = some (.cells #[.string t.a, .string t.b, .string t.c, .string t.d, .string t.e, .string t.f] 70 (0, 0))

theorem below_block {B : Nat} {w w' : World} (h : Below B w w') {g : Nat} {o : Obj} (hg : w.heap[g]? = some o) (hB : g < B) : w'.heap[g]? = some o := (h.block g hB).trans hg

set_option maxRecDepth 100000 in
set_option maxHeartbeats 1000000 in
theorem check_any (w : World) (t : Six) (hs : t.short 1000000000) : Calls Tryd.prog 19 #[t.val] w (GivesVal w (checkV t.ok)) := by
  have hparts := fun w => parts_any w t
  have hfive := t.five_ok
  have H5 : ∀ x ∈ t.five, x.size ≤ 1000000000 := by
    obtain ⟨h1, h2, h3, h4, h5, h6⟩ := hs
    intro x hx
    simp [Six.five] at hx
    rcases hx with rfl | rfl | rfl | rfl | rfl <;> assumption
  have hf6 := hs.2.2.2.2.2
  have HP := Lib.hid hparts
  have HF := Lib.hid hfive
  have HS := Lib.hid H5
  clear hparts hfive hs H5
  have hv : t.val = .agg #[.string t.a, .string t.b, .string t.c, .string t.d, .string t.e, .string t.f] := rfl
  rw [hv]
  clear hv
  go_enter Tryd.func19, Tryd.ntmps19
  go_wp2_with (go_at_call 34; go_must (refine (HP.out _).mono ?_))
  rintro e w1 ⟨rfl, b1⟩
  have b0 : Below w.heap.size w w1 := ((Below.refl _ w).alloc (Nat.le_refl _) _).trans (b1.mono (by simp))
  have B0 := Lib.hid b0
  clear b1 b0
  unfold Six.val
  go_wp2
  go_loopw [10] (fun c wr => CheckRel w w1.heap.size t c wr) (fun c _ => 5 - (intOf c).toNat)
  case atStart =>
    refine ⟨0, rfl, by decide, rfl, B0.out.alloc B0.out.size _, ?_⟩
    exact heap_alloc_new w1 _
  case round =>
    obtain ⟨k, rfl, hk, hall, hb, hg⟩ := hrel
    have HB := Lib.hid hb
    clear hb
    by_cases hlt : k < 5
    · have hlt' : (k : Int) < 5 := by omega
      have hcell : ∀ (x : ByteArray), t.five[k]? = some x → wr.cell? ⟨w1.heap.size, k, none⟩ = some (.string x) := by
        intro x hx
        rw [Lib.cell_of_heap hg k]
        have : k = 0 ∨ k = 1 ∨ k = 2 ∨ k = 3 ∨ k = 4 := by omega
        rcases this with rfl | rfl | rfl | rfl | rfl <;> (simp [Six.five] at hx; subst hx; rfl)
      obtain ⟨x, hx⟩ : ∃ x, t.five[k]? = some x := ⟨t.five[k]'(by simpa [Six.five] using hlt), List.getElem?_eq_getElem _⟩
      have c1 := hcell x hx
      have hxm := HS.out x (List.mem_of_getElem? hx)
      have hsucc : (t.five.take (k + 1)).all nameB = ((t.five.take k).all nameB && nameB x) := by
        rw [List.take_add_one, List.all_append, hx]; simp
      rw [hall] at hsucc
      have hfalse : nameB x = false → t.ok = false := by
        intro h
        rw [HF.out]
        have : t.five.all nameB = false := by
          rw [List.all_eq_false]
          exact ⟨x, List.mem_of_getElem? hx, by rw [h]; decide⟩
        rw [this]; rfl
      have HSu := Lib.hid hsucc
      have HFa := Lib.hid hfalse
      have HG := Lib.hid hg
      clear hsucc hfalse hall hcell hx hg
      go_wp2_with (go_at_call 35; go_must (refine (name_any _ x hxm).mono ?_))
      rintro e w2 ⟨rfl, b2⟩
      have hg2 : w2.heap[w1.heap.size]? = _ := below_block b2 HG.out (Array.getElem?_eq_some_iff.1 HG.out).1
      have hb2 := HB.out.trans (b2.mono HB.out.size)
      have HG2 := Lib.hid hg2
      clear b2 hg2 c1
      cases hn : nameB x with
      | true =>
        have Hn := Lib.hid hn
        clear hn
        go_wp2
        refine ⟨⟨k + 1, by go_num, by omega, ?_, hb2, HG2.out⟩, by simp [intOf]; omega⟩
        rw [HSu.out, Hn.out]; rfl
      | false =>
        have Hn := Lib.hid hn
        clear hn
        go_wp2
        go_ret
        rw [HFa.out Hn.out]
        exact ⟨rfl, hb2⟩
    · obtain rfl : k = 5 := by omega
      have hok : t.ok = (decide (t.f.size = 0) || nameB t.f) := by
        rw [HF.out]
        have : t.five.all nameB = true := by simpa [Six.five] using hall
        rw [this]; rfl
      have c5 : wr.cell? ⟨w1.heap.size, 5, none⟩ = some (.string t.f) := by rw [Lib.cell_of_heap hg 5]; rfl
      have HO := Lib.hid hok
      clear hok hall hg
      generalize t.f = f at *
      by_cases h0 : f = ⟨#[]⟩
      · subst h0
        go_wp2
        go_ret
        rw [HO.out]
        exact ⟨rfl, HB.out⟩
      · have hok : t.ok = nameB f := by
          rw [HO.out, decide_eq_false (fun h => h0 (size_empty.1 h))]; rfl
        have HO' := Lib.hid hok
        have h00 := not_empty h0
        clear hok HO h0
        go_wp2_with (go_at_call 35; go_must (refine (name_any _ f hf6).mono ?_))
        rintro e w2 ⟨rfl, b2⟩
        have hb2 := HB.out.trans (b2.mono HB.out.size)
        cases hn : nameB f with
        | true =>
          rw [hn] at HO'
          go_wp2
          go_ret
          rw [HO'.out]
          exact ⟨rfl, hb2⟩
        | false =>
          rw [hn] at HO'
          go_wp2
          go_ret
          rw [HO'.out]
          exact ⟨rfl, hb2⟩
end Go.Proofs.YtlibncefiibgaaaDoor

/- A text cut at a byte: what its parts are. -/
namespace Go.Proofs.YtlibncefiibgaaaDoor
open Go Go.RowKit

def cutAL (l : List UInt8) (c : UInt8) : List UInt8 := l.takeWhile (· != c)
def cutRL (l : List UInt8) (c : UInt8) : List UInt8 := (l.dropWhile (· != c)).drop 1
def cutA (s : ByteArray) (c : UInt8) : ByteArray := ⟨(cutAL s.data.toList c).toArray⟩
def cutR (s : ByteArray) (c : UInt8) : ByteArray := ⟨(cutRL s.data.toList c).toArray⟩

theorem cut_hit : ∀ {l : List UInt8} {c : UInt8} {i : Nat}, l[i]? = some c → (∀ k, k < i → l[k]? ≠ some c) → l.takeWhile (· != c) = l.take i ∧ l.dropWhile (· != c) = l.drop i
  | [], c, i, h, _ => by simp at h
  | b :: l, c, 0, h, _ => by
    simp at h; subst h; simp
  | b :: l, c, i + 1, h, hb => by
    have hbc : b ≠ c := by
      have := hb 0 (Nat.succ_pos _)
      simpa using this
    have h' : l[i]? = some c := by simpa using h
    have ih := cut_hit (l := l) (c := c) (i := i) h' (fun k hk => by have := hb (k + 1) (Nat.succ_lt_succ hk); simpa using this)
    have hbc' : (b != c) = true := by simpa using hbc
    rw [List.takeWhile_cons, List.dropWhile_cons, hbc']
    simp [ih.1, ih.2]

theorem cut_miss {l : List UInt8} {c : UInt8} (h : ∀ k : Nat, l[k]? ≠ some c) : l.takeWhile (· != c) = l ∧ l.dropWhile (· != c) = [] := by
  induction l with
  | nil => simp
  | cons b l ih =>
    have hbc : b ≠ c := by simpa using h 0
    have hbc' : (b != c) = true := by simpa using hbc
    have := ih (fun k => by simpa using h (k + 1))
    rw [List.takeWhile_cons, List.dropWhile_cons, hbc']
    simp [this.1, this.2]

theorem below_drewN (w : World) (n : Nat) : Below w.heap.size w (w.drewN n) := ⟨rfl, rfl, rfl, Nat.le_refl _, fun _ _ => rfl⟩

def CutPost (w : World) (s : ByteArray) (c : UInt8) (e : Ending) (w' : World) : Prop :=
  ∃ b, e = .returned (.tuple #[.string (cutA s c), .string (cutR s c), .bool b]) ∧ Below w.heap.size w w'

theorem mk_data (s : ByteArray) : (⟨s.data.toList.toArray⟩ : ByteArray) = s := rfl

end Go.Proofs.YtlibncefiibgaaaDoor

namespace Go.Proofs.YtlibncefiibgaaaDoor
open Go Go.RowKit

def mark : Nat → UInt8
  | 0 => 58
  | 1 => 35
  | 2 => 64
  | 3 => 58
  | _ => 35

def restAt (s : ByteArray) : Nat → ByteArray
  | 0 => s
  | k + 1 => cutR (restAt s k) (mark k)

def partAt (s : ByteArray) (k : Nat) : ByteArray := cutA (restAt s k) (mark k)

theorem size_toArray (l : List UInt8) : (⟨l.toArray⟩ : ByteArray).size = l.length := rfl
theorem size_data (s : ByteArray) : s.data.toList.length = s.size := Array.length_toList

theorem cutA_size (s : ByteArray) (c : UInt8) : (cutA s c).size ≤ s.size := by
  unfold cutA cutAL
  rw [size_toArray, ← size_data s]
  exact (List.takeWhile_sublist _).length_le

theorem cutR_size (s : ByteArray) (c : UInt8) : (cutR s c).size ≤ s.size := by
  unfold cutR cutRL
  rw [size_toArray, ← size_data s]
  exact ((List.drop_sublist _ _).trans (List.dropWhile_sublist _)).length_le

def Six.none : Six := ⟨⟨#[]⟩, ⟨#[]⟩, ⟨#[]⟩, ⟨#[]⟩, ⟨#[]⟩, ⟨#[]⟩⟩

theorem restAt_size (s : ByteArray) : ∀ k, (restAt s k).size ≤ s.size
  | 0 => Nat.le_refl _
  | k + 1 => Nat.le_trans (cutR_size _ _) (restAt_size s k)

theorem partAt_size (s : ByteArray) (k : Nat) : (partAt s k).size ≤ s.size := Nat.le_trans (cutA_size _ _) (restAt_size s k)

def arrAt (s : ByteArray) : Nat → Array Value
  | 0 => #[.string ⟨#[]⟩, .string ⟨#[]⟩, .string ⟨#[]⟩, .string ⟨#[]⟩, .string ⟨#[]⟩, .string ⟨#[]⟩]
  | 1 => #[.string (partAt s 0), .string ⟨#[]⟩, .string ⟨#[]⟩, .string ⟨#[]⟩, .string ⟨#[]⟩, .string ⟨#[]⟩]
  | 2 => #[.string (partAt s 0), .string (partAt s 1), .string ⟨#[]⟩, .string ⟨#[]⟩, .string ⟨#[]⟩, .string ⟨#[]⟩]
  | 3 => #[.string (partAt s 0), .string (partAt s 1), .string (partAt s 2), .string ⟨#[]⟩, .string ⟨#[]⟩, .string ⟨#[]⟩]
  | 4 => #[.string (partAt s 0), .string (partAt s 1), .string (partAt s 2), .string (partAt s 3), .string ⟨#[]⟩, .string ⟨#[]⟩]
  | _ => #[.string (partAt s 0), .string (partAt s 1), .string (partAt s 2), .string (partAt s 3), .string (partAt s 4), .string ⟨#[]⟩]

end Go.Proofs.YtlibncefiibgaaaDoor

namespace Go.Proofs.YtlibncefiibgaaaDoor
open Go Go.RowKit

def Six.list (t : Six) : List ByteArray := [t.a, t.b, t.c, t.d, t.e, t.f]

def RefParts (w : World) (t : Six) (e : Ending) (w' : World) : Prop :=
  ∃ b, e = .returned (.slice (some ⟨b, 0, none⟩) 6 6) ∧ Reads w' 1 (.slice (some ⟨b, 0, none⟩) 6 6) 6 (scells t.list) ∧ Below w.heap.size w w'

theorem reads_new {w' : World} {b : Nat} {l : List ByteArray} {n : Nat} {e : TypeId} (hn : l.length = n) (h : w'.heap[b]? = some (.cells (scells l).toArray e (0, 0))) (hs : n ≤ maxLen) :
    Reads w' 1 (.slice (some ⟨b, 0, none⟩) n n) n (scells l) := by
  refine ⟨by simp [scells, hn], _, n, rfl, Nat.le_refl _, hs, fun j u hj => ⟨b, 0, rfl, (Array.getElem?_eq_some_iff.1 h).1, ?_⟩⟩
  rw [Nat.zero_add, Lib.cell_of_heap h j]
  simpa using hj

set_option maxRecDepth 100000 in
set_option maxHeartbeats 1000000 in
theorem refparts_any (w : World) (t : Six) : Calls Tryd.prog 13 #[t.val] w (RefParts w t) := by
  obtain ⟨a, b, c, d, e, f⟩ := t
  unfold Six.val
  go_enter Tryd.func13, Tryd.ntmps13
  go_wp2
  go_ret
  refine ⟨w.heap.size + 1, by simp, reads_new rfl (e := 9) ?_ (by decide), (Below.refl _ _).alloc (Nat.le_refl _) _ |>.alloc (by simp) _⟩
  have := heap_alloc_new (w.alloc (.cells #[.string a, .string b, .string c, .string d, .string e, .string f] 37)) (.cells #[.string a, .string b, .string c, .string d, .string e, .string f] 9)
  simpa [Six.list, scells] using this

def tightL (l : List ByteArray) : Bool := l.all fun s => decide (s.size ≤ 200)
def Six.tight (t : Six) : Bool := tightL t.list

theorem tight_short {t : Six} (h : t.tight = true) : t.short 200 := by
  simp [Six.tight, Six.list, tightL] at h
  exact h

/-- A row of tuples, one behind the other. -/
def TupsAt (w : World) (g : Nat) (ts : List Six) : Prop := ∀ j t, ts[j]? = some t → ∀ i s, t.list[i]? = some s → w.cell? ⟨g, j * 6 + i, none⟩ = some (.string s)

end Go.Proofs.YtlibncefiibgaaaDoor

/- Keys of tuples stand in the order of their parts. -/
namespace Go.Proofs.YtlibncefiibgaaaDoor
open Go Go.RowKit

/-- no zero stands in it -/
def NZ (l : List UInt8) : Prop := ∀ b ∈ l, b ≠ 0

theorem nz_cons {a : UInt8} {l : List UInt8} (h : NZ (a :: l)) : a ≠ 0 ∧ NZ l := ⟨h a (List.mem_cons_self ..), fun b hb => h b (List.mem_cons_of_mem _ hb)⟩

theorem pos_of_ne {a : UInt8} (h : a ≠ 0) : (0 : UInt8) < a := by
  rw [UInt8.lt_iff_toNat_lt]
  have : a.toNat ≠ 0 := fun e => h (UInt8.toNat_inj.1 e)
  simpa using Nat.pos_of_ne_zero this

theorem not_lt_zero (a : UInt8) : ¬ a < 0 := by
  rw [UInt8.lt_iff_toNat_lt]
  simp

theorem part_less : ∀ (x y r s : List UInt8), NZ x → NZ y → Op.bytesLess (x ++ 0 :: r) (y ++ 0 :: s) = (Op.bytesLess x y || (x == y && Op.bytesLess r s))
  | [], [], r, s, _, _ => by simp [Op.bytesLess]
  | [], b :: y, r, s, _, hy => by simp [Op.bytesLess, pos_of_ne (nz_cons hy).1]
  | a :: x, [], r, s, hx, _ => by
    have h1 := (nz_cons hx).1
    have h2 := not_lt_zero a
    simp [Op.bytesLess, h1, h2]
  | a :: x, b :: y, r, s, hx, hy => by
    have ih := part_less x y r s (nz_cons hx).2 (nz_cons hy).2
    simp only [List.cons_append, Op.bytesLess, ih, List.cons_beq_cons]
    cases decide (a < b) <;> cases (a == b) <;> cases Op.bytesLess x y <;> cases (x == y) <;> cases Op.bytesLess r s <;> rfl

theorem part_eq : ∀ (x y r s : List UInt8), NZ x → NZ y → ((x ++ 0 :: r) == (y ++ 0 :: s)) = (x == y && r == s)
  | [], [], r, s, _, _ => by simp
  | [], b :: y, r, s, _, hy => by
    have := (nz_cons hy).1
    simp [this.symm]
  | a :: x, [], r, s, hx, _ => by
    have := (nz_cons hx).1
    simp [this]
  | a :: x, b :: y, r, s, hx, hy => by
    have ih := part_eq x y r s (nz_cons hx).2 (nz_cons hy).2
    simp only [List.cons_append, List.cons_beq_cons, ih]
    cases (a == b) <;> cases (x == y) <;> cases (r == s) <;> rfl

theorem part_prefix : ∀ (x y r s : List UInt8), NZ x → NZ y → (x ++ 0 :: r) <+: (y ++ 0 :: s) → x = y ∧ r <+: s
  | [], [], r, s, _, _, h => by
    simp only [List.nil_append, List.cons_prefix_cons, true_and] at h
    exact ⟨rfl, h⟩
  | [], b :: y, r, s, _, hy, h => by
    simp only [List.nil_append, List.cons_append, List.cons_prefix_cons] at h
    exact absurd h.1.symm (nz_cons hy).1
  | a :: x, [], r, s, hx, _, h => by
    simp only [List.nil_append, List.cons_append, List.cons_prefix_cons] at h
    exact absurd h.1 (nz_cons hx).1
  | a :: x, b :: y, r, s, hx, hy, h => by
    simp only [List.cons_append, List.cons_prefix_cons] at h
    obtain ⟨rfl, h1⟩ := h
    obtain ⟨rfl, h2⟩ := part_prefix x y r s (nz_cons hx).2 (nz_cons hy).2 h1
    exact ⟨rfl, h2⟩

/-- The key of parts: a zero behind each. -/
def keyL : List (List UInt8) → List UInt8
  | [] => []
  | x :: l => x ++ 0 :: keyL l

/-- The order of parts, one behind the other. -/
def cmpL : List (List UInt8) → List (List UInt8) → Int
  | a :: x, b :: y => if Op.bytesLess a b then -1 else if a == b then cmpL x y else 1
  | _, _ => 0

theorem cmpL_ways (p q : List (List UInt8)) : cmpL p q = -1 ∨ cmpL p q = 0 ∨ cmpL p q = 1 := by
  induction p generalizing q with
  | nil => right; left; rfl
  | cons a x ih =>
    cases q with
    | nil => right; left; rfl
    | cons b y =>
      unfold cmpL
      split
      · left; rfl
      · split
        · exact ih y
        · right; right; rfl

theorem bytesLess_irrefl (l : List UInt8) : Op.bytesLess l l = false := by
  induction l with
  | nil => rfl
  | cons a l ih => simp [Op.bytesLess, ih, UInt8.lt_irrefl]

theorem cmpL_refl (p : List (List UInt8)) : cmpL p p = 0 := by
  induction p with
  | nil => rfl
  | cons a x ih => simp [cmpL, bytesLess_irrefl, ih]

theorem key_less : ∀ (p q : List (List UInt8)), p.length = q.length → (∀ x ∈ p, NZ x) → (∀ x ∈ q, NZ x) → Op.bytesLess (keyL p) (keyL q) = decide (cmpL p q < 0) ∧ (keyL p == keyL q) = decide (cmpL p q = 0)
  | [], [], _, _, _ => by simp [keyL, cmpL, Op.bytesLess]
  | [], _ :: _, h, _, _ => by simp at h
  | _ :: _, [], h, _, _ => by simp at h
  | a :: x, b :: y, h, hp, hq => by
    have ih := key_less x y (by simpa using h) (fun z hz => hp z (List.mem_cons_of_mem _ hz)) (fun z hz => hq z (List.mem_cons_of_mem _ hz))
    have ha := hp a (List.mem_cons_self ..)
    have hb := hq b (List.mem_cons_self ..)
    unfold keyL cmpL
    rw [part_less a b _ _ ha hb, part_eq a b _ _ ha hb, ih.1, ih.2]
    cases hl : Op.bytesLess a b with
    | true =>
      have hne : (a == b) = false := by
        rw [beq_eq_false_iff_ne]
        rintro rfl
        rw [bytesLess_irrefl] at hl
        cases hl
      rw [hne]
      simp
    | false =>
      cases he : (a == b) with
      | true => simp
      | false => simp

theorem key_prefix : ∀ (p q : List (List UInt8)), p.length = q.length → (∀ x ∈ p, NZ x) → (∀ x ∈ q, NZ x) → keyL p <+: keyL q → p = q
  | [], [], _, _, _, _ => rfl
  | [], _ :: _, h, _, _, _ => by simp at h
  | _ :: _, [], h, _, _, _ => by simp at h
  | a :: x, b :: y, h, hp, hq, hk => by
    obtain ⟨rfl, hk1⟩ := part_prefix a b _ _ (hp a (List.mem_cons_self ..)) (hq b (List.mem_cons_self ..)) hk
    rw [key_prefix x y (by simpa using h) (fun z hz => hp z (List.mem_cons_of_mem _ hz)) (fun z hz => hq z (List.mem_cons_of_mem _ hz)) hk1]

def Six.bytes (t : Six) : List (List UInt8) := [t.a.data.toList, t.b.data.toList, t.c.data.toList, t.d.data.toList, t.e.data.toList, t.f.data.toList]

theorem nz_name {l : List UInt8} (h : nameL l = true) : NZ l := by
  intro b hb e
  subst e
  simp only [nameL, Bool.and_eq_true] at h
  have := List.all_eq_true.1 h.1.1 0 hb
  revert this
  decide

theorem nz_six {t : Six} (h : t.ok = true) : ∀ x ∈ t.bytes, NZ x := by
  simp only [Six.ok, nameB, Bool.and_eq_true, Bool.or_eq_true, decide_eq_true_eq] at h
  obtain ⟨⟨⟨⟨⟨h1, h2⟩, h3⟩, h4⟩, h5⟩, h6⟩ := h
  intro x hx
  simp only [Six.bytes, List.mem_cons, List.not_mem_nil, or_false] at hx
  rcases hx with rfl | rfl | rfl | rfl | rfl | rfl
  · exact nz_name h1
  · exact nz_name h2
  · exact nz_name h3
  · exact nz_name h4
  · exact nz_name h5
  · rcases h6 with h6 | h6
    · rw [size_empty.1 h6]
      intro b hb
      simp at hb
    · exact nz_name h6
end Go.Proofs.YtlibncefiibgaaaDoor

/- Layer 2's plain mathematics. -/
namespace Go.Proofs.YtlibncefiibgaaaDoor

/-- a number's bytes -/
def enc (v : Nat) : List UInt8 :=
  if v < 128 then [UInt8.ofNat v] else UInt8.ofNat (v % 128 + 128) :: enc (v / 128)
termination_by v
decreasing_by omega

theorem enc_lt {v : Nat} (h : v < 128) : enc v = [UInt8.ofNat v] := by rw [enc, if_pos h]
theorem enc_ge {v : Nat} (h : ¬ v < 128) : enc v = UInt8.ofNat (v % 128 + 128) :: enc (v / 128) := by rw [enc, if_neg h]

theorem enc_pos (v : Nat) : 0 < (enc v).length := by
  by_cases h : v < 128
  · rw [enc_lt h]; simp
  · rw [enc_ge h]; simp

theorem enc_length_le (k : Nat) : ∀ v : Nat, v < 128 ^ (k + 1) → (enc v).length ≤ k + 1 := by
  induction k with
  | zero => intro v h; rw [enc_lt (by simpa using h)]; simp
  | succ k ih =>
    intro v h
    by_cases h1 : v < 128
    · rw [enc_lt h1]; simp
    · rw [enc_ge h1]
      have := ih (v / 128) (by rw [Nat.div_lt_iff_lt_mul (by omega)]; rwa [Nat.pow_succ] at h)
      simp; omega

/-- what codec.Get comes to, at byte i, with v so far: the number, how many bytes, the error -/
def getGo (i v : Nat) : List UInt8 → Nat × Nat × Nat
  | [] => (0, 0, if 10 ≤ i then 9 else 7)
  | c :: r =>
    if 10 ≤ i then (0, 0, 9)
    else if 128 ≤ c.toNat then getGo (i + 1) (v + c.toNat % 128 * 128 ^ i % 18446744073709551616) r
    else if (0 < i ∧ c.toNat = 0) ∨ (i = 9 ∧ 1 < c.toNat) then (0, 0, 9)
    else (v + c.toNat % 128 * 128 ^ i % 18446744073709551616, i + 1, 0)

theorem get_grows {V k c : Nat} (hV : V < 128 ^ k) : V + c % 128 * 128 ^ k % 18446744073709551616 < 128 ^ (k + 1) := by
  have h1 := Nat.mod_le (c % 128 * 128 ^ k) 18446744073709551616
  have h2 : c % 128 * 128 ^ k ≤ 127 * 128 ^ k := Nat.mul_le_mul_right _ (by omega)
  rw [Nat.pow_succ]
  omega

theorem getGo_more {k V : Nat} {l : List UInt8} (h : k < l.length) (h10 : k < 10) (hc : 128 ≤ (l.getD k 0).toNat) :
    getGo k V (l.drop k) = getGo (k + 1) (V + (l.getD k 0).toNat % 128 * 128 ^ k % 18446744073709551616) (l.drop (k + 1)) := by
  have e : l.drop k = l.getD k 0 :: l.drop (k + 1) := by
    rw [List.drop_eq_getElem_cons h]; simp [h]
  rw [e, getGo, if_neg (by omega), if_pos hc]

theorem getGo_bad {k V : Nat} {l : List UInt8} (h : k < l.length) (h10 : k < 10) (hc : ¬ 128 ≤ (l.getD k 0).toNat) (hb : (0 < k ∧ (l.getD k 0).toNat = 0) ∨ (k = 9 ∧ 1 < (l.getD k 0).toNat)) :
    getGo k V (l.drop k) = (0, 0, 9) := by
  have e : l.drop k = l.getD k 0 :: l.drop (k + 1) := by
    rw [List.drop_eq_getElem_cons h]; simp [h]
  rw [e, getGo, if_neg (by omega), if_neg hc, if_pos hb]

theorem getGo_good {k V : Nat} {l : List UInt8} (h : k < l.length) (h10 : k < 10) (hc : ¬ 128 ≤ (l.getD k 0).toNat) (hb : ¬ ((0 < k ∧ (l.getD k 0).toNat = 0) ∨ (k = 9 ∧ 1 < (l.getD k 0).toNat))) :
    getGo k V (l.drop k) = (V + (l.getD k 0).toNat % 128 * 128 ^ k % 18446744073709551616, k + 1, 0) := by
  have e : l.drop k = l.getD k 0 :: l.drop (k + 1) := by
    rw [List.drop_eq_getElem_cons h]; simp [h]
  rw [e, getGo, if_neg (by omega), if_neg hc, if_neg hb]

theorem getGo_end {k V : Nat} {l : List UInt8} (h : l.length ≤ k) : getGo k V (l.drop k) = (0, 0, if 10 ≤ k then 9 else 7) := by
  rw [List.drop_of_length_le h, getGo]

theorem getGo_ten {V : Nat} {l : List UInt8} : getGo 10 V (l.drop 10) = (0, 0, 9) := by
  cases l.drop 10 with
  | nil => rfl
  | cons c r => rw [getGo, if_pos (by omega)]

theorem getGo_enc_go (k : Nat) : ∀ (i N V : Nat) (r : List UInt8), N < 128 ^ (k + 1) → i + k ≤ 9 → (i = 0 ∨ 0 < N) → V + N * 128 ^ i < 18446744073709551616 →
    getGo i V (enc N ++ r) = (V + N * 128 ^ i, i + (enc N).length, 0) := by
  have small : ∀ (i N V : Nat) (r : List UInt8), N < 128 → i ≤ 9 → (i = 0 ∨ 0 < N) → V + N * 128 ^ i < 18446744073709551616 →
      getGo i V (enc N ++ r) = (V + N * 128 ^ i, i + (enc N).length, 0) := by
    intro i N V r hN hi h0 hb
    have hc : (UInt8.ofNat N).toNat = N := by simp; omega
    have h9 : ¬ (i = 9 ∧ 1 < N) := by
      rintro ⟨rfl, h1⟩
      have : 2 * 128 ^ 9 ≤ N * 128 ^ 9 := Nat.mul_le_mul_right _ h1
      have e : 2 * 128 ^ 9 = 18446744073709551616 := by decide
      omega
    rw [enc_lt hN]
    simp only [List.singleton_append, List.length_singleton, getGo, hc]
    rw [if_neg (by omega), if_neg (by omega), if_neg (by omega), Nat.mod_eq_of_lt hN, Nat.mod_eq_of_lt (by omega)]
  induction k with
  | zero =>
    intro i N V r hN hi h0 hb
    exact small i N V r (by simpa using hN) (by omega) h0 hb
  | succ k ih =>
    intro i N V r hN hi h0 hb
    by_cases h : N < 128
    · exact small i N V r h (by omega) h0 hb
    · have hc : (UInt8.ofNat (N % 128 + 128)).toNat = N % 128 + 128 := by simp; omega
      have e1 : N % 128 * 128 ^ i + N / 128 * 128 ^ (i + 1) = N * 128 ^ i := by
        rw [Nat.pow_succ, Nat.mul_comm (128 ^ i) 128, ← Nat.mul_assoc, ← Nat.add_mul]
        congr 1
        omega
      rw [enc_ge h]
      simp only [List.cons_append, getGo, hc, List.length_cons]
      rw [if_neg (by omega), if_pos (by omega), show (N % 128 + 128) % 128 = N % 128 by omega, Nat.mod_eq_of_lt (a := N % 128 * 128 ^ i) (by omega)]
      rw [ih (i + 1) (N / 128) _ r (by rw [Nat.div_lt_iff_lt_mul (by omega)]; rwa [Nat.pow_succ] at hN) (by omega) (.inr (by omega)) (by omega)]
      refine Prod.ext ?_ (Prod.ext ?_ rfl) <;> simp only <;> omega

/-- a key's bytes, each 0 followed by 255 -/
def esc : List UInt8 → List UInt8
  | [] => []
  | c :: r => if c = 0 then c :: 255 :: esc r else c :: esc r

theorem esc_append (a b : List UInt8) : esc (a ++ b) = esc a ++ esc b := by
  induction a with
  | nil => rfl
  | cons c r ih =>
    rw [List.cons_append, esc, esc, ih]
    split <;> rfl

theorem esc_length (a : List UInt8) : (esc a).length ≤ 2 * a.length := by
  induction a with
  | nil => simp [esc]
  | cons c r ih => rw [esc]; split <;> simp <;> omega

theorem esc_snoc0 (l : List UInt8) (c : UInt8) (h : c = 0) : esc (l ++ [c]) = esc l ++ [c, 255] := by
  rw [esc_append]; simp [esc, h]
theorem esc_snoc1 (l : List UInt8) (c : UInt8) (h : ¬ c = 0) : esc (l ++ [c]) = esc l ++ [c] := by
  rw [esc_append]; simp [esc, h]

/-- byte number i (from the low end) of a revision, turned round -/
def revByte (rev i : Nat) : UInt8 := UInt8.ofNat (255 - rev / 256 ^ i % 256)
theorem revByte_up (rev k : Nat) (hr : rev < 18446744073709551616) (hk : k < 8) : (18446744073709551615 - rev) / 256 ^ k % 256 = (revByte rev k).toNat := by
  have h : (18446744073709551615 - rev) / 256 ^ k % 256 = 255 - rev / 256 ^ k % 256 := by
    match k, hk with
    | 0, _ => simp only [Nat.pow_zero, Nat.div_one]; omega
    | 1, _ => simp only [show (256 : Nat) ^ 1 = 256 from rfl]; omega
    | 2, _ => simp only [show (256 : Nat) ^ 2 = 65536 from rfl]; omega
    | 3, _ => simp only [show (256 : Nat) ^ 3 = 16777216 from rfl]; omega
    | 4, _ => simp only [show (256 : Nat) ^ 4 = 4294967296 from rfl]; omega
    | 5, _ => simp only [show (256 : Nat) ^ 5 = 1099511627776 from rfl]; omega
    | 6, _ => simp only [show (256 : Nat) ^ 6 = 281474976710656 from rfl]; omega
    | 7, _ => simp only [show (256 : Nat) ^ 7 = 72057594037927936 from rfl]; omega
  rw [h, revByte]
  simp
  omega

/-- the first k of the eight bytes -/
def revBytes (rev : Nat) : Nat → List UInt8
  | 0 => []
  | k + 1 => revBytes rev k ++ [revByte rev (7 - k)]

theorem revBytes_length (rev k : Nat) : (revBytes rev k).length = k := by
  induction k with
  | zero => rfl
  | succ k ih => simp [revBytes, ih]

/-- an inner key up to k bytes of the revision -/
def innTo (key : List UInt8) (rev k : Nat) : List UInt8 := esc key ++ [0, 1] ++ revBytes rev k
theorem innTo_succ (key : List UInt8) (rev k : Nat) : innTo key rev (k + 1) = innTo key rev k ++ [revByte rev (7 - k)] := by
  simp [innTo, revBytes]
theorem innTo_length (key : List UInt8) (rev k : Nat) : (innTo key rev k).length = (esc key).length + 2 + k := by
  simp [innTo, revBytes_length]; omega

/-- an entry's inner key -/
def inner (key : List UInt8) (rev : Nat) (del : Bool) : List UInt8 := innTo key rev 8 ++ [if del then 0 else 1]
end Go.Proofs.YtlibncefiibgaaaDoor

/- Layer 2: inner keys stand in order as entries do. -/
namespace Go.Proofs.YtlibncefiibgaaaDoor
open Go

theorem less_same (p r s : List UInt8) : Op.bytesLess (p ++ r) (p ++ s) = Op.bytesLess r s := by
  induction p with
  | nil => rfl
  | cons c p ih =>
    have h : ¬ c < c := fun h => Nat.lt_irrefl _ (UInt8.lt_iff_toNat_lt.1 h)
    simp [Op.bytesLess, ih, h]

theorem less_cons (c d : UInt8) (r s : List UInt8) : Op.bytesLess (c :: r) (d :: s) = (c < d || (c == d && Op.bytesLess r s)) := rfl

/-- keys, each behind its end mark, and what follows -/
theorem less_esc (p q r s : List UInt8) :
    Op.bytesLess (esc p ++ ([0, 1] ++ r)) (esc q ++ ([0, 1] ++ s)) = (Op.bytesLess p q || (p == q && Op.bytesLess r s)) := by
  induction p generalizing q with
  | nil =>
    cases q with
    | nil => simp [esc, Op.bytesLess]
    | cons d q =>
      by_cases hd : d = 0
      · subst hd
        simp [esc, Op.bytesLess]
      · have h0 : (0 : UInt8) < d := by
          rw [UInt8.lt_iff_toNat_lt]
          have : d.toNat ≠ 0 := fun e => hd (UInt8.toNat_inj.1 (by simpa using e))
          simp; omega
        simp [esc, hd, Op.bytesLess, h0]
  | cons c p ih =>
    cases q with
    | nil =>
      by_cases hc : c = 0
      · subst hc
        simp [esc, Op.bytesLess]
      · have h0 : ¬ c < 0 := by
          rw [UInt8.lt_iff_toNat_lt]; simp
        simp [esc, hc, Op.bytesLess]
    | cons d q =>
      by_cases hcd : c = d
      · subst hcd
        have hlt : ¬ c < c := fun h => Nat.lt_irrefl _ (UInt8.lt_iff_toNat_lt.1 h)
        have ih' : Op.bytesLess (esc p ++ 0 :: 1 :: r) (esc q ++ 0 :: 1 :: s) = (Op.bytesLess p q || (p == q && Op.bytesLess r s)) := by simpa using ih q
        by_cases hc : c = 0
        · subst hc
          simp [esc, Op.bytesLess, ih']
        · simp [esc, hc, Op.bytesLess, ih', hlt]
      · have hne : (c == d) = false := by simpa using hcd
        by_cases hc : c = 0
        · subst hc
          have hd : ¬ d = 0 := fun e => hcd e.symm
          have h0 : (0 : UInt8) < d := by
            rw [UInt8.lt_iff_toNat_lt]
            have : d.toNat ≠ 0 := fun e => hd (UInt8.toNat_inj.1 (by simpa using e))
            simp; omega
          simp [esc, hd, Op.bytesLess, h0]
        · by_cases hd : d = 0
          · subst hd
            simp [esc, hc, Op.bytesLess, hne]
          · simp [esc, hc, hd, Op.bytesLess, hne]

/-- what stands in front, where both have as much of it -/
theorem less_front (p q r s : List UInt8) (h : p.length = q.length) : Op.bytesLess (p ++ r) (q ++ s) = (Op.bytesLess p q || (p == q && Op.bytesLess r s)) := by
  induction p generalizing q with
  | nil =>
    cases q with
    | nil => simp [Op.bytesLess]
    | cons d q => simp at h
  | cons c p ih =>
    cases q with
    | nil => simp at h
    | cons d q =>
      have ih' := ih q (by simpa using h)
      simp only [List.cons_append, less_cons, ih']
      by_cases hcd : c = d
      · subst hcd
        have hlt : ¬ c < c := fun h => Nat.lt_irrefl _ (UInt8.lt_iff_toNat_lt.1 h)
        simp [hlt]
      · have hne : (c == d) = false := by simpa using hcd
        simp [hne]

/-- the number that the first k of the eight bytes make -/
def top (rev k : Nat) : Nat := (18446744073709551615 - rev) / 256 ^ (8 - k)

theorem top_succ (rev k : Nat) (hk : k < 8) (hr : rev < 18446744073709551616) : top rev (k + 1) = top rev k * 256 + (revByte rev (7 - k)).toNat := by
  have h1 := (revByte_up rev (7 - k) hr (by omega)).symm
  have h2 : 256 ^ (8 - k) = 256 ^ (7 - k) * 256 := by rw [← Nat.pow_succ]; congr 1; omega
  unfold top
  rw [h1, h2, ← Nat.div_div_eq_div_mul, show 8 - (k + 1) = 7 - k by omega]
  omega

theorem rev_less (a b : Nat) (ha : a < 18446744073709551616) (hb : b < 18446744073709551616) (k : Nat) (hk : k ≤ 8) :
    Op.bytesLess (revBytes a k) (revBytes b k) = decide (top a k < top b k) ∧ (revBytes a k == revBytes b k) = decide (top a k = top b k) := by
  induction k with
  | zero =>
    have h1 : top a 0 = 0 := by unfold top; rw [Nat.div_eq_zero_iff]; right; show _ < 256 ^ 8; omega
    have h2 : top b 0 = 0 := by unfold top; rw [Nat.div_eq_zero_iff]; right; show _ < 256 ^ 8; omega
    simp [revBytes, Op.bytesLess, h1, h2]
  | succ k ih =>
    obtain ⟨i1, i2⟩ := ih (by omega)
    have t1 := top_succ a k (by omega) ha
    have t2 := top_succ b k (by omega) hb
    have c1 := (revByte a (7 - k)).toNat_lt
    have c2 := (revByte b (7 - k)).toNat_lt
    have hl : (revBytes a k).length = (revBytes b k).length := by rw [revBytes_length, revBytes_length]
    constructor
    · rw [revBytes, revBytes, less_front _ _ _ _ hl, i1, i2]
      rw [Bool.eq_iff_iff]
      simp [Op.bytesLess, UInt8.lt_iff_toNat_lt]
      omega
    · rw [revBytes, revBytes, Bool.eq_iff_iff]
      have i3 : revBytes a k = revBytes b k ↔ top a k = top b k := by
        rw [Bool.eq_iff_iff] at i2; simpa using i2
      have i4 : revByte a (7 - k) = revByte b (7 - k) ↔ (revByte a (7 - k)).toNat = (revByte b (7 - k)).toNat := UInt8.toNat_inj.symm
      have i5 : revBytes a k ++ [revByte a (7 - k)] = revBytes b k ++ [revByte b (7 - k)] ↔ revBytes a k = revBytes b k ∧ revByte a (7 - k) = revByte b (7 - k) := by
        constructor
        · intro h
          obtain ⟨h1, h2⟩ := List.append_inj h hl
          exact ⟨h1, by simpa using h2⟩
        · rintro ⟨h1, h2⟩
          rw [h1, h2]
      simp only [beq_iff_eq, decide_eq_true_eq]
      rw [i5, i3, i4]
      omega

/-- does an entry stand ahead of another one? -/
def lessE (p q : List UInt8) (a b : Nat) (x y : Bool) : Bool := if p == q then (if a = b then x && !y else decide (b < a)) else Op.bytesLess p q

theorem less_inner (p q : List UInt8) (a b : Nat) (x y : Bool) (ha : a < 18446744073709551616) (hb : b < 18446744073709551616) :
    Op.bytesLess (inner p a x) (inner q b y) = lessE p q a b x y := by
  have hl : (revBytes a 8).length = (revBytes b 8).length := by rw [revBytes_length, revBytes_length]
  obtain ⟨h1, h2⟩ := rev_less a b ha hb 8 (by omega)
  have t1 : top a 8 = 18446744073709551615 - a := by simp [top]
  have t2 : top b 8 = 18446744073709551615 - b := by simp [top]
  rw [inner, inner, innTo, innTo]
  simp only [List.append_assoc]
  rw [less_esc, less_front _ _ _ _ hl, h1, h2, t1, t2, lessE]
  by_cases hpq : p = q
  · subst hpq
    have hs : Op.bytesLess p p = false := by
      have := less_same p [] []
      simpa [Op.bytesLess] using this
    simp only [hs, beq_self_eq_true, Bool.true_and, Bool.false_or, if_true]
    by_cases hab : a = b
    · subst hab
      cases x <;> cases y <;> simp [Op.bytesLess]
    · rw [if_neg hab]
      have e1 : decide (18446744073709551615 - a = 18446744073709551615 - b) = false := by simp; omega
      rw [e1, Bool.false_and, Bool.or_false]
      rw [Bool.eq_iff_iff]
      simp
      omega
  · have hne : (p == q) = false := by simpa using hpq
    simp [hne]

theorem less_irrefl (l : List UInt8) : Op.bytesLess l l = false := by
  have := less_same l [] []
  simpa [Op.bytesLess] using this

theorem less_total (p q : List UInt8) (h : Op.bytesLess p q = false) (k : Op.bytesLess q p = false) : p = q := by
  induction p generalizing q with
  | nil => cases q with
    | nil => rfl
    | cons d q => simp [Op.bytesLess] at h
  | cons c p ih =>
    cases q with
    | nil => simp [Op.bytesLess] at k
    | cons d q =>
      simp only [Op.bytesLess, Bool.or_eq_false_iff, decide_eq_false_iff_not, UInt8.lt_iff_toNat_lt] at h k
      have e : c = d := UInt8.toNat_inj.1 (by omega)
      subst e
      simp only [beq_self_eq_true, Bool.true_and] at h k
      rw [ih q h.2 k.2]

theorem inner_inj (p q : List UInt8) (a b : Nat) (x y : Bool) (ha : a < 18446744073709551616) (hb : b < 18446744073709551616) :
    inner p a x = inner q b y ↔ p = q ∧ a = b ∧ x = y := by
  constructor
  · intro h
    have h1 : lessE p q a b x y = false := by rw [← less_inner p q a b x y ha hb, h, less_irrefl]
    have h2 : lessE q p b a y x = false := by rw [← less_inner q p b a y x hb ha, h, less_irrefl]
    by_cases hpq : p = q
    · subst hpq
      by_cases hab : a = b
      · subst hab
        cases x <;> cases y <;> simp [lessE] at h1 h2 ⊢
      · simp [lessE, hab, Ne.symm hab] at h1 h2
        omega
    · exfalso
      simp [lessE, hpq, Ne.symm hpq] at h1 h2
      exact hpq (less_total p q h1 h2)
  · rintro ⟨rfl, rfl, rfl⟩
    rfl
end Go.Proofs.YtlibncefiibgaaaDoor

/- A region that draws its order, shown by one fact an operation: what each leaves in its slot, in whatever world that has grown. -/
namespace Go.Proofs.YtlibncefiibgaaaDoor
open Go Go.RowKit

/-- The operation o, its operands being ρ's, yields in the world w a value of which R holds, with the world behind it. -/
def YieldsP (P : Program) (ρ : Operand → Value) (o : Oper) (w : World) (R : Value → World → Prop) : Prop :=
  match (execOp ρ o).run P w with
  | .ok (.value v) w' => R v w'
  | .ok .skip w' => R undef w'
  | .ok (.enter f args) w' => Calls P f args w' fun e w'' => ∃ v, e = .returned v ∧ R v w''
  | _ => False

/-- dsts are unlike and lie in the frame; edges lead back. -/
def drawnOk (l : List Oper) (n : Nat) : Bool :=
  (List.range l.length).all fun i =>
    match l[i]? with
    | none => false
    | some o => (o.after.all fun e => !Region.binds .any e || decide (e.on < i)) &&
        (match o.dst with
         | none => true
         | some d => decide (d < n) && (List.range l.length).all fun j => j == i || (match l[j]? with | some o' => o'.dst != some d | none => true)) &&
        (match o.guard with
         | none => true
         | some (j, _) => (o.after.any fun e => Region.binds .any e && e.on == j) && (match l[j]? with | some o' => o'.dst.isSome | none => false))

section
variable {P : Program} {id : Nat} {l : List Oper} {Q : Exit → Act → World → Prop} {a0 : Act} {w0 : World}

/-- what operation o leans on holds of ρ -/
def Leans (l : List Oper) (F : Nat → Value → World → Prop) (o : Oper) (ρ : Operand → Value) (w : World) : Prop :=
  ∀ j, (o.after.any fun e => Region.binds .any e && e.on == j) = true → ∀ d, (l[j]?).bind (·.dst) = some d → F j (ρ (.tmp d)) w

/-- ρ is the frame's, where no operation of the region writes. -/
structure Like (l : List Oper) (a0 : Act) (ρ : Operand → Value) : Prop where
  const : ∀ c, ρ (.const c) = c
  func : ∀ f, ρ (.func f) = .func (.func f) #[] #[]
  tmp : ∀ k, (l.all fun o => o.dst != some k) = true → ρ (.tmp k) = a0.tmps.getD k undef

structure Inv (l : List Oper) (F : Nat → Value → World → Prop) (a0 : Act) (w0 : World) (listed : Array Bool) (a : Act) (w : World) : Prop where
  defers : a.defers = a0.defers
  size : a.tmps.size = a0.tmps.size
  len : listed.size = l.length
  like : Like l a0 a.eval
  below : Below w0.heap.size w0 w
  facts : ∀ i o d, l[i]? = some o → o.dst = some d → listed.getD i true = true → F i (a.tmps.getD d undef) w

theorem drawnOk_at {n : Nat} (h : drawnOk l n = true) {i : Nat} {o : Oper} (hi : l[i]? = some o) :
    (∀ e ∈ o.after, Region.binds .any e = true → e.on < i) ∧ (∀ d, o.dst = some d → d < n ∧ ∀ j o', l[j]? = some o' → j ≠ i → o'.dst ≠ some d) ∧
    (∀ j b, o.guard = some (j, b) → (o.after.any fun e => Region.binds .any e && e.on == j) = true ∧ ∃ d, (l[j]?).bind (·.dst) = some d) := by
  have hlt : i < l.length := (List.getElem?_eq_some_iff.1 hi).1
  have h1 := List.all_eq_true.1 h i (List.mem_range.2 hlt)
  simp only [hi, Bool.and_eq_true] at h1
  obtain ⟨⟨h1, h2⟩, h3⟩ := h1
  refine ⟨fun e he hb => ?_, fun d hd => ?_, fun j b hg => ?_⟩
  · have := Array.all_eq_true_iff_forall_mem.1 h1 e he
    simpa [hb] using this
  · simp only [hd, Bool.and_eq_true, decide_eq_true_eq] at h2
    refine ⟨h2.1, fun j o' hj hne hdst => ?_⟩
    have hjl : j < l.length := (List.getElem?_eq_some_iff.1 hj).1
    have := List.all_eq_true.1 h2.2 j (List.mem_range.2 hjl)
    simp [hne, hj, hdst] at this
  · simp only [hg, Bool.and_eq_true] at h3
    refine ⟨h3.1, ?_⟩
    have h4 := h3.2
    cases hj : l[j]? with
    | none => simp [hj] at h4
    | some o' =>
      simp [hj] at h4
      obtain ⟨d, hd⟩ := Option.isSome_iff_exists.1 h4
      exact ⟨d, by simp [hd]⟩

theorem all_listed (hok : drawnOk l a0.tmps.size = true) {listed : Array Bool} (hl : listed.size = l.length) (hr : Region.ready .any l.toArray listed = []) :
    ∀ i, i < l.length → listed.getD i true = true := by
  intro i
  induction i using Nat.strongRecOn with
  | ind i ih =>
    intro hi
    by_cases hlist : listed.getD i true = true
    · exact hlist
    · exfalso
      have ho : l[i]? = some l[i] := List.getElem?_eq_getElem hi
      have h1 := (drawnOk_at hok ho).1
      have : i ∈ Region.ready .any l.toArray listed := by
        unfold Region.ready
        rw [List.mem_filter]
        refine ⟨List.mem_range.2 (by simpa using hi), ?_⟩
        simp only [Bool.and_eq_true, Bool.not_eq_true', List.getElem?_toArray, ho, Option.map_some, Option.getD_some]
        refine ⟨by simpa using hlist, ?_⟩
        rw [Array.all_eq_true_iff_forall_mem]
        intro e he
        by_cases hb : Region.binds .any e = true
        · have hlt := h1 e he hb
          have := ih e.on hlt (by omega)
          have hsz : e.on < listed.size := by omega
          simp [Array.getD, hsz] at this ⊢
          right
          exact this
        · simp [hb]
      rw [hr] at this
      cases this

theorem getD_put {a : Act} {d k : Nat} {v : Value} (h : k ≠ d) : (a.put (some d) v).tmps.getD k undef = a.tmps.getD k undef := by
  simp [Act.put, Ne.symm h]

theorem getD_put_same {a : Act} {d : Nat} {v : Value} (h : d < a.tmps.size) : (a.put (some d) v).tmps.getD d undef = v := by
  simp [Act.put, h]

theorem Inv.step {F : Nat → Value → World → Prop} (hF : ∀ i v w w', F i v w → Below w.heap.size w w' → F i v w') (hok : drawnOk l a0.tmps.size = true)
    {listed : Array Bool} {a : Act} {w w' : World} (h : Inv l F a0 w0 listed a w) {i : Nat} {o : Oper} (hi : l[i]? = some o) {v : Value} (hv : F i v w') (hb : Below w.heap.size w w') :
    Inv l F a0 w0 (listed.setIfInBounds i true) (a.put o.dst v) w' := by
  obtain ⟨_, h2, _⟩ := drawnOk_at hok hi
  refine ⟨?_, ?_, by simpa using h.len, ⟨fun c => rfl, fun f => rfl, fun k hk => ?_⟩, h.below.trans (hb.mono h.below.size), fun j o' d hj hd hl => ?_⟩
  · cases o.dst <;> exact h.defers
  · cases hd : o.dst with
    | none => exact h.size
    | some d => simpa [Act.put] using h.size
  · show (a.put o.dst v).tmps.getD k undef = _
    cases hd : o.dst with
    | none => exact h.like.tmp k hk
    | some d =>
      have hne : k ≠ d := by
        have := List.all_eq_true.1 hk o (List.mem_of_getElem? hi)
        simp [hd] at this
        exact fun e => this e.symm
      rw [getD_put hne]
      exact h.like.tmp k hk
  · by_cases hji : j = i
    · subst hji
      rw [hi] at hj
      cases hj
      obtain ⟨h3, _⟩ := h2 d hd
      rw [hd, getD_put_same (by rw [h.size]; exact h3)]
      exact hv
    · have hl' : listed.getD j true = true := by
        simp only [Array.getD_eq_getD_getElem?, Array.getElem?_setIfInBounds] at hl ⊢
        rw [if_neg (fun e => hji e.symm)] at hl
        exact hl
      have := hF _ _ _ _ (h.facts j o' d hj hd hl') hb
      cases hdo : o.dst with
      | none => exact this
      | some d' =>
        have hne : d ≠ d' := by
          intro e
          subst e
          exact (h2 d hdo).2 j o' hj hji hd
        rw [getD_put hne]
        exact this

theorem wp_of_yields {o : Oper} {a : Act} {w : World} {K : Act → World → Prop} {R : Value → World → Prop} (hy : YieldsP P a.eval o w R) (hK : ∀ v w', R v w' → K (a.put o.dst v) w') : o.wp P a w K Q := by
  unfold Oper.wp
  unfold YieldsP at hy
  generalize (execOp a.eval o).run P w = r at hy
  cases r with
  | ok n w' =>
    cases n <;> simp only at hy
    case value u => exact hK _ _ hy
    case skip => exact hK _ _ hy
    case enter f args => exact hy.mono fun e w'' ⟨v, he, hr⟩ => by subst he; exact hK _ _ hr
  | halt x w' => simp only at hy

theorem wpAny_of_facts {F : Nat → Value → World → Prop} (hF : ∀ i v w w', F i v w → Below w.heap.size w w' → F i v w') (hok : drawnOk l a0.tmps.size = true) (G : Nat → Bool)
    (hop : ∀ (i : Nat) (o : Oper), l[i]? = some o → ∀ ρ w, Like l a0 ρ → Below w0.heap.size w0 w → Leans l F o ρ w → if G i = true then YieldsP P ρ o w (fun v w' => F i v w' ∧ Below w.heap.size w w') else F i undef w)
    (hguard : ∀ (i : Nat) (o : Oper), l[i]? = some o → match o.guard with | none => G i = true | some (j, b) => ∀ v w, F j v w → ∃ b', v = .bool b' ∧ (b' == b) = G i)
    (hend : ∀ a w, a.defers = a0.defers → a.tmps.size = a0.tmps.size → Like l a0 a.eval → Below w0.heap.size w0 w → (∀ (i : Nat) (o : Oper) (d : Nat), l[i]? = some o → o.dst = some d → F i (a.tmps.getD d undef) w) → Q .normal a w) :
    ∀ (fuel : Nat) (listed : Array Bool) (a : Act) (w : World), (listed.toList.countP (· == false)) ≤ fuel → Inv l F a0 w0 listed a w → wpAny P .any l.toArray Q fuel listed a w := by
  have fin : ∀ (listed : Array Bool) (a : Act) (w : World), Inv l F a0 w0 listed a w → Region.ready .any l.toArray listed = [] → Q .normal a w := by
    intro listed a w h hr
    refine hend a w h.defers h.size h.like h.below fun i o d hi hd => h.facts i o d hi hd ?_
    exact all_listed hok h.len hr i (List.getElem?_eq_some_iff.1 hi).1
  intro fuel
  induction fuel with
  | zero =>
    intro listed a w hc h
    have hr : Region.ready .any l.toArray listed = [] := by
      unfold Region.ready
      rw [List.filter_eq_nil_iff]
      intro i hi
      have hil : i < listed.size := by rw [h.len]; simpa using hi
      have h0 : listed.toList.countP (· == false) = 0 := by omega
      rw [List.countP_eq_zero] at h0
      have := h0 listed[i] (by simp)
      simp [Array.getD, hil] at this ⊢
      simp [this]
    exact ⟨hr, fin listed a w h hr⟩
  | succ fuel ih =>
    intro listed a w hc h
    refine ⟨fin listed a w h, fun i hi => ?_⟩
    unfold Region.ready at hi
    rw [List.mem_filter] at hi
    obtain ⟨hi1, hi2⟩ := hi
    have hil : i < l.length := by simpa using hi1
    have ho : l[i]? = some l[i] := List.getElem?_eq_getElem hil
    simp only [Bool.and_eq_true, Bool.not_eq_true', List.getElem?_toArray, ho, Option.map_some, Option.getD_some] at hi2
    obtain ⟨hnl, haft⟩ := hi2
    rw [Array.all_eq_true_iff_forall_mem] at haft
    have hls : i < listed.size := by rw [h.len]; exact hil
    have hleans : Leans l F l[i] a.eval w := by
      intro j hj d hd
      rw [Array.any_eq_true'] at hj
      obtain ⟨e, he, hej⟩ := hj
      simp only [Bool.and_eq_true, beq_iff_eq] at hej
      obtain ⟨hb, rfl⟩ := hej
      have hle := haft e he
      rw [hb] at hle
      obtain ⟨oj, hoj, hdj⟩ := Option.bind_eq_some_iff.1 hd
      refine h.facts e.on oj d hoj hdj ?_
      have hjl : e.on < listed.size := by rw [h.len]; exact (List.getElem?_eq_some_iff.1 hoj).1
      simp [Array.getD, hjl] at hle ⊢
      exact hle
    have hcount : ((listed.setIfInBounds i true).toList.countP (· == false)) ≤ fuel := by
      have hli : listed.toList[i]'(by simpa using hls) = false := by
        simp [Array.getD, hls] at hnl
        simpa using hnl
      rw [Array.toList_setIfInBounds, List.countP_set (h := by simpa using hls), hli]
      have hpos : 0 < listed.toList.countP (· == false) := List.countP_pos_iff.2 ⟨false, by rw [← hli]; exact List.getElem_mem _, rfl⟩
      rw [if_pos (by decide), if_neg (by decide)]
      omega
    have hstep := fun (v : Value) (w' : World) (hv : F i v w') (hb : Below w.heap.size w w') => ih (listed.setIfInBounds i true) (a.put l[i].dst v) w' hcount (h.step hF hok ho hv hb)
    have hO := hop i l[i] ho a.eval w h.like h.below hleans
    have hGd := hguard i l[i] ho
    unfold wpOp
    simp only [List.getElem?_toArray, ho]
    have hw : Region.wanted l[i] (yielded l.toArray a.tmps) = G i := by
      unfold Region.wanted
      cases hg : l[i].guard with
      | none => simp only [hg] at hGd; exact hGd.symm
      | some jb =>
        obtain ⟨j, b⟩ := jb
        simp only [hg] at hGd
        obtain ⟨hbind, d, hd⟩ := (drawnOk_at hok ho).2.2 j b hg
        obtain ⟨b', hv', hbb⟩ := hGd _ _ (hleans j hbind d hd)
        obtain ⟨oj, hoj, hdj⟩ := Option.bind_eq_some_iff.1 hd
        have hdlt := ((drawnOk_at hok hoj).2.1 d hdj).1
        have hsz : d < a.tmps.size := by rw [h.size]; exact hdlt
        have hval : a.tmps[d]? = some (.bool b') := by
          rw [Array.getElem?_eq_getElem hsz]
          have : a.eval (.tmp d) = a.tmps[d] := by simp [Act.eval, Array.getD, hsz]
          rw [← this, hv']
        simp only [yielded, List.getElem?_toArray, hoj, Option.bind_some, hdj, hval]
        rw [← hbb]
        cases b' <;> cases b <;> rfl
    rw [hw]
    by_cases hG : G i = true
    · rw [if_pos hG] at hO ⊢
      exact .inl (wp_of_yields hO fun v w' hr => hstep v w' hr.1 hr.2)
    · rw [if_neg hG] at hO ⊢
      exact hstep undef w hO (Below.refl _ _)

/-- THE REGION. -/
theorem wp_region_facts (hm : P.follows .mixedOrders = true) {F : Nat → Value → World → Prop} (hF : ∀ i v w w', F i v w → Below w.heap.size w w' → F i v w') (hok : drawnOk l a0.tmps.size = true) (G : Nat → Bool)
    (hop : ∀ (i : Nat) (o : Oper), l[i]? = some o → ∀ ρ w, Like l a0 ρ → Below w0.heap.size w0 w → Leans l F o ρ w → if G i = true then YieldsP P ρ o w (fun v w' => F i v w' ∧ Below w.heap.size w w') else F i undef w)
    (hguard : ∀ (i : Nat) (o : Oper), l[i]? = some o → match o.guard with | none => G i = true | some (j, b) => ∀ v w, F j v w → ∃ b', v = .bool b' ∧ (b' == b) = G i)
    (hend : ∀ a w, a.defers = a0.defers → a.tmps.size = a0.tmps.size → Like l a0 a.eval → Below w0.heap.size w0 w → (∀ (i : Nat) (o : Oper) (d : Nat), l[i]? = some o → o.dst = some d → F i (a.tmps.getD d undef) w) → Q .normal a w) :
    (Code.region id l.toArray true).wp P Q a0 w0 := by
  refine wp_region_any hm ?_
  refine wpAny_of_facts hF hok G hop hguard hend _ _ _ _ ?_ ⟨rfl, rfl, by simp, ⟨fun _ => rfl, fun _ => rfl, fun _ _ => rfl⟩, ⟨rfl, rfl, rfl, Nat.le_refl _, fun _ _ => rfl⟩, fun i o d hi _ hl => ?_⟩
  · exact Nat.le_trans List.countP_le_length (by simp)
  · have := (List.getElem?_eq_some_iff.1 hi).1
    simp [Array.getD, this] at hl

/-- A fact on a slot that goes on holding as the world grows. -/
structure SlotFact where
  p : Value → World → Prop
  stable : ∀ v w w', p v w → Below w.heap.size w w' → p v w'

/-- the slot holds x -/
def eqF (x : Value) : SlotFact := ⟨fun v _ => v = x, fun _ _ _ h _ => h⟩
def anyF : SlotFact := ⟨fun _ _ => True, fun _ _ _ _ _ => trivial⟩
def factsOf (fs : List SlotFact) (i : Nat) : Value → World → Prop := ((fs[i]?).getD anyF).p

theorem factsOf_stable (fs : List SlotFact) : ∀ i v w w', factsOf fs i v w → Below w.heap.size w w' → factsOf fs i v w' := fun _ v w w' h hb => SlotFact.stable _ v w w' h hb

def AllFrom (T : Nat → Oper → Prop) : Nat → List Oper → Prop
  | _, [] => True
  | i, o :: r => T i o ∧ AllFrom T (i + 1) r

theorem AllFrom.at {T : Nat → Oper → Prop} : ∀ {l : List Oper} {k : Nat}, AllFrom T k l → ∀ i o, l[i]? = some o → T (k + i) o
  | [], _, _, _, _, h => by simp at h
  | o :: r, k, h, i, o', hi => by
    cases i with
    | zero => simp at hi; subst hi; exact h.1
    | succ i =>
      have := AllFrom.at h.2 i o' (by simpa using hi)
      rwa [show k + 1 + i = k + (i + 1) by omega] at this

/-- what is to be shown of one operation -/
def OpGoal (P : Program) (l : List Oper) (fs : List SlotFact) (a0 : Act) (w0 : World) (i : Nat) (o : Oper) : Prop :=
  ∀ ρ w, Like l a0 ρ → Below w0.heap.size w0 w → Leans l (factsOf fs) o ρ w → YieldsP P ρ o w (fun v w' => factsOf fs i v w' ∧ Below w.heap.size w w')

def GuardGoal (fs : List SlotFact) (o : Oper) : Prop := match o.guard with | none => True | some (j, b) => ∀ v w, factsOf fs j v w → v = .bool b

/-- THE REGION, ALL OF WHOSE OPERATIONS ARE CARRIED OUT. -/
theorem wp_region_all (hm : P.follows .mixedOrders = true) (fs : List SlotFact) (hok : drawnOk l a0.tmps.size = true)
    (hop : AllFrom (OpGoal P l fs a0 w0) 0 l) (hguard : AllFrom (fun _ o => GuardGoal fs o) 0 l)
    (hend : ∀ a w, a.defers = a0.defers → a.tmps.size = a0.tmps.size → Like l a0 a.eval → Below w0.heap.size w0 w → (∀ (i : Nat) (o : Oper) (d : Nat), l[i]? = some o → o.dst = some d → factsOf fs i (a.tmps.getD d undef) w) → Q .normal a w) :
    (Code.region id l.toArray true).wp P Q a0 w0 := by
  refine wp_region_facts hm (factsOf_stable fs) hok (fun _ => true) (fun i o hi ρ w h1 h2 h3 => ?_) (fun i o hi => ?_) hend
  · rw [if_pos rfl]
    have := hop.at i o hi
    rw [Nat.zero_add] at this
    exact this ρ w h1 h2 h3
  · have := hguard.at i o hi
    unfold GuardGoal at this
    cases hg : o.guard with
    | none => rfl
    | some jb =>
      obtain ⟨j, b⟩ := jb
      simp only [hg] at this ⊢
      intro v w hv
      exact ⟨b, this v w hv, by simp⟩

theorem y_val {ρ : Operand → Value} {o : Oper} {w : World} {v : Value} {p : Value → World → Prop} (h : (execOp ρ o).run P w = .ok (.value v) w) (hp : p v w) : YieldsP P ρ o w (fun u w' => p u w' ∧ Below w.heap.size w w') := by
  unfold YieldsP
  rw [h]
  exact ⟨hp, Below.refl _ _⟩

theorem y_call {ρ : Operand → Value} {o : Oper} {w : World} {f : FuncId} {args : Array Value} {p : Value → World → Prop} (h : (execOp ρ o).run P w = .ok (.enter f args) w) (hc : Calls P f args w fun e w'' => ∃ v, e = .returned v ∧ p v w'' ∧ Below w.heap.size w w'') : YieldsP P ρ o w (fun u w' => p u w' ∧ Below w.heap.size w w') := by
  unfold YieldsP
  rw [h]
  exact hc
end

/-- the slot holds a slice of the bytes l -/
def bytesF (l : List UInt8) : SlotFact := ⟨fun v w => ∃ n, Reads w 1 v n (bcells l), fun _ _ _ ⟨n, h⟩ hb => ⟨n, h.below' hb⟩⟩
end Go.Proofs.YtlibncefiibgaaaDoor

/- A region that draws its order, shown by an invariant over what has been carried out. -/
namespace Go.Proofs.YtlibncefiibgaaaDoor
open Go Go.RowKit

section
variable {P : Program} {id : Nat} {l : List Oper} {Q : Exit → Act → World → Prop} {a0 : Act} {w0 : World}

theorem wpAny_of_inv (hok : drawnOk l a0.tmps.size = true) (hung : l.all (·.guard.isNone) = true) (J : (Nat → Bool) → Act → World → Prop)
    (hstep : ∀ (i : Nat) (o : Oper), l[i]? = some o → ∀ (L : Nat → Bool) (a : Act) (w : World), L i = false → (∀ j, (o.after.any fun e => Region.binds .any e && e.on == j) = true → L j = true) → J L a w → o.wp P a w (fun a' w' => ∀ L' : Nat → Bool, (∀ k, L' k = if k = i then true else L k) → J L' a' w') Q)
    (hend : ∀ (L : Nat → Bool) (a : Act) (w : World), (∀ i, i < l.length → L i = true) → J L a w → Q .normal a w) :
    ∀ (fuel : Nat) (listed : Array Bool) (a : Act) (w : World), listed.size = l.length → (listed.toList.countP (· == false)) ≤ fuel → J (fun i => listed.getD i true) a w → wpAny P .any l.toArray Q fuel listed a w := by
  have fin : ∀ (listed : Array Bool) (a : Act) (w : World), listed.size = l.length → J (fun i => listed.getD i true) a w → Region.ready .any l.toArray listed = [] → Q .normal a w := by
    intro listed a w hl h hr
    exact hend _ a w (fun i hi => all_listed hok hl hr i hi) h
  intro fuel
  induction fuel with
  | zero =>
    intro listed a w hl hc h
    have hr : Region.ready .any l.toArray listed = [] := by
      unfold Region.ready
      rw [List.filter_eq_nil_iff]
      intro i hi
      have hil : i < listed.size := by rw [hl]; simpa using hi
      have h0 : listed.toList.countP (· == false) = 0 := by omega
      rw [List.countP_eq_zero] at h0
      have := h0 listed[i] (by simp)
      simp [Array.getD, hil] at this ⊢
      simp [this]
    exact ⟨hr, fin listed a w hl h hr⟩
  | succ fuel ih =>
    intro listed a w hl hc h
    refine ⟨fin listed a w hl h, fun i hi => ?_⟩
    unfold Region.ready at hi
    rw [List.mem_filter] at hi
    obtain ⟨hi1, hi2⟩ := hi
    have hil : i < l.length := by simpa using hi1
    have ho : l[i]? = some l[i] := List.getElem?_eq_getElem hil
    simp only [Bool.and_eq_true, Bool.not_eq_true', List.getElem?_toArray, ho, Option.map_some, Option.getD_some] at hi2
    obtain ⟨hnl, haft⟩ := hi2
    rw [Array.all_eq_true_iff_forall_mem] at haft
    have hls : i < listed.size := by rw [hl]; exact hil
    have hprev : ∀ j, (l[i].after.any fun e => Region.binds .any e && e.on == j) = true → listed.getD j true = true := by
      intro j hj
      rw [Array.any_eq_true'] at hj
      obtain ⟨e, he, hej⟩ := hj
      simp only [Bool.and_eq_true, beq_iff_eq] at hej
      obtain ⟨hb, rfl⟩ := hej
      have hle := haft e he
      rw [hb] at hle
      by_cases hjl : e.on < listed.size
      · simp [Array.getD, hjl] at hle ⊢
        exact hle
      · simp [Array.getD, hjl]
    have hcount : ((listed.setIfInBounds i true).toList.countP (· == false)) ≤ fuel := by
      have hli : listed.toList[i]'(by simpa using hls) = false := by
        simp [Array.getD, hls] at hnl
        simpa using hnl
      rw [Array.toList_setIfInBounds, List.countP_set (h := by simpa using hls), hli]
      have hpos : 0 < listed.toList.countP (· == false) := List.countP_pos_iff.2 ⟨false, by rw [← hli]; exact List.getElem_mem _, rfl⟩
      rw [if_pos (by decide), if_neg (by decide)]
      omega
    have hLi : listed.getD i true = false := by
      simp [Array.getD, hls] at hnl ⊢
      exact hnl
    have hs := hstep i l[i] ho _ a w hLi hprev h
    have hg : l[i].guard = none := by
      have := List.all_eq_true.1 hung l[i] (List.getElem_mem _)
      simpa using this
    unfold wpOp
    simp only [List.getElem?_toArray, ho]
    rw [if_pos (by unfold Region.wanted; rw [hg])]
    refine .inl (Oper.wp_mono (fun a' w' hJ => ?_) hs)
    refine ih _ a' w' (by simpa using hl) hcount (hJ _ fun k => ?_)
    by_cases hk : k = i
    · subst hk
      simp [Array.getD, hls]
    · simp only [Array.getD_eq_getD_getElem?, Array.getElem?_setIfInBounds]
      rw [if_neg (fun e => hk e.symm), if_neg hk]

theorem wp_region_inv (hm : P.follows .mixedOrders = true) (hok : drawnOk l a0.tmps.size = true) (hung : l.all (·.guard.isNone) = true) (J : (Nat → Bool) → Act → World → Prop)
    (hJ : ∀ L : Nat → Bool, (∀ i, i < l.length → L i = false) → J L a0 w0.drew)
    (hstep : ∀ (i : Nat) (o : Oper), l[i]? = some o → ∀ (L : Nat → Bool) (a : Act) (w : World), L i = false → (∀ j, (o.after.any fun e => Region.binds .any e && e.on == j) = true → L j = true) → J L a w → o.wp P a w (fun a' w' => ∀ L' : Nat → Bool, (∀ k, L' k = if k = i then true else L k) → J L' a' w') Q)
    (hend : ∀ (L : Nat → Bool) (a : Act) (w : World), (∀ i, i < l.length → L i = true) → J L a w → Q .normal a w) :
    (Code.region id l.toArray true).wp P Q a0 w0 := by
  refine wp_region_any hm ?_
  refine wpAny_of_inv hok hung J hstep hend _ _ _ _ (by simp) ?_ (hJ _ fun i hi => ?_)
  · exact Nat.le_trans List.countP_le_length (by simp)
  · simp [Array.getD, hi]
end
end Go.Proofs.YtlibncefiibgaaaDoor

/- Behind a region that draws its order, the frame is the one before it with the region's own slots put. -/
namespace Go.Proofs.YtlibncefiibgaaaDoor
open Go Go.RowKit

theorem act_ext {a b : Act} (hd : a.defers = b.defers) (hs : a.tmps.size = b.tmps.size) (h : ∀ k, k < a.tmps.size → a.tmps.getD k undef = b.tmps.getD k undef) : a = b := by
  cases a with
  | mk ta da =>
    cases b with
    | mk tb db =>
      simp only at hd hs h
      have ht : ta = tb := Array.ext hs fun k h1 h2 => by
        have := h k h1
        simpa [Array.getD, h1, h2] using this
      subst ht
      subst hd
      rfl

theorem size_put (a : Act) (d : Nat) (v : Value) : (a.put (some d) v).tmps.size = a.tmps.size := by simp [Act.put]
theorem defers_put (a : Act) (d : Nat) (v : Value) : (a.put (some d) v).defers = a.defers := rfl

def putAll (aa a : Act) (ds : List Nat) : Act := ds.foldl (fun a d => a.put (some d) (aa.tmps.getD d undef)) a

theorem putAll_spec (aa : Act) : ∀ (ds : List Nat) (a : Act), (putAll aa a ds).defers = a.defers ∧ (putAll aa a ds).tmps.size = a.tmps.size ∧
    ∀ k, k < a.tmps.size → (putAll aa a ds).tmps.getD k undef = if k ∈ ds then aa.tmps.getD k undef else a.tmps.getD k undef
  | [], a => ⟨rfl, rfl, fun k _ => by simp [putAll]⟩
  | d :: ds, a => by
    obtain ⟨h1, h2, h3⟩ := putAll_spec aa ds (a.put (some d) (aa.tmps.getD d undef))
    refine ⟨h1, h2.trans (size_put a d _), fun k hk => ?_⟩
    have := h3 k (by rw [size_put]; exact hk)
    show (putAll aa (a.put (some d) (aa.tmps.getD d undef)) ds).tmps.getD k undef = _
    rw [this]
    by_cases hkd : k = d
    · subst hkd
      rw [getD_put_same hk]
      simp
    · rw [getD_put hkd]
      simp [hkd]

theorem act_of_like {l : List Oper} {a0 aa : Act} (hdef : aa.defers = a0.defers) (hsz : aa.tmps.size = a0.tmps.size) (hlk : Like l a0 aa.eval) (ds : List Nat) (n : Nat) (hn : a0.tmps.size = n)
    (hds : ((List.range n).all fun k => ds.contains k || l.all fun o => o.dst != some k) = true) : aa = putAll aa a0 ds := by
  subst hn
  obtain ⟨h1, h2, h3⟩ := putAll_spec aa ds a0
  refine act_ext (hdef.trans h1.symm) (hsz.trans h2.symm) fun k hk => ?_
  rw [h3 k (by omega)]
  by_cases hkd : k ∈ ds
  · rw [if_pos hkd]
  · rw [if_neg hkd]
    have := List.all_eq_true.1 hds k (by simpa using (by omega : k < a0.tmps.size))
    have h4 := hlk.tmp k (by simpa [hkd] using this)
    exact h4
end Go.Proofs.YtlibncefiibgaaaDoor

namespace Go.Proofs.YtlibncefiibgaaaDoor
open Go Go.RowKit

def Six.base (t : Six) : ByteArray := t.a ++ ⟨#[58]⟩ ++ t.b ++ ⟨#[35]⟩ ++ t.c ++ ⟨#[64]⟩ ++ t.d ++ ⟨#[58]⟩ ++ t.e
def Six.text (t : Six) : ByteArray := if t.f.size = 0 then t.base else t.base ++ (⟨#[35]⟩ ++ t.f)
def Six.printed (t : Six) : ByteArray := if t.ok then t.text else ⟨#[]⟩

set_option maxRecDepth 100000 in
set_option maxHeartbeats 1000000 in
theorem print_any (w : World) (t : Six) (hs : t.short 1000000) : Calls Tryd.prog 22 #[t.val] w (GivesVal w (.tuple #[.string t.printed, checkV t.ok])) := by
  have hcheck := fun w => check_any w t ⟨by have := hs.1; omega, by have := hs.2.1; omega, by have := hs.2.2.1; omega, by have := hs.2.2.2.1; omega, by have := hs.2.2.2.2.1; omega, by have := hs.2.2.2.2.2; omega⟩
  have HC := Lib.hid hcheck
  clear hcheck
  have HS := Lib.hid hs
  clear hs
  have hp : t.printed = if t.ok then (if t.f.size = 0 then t.base else t.base ++ (⟨#[35]⟩ ++ t.f)) else ⟨#[]⟩ := rfl
  have hb : t.base = t.a ++ ⟨#[58]⟩ ++ t.b ++ ⟨#[35]⟩ ++ t.c ++ ⟨#[64]⟩ ++ t.d ++ ⟨#[58]⟩ ++ t.e := rfl
  generalize t.printed = pr at *
  generalize t.base = ba at *
  generalize t.ok = ok at *
  obtain ⟨a, b, c, d, e, f⟩ := t
  unfold Six.val at *
  simp only at hp hb
  have HP := Lib.hid hp
  have HB := Lib.hid hb
  clear hp hb
  go_enter Tryd.func22, Tryd.ntmps22
  go_wp2_with (go_at_call 19; go_must (refine (HC.out _).mono ?_))
  rintro e1 w1 ⟨rfl, b1⟩
  have b0 : Below w.heap.size w w1 := ((Below.refl _ w).alloc (Nat.le_refl _) _).trans (b1.mono (by simp))
  have hbox := (entryBox (w := w) (w1 := w1) (b1.mono (by simp))).1
  have c0 := hbox 0
  have c1 := hbox 1
  have c2 := hbox 2
  have c3 := hbox 3
  have c4 := hbox 4
  have c5 := hbox 5
  simp at c0 c1 c2 c3 c4 c5
  clear hbox b1
  unfold checkV
  cases ok with
  | false =>
    go_wp2
    go_ret2
    rw [HP.out]
    exact ⟨rfl, b0⟩
  | true =>
    obtain ⟨s1, s2, s3, s4, s5, s6⟩ := HS.out
    simp only at s1 s2 s3 s4 s5 s6
    by_cases h0 : f = ⟨#[]⟩
    · subst h0
      go_wp2
      go_ret2
      rw [HP.out, HB.out]
      exact ⟨rfl, b0⟩
    · have h00 := not_empty h0
      have hf0 : ¬ f.size = 0 := fun h => h0 (size_empty.1 h)
      have HP' := Lib.hid (HP.out.trans (by rw [if_pos rfl, if_neg hf0]))
      clear hf0 h0
      go_wp2
      go_ret2
      rw [HP'.out, HB.out]
      exact ⟨rfl, b0⟩
end Go.Proofs.YtlibncefiibgaaaDoor

/- Rows of the call's own, appended to: they stay the call's own. -/
namespace Go.Proofs.YtlibncefiibgaaaDoor
open Go Go.RowKit

theorem run_append_owns {P : Program} {w : World} (B : Nat) (t tx ty e : TypeId) (i : TypeInfo) (z : Value) (size bytes : Nat) (ht : P.underlying t = some (.slice e)) (hi : P.info? e = some i) (hz : i.zero = some z)
    (hsize : i.size = size) (hby : i.bytes = bytes) (hzs : z.cells.size = size)
    (v : Value) (n : Nat) (xs : List Value) (h0 : w.ownsRow B e size v n xs) (x : Value) (m : Nat) (news : List Value) (hs : Src P size tx x m news w)
    (h63 : n + m ≤ maxLen) (hbytes : (n + m) * bytes ≤ 140737488355328) (hB : B ≤ w.heap.size) :
    ∃ v' w', (Builtin.append_ #[t, tx] ty #[v, x]).run P w = .ok v' w' ∧ w'.ownsRow B e size v' (n + m) (xs ++ news) ∧ w.grownBy w' v.ownBlock ∧ Below B w w' ∧ Moves w v v' := by
  subst hsize
  subst hby
  have h : Fresh B w e i.size v n xs := ⟨ownsRow.reads h0, .inr h0⟩
  have hsmall : n + m ≤ 9223372036854775807 := by simp only [maxLen] at h63; omega
  have hnl := hs.newsLen
  have hxl := h.1.1
  have hlen : (xs ++ news).length = (n + m) * i.size := by rw [List.length_append, hxl, hnl, Nat.add_mul]
  have grow : ∀ (bs : Option Addr) (sc : Nat), v = .slice bs n sc → sc < n + m →
      ∃ v' w', (Builtin.append_ #[t, tx] ty #[v, x]).run P w = .ok v' w' ∧ w'.ownsRow B e i.size v' (n + m) (xs ++ news) ∧ w.grownBy w' v.ownBlock ∧ Below B w w' ∧ Moves w v v' := by
    rintro bs sc hv hg
    have hold := h.1.firstCells (P := P) w.drew rfl
    subst hv
    have hrun := run_append_grow_src (P := P) w t tx ty e i z ht hi hz bs n sc xs hold x m news hs hg (by omega) (growslice_fits hg hbytes)
    have hge := grownCap_ge w (n + m) sc e
    have hcm := grownCap_le_maxLen w (n + m) sc e h63
    have hblk : ∀ k, k < w.heap.size → (w.drew.alloc (.cells ((xs ++ news).toArray ++ Builtin.zeroCells z.cells (grownCap w (n + m) sc e - (n + m))) e)).heap[k]? = w.heap[k]? := fun k hk => Below.heap_alloc w.drew _ k hk
    have hown : (w.drew.alloc (.cells ((xs ++ news).toArray ++ Builtin.zeroCells z.cells (grownCap w (n + m) sc e - (n + m))) e)).ownsRow B e i.size (.slice (some ⟨w.heap.size, 0, none⟩) (n + m) (grownCap w (n + m) sc e)) (n + m) (xs ++ news) := by
      refine ⟨hlen, .inr ⟨w.heap.size, _, _, rfl, hB, heap_alloc_new w.drew _, hge, hcm, ?_, ?_⟩⟩
      · rw [Array.size_append, List.size_toArray, hlen, size_zeroCells, hzs, ← Nat.add_mul]
        congr 1
        omega
      · simp only [Array.toList_append]
        rw [← hlen]
        exact List.take_left
    exact ⟨_, _, hrun, hown, ⟨rfl, rfl, rfl, by simp, fun k hk _ => hblk k hk⟩, ⟨rfl, rfl, rfl, by simp, fun k hk => hblk k (by omega)⟩, fun b hb _ => by simp [Value.ownBlock]; omega⟩
  by_cases hm : m = 0
  · subst hm
    have hn : news = [] := List.eq_nil_of_length_eq_zero (by simpa using hnl)
    subst hn
    obtain ⟨_, a, cap, rfl, h1, h2, h3⟩ := h.1
    exact ⟨_, w, run_append_nothing (P := P) w t tx ty e i ht hi a n cap h1 x hs, by simpa using h0, World.grownBy.refl _ _, Below.refl _ _, fun _ _ h => h⟩
  · have hown := h0
    · rcases hown.2 with ⟨hv, h0⟩ | ⟨g, cap, cur, hv, hbg, hg, hnc, hcm, hcs, htake⟩
      · subst h0
        exact grow none 0 hv (by omega)
      · by_cases hroom : n + m ≤ cap
        · subst hv
          have hfit : n * i.size + news.length ≤ cur.size := by rw [hnl, hcs, ← Nat.add_mul]; exact Nat.mul_le_mul_right _ hroom
          have hc : ∀ j, j < news.length → (w.cell? ⟨g, 0 + n * i.size + j, none⟩).isSome = true := by
            intro j hj
            have hlt : n * i.size + j < cur.size := by omega
            simp [World.cell?, hg, Array.getElem?_eq_getElem hlt]
          have hf : ∀ j, j < news.length → w.frozen? ⟨g, 0 + n * i.size + j, none⟩ = false := by
            intro j hj
            simp [World.frozen?, hg]
          have hrun := run_append_room_src (P := P) w t tx ty e i ht hi g 0 n cap x m news hs hroom hc hf
          have hk := World.keptBut_setCells g (may := fun p => p.block = g) news (0 + n * i.size) w (fun _ _ => rfl)
          have hblk : ∀ k, k < w.heap.size → k ≠ g → (w.setCells g (0 + n * i.size) news).heap[k]? = w.heap[k]? := fun k hk1 hk2 => World.heap_setCells_other w g _ news hk1 hk2
          have hcell : ∀ j u, (xs ++ news)[j]? = some u → (w.setCells g (0 + n * i.size) news).cell? ⟨g, 0 + j, none⟩ = some u := by
            intro j u hj
            by_cases hjx : j < xs.length
            · rw [World.cell?_setCells_out g _ _ _ _ (fun _ _ => Or.inl (by show 0 + j < 0 + n * i.size; omega))]
              rw [List.getElem?_append_left hjx] at hj
              have := hown.cells (g := g) rfl j u hj
              rwa [Addr.add_lit] at this
            · rw [List.getElem?_append_right (by omega)] at hj
              obtain ⟨hjl, hju⟩ := List.getElem?_eq_some_iff.1 hj
              have := World.cell?_setCells_in g news (0 + n * i.size) w hc (j - xs.length) hjl
              rw [show 0 + n * i.size + (j - xs.length) = 0 + j by omega] at this
              rw [this, hju]
          obtain ⟨cur', hc1, hc2⟩ := heap_setCells_same g e (0, 0) news (0 + n * i.size) w cur hg
          have hown' : (w.setCells g (0 + n * i.size) news).ownsRow B e i.size (.slice (some ⟨g, 0, none⟩) (n + m) cap) (n + m) (xs ++ news) := by
            refine ⟨hlen, .inr ⟨g, cap, cur', rfl, hbg, hc1, hroom, hcm, by rw [hc2, hcs], ?_⟩⟩
            have hl1 : (n + m) * i.size ≤ cap * i.size := Nat.mul_le_mul_right _ hroom
            apply List.ext_getElem?
            intro j
            by_cases hj : j < (xs ++ news).length
            · have hr := hcell j _ (List.getElem?_eq_getElem hj)
              rw [List.getElem?_eq_getElem hj, ← hr, List.getElem?_take_of_lt (by omega)]
              unfold World.cell?
              rw [hc1]
              simp
            · rw [List.getElem?_eq_none (by rw [List.length_take]; omega), List.getElem?_eq_none (by omega)]
          exact ⟨_, _, hrun, hown', ⟨World.os_setCells _ _ _ _, tape_setCells _ _ _ _, World.output_setCells _ _ _ _, hk.size, fun k hk1 hk2 => hblk k hk1 (fun e => hk2 (by simp [Value.ownBlock, e]))⟩, ⟨World.os_setCells _ _ _ _, tape_setCells _ _ _ _, World.output_setCells _ _ _ _, hk.size, fun k hk1 => hblk k (by omega) (by omega)⟩, fun _ _ h => h⟩
        · exact grow _ cap hv (by omega)

/-- 'append(s, x...)' for the walk. -/
theorem wpList_append_owns {P : Program} {w : World} {ops : Array Oper} {rest : List Oper} {o : Oper} {a : Act} {Q : Exit → Act → World → Prop} (hgd : o.guard = none) (s x : Operand) (t tx : TypeId)
    (ho : o.op = .call { callee := .builtin .append, args := #[s, x], argTypes := #[t, tx] })
    (B : Nat) (e : TypeId) (i : TypeInfo) (z : Value) (size bytes : Nat) (ht : P.underlying t = some (.slice e)) (hi : P.info? e = some i) (hz : i.zero = some z)
    (hsize : i.size = size) (hby : i.bytes = bytes) (hzs : z.cells.size = size)
    (v : Value) (n : Nat) (xs : List Value) (hs : a.eval s = v) (hown : w.ownsRow B e size v n xs)
    (xv : Value) (m : Nat) (news : List Value) (hx : a.eval x = xv) (hsrc : Src P size tx xv m news w)
    (h63 : n + m ≤ maxLen) (hbytes : (n + m) * bytes ≤ 140737488355328) (hB : B ≤ w.heap.size)
    (h : ∀ v' w', w'.ownsRow B e size v' (n + m) (xs ++ news) → w.grownBy w' v.ownBlock → Below B w w' → Moves w v v' → wpList P ops Q rest (a.put o.dst v') w') : wpList P ops Q (o :: rest) a w := by
  refine wpList_plain hgd fun K hK => ?_
  obtain ⟨v', w', hr, h2, h3, h4, h5⟩ := run_append_owns (P := P) B t tx o.type e i z size bytes ht hi hz hsize hby hzs v n xs hown xv m news hsrc h63 hbytes hB
  unfold Oper.wp execOp
  simp only [ho, resolve, invoke, builtin, Sem.run_bind, Sem.run_pure, Result.andThen_ok, List.map_toArray, List.map_cons, List.map_nil, hs, hx, hr]
  exact hK _ _ (h v' w' h2 h3 h4 h5)

/-- 'append(s, x, ..)' of cells that have just been laid in a block of their own. -/
theorem wpList_append_owns_lits {P : Program} {w0 : World} {ops : Array Oper} {rest : List Oper} {o : Oper} {a : Act} {Q : Exit → Act → World → Prop} (hgd : o.guard = none) (s x : Operand) (t : TypeId)
    (ho : o.op = .call { callee := .builtin .append, args := #[s, x], argTypes := #[t, t] })
    (B : Nat) (e : TypeId) (i : TypeInfo) (z : Value) (bytes : Nat) (ht : P.underlying t = some (.slice e)) (hi : P.info? e = some i) (hz : i.zero = some z)
    (hsize : i.size = 1) (hby : i.bytes = bytes) (hzs : z.cells.size = 1)
    {v : Value} {n : Nat} {xs : List Value} (us : List Value) (m : Nat) (hl : us.length = m) (hown : w0.ownsRow B e 1 v n xs) (hs : a.eval s = v) (hx : a.eval x = .slice (some ⟨w0.heap.size, 0, none⟩) m m) (h1 : ∀ u ∈ us, u.oneCell' = true)
    (h63 : n + m ≤ maxLen) (hbytes : (n + m) * bytes ≤ 140737488355328) (hB : B ≤ w0.heap.size)
    (h : ∀ v' w', w'.ownsRow B e 1 v' (n + m) (xs ++ us) → w0.grownBy w' v.ownBlock → Below B w0 w' → Moves w0 v v' → wpList P ops Q rest (a.put o.dst v') w') : wpList P ops Q (o :: rest) a (w0.alloc (.cells us.toArray e)) := by
  refine wpList_append_owns hgd s x t t ho B e i z 1 bytes ht hi hz hsize hby hzs v n xs hs (hown.alloc _) _ m us hx (Src.ofLits ht w0 m us hl h1) h63 hbytes (by simp; omega) (fun v' w' k1 k2 k3 k4 => h v' w' k1 ((World.grownBy_alloc w0 _ _).trans k2) (((Below.refl _ _).alloc hB _).trans k3) (fun b hb => k4 b (by simp; omega)))

end Go.Proofs.YtlibncefiibgaaaDoor

/- Rows of structs: appended to cell by cell. -/
namespace Go.Proofs.YtlibncefiibgaaaDoor
open Go Go.RowKit

/-- 'append(s, x, ..)' of structs of size cells each that have just been laid in a block of their own. -/
theorem wpList_append_rows {P : Program} {w0 : World} {ops : Array Oper} {rest : List Oper} {o : Oper} {a : Act} {Q : Exit → Act → World → Prop} (hgd : o.guard = none) (s x : Operand) (t : TypeId)
    (ho : o.op = .call { callee := .builtin .append, args := #[s, x], argTypes := #[t, t] })
    (B : Nat) (e : TypeId) (i : TypeInfo) (z : Value) (size bytes : Nat) (ht : P.underlying t = some (.slice e)) (hi : P.info? e = some i) (hz : i.zero = some z)
    (hsize : i.size = size) (hby : i.bytes = bytes) (hzs : z.cells.size = size)
    {v : Value} {n : Nat} {xs : List Value} (us : List Value) (m : Nat) (hl : us.length = m * size) (hown : Fresh B w0 e size v n xs) (hs : a.eval s = v) (hx : a.eval x = .slice (some ⟨w0.heap.size, 0, none⟩) m m) (h1 : ∀ u ∈ us, u.oneCell' = true)
    (h63 : n + m ≤ maxLen) (hbytes : (n + m) * bytes ≤ 140737488355328) (hB : B ≤ w0.heap.size)
    (h : ∀ v' w', Fresh B w' e size v' (n + m) (xs ++ us) → w0.grownBy w' v.ownBlock → Below B w0 w' → Moves w0 v v' → wpList P ops Q rest (a.put o.dst v') w') : wpList P ops Q (o :: rest) a (w0.alloc (.cells us.toArray e)) := by
  refine wpList_append_fresh hgd s x t t ho B e i z size bytes ht hi hz hsize hby hzs v n xs hs (hown.alloc _) _ m us hx ?_ h63 hbytes (by simp; omega) (fun v' w' k1 k2 k3 k4 => h v' w' k1 ((World.grownBy_alloc w0 _ _).trans k2) (((Below.refl _ _).alloc hB _).trans k3) (fun b hb => k4 b (by simp; omega)))
  refine Src.ofSlice _ ht _ _ _ _ hl ?_ h1
  intro j y hj
  rw [Addr.add_lit]
  rw [show (0 + j) = j by omega]
  rw [World.cell?_alloc_new w0 _ _ j]
  simpa using hj

/-- 'append(s, x, ..)' of structs of size cells each that have just been laid in a block of their own. -/
theorem wpList_append_rows_own {P : Program} {w0 : World} {ops : Array Oper} {rest : List Oper} {o : Oper} {a : Act} {Q : Exit → Act → World → Prop} (hgd : o.guard = none) (s x : Operand) (t : TypeId)
    (ho : o.op = .call { callee := .builtin .append, args := #[s, x], argTypes := #[t, t] })
    (B : Nat) (e : TypeId) (i : TypeInfo) (z : Value) (size bytes : Nat) (ht : P.underlying t = some (.slice e)) (hi : P.info? e = some i) (hz : i.zero = some z)
    (hsize : i.size = size) (hby : i.bytes = bytes) (hzs : z.cells.size = size)
    {v : Value} {n : Nat} {xs : List Value} (us : List Value) (m : Nat) (hl : us.length = m * size) (hown : w0.ownsRow B e size v n xs) (hs : a.eval s = v) (hx : a.eval x = .slice (some ⟨w0.heap.size, 0, none⟩) m m) (h1 : ∀ u ∈ us, u.oneCell' = true)
    (h63 : n + m ≤ maxLen) (hbytes : (n + m) * bytes ≤ 140737488355328) (hB : B ≤ w0.heap.size)
    (h : ∀ v' w', w'.ownsRow B e size v' (n + m) (xs ++ us) → w0.grownBy w' v.ownBlock → Below B w0 w' → Moves w0 v v' → wpList P ops Q rest (a.put o.dst v') w') : wpList P ops Q (o :: rest) a (w0.alloc (.cells us.toArray e)) := by
  refine wpList_append_owns hgd s x t t ho B e i z size bytes ht hi hz hsize hby hzs v n xs hs (hown.alloc _) _ m us hx ?_ h63 hbytes (by simp; omega) (fun v' w' k1 k2 k3 k4 => h v' w' k1 ((World.grownBy_alloc w0 _ _).trans k2) (((Below.refl _ _).alloc hB _).trans k3) (fun b hb => k4 b (by simp; omega)))
  refine Src.ofSlice _ ht _ _ _ _ hl ?_ h1
  intro j y hj
  rw [Addr.add_lit]
  rw [show (0 + j) = j by omega]
  rw [World.cell?_alloc_new w0 _ _ j]
  simpa using hj

theorem owns_other {w : World} {B n s g : Nat} {e e' : TypeId} {v : Value} {xs : List Value} {cs : Array Value} {fz : Nat × Nat} (h : w.ownsRow B e s v n xs) (hg : w.heap[g]? = some (.cells cs e' fz)) (he : e' ≠ e) : v.ownBlock ≠ some g := by
  rcases h.2 with ⟨rfl, _⟩ | ⟨g', cap, cur, rfl, _, hh, _⟩
  · simp [Value.ownBlock]
  · intro h
    simp [Value.ownBlock] at h
    subst h
    rw [hg] at hh
    injection hh with hh
    injection hh with _ h2 _
    exact he h2

/-- A block of other cells stays as a row grows. -/
theorem grown_other {w w' : World} {B n s g : Nat} {e e' : TypeId} {v : Value} {xs : List Value} {cs : Array Value} {fz : Nat × Nat} (h : w.ownsRow B e s v n xs) (hgr : w.grownBy w' v.ownBlock) (hg : w.heap[g]? = some (.cells cs e' fz)) (he : e' ≠ e) : w'.heap[g]? = some (.cells cs e' fz) :=
  (hgr.block g (Array.getElem?_eq_some_iff.1 hg).1 (fun h' => owns_other h hg he h'.symm)).trans hg

theorem owns_nil (w : World) (B : Nat) (e : TypeId) (s : Nat) : w.ownsRow B e s (.slice none 0 0) 0 [] := ⟨by simp, .inl ⟨rfl, rfl⟩⟩

theorem owns_below {w w' : World} {B n s : Nat} {e : TypeId} {v : Value} {xs : List Value} (h : w.ownsRow B e s v n xs) (hb : Below w.heap.size w w') : w'.ownsRow B e s v n xs :=
  h.kept (row := none) ⟨hb.os, hb.tape, hb.output, hb.size, fun k hk _ => hb.block k hk⟩ (by cases v.ownBlock <;> simp)

/-- Cells of rows, one behind the other. -/
theorem flat_cell {α : Type} (f : α → List Value) (s : Nat) (hf : ∀ x, (f x).length = s) : ∀ (l : List α) (k : Nat) (x : α), l[k]? = some x → ∀ j, j < s → (l.flatMap f)[k * s + j]? = (f x)[j]?
  | [], k, x, h, _, _ => by simp at h
  | y :: l, 0, x, h, j, hj => by
    simp at h
    subst h
    rw [List.flatMap_cons, Nat.zero_mul, Nat.zero_add, List.getElem?_append_left (by rw [hf]; exact hj)]
  | y :: l, k + 1, x, h, j, hj => by
    rw [List.flatMap_cons, List.getElem?_append_right (by rw [hf, Nat.add_mul, Nat.one_mul]; omega), hf]
    rw [show (k + 1) * s + j - s = k * s + j by rw [Nat.add_mul, Nat.one_mul]; omega]
    exact flat_cell f s hf l k x (by simpa using h) j hj

theorem flat_length {α : Type} (f : α → List Value) (s : Nat) (hf : ∀ x, (f x).length = s) : ∀ (l : List α), (l.flatMap f).length = l.length * s
  | [] => by simp
  | y :: l => by rw [List.flatMap_cons, List.length_append, hf, flat_length f s hf l, List.length_cons, Nat.add_mul]; omega

/-- A cell of a slice of rows. -/
theorem Reads.at {w : World} {s n cap : Nat} {a : Option Addr} {xs : List Value} (h : Reads w s (.slice a n cap) n xs) {j : Nat} {u : Value} (hj : xs[j]? = some u) :
    ∃ b off, a = some ⟨b, off, none⟩ ∧ b < w.heap.size ∧ w.cell? ⟨b, off + j, none⟩ = some u := by
  obtain ⟨hl, a', cap', hv, _, _, h3⟩ := h
  cases hv
  exact h3 j u hj

/-- 'append(s, x)' of structs that have just been laid in block N. -/
theorem wpList_append_rows_at {P : Program} {w0 : World} {ops : Array Oper} {rest : List Oper} {o : Oper} {a : Act} {Q : Exit → Act → World → Prop} (hgd : o.guard = none) (s x : Operand) (t : TypeId)
    (ho : o.op = .call { callee := .builtin .append, args := #[s, x], argTypes := #[t, t] })
    (B : Nat) (e : TypeId) (i : TypeInfo) (z : Value) (size bytes : Nat) (ht : P.underlying t = some (.slice e)) (hi : P.info? e = some i) (hz : i.zero = some z)
    (hsize : i.size = size) (hby : i.bytes = bytes) (hzs : z.cells.size = size)
    {v : Value} {n : Nat} {xs : List Value} (us : List Value) (m : Nat) (hl : us.length = m * size) {N : Nat} (hN : w0.heap.size = N) (hown : w0.ownsRow B e size v n xs) (hs : a.eval s = v) (hx : a.eval x = .slice (some ⟨N, 0, none⟩) m m) (h1 : ∀ u ∈ us, u.oneCell' = true)
    (h63 : n + m ≤ maxLen) (hbytes : (n + m) * bytes ≤ 140737488355328) (hB : B ≤ w0.heap.size)
    (h : ∀ v' w', w'.ownsRow B e size v' (n + m) (xs ++ us) → w0.grownBy w' v.ownBlock → Below B w0 w' → Moves w0 v v' → wpList P ops Q rest (a.put o.dst v') w') : wpList P ops Q (o :: rest) a (w0.alloc (.cells us.toArray e)) := by
  subst hN
  exact wpList_append_rows_own hgd s x t ho B e i z size bytes ht hi hz hsize hby hzs us m hl hown hs hx h1 h63 hbytes hB h
end Go.Proofs.YtlibncefiibgaaaDoor

/- What a call that writes into blocks of its caller's own leaves. -/
namespace Go.Proofs.YtlibncefiibgaaaDoor
open Go Go.RowKit

/-- w' is w but for the blocks l, and new ones. -/
structure Touch (w w' : World) (l : List Nat) : Prop where
  os : w'.os = w.os
  tape : w'.tape = w.tape
  output : w'.output = w.output
  size : w.heap.size ≤ w'.heap.size
  block : ∀ k, k < w.heap.size → k ∉ l → w'.heap[k]? = w.heap[k]?

theorem Touch.refl (w : World) (l : List Nat) : Touch w w l := ⟨rfl, rfl, rfl, Nat.le_refl _, fun _ _ _ => rfl⟩

theorem Touch.trans {a b c : World} {l m n : List Nat} (h : Touch a b l) (k : Touch b c m) (hl : ∀ x, x ∈ l → x ∈ n) (hm : ∀ x, x ∈ m → x ∈ n ∨ a.heap.size ≤ x) : Touch a c n :=
  ⟨k.os.trans h.os, k.tape.trans h.tape, k.output.trans h.output, Nat.le_trans h.size k.size, fun i hi hn =>
    (k.block i (Nat.lt_of_lt_of_le hi h.size) (fun e => (hm i e).elim hn (fun h' => absurd hi (by omega)))).trans (h.block i hi (fun e => hn (hl i e)))⟩

theorem Touch.same {a b c : World} {l : List Nat} (h : Touch a b l) (k : Touch b c l) : Touch a c l := h.trans k (fun _ h => h) (fun _ h => .inl h)

theorem Touch.mono {a b : World} {l m : List Nat} (h : Touch a b l) (hl : ∀ x, x ∈ l → x ∈ m) : Touch a b m :=
  ⟨h.os, h.tape, h.output, h.size, fun i hi hn => h.block i hi (fun e => hn (hl i e))⟩

theorem Touch.of_below {w w' : World} (h : Below w.heap.size w w') (l : List Nat) : Touch w w' l := ⟨h.os, h.tape, h.output, h.size, fun i hi _ => h.block i hi⟩

theorem Touch.of_grown {w w' : World} {b : Nat} (h : w.grownBy w' (some b)) : Touch w w' [b] := ⟨h.os, h.tape, h.output, h.size, fun i hi hn => h.block i hi (fun e => hn (by cases e; simp))⟩

theorem Touch.alloc {w w' : World} {l : List Nat} (h : Touch w w' l) (o : Obj) : Touch w (w'.alloc o) l :=
  h.same ⟨rfl, rfl, rfl, by simp, fun k hk _ => Below.heap_alloc _ _ _ hk⟩

theorem Touch.drew {w w' : World} {l : List Nat} (h : Touch w w' l) : Touch w w'.drew l := ⟨h.os, h.tape, h.output, h.size, h.block⟩

theorem Touch.drewN {w w' : World} {l : List Nat} (h : Touch w w' l) (n : Nat) : Touch w (w'.drewN n) l := ⟨h.os, h.tape, h.output, h.size, h.block⟩

theorem Touch.setCell {w w' : World} {l : List Nat} (h : Touch w w' l) {p : Addr} (hp : p.block ∈ l ∨ w.heap.size ≤ p.block) (u : Value) : Touch w (w'.setCell p u) l :=
  ⟨h.os, h.tape, h.output, Nat.le_trans h.size (by simp [World.setCell]), fun k hk hn => by
    have hne : k ≠ p.block := by
      rcases hp with hp | hp
      · intro e; exact hn (e ▸ hp)
      · omega
    exact (Below.heap_setCell _ _ _ _ hne).trans (h.block k hk hn)⟩

/-- Below a number under which no block is touched, all is as it was. -/
theorem Touch.below {w w' : World} {l : List Nat} {B : Nat} (h : Touch w w' l) (hB : B ≤ w.heap.size) (hl : ∀ x, x ∈ l → B ≤ x) : Below B w w' :=
  ⟨h.os, h.tape, h.output, h.size, fun k hk => h.block k (by omega) (fun e => by have := hl k e; omega)⟩

/-- A block that isn't touched. -/
theorem Touch.keep {w w' : World} {l : List Nat} {g : Nat} {o : Obj} (h : Touch w w' l) (hg : w.heap[g]? = some o) (hn : g ∉ l) : w'.heap[g]? = some o :=
  (h.block g (Array.getElem?_eq_some_iff.1 hg).1 hn).trans hg

theorem Touch.keepMap {H : Type} {P : Program} {k : TypeId} {R : Value → Option (DataW H × List MemPlace)} {b n : Nat} {D : DataW H} {w w' : World} {l : List Nat} (h : Touch w w' l) (hm : w.ownsMap P k R b n D) (hn : b ∉ l) : w'.ownsMap P k R b n D := by
  obtain ⟨es, clock, hb, F, hs, hD⟩ := hm
  exact ⟨es, clock, h.keep hb hn, F, hs, hD⟩

/-- What lies in a block. -/
theorem Touch.reads {w w' : World} {l : List Nat} {size n : Nat} {v : Value} {xs : List Value} (h : Touch w w' l) (hr : Reads w size v n xs) (hn : ∀ g, v.ownBlock = some g → g ∉ l) : Reads w' size v n xs := by
  obtain ⟨hl, a, cap, rfl, h1, h2, h3⟩ := hr
  refine ⟨hl, a, cap, rfl, h1, h2, fun j u hj => ?_⟩
  obtain ⟨b, off, rfl, hlt, hr⟩ := h3 j u hj
  refine ⟨b, off, rfl, Nat.lt_of_lt_of_le hlt h.size, ?_⟩
  have := h.block b hlt (hn b rfl)
  simp only [World.cell?] at hr ⊢
  rw [this]
  exact hr
end Go.Proofs.YtlibncefiibgaaaDoor

/- clear at rows of several cells; a block's cells set one behind the other. -/
namespace Go.Proofs.YtlibncefiibgaaaDoor
open Go Go.RowKit Go.Lib

theorem zeroCells_rows (zs : List Value) (n : Nat) : (Builtin.zeroCells zs.toArray n).toList = (List.replicate n zs).flatten := by
  unfold Builtin.zeroCells
  simp only [Array.toList_map, Array.toList_range, List.size_toArray]
  refine List.ext_getElem ?_ fun i h1 h2 => ?_
  · simp
  · simp only [List.length_map, List.length_range] at h1
    have hk : 0 < zs.length := by
      rcases Nat.eq_zero_or_pos zs.length with h | h
      · rw [h] at h1; simp at h1
      · exact h
    have h3 : i % zs.length < zs.length := Nat.mod_lt _ hk
    have h4 := flat_cell (fun _ : Unit => zs) zs.length (fun _ => rfl) (List.replicate n ()) (i / zs.length) () (by
      rw [List.getElem?_replicate, if_pos (Nat.div_lt_of_lt_mul (by rw [Nat.mul_comm]; exact h1))]) (i % zs.length) h3
    have h5 : i / zs.length * zs.length + i % zs.length = i := by rw [Nat.mul_comm]; exact Nat.div_add_mod i _
    rw [h5] at h4
    have h6 : (List.replicate n ()).flatMap (fun _ => zs) = (List.replicate n zs).flatten := by
      rw [List.flatMap_def, List.map_replicate]
    rw [h6] at h4
    rw [List.getElem?_eq_getElem h2, List.getElem?_eq_getElem h3] at h4
    injection h4 with h4
    rw [h4]
    simp [h3]

/-- 'clear(s)', s a slice of n > 0 elements of several cells each. -/
theorem run_clear_rows {P : Program} (w : World) (t e ty : TypeId) (z : Value) (zs : List Value) (ht : P.underlying t = some (.slice e)) (hv : ∀ w, (zeroValue e).run P w = .ok z w) (hz : z.cells = zs.toArray) (h1 : ∀ u ∈ zs, u.oneCell' = true) (b o n c : Nat) (hn : 0 < n)
    (hc : ∀ j, j < n * zs.length → (w.cell? ⟨b, o + j, none⟩).isSome = true) (hf : ∀ j, j < n * zs.length → w.frozen? ⟨b, o + j, none⟩ = false) :
    (Builtin.clear_ #[t] ty #[.slice (some ⟨b, o, none⟩) n c]).run P w = .ok (.tuple #[]) (w.setCells b o (List.replicate n zs).flatten) := by
  have hl : (List.replicate n zs).flatten.length = n * zs.length := by simp
  have hst := run_storeCells_cells (P := P) b o (List.replicate n zs).flatten 0 w (by rw [hl]; simpa using hc) (by rw [hl]; simpa using hf) (by
    intro v hv'
    obtain ⟨l, hl2, hm⟩ := List.mem_flatten.1 hv'
    rw [List.eq_of_mem_replicate hl2] at hm
    exact h1 v hm)
  simp only [Nat.add_zero] at hst
  obtain ⟨m, rfl⟩ : ∃ m, n = m + 1 := ⟨n - 1, by omega⟩
  simp [Builtin.clear_, run_underlying ht, hv, hz, zeroCells_rows, hst]

theorem touch_setCells {w w' : World} {l : List Nat} {b : Nat} (hb : b ∈ l) : ∀ (vs : List Value) (o : Nat) {x : World}, Touch w x l → Touch w (x.setCells b o vs) l
  | [], _, _, h => h
  | v :: r, o, x, h => by
    rw [World.setCells]
    exact touch_setCells (w' := w') hb r (o + 1) (h.setCell (p := ⟨b, o, none⟩) (.inl hb) v)
end Go.Proofs.YtlibncefiibgaaaDoor

/- A region that draws its order and ends in one operation that waits for all others: facts for the others, then that one. -/
namespace Go.Proofs.YtlibncefiibgaaaDoor
open Go Go.RowKit

section
variable {P : Program} {id : Nat} {l : List Oper} {z : Oper} {Q : Exit → Act → World → Prop} {a0 : Act} {w0 : World}

structure InvL (l : List Oper) (F : Nat → Value → World → Prop) (a0 : Act) (w0 : World) (L : Nat → Bool) (a : Act) (w : World) : Prop where
  defers : a.defers = a0.defers
  size : a.tmps.size = a0.tmps.size
  like : Like l a0 a.eval
  below : Below w0.heap.size w0 w
  facts : ∀ i o d, l[i]? = some o → o.dst = some d → L i = true → F i (a.tmps.getD d undef) w

theorem last_at {i : Nat} {o : Oper} (h : (l ++ [z])[i]? = some o) : (i < l.length ∧ l[i]? = some o) ∨ (i = l.length ∧ o = z) := by
  by_cases hi : i < l.length
  · left
    rw [List.getElem?_append_left hi] at h
    exact ⟨hi, h⟩
  · right
    rw [List.getElem?_append_right (by omega)] at h
    have h1 : i - l.length = 0 := by
      have := (List.getElem?_eq_some_iff.1 h).1
      simp at this
      omega
    rw [h1] at h
    simp at h
    exact ⟨by omega, h.symm⟩

theorem in_l {i : Nat} {o : Oper} (h : l[i]? = some o) : (l ++ [z])[i]? = some o := by
  rw [List.getElem?_append_left (List.getElem?_eq_some_iff.1 h).1]
  exact h

theorem InvL.step {F : Nat → Value → World → Prop} (hF : ∀ i v w w', F i v w → Below w.heap.size w w' → F i v w') (hok : drawnOk (l ++ [z]) a0.tmps.size = true)
    {L L' : Nat → Bool} {a : Act} {w w' : World} (h : InvL l F a0 w0 L a w) {i : Nat} {o : Oper} (hi : l[i]? = some o) {v : Value} (hv : F i v w') (hb : Below w.heap.size w w')
    (hL : ∀ k, L' k = if k = i then true else L k) : InvL l F a0 w0 L' (a.put o.dst v) w' := by
  obtain ⟨_, h2, _⟩ := drawnOk_at hok (in_l (z := z) hi)
  refine ⟨?_, ?_, ⟨fun c => rfl, fun f => rfl, fun k hk => ?_⟩, h.below.trans (hb.mono h.below.size), fun j o' d hj hd hl => ?_⟩
  · cases o.dst <;> exact h.defers
  · cases hd : o.dst with
    | none => exact h.size
    | some d => simpa [Act.put] using h.size
  · show (a.put o.dst v).tmps.getD k undef = _
    cases hd : o.dst with
    | none => exact h.like.tmp k hk
    | some d =>
      have hne : k ≠ d := by
        have := List.all_eq_true.1 hk o (List.mem_of_getElem? hi)
        simp [hd] at this
        exact fun e => this e.symm
      rw [getD_put hne]
      exact h.like.tmp k hk
  · by_cases hji : j = i
    · subst hji
      rw [hi] at hj
      cases hj
      obtain ⟨h3, _⟩ := h2 d hd
      rw [hd, getD_put_same (by rw [h.size]; exact h3)]
      exact hv
    · have hl' : L j = true := by
        have := hL j
        rw [if_neg hji] at this
        rw [← this]
        exact hl
      have := hF _ _ _ _ (h.facts j o' d hj hd hl') hb
      cases hdo : o.dst with
      | none => exact this
      | some d' =>
        have hne : d ≠ d' := by
          intro e
          subst e
          exact (h2 d hdo).2 j o' (in_l hj) hji hd
        rw [getD_put hne]
        exact this

def waitsAll (l : List Oper) (z : Oper) : Bool := (List.range l.length).all fun j => z.after.any fun e => Region.binds .any e && e.on == j

theorem wp_region_last (hm : P.follows .mixedOrders = true) (fs : List SlotFact) (hok : drawnOk (l ++ [z]) a0.tmps.size = true) (hung : (l ++ [z]).all (·.guard.isNone) = true) (hz : waitsAll l z = true)
    (hop : AllFrom (OpGoal P l fs a0 w0) 0 l)
    (hend : ∀ a w, a.defers = a0.defers → a.tmps.size = a0.tmps.size → Like l a0 a.eval → Below w0.heap.size w0 w → (∀ (i : Nat) (o : Oper) (d : Nat), l[i]? = some o → o.dst = some d → factsOf fs i (a.tmps.getD d undef) w) → z.wp P a w (fun a' w' => Q .normal a' w') Q) :
    (Code.region id (l ++ [z]).toArray true).wp P Q a0 w0 := by
  refine wp_region_inv hm hok hung (fun L a w => (L l.length = true ∧ (∀ i, i < l.length → L i = true) ∧ Q .normal a w) ∨ (L l.length = false ∧ InvL l (factsOf fs) a0 w0 L a w)) (fun L hL => ?_) (fun i o hi L a w hLi hprev hJ => ?_) (fun L a w hL hJ => ?_)
  · refine .inr ⟨hL _ (by simp), rfl, rfl, ⟨fun _ => rfl, fun _ => rfl, fun _ _ => rfl⟩, ⟨rfl, rfl, rfl, Nat.le_refl _, fun _ _ => rfl⟩, fun i o d hi _ hl => ?_⟩
    rw [hL i (by have := (List.getElem?_eq_some_iff.1 hi).1; simp; omega)] at hl
    cases hl
  · rcases last_at hi with ⟨hlt, hio⟩ | ⟨rfl, rfl⟩
    · rcases hJ with ⟨_, h2, _⟩ | ⟨hn, hinv⟩
      · rw [h2 i hlt] at hLi
        cases hLi
      · have hg := hop.at i o hio
        rw [Nat.zero_add] at hg
        have hleans : Leans l (factsOf fs) o a.eval w := by
          intro j hj d hd
          obtain ⟨oj, hoj, hdj⟩ := Option.bind_eq_some_iff.1 hd
          exact hinv.facts j oj d hoj hdj (hprev j hj)
        refine wp_of_yields (hg a.eval w hinv.like hinv.below hleans) fun v w' hv L' hL' => .inr ⟨?_, hinv.step (factsOf_stable fs) hok hio hv.1 hv.2 hL'⟩
        rw [hL' l.length, if_neg (by omega)]
        exact hn
    · rcases hJ with ⟨h1, _, _⟩ | ⟨hn, hinv⟩
      · rw [h1] at hLi
        cases hLi
      · have hall : ∀ i, i < l.length → L i = true := fun j hj => hprev j (List.all_eq_true.1 hz j (List.mem_range.2 hj))
        refine Oper.wp_mono (fun a' w' hq L' hL' => .inl ⟨?_, fun j hj => ?_, hq⟩) (hend a w hinv.defers hinv.size hinv.like hinv.below fun i o d hi hd => hinv.facts i o d hi hd (hall i (List.getElem?_eq_some_iff.1 hi).1))
        · rw [hL' l.length, if_pos rfl]
        · rw [hL' j, if_neg (by omega)]
          exact hall j hj
  · rcases hJ with ⟨_, _, hq⟩ | ⟨hn, _⟩
    · exact hq
    · rw [hL l.length (by simp)] at hn
      cases hn
end

/-- the slot holds the address of a new row of cells -/
def boxF (B : Nat) (cs : Array Value) (t : TypeId) : SlotFact := ⟨fun v w => ∃ g, v = .pointer (some ⟨g, 0, none⟩) ∧ B ≤ g ∧ w.heap[g]? = some (.cells cs t (0, 0)),
  fun _ _ _ ⟨g, h1, h2, h3⟩ hb => ⟨g, h1, h2, (hb.block g (Array.getElem?_eq_some_iff.1 h3).1).trans h3⟩⟩

/-- the slot holds a slice of a row of its own -/
def rowF (n : Nat) (xs : List Value) : SlotFact := ⟨fun v w => ∃ g, v = .slice (some ⟨g, 0, none⟩) n n ∧ Reads w 1 (.slice (some ⟨g, 0, none⟩) n n) n xs,
  fun _ _ _ ⟨g, h1, h2⟩ hb => ⟨g, h1, h2.below' hb⟩⟩

theorem y_new' {P : Program} {ρ : Operand → Value} {o : Oper} {w w' : World} {v : Value} {p : Value → World → Prop} (h : (execOp ρ o).run P w = .ok (.value v) w') (hp : p v w') (hb : Below w.heap.size w w') : YieldsP P ρ o w (fun u w' => p u w' ∧ Below w.heap.size w w') := by
  unfold YieldsP
  rw [h]
  exact ⟨hp, hb⟩
end Go.Proofs.YtlibncefiibgaaaDoor

/- A region that draws its order, some of whose operations write into rows that the region itself made: facts that hold until their row is taken on. -/
namespace Go.Proofs.YtlibncefiibgaaaDoor
open Go Go.RowKit

/-- A fact on a slot; the operation that uses it up, if one does; whether it speaks of the value alone. -/
structure UntilFact where
  fact : SlotFact
  until_ : Option Nat
  alone : Bool
  ok : alone = true → ∀ v w w', fact.p v w → fact.p v w'

def eqU (x : Value) : UntilFact := ⟨eqF x, none, true, fun _ _ _ _ h => h⟩
def anyU : UntilFact := ⟨anyF, none, true, fun _ _ _ _ _ => trivial⟩
def onU (f : SlotFact) (u : Option Nat) : UntilFact := ⟨f, u, false, fun h => by cases h⟩

def uAt (us : List UntilFact) (i : Nat) : UntilFact := (us[i]?).getD anyU

def waitsFor (l : List Oper) (j i : Nat) : Bool := match l[j]? with | some o => o.after.any fun e => Region.binds .any e && e.on == i | none => false

/-- waits for it, or for what waits for it -/
def waitsDeep (l : List Oper) : Nat → Nat → Nat → Bool
  | 0, j, i => waitsFor l j i
  | d + 1, j, i => waitsFor l j i || (List.range l.length).any fun x => waitsFor l j x && waitsDeep l d x i

theorem waits_deep {l : List Oper} {L : Nat → Bool} (hc : ∀ j i, L j = true → waitsFor l j i = true → L i = true) : ∀ (d j i : Nat), L j = true → waitsDeep l d j i = true → L i = true
  | 0, j, i, hj, h => hc j i hj h
  | d + 1, j, i, hj, h => by
    unfold waitsDeep at h
    rw [Bool.or_eq_true] at h
    rcases h with h | h
    · exact hc j i hj h
    · obtain ⟨x, _, hx⟩ := List.any_eq_true.1 h
      rw [Bool.and_eq_true] at hx
      exact waits_deep hc d x i (hc j x hj hx.1) hx.2

/-- An operation that writes leaves alone what is still needed. -/
def wildOk (l : List Oper) (us : List UntilFact) (wild : List Nat) : Bool :=
  wild.all fun i => (List.range l.length).all fun k => k == i || (uAt us k).alone || (uAt us k).until_ == some i || waitsDeep l 3 k i || (match (uAt us k).until_ with | some u => waitsDeep l 3 i u | none => false)

section
variable {P : Program} {id : Nat} {l : List Oper} {Q : Exit → Act → World → Prop} {a0 : Act} {w0 : World}

structure InvU (l : List Oper) (us : List UntilFact) (a0 : Act) (w0 : World) (L : Nat → Bool) (a : Act) (w : World) : Prop where
  defers : a.defers = a0.defers
  size : a.tmps.size = a0.tmps.size
  like : Like l a0 a.eval
  below : Below w0.heap.size w0 w
  closed : ∀ j i, L j = true → waitsFor l j i = true → L i = true
  only : ∀ j, L j = true → j < l.length
  facts : ∀ i o d, l[i]? = some o → o.dst = some d → L i = true → (∀ u, (uAt us i).until_ = some u → L u = false) → (uAt us i).fact.p (a.tmps.getD d undef) w

/-- what is to be shown of one operation -/
def OpGoalU (P : Program) (l : List Oper) (us : List UntilFact) (wild : List Nat) (a0 : Act) (w0 : World) (i : Nat) (o : Oper) : Prop :=
  ∀ ρ w, Like l a0 ρ → Below w0.heap.size w0 w →
    (∀ j, (o.after.any fun e => Region.binds .any e && e.on == j) = true → ((uAt us j).until_ = none ∨ (uAt us j).until_ = some i) → ∀ d, (l[j]?).bind (·.dst) = some d → (uAt us j).fact.p (ρ (.tmp d)) w) →
    YieldsP P ρ o w (fun v w' => (uAt us i).fact.p v w' ∧ Below (if wild.contains i then w0.heap.size else w.heap.size) w w')

theorem wp_region_until (hm : P.follows .mixedOrders = true) (us : List UntilFact) (wild : List Nat) (hok : drawnOk l a0.tmps.size = true) (hung : l.all (·.guard.isNone) = true) (hw : wildOk l us wild = true)
    (hop : AllFrom (OpGoalU P l us wild a0 w0) 0 l)
    (hend : ∀ a w, a.defers = a0.defers → a.tmps.size = a0.tmps.size → Like l a0 a.eval → Below w0.heap.size w0 w → (∀ (i : Nat) (o : Oper) (d : Nat), l[i]? = some o → o.dst = some d → (uAt us i).until_ = none → (uAt us i).fact.p (a.tmps.getD d undef) w) → Q .normal a w) :
    (Code.region id l.toArray true).wp P Q a0 w0 := by
  refine wp_region_inv hm hok hung (fun L a w => ∃ L0 : Nat → Bool, (∀ k, k < l.length → L0 k = L k) ∧ InvU l us a0 w0 L0 a w) (fun L hL => ?_) (fun i o hi L a w hLi hprev hJ => ?_) (fun L a w hL hJ => ?_)
  · exact ⟨fun _ => false, fun k hk => (hL k hk).symm, rfl, rfl, ⟨fun _ => rfl, fun _ => rfl, fun _ _ => rfl⟩, ⟨rfl, rfl, rfl, Nat.le_refl _, fun _ _ => rfl⟩, fun _ _ h => (by cases h), fun _ h => (by cases h), fun _ _ _ _ _ h => (by cases h)⟩
  · obtain ⟨L0, h0, hinv⟩ := hJ
    have hil : i < l.length := (List.getElem?_eq_some_iff.1 hi).1
    have hL0i : L0 i = false := by rw [h0 i hil]; exact hLi
    have hlean0 : ∀ j, waitsFor l i j = true → j < l.length ∧ L0 j = true := by
      intro j hj
      unfold waitsFor at hj
      rw [hi] at hj
      have hjl : j < l.length := by
        obtain ⟨h1, _, _⟩ := drawnOk_at hok hi
        rw [Array.any_eq_true'] at hj
        obtain ⟨e, he, hej⟩ := hj
        simp only [Bool.and_eq_true, beq_iff_eq] at hej
        have := h1 e he hej.1
        omega
      exact ⟨hjl, by rw [h0 j hjl]; exact hprev j hj⟩
    have hg := hop.at i o hi
    rw [Nat.zero_add] at hg
    have hy := hg a.eval w hinv.like hinv.below (fun j hj hu d hd => by
      obtain ⟨oj, hoj, hdj⟩ := Option.bind_eq_some_iff.1 hd
      have hwj : waitsFor l i j = true := by unfold waitsFor; rw [hi]; exact hj
      refine hinv.facts j oj d hoj hdj (hlean0 j hwj).2 (fun u hu' => ?_)
      rcases hu with hu | hu
      · rw [hu] at hu'; cases hu'
      · rw [hu] at hu'
        cases hu'
        exact hL0i)
    obtain ⟨_, h2, _⟩ := drawnOk_at hok hi
    refine wp_of_yields hy fun v w' hv L' hL' => ⟨fun k => if k = i then true else L0 k, fun k hk => ?_, ?_⟩
    · show (if k = i then true else L0 k) = L' k
      rw [hL' k]
      split
      · rfl
      · exact h0 k hk
    obtain ⟨hv, hb⟩ := hv
    have hsz : w.heap.size ≤ w'.heap.size := hb.size
    have hb0 : Below w0.heap.size w w' := by
      split at hb
      · exact hb
      · exact hb.mono hinv.below.size
    refine ⟨?_, ?_, ⟨fun c => rfl, fun f => rfl, fun k hk => ?_⟩, hinv.below.trans hb0, fun j x hj hx => ?_, fun j hj => ?_, fun j o' d hj hd hlj hu => ?_⟩
    · cases o.dst <;> exact hinv.defers
    · cases hd : o.dst with
      | none => exact hinv.size
      | some d => simpa [Act.put] using hinv.size
    · show (a.put o.dst v).tmps.getD k undef = _
      cases hd : o.dst with
      | none => exact hinv.like.tmp k hk
      | some d =>
        have hne : k ≠ d := by
          have := List.all_eq_true.1 hk o (List.mem_of_getElem? hi)
          simp [hd] at this
          exact fun e => this e.symm
        rw [getD_put hne]
        exact hinv.like.tmp k hk
    · show (if x = i then true else L0 x) = true
      split
      · rfl
      · have hj : (if j = i then true else L0 j) = true := hj
        split at hj
        · rename_i hji
          subst hji
          exact (hlean0 x hx).2
        · exact hinv.closed j x hj hx
    · have hj : (if j = i then true else L0 j) = true := hj
      split at hj
      · rename_i hji
        subst hji
        exact hil
      · exact hinv.only j hj
    · by_cases hji : j = i
      · subst hji
        rw [hi] at hj
        cases hj
        obtain ⟨h3, _⟩ := h2 d hd
        rw [hd, getD_put_same (by rw [hinv.size]; exact h3)]
        exact hv
      · have hlj' : L0 j = true := by
          have hlj : (if j = i then true else L0 j) = true := hlj
          rw [if_neg hji] at hlj
          exact hlj
        have hu' : ∀ u, (uAt us j).until_ = some u → u ≠ i ∧ L0 u = false := fun u hu' => by
          have : (if u = i then true else L0 u) = false := hu u hu'
          split at this
          · cases this
          · rename_i hne
            exact ⟨hne, this⟩
        have hold := hinv.facts j o' d hj hd hlj' (fun u hu'' => (hu' u hu'').2)
        have hnew : (uAt us j).fact.p (a.tmps.getD d undef) w' := by
          by_cases hwi : wild.contains i = true
          · have h4 := List.all_eq_true.1 hw i (by simpa using hwi)
            have hjl : j < l.length := (List.getElem?_eq_some_iff.1 hj).1
            have h5 := List.all_eq_true.1 h4 j (List.mem_range.2 hjl)
            simp only [Bool.or_eq_true, beq_iff_eq] at h5
            rcases h5 with (((h5 | h5) | h5) | h5) | h5
            · exact absurd h5 hji
            · exact (uAt us j).ok h5 _ _ _ hold
            · exact absurd rfl (hu' i h5).1
            · have := waits_deep hinv.closed 3 j i hlj' h5
              rw [hL0i] at this
              cases this
            · cases huu : (uAt us j).until_ with
              | none => rw [huu] at h5; cases h5
              | some u =>
                rw [huu] at h5
                have h5 : waitsDeep l 3 i u = true := h5
                have h6 : (if u = i then true else L0 u) = true := waits_deep (L := fun k => if k = i then true else L0 k) (fun x y hx hxy => by
                  show (if y = i then true else L0 y) = true
                  have hx : (if x = i then true else L0 x) = true := hx
                  split
                  · rfl
                  · split at hx
                    · rename_i hxi
                      subst hxi
                      exact (hlean0 y hxy).2
                    · exact hinv.closed x y hx hxy) 3 i u (by show (if i = i then true else L0 i) = true; rw [if_pos rfl]) h5
                rw [if_neg (hu' u huu).1, (hu' u huu).2] at h6
                cases h6
          · rw [if_neg hwi] at hb
            exact (uAt us j).fact.stable _ _ _ hold hb
        cases hdo : o.dst with
        | none => exact hnew
        | some d' =>
          have hne : d ≠ d' := by
            intro e
            subst e
            exact (h2 d hdo).2 j o' hj hji hd
          rw [getD_put hne]
          exact hnew
  · obtain ⟨L0, h0, hinv⟩ := hJ
    refine hend a w hinv.defers hinv.size hinv.like hinv.below fun i o d hi hd hu => hinv.facts i o d hi hd ?_ (fun u hu' => by rw [hu] at hu'; cases hu')
    have hil : i < l.length := (List.getElem?_eq_some_iff.1 hi).1
    rw [h0 i hil]
    exact hL i hil

theorem u_val {ρ : Operand → Value} {o : Oper} {w : World} {v : Value} {p : Value → World → Prop} {B : Nat} (h : (execOp ρ o).run P w = .ok (.value v) w) (hp : p v w) : YieldsP P ρ o w (fun u w' => p u w' ∧ Below B w w') := by
  unfold YieldsP
  rw [h]
  exact ⟨hp, Below.refl _ _⟩

theorem u_new {ρ : Operand → Value} {o : Oper} {w w' : World} {v : Value} {p : Value → World → Prop} {B : Nat} (h : (execOp ρ o).run P w = .ok (.value v) w') (hp : p v w') (hb : Below B w w') : YieldsP P ρ o w (fun u w' => p u w' ∧ Below B w w') := by
  unfold YieldsP
  rw [h]
  exact ⟨hp, hb⟩
end

/-- the slot holds a row of the region's own -/
def ownsF (B : Nat) (e : TypeId) (size n : Nat) (xs : List Value) : SlotFact := ⟨fun v w => w.ownsRow B e size v n xs, fun _ _ _ h hb => by
  refine ⟨h.1, ?_⟩
  rcases h.2 with h0 | ⟨g, cap, cur, hv, hB, hg, h3⟩
  · exact .inl h0
  · exact .inr ⟨g, cap, cur, hv, hB, (hb.block g (Array.getElem?_eq_some_iff.1 hg).1).trans hg, h3⟩⟩

/-- the slot holds an empty row of the region's own -/
def litF (e : TypeId) (cs : Array Value) (n : Nat) : SlotFact := ⟨fun v w => ∃ g, v = .slice (some ⟨g, 0, none⟩) n n ∧ w.heap[g]? = some (.cells cs e (0, 0)),
  fun _ _ _ ⟨g, h1, h2⟩ hb => ⟨g, h1, (hb.block g (Array.getElem?_eq_some_iff.1 h2).1).trans h2⟩⟩

/-- An append to a row without room goes into new memory. -/
theorem run_append_zero {P : Program} {w : World} (B : Nat) (t tx ty e : TypeId) (i : TypeInfo) (z : Value) (bytes : Nat) (ht : P.underlying t = some (.slice e)) (hi : P.info? e = some i) (hz : i.zero = some z)
    (hsize : i.size = 1) (hby : i.bytes = bytes) (hzs : z.cells.size = 1)
    (g : Nat) (h0 : w.ownsRow B e 1 (.slice (some ⟨g, 0, none⟩) 0 0) 0 []) (x : Value) (m : Nat) (news : List Value) (hs : Src P 1 tx x m news w)
    (h63 : m ≤ maxLen) (hbytes : m * bytes ≤ 140737488355328) (hB : B ≤ w.heap.size) :
    ∃ v' w', (Builtin.append_ #[t, tx] ty #[.slice (some ⟨g, 0, none⟩) 0 0, x]).run P w = .ok v' w' ∧ w'.ownsRow B e 1 v' m news ∧ Below w.heap.size w w' := by
  subst hby
  have hnl := hs.newsLen
  by_cases hm : m = 0
  · subst hm
    have hn : news = [] := List.eq_nil_of_length_eq_zero (by simpa using hnl)
    subst hn
    exact ⟨_, w, run_append_nothing (P := P) w t tx ty e i ht hi (some ⟨g, 0, none⟩) 0 0 (Nat.le_refl _) x (by rw [hsize]; exact hs), h0, Below.refl _ _⟩
  · have hold := (ownsRow.reads h0).firstCells (P := P) w.drew rfl
    have hsmall : 0 + m ≤ 9223372036854775807 := by simp only [maxLen] at h63; omega
    have hrun := run_append_grow_src (P := P) w t tx ty e i z ht hi hz (some ⟨g, 0, none⟩) 0 0 [] (by rw [hsize]; exact hold) x m news (by rw [hsize]; exact hs) (by omega) (by omega) (growslice_fits (by omega) (by rw [Nat.zero_add]; exact hbytes))
    have hge := grownCap_ge w (0 + m) 0 e
    have hcm := grownCap_le_maxLen w (0 + m) 0 e (by omega)
    rw [List.nil_append, Nat.zero_add] at hrun
    rw [Nat.zero_add] at hge hcm
    refine ⟨_, _, hrun, ⟨by simpa using hnl, .inr ⟨w.heap.size, _, _, rfl, hB, heap_alloc_new w.drew _, hge, hcm, ?_, ?_⟩⟩, ⟨rfl, rfl, rfl, by simp, fun k hk => Below.heap_alloc w.drew _ k hk⟩⟩
    · rw [Array.size_append, List.size_toArray, size_zeroCells, hzs, hnl]
      omega
    · simp only [Array.toList_append]
      have : m * 1 = news.length := by omega
      rw [this]
      exact List.take_left

theorem owns_less {w : World} {B B' n s : Nat} {e : TypeId} {v : Value} {xs : List Value} (h : w.ownsRow B e s v n xs) (hB : B' ≤ B) : w.ownsRow B' e s v n xs := by
  refine ⟨h.1, ?_⟩
  rcases h.2 with h0 | ⟨g, cap, cur, hv, hg, h3⟩
  · exact .inl h0
  · exact .inr ⟨g, cap, cur, hv, Nat.le_trans hB hg, h3⟩

theorem owns_zero (w : World) (e : TypeId) (size : Nat) : (w.alloc (.cells #[] e)).ownsRow w.heap.size e size (.slice (some ⟨w.heap.size, 0, none⟩) 0 0) 0 [] :=
  ⟨by simp, .inr ⟨w.heap.size, 0, #[], rfl, Nat.le_refl _, heap_alloc_new w _, Nat.le_refl _, Nat.zero_le _, by simp, by simp⟩⟩

/-- the slot holds an empty row without room -/
def zeroF (B : Nat) (e : TypeId) (size : Nat) : SlotFact := ⟨fun v w => ∃ g, v = .slice (some ⟨g, 0, none⟩) 0 0 ∧ (ownsF B e size 0 []).p v w, fun _ _ _ ⟨g, h1, h2⟩ hb => ⟨g, h1, (ownsF B e size 0 []).stable _ _ _ h2 hb⟩⟩

/-- A row that has just been laid may be read. -/
theorem lit_reads {w : World} {g n size : Nat} {e : TypeId} {cs : List Value} (hg : w.heap[g]? = some (.cells cs.toArray e (0, 0))) (hl : cs.length = n * size) (hn : n ≤ maxLen) : Reads w size (.slice (some ⟨g, 0, none⟩) n n) n cs := by
  refine ⟨hl, _, n, rfl, Nat.le_refl _, hn, fun j u hj => ⟨g, 0, rfl, (Array.getElem?_eq_some_iff.1 hg).1, ?_⟩⟩
  unfold World.cell?
  simp [hg, hj]
end Go.Proofs.YtlibncefiibgaaaDoor

namespace Go.Proofs.YtlibncefiibgaaaDoor
open Go Go.RowKit

theorem keyL_append (p q : List (List UInt8)) : keyL (p ++ q) = keyL p ++ keyL q := by
  induction p with
  | nil => rfl
  | cons x p ih => simp [keyL, ih]

def lists (l : List ByteArray) : List (List UInt8) := l.map (·.data.toList)

theorem six_lists (t : Six) : lists t.list = t.bytes := rfl

/-- The first k parts, as a key has them. -/
def keyTo (t : Six) (k : Nat) : List UInt8 := keyL (lists (t.list.take k))

theorem keyTo_succ {t : Six} {k : Nat} {s : ByteArray} (h : t.list[k]? = some s) : keyTo t (k + 1) = keyTo t k ++ s.data.toList ++ [0] := by
  unfold keyTo
  rw [List.take_add_one, h]
  simp [lists, keyL_append, keyL]

theorem keyTo_length {t : Six} (h : t.short 1000000) (k : Nat) : (keyTo t k).length ≤ 6000006 := by
  obtain ⟨h1, h2, h3, h4, h5, h6⟩ := h
  have e : ∀ (p q : List (List UInt8)), (keyL p).length ≤ (keyL (p ++ q)).length := fun p q => by rw [keyL_append, List.length_append]; omega
  have := e (lists (t.list.take k)) (lists (t.list.drop k))
  rw [show lists (t.list.take k) ++ lists (t.list.drop k) = t.bytes from by unfold lists; rw [← List.map_append, List.take_append_drop]; rfl] at this
  refine Nat.le_trans this ?_
  simp [Six.bytes, keyL]
  omega

end Go.Proofs.YtlibncefiibgaaaDoor

/- A text cut at its zeros. -/
namespace Go.Proofs.YtlibncefiibgaaaDoor
open Go Go.RowKit

def zrest (s : ByteArray) : Nat → ByteArray
  | 0 => s
  | k + 1 => zrest (cutR s 0) k

def zpart (s : ByteArray) (k : Nat) : ByteArray := cutA (zrest s k) 0

theorem zrest_succ : ∀ (k : Nat) (s : ByteArray), zrest s (k + 1) = cutR (zrest s k) 0
  | 0, _ => rfl
  | k + 1, s => by
    show zrest (cutR s 0) (k + 1) = cutR (zrest (cutR s 0) k) 0
    exact zrest_succ k (cutR s 0)

theorem zpart_succ (s : ByteArray) (k : Nat) : zpart s (k + 1) = zpart (cutR s 0) k := rfl

def Six.unk (s : ByteArray) : Six := ⟨zpart s 0, zpart s 1, zpart s 2, zpart s 3, zpart s 4, zpart s 5⟩

def zB : ByteArray := ⟨#[0]⟩

theorem index_zB (s : ByteArray) : Lib.indexB s zB = Lib.indexByte s.data.toList 0 := Lib.index_one s.data.toList 0

theorem zcut_cases (s : ByteArray) : (Lib.indexB s zB = -1 ∧ ∀ k : Nat, s.data.toList[k]? ≠ some 0) ∨
    ∃ i : Nat, Lib.indexB s zB = i ∧ s.extract 0 i = cutA s 0 ∧ s.extract (i + 1) s.size = cutR s 0 ∧ s.data.toList = (cutA s 0).data.toList ++ 0 :: (cutR s 0).data.toList := by
  rw [index_zB]
  have hge := Lib.indexByte_ge s.data.toList 0
  by_cases h0 : Lib.indexByte s.data.toList 0 = -1
  · exact .inl ⟨h0, fun k => Lib.indexByte_none h0 k⟩
  · obtain ⟨k, hk⟩ : ∃ k : Nat, Lib.indexByte s.data.toList 0 = k := ⟨(Lib.indexByte s.data.toList 0).toNat, by omega⟩
    have hh := Lib.indexByte_some hk
    have hm := cut_hit hh.1 hh.2
    have ha : s.extract 0 k = cutA s 0 := by
      unfold cutA cutAL
      rw [hm.1, ← Lib.extract_from_zero]
    have hr : s.extract (k + 1) s.size = cutR s 0 := by
      unfold cutR cutRL
      rw [hm.2, List.drop_drop, ← Lib.extract_to_end]
    refine .inr ⟨k, hk, ha, hr, ?_⟩
    rw [← ha, ← hr, Lib.extract_from_zero, Lib.extract_to_end]
    have hlt : k < s.data.toList.length := (List.getElem?_eq_some_iff.1 hh.1).1
    have hg : s.data.toList[k] = 0 := (List.getElem?_eq_some_iff.1 hh.1).2
    have := List.take_append_drop k s.data.toList
    rw [List.drop_eq_getElem_cons hlt, hg] at this
    exact this.symm

theorem split_of_count : ∀ (k : Nat) (s : ByteArray), Lib.countB s zB = k →
    Lib.splitB zB 0 k s = (List.range k).map (zpart s) ++ [zrest s k] ∧ s.data.toList = keyL (lists ((List.range k).map (zpart s))) ++ (zrest s k).data.toList
  | 0, s, _ => by
    rw [Lib.splitB_zero]
    exact ⟨rfl, rfl⟩
  | k + 1, s, h => by
    rcases zcut_cases s with ⟨hm, _⟩ | ⟨i, hi, ha, hr, hs⟩
    · rw [Lib.countB_miss s zB hm] at h
      cases h
    · rw [Lib.countB_hit s zB i (by decide) hi, show i + zB.size = i + 1 from rfl, hr] at h
      have ih := split_of_count k (cutR s 0) (by omega)
      rw [Lib.splitB_hit zB 0 k s i hi, Nat.add_zero, ha, show i + zB.size = i + 1 from rfl, hr, ih.1]
      have hmap : (List.range (k + 1)).map (zpart s) = cutA s 0 :: (List.range k).map (zpart (cutR s 0)) := by
        rw [List.range_succ_eq_map, List.map_cons, List.map_map]
        rfl
      rw [hmap]
      refine ⟨rfl, ?_⟩
      rw [hs]
      show (cutA s 0).data.toList ++ 0 :: (cutR s 0).data.toList = (keyL ((cutA s 0).data.toList :: lists ((List.range k).map (zpart (cutR s 0))))) ++ (zrest (cutR s 0) k).data.toList
      rw [keyL]
      conv => lhs; rw [ih.2]
      simp

theorem takeWhile_nz : ∀ (x r : List UInt8), NZ x → (x ++ 0 :: r).takeWhile (· != 0) = x ∧ (x ++ 0 :: r).dropWhile (· != 0) = 0 :: r
  | [], r, _ => by simp
  | a :: x, r, h => by
    have ha : (a != 0) = true := by simpa using (nz_cons h).1
    have ih := takeWhile_nz x r (nz_cons h).2
    rw [List.cons_append, List.takeWhile_cons, List.dropWhile_cons, ha]
    simp [ih.1, ih.2]

theorem key_count : ∀ (p : List ByteArray) (s : ByteArray), (∀ x ∈ p, NZ x.data.toList) → s.data.toList = keyL (lists p) →
    Lib.countB s zB = p.length ∧ zrest s p.length = ⟨#[]⟩ ∧ ∀ (i : Nat) (x : ByteArray), p[i]? = some x → zpart s i = x
  | [], s, _, h => by
    have hs : s = ⟨#[]⟩ := by
      apply size_empty.1
      rw [← size_data, h]
      rfl
    subst hs
    refine ⟨?_, rfl, fun i x hi => by simp at hi⟩
    exact Lib.countB_miss _ _ (by decide)
  | x :: p, s, hn, h => by
    have hx := hn x (List.mem_cons_self ..)
    have hk : s.data.toList = x.data.toList ++ 0 :: keyL (lists p) := h
    have htw := takeWhile_nz x.data.toList (keyL (lists p)) hx
    have ha : cutA s 0 = x := by
      unfold cutA cutAL
      rw [hk, htw.1]
    have hr : (cutR s 0).data.toList = keyL (lists p) := by
      unfold cutR cutRL
      rw [hk, htw.2]
      simp
    have ih := key_count p (cutR s 0) (fun y hy => hn y (List.mem_cons_of_mem _ hy)) hr
    rcases zcut_cases s with ⟨_, hno⟩ | ⟨i, hi, _, hr', _⟩
    · exfalso
      refine hno x.data.toList.length ?_
      rw [hk, List.getElem?_append_right (Nat.le_refl _)]
      simp
    · refine ⟨?_, ih.2.1, fun j y hj => ?_⟩
      · rw [Lib.countB_hit s zB i (by decide) hi, show i + zB.size = i + 1 from rfl, hr', ih.1, List.length_cons]
        omega
      · cases j with
        | zero =>
          simp at hj
          subst hj
          exact ha
        | succ j => exact ih.2.2 j y (by simpa using hj)

theorem six_list_eq {p q : Six} (h : p.list = q.list) : p = q := by
  cases p; cases q
  simp [Six.list] at h
  obtain ⟨rfl, rfl, rfl, rfl, rfl, rfl⟩ := h
  rfl

theorem unk_list (s : ByteArray) : (Six.unk s).list = (List.range 6).map (zpart s) := rfl

def keyB' (t : Six) : ByteArray := ⟨(keyL t.bytes).toArray⟩

theorem nz_list {t : Six} (h : t.ok = true) : ∀ x ∈ t.list, NZ x.data.toList := fun x hx => nz_six h _ (by rw [← six_lists]; exact List.mem_map.2 ⟨x, hx, rfl⟩)

/-- What the key of a tuple that may be tells. -/
theorem unk_key {t : Six} (h : t.ok = true) : Six.unk (keyB' t) = t ∧ Lib.countB (keyB' t) zB = 6 ∧ zrest (keyB' t) 6 = ⟨#[]⟩ := by
  obtain ⟨h1, h2, h3⟩ := key_count t.list (keyB' t) (nz_list h) rfl
  refine ⟨six_list_eq ?_, h1, h2⟩
  simp only [Six.unk, Six.list]
  rw [h3 0 t.a rfl, h3 1 t.b rfl, h3 2 t.c rfl, h3 3 t.d rfl, h3 4 t.e rfl, h3 5 t.f rfl]

/-- Is the text a tuple's key? -/
def isKey (s : ByteArray) : Bool := (Six.unk s).ok && decide (keyB' (Six.unk s) = s)

theorem isKey_of {s : ByteArray} (hc : Lib.countB s zB = 6) (hz : zrest s 6 = ⟨#[]⟩) : keyB' (Six.unk s) = s := by
  have h := (split_of_count 6 s hc).2
  rw [hz, ← unk_list, six_lists] at h
  unfold keyB'
  apply ByteArray.ext
  rw [← Array.toList_inj]
  simp at h ⊢
  exact h.symm

theorem isKey_eq (s : ByteArray) : isKey s = (decide (Lib.countB s zB = 6) && decide (zrest s 6 = ⟨#[]⟩) && (Six.unk s).ok) := by
  unfold isKey
  cases hok : (Six.unk s).ok with
  | false => simp
  | true =>
    by_cases hk : keyB' (Six.unk s) = s
    · obtain ⟨_, h2, h3⟩ := unk_key hok
      rw [hk] at h2 h3
      simp [hk, h2, h3]
    · by_cases hc : Lib.countB s zB = 6
      · by_cases hz : zrest s 6 = ⟨#[]⟩
        · exact absurd (isKey_of hc hz) hk
        · simp [hk, hz]
      · simp [hk, hc]
end Go.Proofs.YtlibncefiibgaaaDoor

namespace Go.Proofs.YtlibncefiibgaaaDoor
open Go Go.RowKit

/-- A tuple that lies in a row of its own. -/
theorem tups_one {w : World} {b : Nat} {t : Six} {e : TypeId} (h : w.heap[b]? = some (.cells (scells t.list).toArray e (0, 0))) : TupsAt w b [t] := by
  intro j t' hj i s hi
  have : j = 0 := by
    have := (List.getElem?_eq_some_iff.1 hj).1
    simp at this
    exact this
  subst this
  simp at hj
  subst hj
  rw [Nat.zero_mul, Nat.zero_add, Lib.cell_of_heap h i]
  simp [scells, hi]

theorem six_cells {w : World} {b : Nat} {t : Six} {e : TypeId} (h : w.heap[b]? = some (.cells (scells t.list).toArray e (0, 0))) :
    w.cell? ⟨b, 0, none⟩ = some (.string t.a) ∧ w.cell? ⟨b, 1, none⟩ = some (.string t.b) ∧ w.cell? ⟨b, 2, none⟩ = some (.string t.c) ∧ w.cell? ⟨b, 3, none⟩ = some (.string t.d) ∧ w.cell? ⟨b, 4, none⟩ = some (.string t.e) ∧ w.cell? ⟨b, 5, none⟩ = some (.string t.f) :=
  ⟨Lib.cell_of_heap h 0, Lib.cell_of_heap h 1, Lib.cell_of_heap h 2, Lib.cell_of_heap h 3, Lib.cell_of_heap h 4, Lib.cell_of_heap h 5⟩

end Go.Proofs.YtlibncefiibgaaaDoor

/- A region that draws its order and ends in operations that follow one another: facts for the others, then those in their row. -/
namespace Go.Proofs.YtlibncefiibgaaaDoor
open Go Go.RowKit

def waitsOn (ops : List Oper) (j i : Nat) : Bool := match ops[j]? with | some o => o.after.any fun e => Region.binds .any e && e.on == i | none => false

/-- what the m-th leans on, itself and all that it leans on -/
def leanSet (ops : List Oper) (m : Nat) : Nat → List Nat
  | 0 => [m]
  | d + 1 => if (leanSet ops m d).any (fun j => waitsOn ops j (m - (d + 1))) then (m - (d + 1)) :: leanSet ops m d else leanSet ops m d

def leansAll (ops : List Oper) (m : Nat) : Bool := (List.range m).all fun i => (leanSet ops m m).contains i && i != m

def tailOk (l tl : List Oper) : Bool := (List.range tl.length).all fun j => leansAll (l ++ tl) (l.length + j)

theorem lean_set {ops : List Oper} {m : Nat} {L : Nat → Bool} (hc : ∀ j i, L j = true → waitsOn ops j i = true → L i = true) (hm : ∀ i, waitsOn ops m i = true → L i = true) : ∀ d x, x ∈ leanSet ops m d → x = m ∨ L x = true
  | 0, x, h => by simp [leanSet] at h; exact .inl h
  | d + 1, x, h => by
    unfold leanSet at h
    split at h
    · rename_i ha
      rcases List.mem_cons.1 h with rfl | h
      · right
        obtain ⟨j, hj, hw⟩ := List.any_eq_true.1 ha
        rcases lean_set hc hm d j hj with rfl | hl
        · exact hm _ hw
        · exact hc j _ hl hw
      · exact lean_set hc hm d x h
    · exact lean_set hc hm d x h

theorem leans_all {ops : List Oper} {m : Nat} {L : Nat → Bool} (h : leansAll ops m = true) (hc : ∀ j i, L j = true → waitsOn ops j i = true → L i = true) (hm : ∀ i, waitsOn ops m i = true → L i = true) : ∀ i, i < m → L i = true := by
  intro i hi
  have h1 := List.all_eq_true.1 h i (List.mem_range.2 hi)
  simp only [Bool.and_eq_true] at h1
  have h2 : i ∈ leanSet ops m m := by simpa using h1.1
  rcases lean_set hc hm m i h2 with rfl | h3
  · omega
  · exact h3

section
variable {P : Program} {id : Nat} {l tl : List Oper} {Q : Exit → Act → World → Prop} {a0 : Act} {w0 : World}

def seqWp (P : Program) (Q : Exit → Act → World → Prop) : List Oper → Act → World → Prop
  | [], a, w => Q .normal a w
  | o :: r, a, w => o.wp P a w (seqWp P Q r) Q

theorem InvL.step' {z : List Oper} {F : Nat → Value → World → Prop} (hF : ∀ i v w w', F i v w → Below w.heap.size w w' → F i v w') (hok : drawnOk (l ++ z) a0.tmps.size = true)
    {L L' : Nat → Bool} {a : Act} {w w' : World} (h : InvL l F a0 w0 L a w) {i : Nat} {o : Oper} (hi : l[i]? = some o) {v : Value} (hv : F i v w') (hb : Below w.heap.size w w')
    (hL : ∀ k, L' k = if k = i then true else L k) : InvL l F a0 w0 L' (a.put o.dst v) w' := by
  have hin : ∀ {i : Nat} {o : Oper}, l[i]? = some o → (l ++ z)[i]? = some o := fun h => by
    rw [List.getElem?_append_left (List.getElem?_eq_some_iff.1 h).1]
    exact h
  obtain ⟨_, h2, _⟩ := drawnOk_at hok (hin hi)
  refine ⟨?_, ?_, ⟨fun c => rfl, fun f => rfl, fun k hk => ?_⟩, h.below.trans (hb.mono h.below.size), fun j o' d hj hd hl => ?_⟩
  · cases o.dst <;> exact h.defers
  · cases hd : o.dst with
    | none => exact h.size
    | some d => simpa [Act.put] using h.size
  · show (a.put o.dst v).tmps.getD k undef = _
    cases hd : o.dst with
    | none => exact h.like.tmp k hk
    | some d =>
      have hne : k ≠ d := by
        have := List.all_eq_true.1 hk o (List.mem_of_getElem? hi)
        simp [hd] at this
        exact fun e => this e.symm
      rw [getD_put hne]
      exact h.like.tmp k hk
  · by_cases hji : j = i
    · subst hji
      rw [hi] at hj
      cases hj
      obtain ⟨h3, _⟩ := h2 d hd
      rw [hd, getD_put_same (by rw [h.size]; exact h3)]
      exact hv
    · have hl' : L j = true := by
        have := hL j
        rw [if_neg hji] at this
        rw [← this]
        exact hl
      have := hF _ _ _ _ (h.facts j o' d hj hd hl') hb
      cases hdo : o.dst with
      | none => exact this
      | some d' =>
        have hne : d ≠ d' := by
          intro e
          subst e
          exact (h2 d hdo).2 j o' (hin hj) hji hd
        rw [getD_put hne]
        exact this

/-- what has been carried out has all that it leans on -/
def Closed (ops : List Oper) (L : Nat → Bool) : Prop := ∀ j i, j < ops.length → L j = true → waitsOn ops j i = true → L i = true

theorem wp_region_tail (hm : P.follows .mixedOrders = true) (fs : List SlotFact) (hok : drawnOk (l ++ tl) a0.tmps.size = true) (hung : (l ++ tl).all (·.guard.isNone) = true) (hz : tailOk l tl = true) (hpos : 0 < tl.length)
    (hop : AllFrom (OpGoal P l fs a0 w0) 0 l)
    (hend : ∀ a w, a.defers = a0.defers → a.tmps.size = a0.tmps.size → Like l a0 a.eval → Below w0.heap.size w0 w → (∀ (i : Nat) (o : Oper) (d : Nat), l[i]? = some o → o.dst = some d → factsOf fs i (a.tmps.getD d undef) w) → seqWp P Q tl a w) :
    (Code.region id (l ++ tl).toArray true).wp P Q a0 w0 := by
  have hwait : ∀ (L : Nat → Bool) (i : Nat) (o : Oper), (l ++ tl)[i]? = some o → (∀ j, (o.after.any fun e => Region.binds .any e && e.on == j) = true → L j = true) → ∀ j, waitsOn (l ++ tl) i j = true → L j = true := by
    intro L i o hi hp j hj
    unfold waitsOn at hj
    rw [hi] at hj
    exact hp j hj
  refine wp_region_inv hm hok hung (fun L a w => Closed (l ++ tl) L ∧ (((∀ j, j < tl.length → L (l.length + j) = false) ∧ InvL l (factsOf fs) a0 w0 L a w) ∨ (∃ k, 0 < k ∧ k ≤ tl.length ∧ (∀ i, i < l.length + k → L i = true) ∧ (∀ j, k ≤ j → j < tl.length → L (l.length + j) = false) ∧ seqWp P Q (tl.drop k) a w)))
    (fun L hL => ?_) (fun i o hi L a w hLi hprev hJ => ?_) (fun L a w hL hJ => ?_)
  · refine ⟨fun j i hj hlj _ => ?_, .inl ⟨fun j hj => hL _ (by rw [List.length_append]; omega), rfl, rfl, ⟨fun _ => rfl, fun _ => rfl, fun _ _ => rfl⟩, ⟨rfl, rfl, rfl, Nat.le_refl _, fun _ _ => rfl⟩, fun i o d hi _ hl => ?_⟩⟩
    · rw [hL j hj] at hlj
      cases hlj
    · rw [hL i (by have := (List.getElem?_eq_some_iff.1 hi).1; rw [List.length_append]; omega)] at hl
      cases hl
  · obtain ⟨hcl, hJ⟩ := hJ
    have hlt : i < l.length + tl.length := by
      have := (List.getElem?_eq_some_iff.1 hi).1
      rw [List.length_append] at this
      exact this
    have hclosed : ∀ L' : Nat → Bool, (∀ k, L' k = if k = i then true else L k) → Closed (l ++ tl) L' := by
      intro L' hL' j x hj hlj hw
      rw [hL' x]
      split
      · rfl
      · rw [hL' j] at hlj
        split at hlj
        · rename_i hji
          subst hji
          exact hwait L j o hi hprev x hw
        · exact hcl j x hj hlj hw
    by_cases hil : i < l.length
    · have hio : l[i]? = some o := by
        rw [List.getElem?_append_left hil] at hi
        exact hi
      rcases hJ with ⟨hf, hinv⟩ | ⟨k, _, _, hall, _, _⟩
      · have hg := hop.at i o hio
        rw [Nat.zero_add] at hg
        have hleans : Leans l (factsOf fs) o a.eval w := by
          intro j hj d hd
          obtain ⟨oj, hoj, hdj⟩ := Option.bind_eq_some_iff.1 hd
          exact hinv.facts j oj d hoj hdj (hprev j hj)
        refine wp_of_yields (hg a.eval w hinv.like hinv.below hleans) fun v w' hv L' hL' => ⟨hclosed L' hL', .inl ⟨fun j hj => ?_, hinv.step' (factsOf_stable fs) hok hio hv.1 hv.2 hL'⟩⟩
        rw [hL' (l.length + j), if_neg (by omega)]
        exact hf j hj
      · rw [hall i (by omega)] at hLi
        cases hLi
    · obtain ⟨j, rfl⟩ : ∃ j, i = l.length + j := ⟨i - l.length, by omega⟩
      have hj : j < tl.length := by omega
      have hoj : tl[j]? = some o := by
        rw [List.getElem?_append_right (by omega), show l.length + j - l.length = j by omega] at hi
        exact hi
      have hfull : ∀ x, x < l.length + j → L x = true := by
        refine leans_all (List.all_eq_true.1 hz j (List.mem_range.2 hj)) (fun p q hp hw => ?_) (hwait L _ o hi hprev)
        by_cases hpl : p < (l ++ tl).length
        · exact hcl p q hpl hp hw
        · unfold waitsOn at hw
          rw [List.getElem?_eq_none (by omega)] at hw
          cases hw
      have hgo : ∀ k, k = j → seqWp P Q (tl.drop k) a w → o.wp P a w (fun a' w' => ∀ L' : Nat → Bool, (∀ x, L' x = if x = l.length + j then true else L x) → Closed (l ++ tl) L' ∧ (((∀ y, y < tl.length → L' (l.length + y) = false) ∧ InvL l (factsOf fs) a0 w0 L' a' w') ∨ (∃ k, 0 < k ∧ k ≤ tl.length ∧ (∀ i, i < l.length + k → L' i = true) ∧ (∀ y, k ≤ y → y < tl.length → L' (l.length + y) = false) ∧ seqWp P Q (tl.drop k) a' w'))) Q ∨ ¬ (∀ y, j ≤ y → y < tl.length → L (l.length + y) = false) := by
        intro k hk hs
        by_cases hrest : ∀ y, j ≤ y → y < tl.length → L (l.length + y) = false
        · left
          subst hk
          rw [List.drop_eq_getElem_cons hj] at hs
          have ho : tl[k] = o := by
            rw [List.getElem?_eq_getElem hj] at hoj
            exact Option.some.inj hoj
          rw [ho] at hs
          refine Oper.wp_mono (fun a' w' hq L' hL' => ⟨hclosed L' hL', .inr ⟨k + 1, by omega, by omega, fun x hx => ?_, fun y hy hyl => ?_, hq⟩⟩) hs
          · rw [hL' x]
            split
            · rfl
            · exact hfull x (by omega)
          · rw [hL' (l.length + y), if_neg (by omega)]
            exact hrest y (by omega) hyl
        · exact .inr hrest
      rcases hJ with ⟨hf, hinv⟩ | ⟨k, hk0, hkl, hall, hnot, hs⟩
      · have hj0 : j = 0 := by
          rcases Nat.eq_zero_or_pos j with h | h
          · exact h
          · have h1 := hfull (l.length + 0) (by omega)
            rw [hf 0 hpos] at h1
            cases h1
        have hs := hend a w hinv.defers hinv.size hinv.like hinv.below fun x ox d hx hd => hinv.facts x ox d hx hd (hfull x (by have := (List.getElem?_eq_some_iff.1 hx).1; omega))
        rcases hgo 0 hj0.symm (by simpa using hs) with h | h
        · exact h
        · exact absurd (fun y _ hyl => hf y hyl) h
      · have hjk : k = j := by
          rcases Nat.lt_trichotomy k j with h | h | h
          · have h1 := hfull (l.length + k) (by omega)
            rw [hnot k (Nat.le_refl _) (by omega)] at h1
            cases h1
          · exact h
          · rw [hall (l.length + j) (by omega)] at hLi
            cases hLi
        rcases hgo k hjk hs with h | h
        · exact h
        · exact absurd (fun y hy hyl => hnot y (by omega) hyl) h
  · obtain ⟨_, hJ⟩ := hJ
    rcases hJ with ⟨hf, _⟩ | ⟨k, hk0, hkl, _, hnot, hs⟩
    · have h1 := hL (l.length + 0) (by rw [List.length_append]; omega)
      rw [hf 0 hpos] at h1
      cases h1
    · have hk : k = tl.length := by
        rcases Nat.lt_or_ge k tl.length with h | h
        · have h1 := hL (l.length + k) (by rw [List.length_append]; omega)
          rw [hnot k (Nat.le_refl _) h] at h1
          cases h1
        · omega
      subst hk
      rw [List.drop_length] at hs
      exact hs
end
end Go.Proofs.YtlibncefiibgaaaDoor

/- A region that draws its order, some of whose operations write into rows that the region itself made, and whose last operation waits for all others: facts that hold until their row is taken on, then that one. -/
namespace Go.Proofs.YtlibncefiibgaaaDoor
open Go Go.RowKit

section
variable {P : Program} {id : Nat} {l : List Oper} {z : Oper} {Q : Exit → Act → World → Prop} {a0 : Act} {w0 : World}

theorem InvU.step {us : List UntilFact} {wild : List Nat} (hok : drawnOk l a0.tmps.size = true) (hw : wildOk l us wild = true) {L0 : Nat → Bool} {a : Act} {w w' : World} (hinv : InvU l us a0 w0 L0 a w) {i : Nat} {o : Oper} (hi : l[i]? = some o)
    (hL0i : L0 i = false) (hlean0 : ∀ j, waitsFor l i j = true → j < l.length ∧ L0 j = true) {v : Value} (hv : (uAt us i).fact.p v w') (hb : Below (if wild.contains i then w0.heap.size else w.heap.size) w w') :
    InvU l us a0 w0 (fun k => if k = i then true else L0 k) (a.put o.dst v) w' := by
  have hil : i < l.length := (List.getElem?_eq_some_iff.1 hi).1
  obtain ⟨_, h2, _⟩ := drawnOk_at hok hi
  have hsz : w.heap.size ≤ w'.heap.size := hb.size
  have hb0 : Below w0.heap.size w w' := by
    split at hb
    · exact hb
    · exact hb.mono hinv.below.size
  refine ⟨?_, ?_, ⟨fun c => rfl, fun f => rfl, fun k hk => ?_⟩, hinv.below.trans hb0, fun j x hj hx => ?_, fun j hj => ?_, fun j o' d hj hd hlj hu => ?_⟩
  · cases o.dst <;> exact hinv.defers
  · cases hd : o.dst with
    | none => exact hinv.size
    | some d => simpa [Act.put] using hinv.size
  · show (a.put o.dst v).tmps.getD k undef = _
    cases hd : o.dst with
    | none => exact hinv.like.tmp k hk
    | some d =>
      have hne : k ≠ d := by
        have := List.all_eq_true.1 hk o (List.mem_of_getElem? hi)
        simp [hd] at this
        exact fun e => this e.symm
      rw [getD_put hne]
      exact hinv.like.tmp k hk
  · show (if x = i then true else L0 x) = true
    split
    · rfl
    · have hj : (if j = i then true else L0 j) = true := hj
      split at hj
      · rename_i hji
        subst hji
        exact (hlean0 x hx).2
      · exact hinv.closed j x hj hx
  · have hj : (if j = i then true else L0 j) = true := hj
    split at hj
    · rename_i hji
      subst hji
      exact hil
    · exact hinv.only j hj
  · by_cases hji : j = i
    · subst hji
      rw [hi] at hj
      cases hj
      obtain ⟨h3, _⟩ := h2 d hd
      rw [hd, getD_put_same (by rw [hinv.size]; exact h3)]
      exact hv
    · have hlj' : L0 j = true := by
        have hlj : (if j = i then true else L0 j) = true := hlj
        rw [if_neg hji] at hlj
        exact hlj
      have hu' : ∀ u, (uAt us j).until_ = some u → u ≠ i ∧ L0 u = false := fun u hu' => by
        have : (if u = i then true else L0 u) = false := hu u hu'
        split at this
        · cases this
        · rename_i hne
          exact ⟨hne, this⟩
      have hold := hinv.facts j o' d hj hd hlj' (fun u hu'' => (hu' u hu'').2)
      have hnew : (uAt us j).fact.p (a.tmps.getD d undef) w' := by
        by_cases hwi : wild.contains i = true
        · have h4 := List.all_eq_true.1 hw i (by simpa using hwi)
          have hjl : j < l.length := (List.getElem?_eq_some_iff.1 hj).1
          have h5 := List.all_eq_true.1 h4 j (List.mem_range.2 hjl)
          simp only [Bool.or_eq_true, beq_iff_eq] at h5
          rcases h5 with (((h5 | h5) | h5) | h5) | h5
          · exact absurd h5 hji
          · exact (uAt us j).ok h5 _ _ _ hold
          · exact absurd rfl (hu' i h5).1
          · have := waits_deep hinv.closed 3 j i hlj' h5
            rw [hL0i] at this
            cases this
          · cases huu : (uAt us j).until_ with
            | none => rw [huu] at h5; cases h5
            | some u =>
              rw [huu] at h5
              have h5 : waitsDeep l 3 i u = true := h5
              have h6 : (if u = i then true else L0 u) = true := waits_deep (L := fun k => if k = i then true else L0 k) (fun x y hx hxy => by
                show (if y = i then true else L0 y) = true
                have hx : (if x = i then true else L0 x) = true := hx
                split
                · rfl
                · split at hx
                  · rename_i hxi
                    subst hxi
                    exact (hlean0 y hxy).2
                  · exact hinv.closed x y hx hxy) 3 i u (by show (if i = i then true else L0 i) = true; rw [if_pos rfl]) h5
              rw [if_neg (hu' u huu).1, (hu' u huu).2] at h6
              cases h6
        · rw [if_neg hwi] at hb
          exact (uAt us j).fact.stable _ _ _ hold hb
      cases hdo : o.dst with
      | none => exact hnew
      | some d' =>
        have hne : d ≠ d' := by
          intro e
          subst e
          exact (h2 d hdo).2 j o' hj hji hd
        rw [getD_put hne]
        exact hnew

theorem wp_region_until_last (hm : P.follows .mixedOrders = true) (us : List UntilFact) (wild : List Nat) (hok : drawnOk (l ++ [z]) a0.tmps.size = true) (hok' : drawnOk l a0.tmps.size = true) (hung : (l ++ [z]).all (·.guard.isNone) = true) (hw : wildOk l us wild = true) (hz : leansAll (l ++ [z]) l.length = true)
    (hop : AllFrom (OpGoalU P l us wild a0 w0) 0 l)
    (hend : ∀ a w, a.defers = a0.defers → a.tmps.size = a0.tmps.size → Like l a0 a.eval → Below w0.heap.size w0 w → (∀ (i : Nat) (o : Oper) (d : Nat), l[i]? = some o → o.dst = some d → (uAt us i).until_ = none → (uAt us i).fact.p (a.tmps.getD d undef) w) → z.wp P a w (fun a' w' => Q .normal a' w') Q) :
    (Code.region id (l ++ [z]).toArray true).wp P Q a0 w0 := by
  refine wp_region_inv hm hok hung (fun L a w => (L l.length = true ∧ (∀ x, x < l.length → L x = true) ∧ Q .normal a w) ∨ (L l.length = false ∧ ∃ L0 : Nat → Bool, (∀ k, k < l.length → L0 k = L k) ∧ InvU l us a0 w0 L0 a w)) (fun L hL => ?_) (fun i o hi L a w hLi hprev hJ => ?_) (fun L a w hL hJ => ?_)
  · exact .inr ⟨hL _ (by simp), fun _ => false, fun k hk => (hL k (by simp; omega)).symm, rfl, rfl, ⟨fun _ => rfl, fun _ => rfl, fun _ _ => rfl⟩, ⟨rfl, rfl, rfl, Nat.le_refl _, fun _ _ => rfl⟩, fun _ _ h => (by cases h), fun _ h => (by cases h), fun _ _ _ _ _ h => (by cases h)⟩
  · rcases hJ with ⟨h1, hfull, _⟩ | ⟨hn, L0, h0, hinv⟩
    · rcases last_at hi with ⟨hlt, _⟩ | ⟨rfl, _⟩
      · rw [hfull i hlt] at hLi
        cases hLi
      · rw [h1] at hLi
        cases hLi
    · rcases last_at hi with ⟨hil, hio⟩ | ⟨rfl, rfl⟩
      · have hL0i : L0 i = false := by rw [h0 i hil]; exact hLi
        have hlean0 : ∀ j, waitsFor l i j = true → j < l.length ∧ L0 j = true := by
          intro j hj
          unfold waitsFor at hj
          rw [hio] at hj
          have hjl : j < l.length := by
            obtain ⟨h1, _, _⟩ := drawnOk_at hok' hio
            rw [Array.any_eq_true'] at hj
            obtain ⟨e, he, hej⟩ := hj
            simp only [Bool.and_eq_true, beq_iff_eq] at hej
            have := h1 e he hej.1
            omega
          exact ⟨hjl, by rw [h0 j hjl]; exact hprev j hj⟩
        have hg := hop.at i o hio
        rw [Nat.zero_add] at hg
        have hy := hg a.eval w hinv.like hinv.below (fun j hj hu d hd => by
          obtain ⟨oj, hoj, hdj⟩ := Option.bind_eq_some_iff.1 hd
          have hwj : waitsFor l i j = true := by unfold waitsFor; rw [hio]; exact hj
          refine hinv.facts j oj d hoj hdj (hlean0 j hwj).2 (fun u hu' => ?_)
          rcases hu with hu | hu
          · rw [hu] at hu'; cases hu'
          · rw [hu] at hu'
            cases hu'
            exact hL0i)
        refine wp_of_yields hy fun v w' hv L' hL' => .inr ⟨?_, fun k => if k = i then true else L0 k, fun k hk => ?_, hinv.step hok' hw hio hL0i hlean0 hv.1 hv.2⟩
        · rw [hL' l.length, if_neg (by omega)]
          exact hn
        · show (if k = i then true else L0 k) = L' k
          rw [hL' k]
          split
          · rfl
          · exact h0 k hk
      · have hcl : ∀ j i, L0 j = true → waitsOn (l ++ [o]) j i = true → L0 i = true := by
          intro j i hj hw'
          have hjl := hinv.only j hj
          refine hinv.closed j i hj ?_
          unfold waitsOn at hw'
          unfold waitsFor
          rw [List.getElem?_append_left hjl] at hw'
          exact hw'
        have hlow : ∀ j, waitsOn (l ++ [o]) l.length j = true → L0 j = true := by
          intro j hj
          unfold waitsOn at hj
          rw [hi] at hj
          have hjl : j < l.length := by
            obtain ⟨h1, _, _⟩ := drawnOk_at hok hi
            have hj' := hj
            simp only [Array.any_eq_true'] at hj'
            obtain ⟨e, he, hej⟩ := hj'
            simp only [Bool.and_eq_true, beq_iff_eq] at hej
            have := h1 e he hej.1
            omega
          rw [h0 j hjl]
          exact hprev j hj
        have hall : ∀ x, x < l.length → L0 x = true := leans_all hz hcl hlow
        refine Oper.wp_mono (fun a' w' hq L' hL' => .inl ⟨?_, fun x hx => ?_, hq⟩) (hend a w hinv.defers hinv.size hinv.like hinv.below fun i o d hi hd hu => hinv.facts i o d hi hd (hall i (List.getElem?_eq_some_iff.1 hi).1) (fun u hu' => by rw [hu] at hu'; cases hu'))
        · rw [hL' l.length, if_pos rfl]
        · rw [hL' x, if_neg (by omega), ← h0 x hx]
          exact hall x hx
  · rcases hJ with ⟨_, _, hq⟩ | ⟨hn, _⟩
    · exact hq
    · rw [hL l.length (by simp)] at hn
      cases hn
end
end Go.Proofs.YtlibncefiibgaaaDoor

/- Rows of structs in a region that draws its order: appended to a row without room; cut in two. -/
namespace Go.Proofs.YtlibncefiibgaaaDoor
open Go Go.RowKit

/-- An append to a row without room goes into new memory. -/
theorem run_append_zero_s {P : Program} {w : World} (B : Nat) (t tx ty e : TypeId) (i : TypeInfo) (z : Value) (size bytes : Nat) (ht : P.underlying t = some (.slice e)) (hi : P.info? e = some i) (hz : i.zero = some z)
    (hsize : i.size = size) (hby : i.bytes = bytes) (hzs : z.cells.size = size)
    (g : Nat) (h0 : w.ownsRow B e size (.slice (some ⟨g, 0, none⟩) 0 0) 0 []) (x : Value) (m : Nat) (news : List Value) (hs : Src P size tx x m news w)
    (h63 : m ≤ maxLen) (hbytes : m * bytes ≤ 140737488355328) (hB : B ≤ w.heap.size) :
    ∃ v' w', (Builtin.append_ #[t, tx] ty #[.slice (some ⟨g, 0, none⟩) 0 0, x]).run P w = .ok v' w' ∧ w'.ownsRow B e size v' m news ∧ Below w.heap.size w w' := by
  subst hby
  subst hsize
  have hnl := hs.newsLen
  by_cases hm : m = 0
  · subst hm
    have hn : news = [] := List.eq_nil_of_length_eq_zero (by simpa using hnl)
    subst hn
    exact ⟨_, w, run_append_nothing (P := P) w t tx ty e i ht hi (some ⟨g, 0, none⟩) 0 0 (Nat.le_refl _) x hs, h0, Below.refl _ _⟩
  · have hold := (ownsRow.reads h0).firstCells (P := P) w.drew rfl
    have hsmall : 0 + m ≤ 9223372036854775807 := by simp only [maxLen] at h63; omega
    have hrun := run_append_grow_src (P := P) w t tx ty e i z ht hi hz (some ⟨g, 0, none⟩) 0 0 [] hold x m news hs (by omega) (by omega) (growslice_fits (by omega) (by rw [Nat.zero_add]; exact hbytes))
    have hge := grownCap_ge w (0 + m) 0 e
    have hcm := grownCap_le_maxLen w (0 + m) 0 e (by omega)
    rw [List.nil_append, Nat.zero_add] at hrun
    rw [Nat.zero_add] at hge hcm
    refine ⟨_, _, hrun, ⟨by simpa using hnl, .inr ⟨w.heap.size, _, _, rfl, hB, heap_alloc_new w.drew _, hge, hcm, ?_, ?_⟩⟩, ⟨rfl, rfl, rfl, by simp, fun k hk => Below.heap_alloc w.drew _ k hk⟩⟩
    · rw [Array.size_append, List.size_toArray, size_zeroCells, hzs, hnl, ← Nat.add_mul]
      congr 1
      omega
    · simp only [Array.toList_append]
      rw [← hnl]
      exact List.take_left

theorem Reads.rtake {w : World} {s : Nat} {a : Option Addr} {n cap : Nat} {xs : List Value} (h : Reads w s (.slice a n cap) n xs) (k : Nat) (hk : k ≤ n) : Reads w s (.slice a k cap) k (xs.take (k * s)) := by
  obtain ⟨hl, a', cap', hv, h1, h2, h3⟩ := h
  cases hv
  have := Nat.mul_le_mul_right s hk
  refine ⟨by rw [List.length_take]; omega, a, cap, rfl, by omega, h2, fun j u hj => h3 j u ?_⟩
  rw [List.getElem?_take] at hj
  split at hj
  · exact hj
  · cases hj

/-- The address behind the first k elements of s cells, as the model leaves it. -/
def behindS (a : Option Addr) (k cap s : Nat) : Option Addr := if cap = k then a else a.map fun x => x.add (k * s)

theorem Reads.rdrop {w : World} {s : Nat} {a : Option Addr} {n cap : Nat} {xs : List Value} (h : Reads w s (.slice a n cap) n xs) (k : Nat) (hk : k ≤ n) : Reads w s (.slice (behindS a k cap s) (n - k) (cap - k)) (n - k) (xs.drop (k * s)) := by
  obtain ⟨hl, a', cap', hv, h1, h2, h3⟩ := h
  cases hv
  have hm := Nat.mul_le_mul_right s hk
  refine ⟨by rw [List.length_drop, Nat.sub_mul]; omega, _, _, rfl, by omega, by omega, fun j u hj => ?_⟩
  have hjl := (List.getElem?_eq_some_iff.1 hj).1
  rw [List.length_drop] at hjl
  rw [List.getElem?_drop] at hj
  obtain ⟨b, off, rfl, hb, hr⟩ := h3 _ _ hj
  unfold behindS
  have hne : cap ≠ k := by
    intro e
    have : n = k := by omega
    subst this
    omega
  rw [if_neg hne]
  exact ⟨b, off + k * s, by simp [Addr.add], hb, by rw [Nat.add_assoc]; exact hr⟩

theorem owns_zero_s (w : World) (e : TypeId) (size : Nat) : (w.alloc (.cells #[] e)).ownsRow w.heap.size e size (.slice (some ⟨w.heap.size, 0, none⟩) 0 0) 0 [] := owns_zero w e size
end Go.Proofs.YtlibncefiibgaaaDoor

/- A region that draws its order, some of whose guarded operations are not carried out. -/
namespace Go.Proofs.YtlibncefiibgaaaDoor
open Go Go.RowKit

section
variable {P : Program} {id : Nat} {l : List Oper} {Q : Exit → Act → World → Prop} {a0 : Act} {w0 : World}

theorem on_goal {c : Prop} [Decidable c] {A B : Prop} (h : ¬ c) (hb : B) : if c then A else B := by rw [if_neg h]; exact hb
theorem off_goal {c : Prop} [Decidable c] {A B : Prop} (h : c) (hb : A) : if c then A else B := by rw [if_pos h]; exact hb

/-- THE REGION: the operations of the list `off` are not carried out. -/
theorem wp_region_some (hm : P.follows .mixedOrders = true) (off : List Nat) (fs : List SlotFact) (hok : drawnOk l a0.tmps.size = true)
    (hop : AllFrom (fun i o => if off.contains i = true then ∀ w, factsOf fs i undef w else OpGoal P l fs a0 w0 i o) 0 l)
    (hguard : AllFrom (fun i o => match o.guard with | none => off.contains i = false | some (j, b) => ∀ v w, factsOf fs j v w → v = .bool (b != off.contains i)) 0 l)
    (hend : ∀ a w, a.defers = a0.defers → a.tmps.size = a0.tmps.size → Like l a0 a.eval → Below w0.heap.size w0 w → (∀ (i : Nat) (o : Oper) (d : Nat), l[i]? = some o → o.dst = some d → factsOf fs i (a.tmps.getD d undef) w) → Q .normal a w) :
    (Code.region id l.toArray true).wp P Q a0 w0 := by
  refine wp_region_facts hm (factsOf_stable fs) hok (fun i => !off.contains i) (fun i o hi ρ w h1 h2 h3 => ?_) (fun i o hi => ?_) hend
  · have := hop.at i o hi
    rw [Nat.zero_add] at this
    cases hc : off.contains i with
    | true =>
      rw [hc] at this
      simpa using this w
    | false =>
      rw [hc] at this
      have h4 : OpGoal P l fs a0 w0 i o := by simpa using this
      simpa using h4 ρ w h1 h2 h3
  · have := hguard.at i o hi
    rw [Nat.zero_add] at this
    cases hg : o.guard with
    | none =>
      simp only [hg] at this ⊢
      rw [this]
      rfl
    | some jb =>
      obtain ⟨j, b⟩ := jb
      simp only [hg] at this ⊢
      intro v w hv
      refine ⟨_, this v w hv, ?_⟩
      cases b <;> cases off.contains i <;> rfl
end
end Go.Proofs.YtlibncefiibgaaaDoor

/- A region that draws its order, some of whose guarded operations are not carried out, others guarded by these. -/
namespace Go.Proofs.YtlibncefiibgaaaDoor
open Go Go.RowKit

section
variable {P : Program} {id : Nat} {l : List Oper} {Q : Exit → Act → World → Prop} {a0 : Act} {w0 : World}

theorem wpAny_of_facts2 {F : Nat → Value → World → Prop} (hF : ∀ i v w w', F i v w → Below w.heap.size w w' → F i v w') (hok : drawnOk l a0.tmps.size = true) (G : Nat → Bool)
    (hop : ∀ (i : Nat) (o : Oper), l[i]? = some o → ∀ ρ w, Like l a0 ρ → Below w0.heap.size w0 w → Leans l F o ρ w → if G i = true then YieldsP P ρ o w (fun v w' => F i v w' ∧ Below w.heap.size w w') else F i undef w)
    (hguard : ∀ (i : Nat) (o : Oper), l[i]? = some o → match o.guard with | none => G i = true | some (j, b) => ∀ v w, F j v w → (v = .bool b ↔ G i = true))
    (hend : ∀ a w, a.defers = a0.defers → a.tmps.size = a0.tmps.size → Like l a0 a.eval → Below w0.heap.size w0 w → (∀ (i : Nat) (o : Oper) (d : Nat), l[i]? = some o → o.dst = some d → F i (a.tmps.getD d undef) w) → Q .normal a w) :
    ∀ (fuel : Nat) (listed : Array Bool) (a : Act) (w : World), (listed.toList.countP (· == false)) ≤ fuel → Inv l F a0 w0 listed a w → wpAny P .any l.toArray Q fuel listed a w := by
  have fin : ∀ (listed : Array Bool) (a : Act) (w : World), Inv l F a0 w0 listed a w → Region.ready .any l.toArray listed = [] → Q .normal a w := by
    intro listed a w h hr
    refine hend a w h.defers h.size h.like h.below fun i o d hi hd => h.facts i o d hi hd ?_
    exact all_listed hok h.len hr i (List.getElem?_eq_some_iff.1 hi).1
  intro fuel
  induction fuel with
  | zero =>
    intro listed a w hc h
    have hr : Region.ready .any l.toArray listed = [] := by
      unfold Region.ready
      rw [List.filter_eq_nil_iff]
      intro i hi
      have hil : i < listed.size := by rw [h.len]; simpa using hi
      have h0 : listed.toList.countP (· == false) = 0 := by omega
      rw [List.countP_eq_zero] at h0
      have := h0 listed[i] (by simp)
      simp [Array.getD, hil] at this ⊢
      simp [this]
    exact ⟨hr, fin listed a w h hr⟩
  | succ fuel ih =>
    intro listed a w hc h
    refine ⟨fin listed a w h, fun i hi => ?_⟩
    unfold Region.ready at hi
    rw [List.mem_filter] at hi
    obtain ⟨hi1, hi2⟩ := hi
    have hil : i < l.length := by simpa using hi1
    have ho : l[i]? = some l[i] := List.getElem?_eq_getElem hil
    simp only [Bool.and_eq_true, Bool.not_eq_true', List.getElem?_toArray, ho, Option.map_some, Option.getD_some] at hi2
    obtain ⟨hnl, haft⟩ := hi2
    rw [Array.all_eq_true_iff_forall_mem] at haft
    have hls : i < listed.size := by rw [h.len]; exact hil
    have hleans : Leans l F l[i] a.eval w := by
      intro j hj d hd
      rw [Array.any_eq_true'] at hj
      obtain ⟨e, he, hej⟩ := hj
      simp only [Bool.and_eq_true, beq_iff_eq] at hej
      obtain ⟨hb, rfl⟩ := hej
      have hle := haft e he
      rw [hb] at hle
      obtain ⟨oj, hoj, hdj⟩ := Option.bind_eq_some_iff.1 hd
      refine h.facts e.on oj d hoj hdj ?_
      have hjl : e.on < listed.size := by rw [h.len]; exact (List.getElem?_eq_some_iff.1 hoj).1
      simp [Array.getD, hjl] at hle ⊢
      exact hle
    have hcount : ((listed.setIfInBounds i true).toList.countP (· == false)) ≤ fuel := by
      have hli : listed.toList[i]'(by simpa using hls) = false := by
        simp [Array.getD, hls] at hnl
        simpa using hnl
      rw [Array.toList_setIfInBounds, List.countP_set (h := by simpa using hls), hli]
      have hpos : 0 < listed.toList.countP (· == false) := List.countP_pos_iff.2 ⟨false, by rw [← hli]; exact List.getElem_mem _, rfl⟩
      rw [if_pos (by decide), if_neg (by decide)]
      omega
    have hstep := fun (v : Value) (w' : World) (hv : F i v w') (hb : Below w.heap.size w w') => ih (listed.setIfInBounds i true) (a.put l[i].dst v) w' hcount (h.step hF hok ho hv hb)
    have hO := hop i l[i] ho a.eval w h.like h.below hleans
    have hGd := hguard i l[i] ho
    unfold wpOp
    simp only [List.getElem?_toArray, ho]
    have hw : Region.wanted l[i] (yielded l.toArray a.tmps) = G i := by
      unfold Region.wanted
      cases hg : l[i].guard with
      | none => simp only [hg] at hGd; exact hGd.symm
      | some jb =>
        obtain ⟨j, b⟩ := jb
        simp only [hg] at hGd
        obtain ⟨hbind, d, hd⟩ := (drawnOk_at hok ho).2.2 j b hg
        have hiff := hGd _ _ (hleans j hbind d hd)
        obtain ⟨oj, hoj, hdj⟩ := Option.bind_eq_some_iff.1 hd
        have hdlt := ((drawnOk_at hok hoj).2.1 d hdj).1
        have hsz : d < a.tmps.size := by rw [h.size]; exact hdlt
        have hval : a.tmps[d]? = some (a.eval (.tmp d)) := by
          rw [Array.getElem?_eq_getElem hsz]
          have : a.eval (.tmp d) = a.tmps[d] := by simp [Act.eval, Array.getD, hsz]
          rw [this]
        simp only [yielded, List.getElem?_toArray, hoj, Option.bind_some, hdj, hval]
        generalize a.eval (.tmp d) = u at hiff
        cases hgi : G i with
        | true =>
          rw [hiff.2 hgi]
          cases b <;> rfl
        | false =>
          have hne : u ≠ .bool b := fun e => by
            have := hiff.1 e
            rw [hgi] at this
            cases this
          cases u <;> first | rfl | skip
          rename_i b'
          cases b <;> cases b' <;> first | rfl | exact absurd rfl hne
    rw [hw]
    by_cases hG : G i = true
    · rw [if_pos hG] at hO ⊢
      exact .inl (wp_of_yields hO fun v w' hr => hstep v w' hr.1 hr.2)
    · rw [if_neg hG] at hO ⊢
      exact hstep undef w hO (Below.refl _ _)

/-- THE REGION. -/
theorem wp_region_facts2 (hm : P.follows .mixedOrders = true) {F : Nat → Value → World → Prop} (hF : ∀ i v w w', F i v w → Below w.heap.size w w' → F i v w') (hok : drawnOk l a0.tmps.size = true) (G : Nat → Bool)
    (hop : ∀ (i : Nat) (o : Oper), l[i]? = some o → ∀ ρ w, Like l a0 ρ → Below w0.heap.size w0 w → Leans l F o ρ w → if G i = true then YieldsP P ρ o w (fun v w' => F i v w' ∧ Below w.heap.size w w') else F i undef w)
    (hguard : ∀ (i : Nat) (o : Oper), l[i]? = some o → match o.guard with | none => G i = true | some (j, b) => ∀ v w, F j v w → (v = .bool b ↔ G i = true))
    (hend : ∀ a w, a.defers = a0.defers → a.tmps.size = a0.tmps.size → Like l a0 a.eval → Below w0.heap.size w0 w → (∀ (i : Nat) (o : Oper) (d : Nat), l[i]? = some o → o.dst = some d → F i (a.tmps.getD d undef) w) → Q .normal a w) :
    (Code.region id l.toArray true).wp P Q a0 w0 := by
  refine wp_region_any hm ?_
  refine wpAny_of_facts2 hF hok G hop hguard hend _ _ _ _ ?_ ⟨rfl, rfl, by simp, ⟨fun _ => rfl, fun _ => rfl, fun _ _ => rfl⟩, ⟨rfl, rfl, rfl, Nat.le_refl _, fun _ _ => rfl⟩, fun i o d hi _ hl => ?_⟩
  · exact Nat.le_trans List.countP_le_length (by simp)
  · have := (List.getElem?_eq_some_iff.1 hi).1
    simp [Array.getD, this] at hl

/-- THE REGION: the operations of the list `off` are not carried out. -/
theorem wp_region_some2 (hm : P.follows .mixedOrders = true) (off : List Nat) (fs : List SlotFact) (hok : drawnOk l a0.tmps.size = true)
    (hop : AllFrom (fun i o => if off.contains i = true then ∀ w, factsOf fs i undef w else OpGoal P l fs a0 w0 i o) 0 l)
    (hguard : AllFrom (fun i o => match o.guard with | none => off.contains i = false | some (j, b) => ∀ v w, factsOf fs j v w → (v = .bool b ↔ off.contains i = false)) 0 l)
    (hend : ∀ a w, a.defers = a0.defers → a.tmps.size = a0.tmps.size → Like l a0 a.eval → Below w0.heap.size w0 w → (∀ (i : Nat) (o : Oper) (d : Nat), l[i]? = some o → o.dst = some d → factsOf fs i (a.tmps.getD d undef) w) → Q .normal a w) :
    (Code.region id l.toArray true).wp P Q a0 w0 := by
  refine wp_region_facts2 hm (factsOf_stable fs) hok (fun i => !off.contains i) (fun i o hi ρ w h1 h2 h3 => ?_) (fun i o hi => ?_) hend
  · have := hop.at i o hi
    rw [Nat.zero_add] at this
    cases hc : off.contains i with
    | true =>
      rw [hc] at this
      simpa using this w
    | false =>
      rw [hc] at this
      have h4 : OpGoal P l fs a0 w0 i o := by simpa using this
      simpa using h4 ρ w h1 h2 h3
  · have := hguard.at i o hi
    rw [Nat.zero_add] at this
    cases hg : o.guard with
    | none =>
      simp only [hg] at this ⊢
      rw [this]
      rfl
    | some jb =>
      obtain ⟨j, b⟩ := jb
      simp only [hg] at this ⊢
      intro v w hv
      rw [this v w hv]
      simp

theorem g_on {v : Value} {b : Bool} {off : Bool} (h : v = .bool b) (ho : off = false) : v = .bool b ↔ off = false := by simp [h, ho]
theorem g_off {v : Value} {b : Bool} {off : Bool} (h : v = .bool (!b) ∨ v = undef) (ho : off = true) : v = .bool b ↔ off = false := by
  rcases h with rfl | rfl
  · cases b <;> simp [ho]
  · simp [ho, undef]
end
end Go.Proofs.YtlibncefiibgaaaDoor

/- A slice that came in, whatever its elements: each is opened by its own theorem. -/
namespace Go.Proofs.YtlibncefiibgaaaDoor
open Go Go.RowKit Go.ChangeShapes Go.WideShapes Go.Deep

section
variable {H : Type} {enc : TypeId × Value → H} {w : World} {base : Nat} {spare : Nat → Bool} {held : Bool}

theorem slice_rows_of {α : Type} [Inhabited α] {t e : TypeId} {s fuel : Nat} {v : Value} {y : DataW H × List MemPlace} (f : α → List Value) (Q : α → Prop) (ht : Tryd.prog.underlying t = some (.slice e)) (hC : Tryd.prog.cellsOf e = s) (hs : 0 < s) (hf : ∀ x, (f x).length = s)
    (hopen : ∀ n cs y, cs.length = s → DataW.trod enc Tryd.prog w base spare held n e cs = some y → ∃ x, cs = f x ∧ Q x)
    (hfu : DataW.trod enc Tryd.prog w base spare held fuel t [v] = some y) :
    ∃ a len cap, ∃ l : List α, v = .slice a len cap ∧ len ≤ cap ∧ cap ≤ maxLen ∧ l.length = len ∧ (∀ x ∈ l, Q x) ∧ Reads w s (.slice a len cap) len (l.flatMap f) := by
  rcases open_slice ht hfu with ⟨hcs, _⟩ | ⟨x, len, cap, m, n, D, Pl, hcs, _, hl, hm, hmm, _, hx⟩
  · simp at hcs
    subst hcs
    exact ⟨none, 0, 0, [], rfl, Nat.le_refl _, Nat.zero_le _, rfl, fun x hx => (by simp at hx), ⟨by simp, none, 0, rfl, Nat.le_refl _, Nat.zero_le _, fun j u hj => by simp at hj⟩⟩
  · simp at hcs
    subst hcs
    have hlm : len ≤ m := by
      rw [hmm]
      split <;> omega
    have hgs : 0 < len → x.spot = none := by
      intro h0
      obtain ⟨cs0, hc0, _⟩ := hx 0 (by omega)
      rw [hC] at hc0
      obtain ⟨_, hl0, ha0⟩ := World.cells?_some hc0
      have h1 := ha0 0 hs
      rw [List.getElem?_eq_getElem (by omega)] at h1
      have h2 : w.cell? x = some (cs0[0]'(by omega)) := by simpa [Addr.add] using h1
      exact World.cell?_spot h2
    have hall : ∀ i, i < len → ∃ y : α, Q y ∧ ∀ j u, (f y)[j]? = some u → w.cell? (x.add (i * s + j)) = some u := by
      intro i hi
      obtain ⟨cs, hc, htr⟩ := hx i (by omega)
      rw [hC] at hc
      obtain ⟨_, hlen, hat⟩ := World.cells?_some hc
      obtain ⟨y, rfl, hq⟩ := hopen _ _ _ hlen htr
      refine ⟨y, hq, fun j u hj => ?_⟩
      have hjs : j < s := by
        have := (List.getElem?_eq_some_iff.1 hj).1
        rw [hf] at this
        exact this
      have h1 := hat j hjs
      rw [hj] at h1
      rw [← h1]
      have hsp := hgs (by omega)
      obtain ⟨b, off, sp⟩ := x
      simp at hsp
      subst hsp
      rw [Addr.add_lit, Addr.add_lit, Addr.add_lit, Nat.add_assoc]
    obtain ⟨X, hX⟩ := choose_lt (α := α) (p := fun i y => Q y ∧ ∀ j u, (f y)[j]? = some u → w.cell? (x.add (i * s + j)) = some u) hall
    refine ⟨some x, len, cap, (List.range len).map X, rfl, hl, hm, by simp, fun y hy => ?_, ?_⟩
    · obtain ⟨i, hi, rfl⟩ := List.mem_map.1 hy
      exact (hX i (List.mem_range.1 hi)).1
    · refine ⟨by rw [flat_length f s hf]; simp, some x, cap, rfl, hl, hm, fun j u hj => ?_⟩
      have hjl := (List.getElem?_eq_some_iff.1 hj).1
      rw [flat_length f s hf, List.length_map, List.length_range] at hjl
      have hi : j / s < len := Nat.div_lt_of_lt_mul (by rw [Nat.mul_comm]; exact hjl)
      have hr : j % s < s := Nat.mod_lt _ hs
      have hjj : j / s * s + j % s = j := by rw [Nat.mul_comm]; exact Nat.div_add_mod j s
      have hg : ((List.range len).map X)[j / s]? = some (X (j / s)) := by simp [hi]
      have h1 := flat_cell f s hf _ _ _ hg (j % s) hr
      rw [hjj, hj] at h1
      have h2 := (hX _ hi).2 (j % s) u h1.symm
      rw [hjj] at h2
      have hspot := hgs (Nat.lt_of_le_of_lt (Nat.zero_le _) hi)
      obtain ⟨b, off, sp⟩ := x
      simp at hspot
      subst hspot
      rw [Addr.add_lit] at h2
      exact ⟨b, off, rfl, World.block_lt_of_cell? _ _ h2, h2⟩

set_option maxRecDepth 100000 in
theorem slice_rows {α : Type} [Inhabited α] {t e : TypeId} {r : Reach} {b0 s : Nat} {v : Value} {d : DataW H} {p : List MemPlace} (f : α → List Value) (Q : α → Prop) (ht : Tryd.prog.underlying t = some (.slice e)) (hC : Tryd.prog.cellsOf e = s) (hs : 0 < s) (hf : ∀ x, (f x).length = s)
    (hopen : ∀ n cs y, cs.length = s → DataW.trod enc Tryd.prog w base spare held n e cs = some y → ∃ x, cs = f x ∧ Q x)
    (hv : Value.okWide Tryd.prog w r b0 t v) (h : DataW.Trod enc Tryd.prog w base spare held t v d p) :
    ∃ a len cap, ∃ l : List α, v = .slice a len cap ∧ len ≤ cap ∧ cap ≤ maxLen ∧ l.length = len ∧ (∀ x ∈ l, Q x) ∧ Reads w s (.slice a len cap) len (l.flatMap f) := by
  obtain ⟨a, len, cap, rfl⟩ := okWide_slice ht hv
  obtain ⟨fuel, hfu⟩ := h
  exact slice_rows_of f Q ht hC hs hf hopen hfu
end
end Go.Proofs.YtlibncefiibgaaaDoor
