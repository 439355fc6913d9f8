/- Slices that may be appended to without a store into old memory. -/
import Derived.WalkKit
import Derived.WalkSpells
import Derived.WalkLawsBesides
import Derived.Deep.Upon
import Derived.Deep.CutRange
import Derived.Maps.AppendAt
import Derived.Laws.BytesArg
import Derived.Laws.BytesString
import Derived.Lib.Hide
namespace Go.Proofs.Ytbhapbioibhalaa
open Go Go.RowKit

theorem below_undrew {B : Nat} {w w' : World} (h : Below B w.drew w') : Below B w w' := ⟨h.os, h.tape, h.output, h.size, h.block⟩

/-- The slice value v has n elements of size cells each; its cells read xs. -/
def Reads (w : World) (size : Nat) (v : Value) (n : Nat) (xs : List Value) : Prop :=
  xs.length = n * size ∧ ∃ a cap, v = .slice a n cap ∧ n ≤ cap ∧ cap ≤ maxLen ∧ (∀ j u, xs[j]? = some u → ∃ b off, a = some ⟨b, off, none⟩ ∧ b < w.heap.size ∧ w.cell? ⟨b, off + j, none⟩ = some u)

/-- What is appended to it goes into a new row, or into its own, which is new (block B or later). -/
def Fresh (B : Nat) (w : World) (e : TypeId) (size : Nat) (v : Value) (n : Nat) (xs : List Value) : Prop :=
  Reads w size v n xs ∧ ((∃ a, v = .slice a n n) ∨ w.ownsRow B e size v n xs)

theorem Reads.firstCells {P : Program} {w : World} {size n : Nat} {v : Value} {xs : List Value} (h : Reads w size v n xs) (w' : World) (hw : w'.heap = w.heap) :
    (Builtin.firstCells size n v).run P w' = .ok xs.toArray w' := by
  obtain ⟨hl, a, cap, rfl, h1, h2, h3⟩ := h
  cases a with
  | none =>
    have : xs = [] := by
      cases xs with
      | nil => rfl
      | cons x r => obtain ⟨_, _, hc, _⟩ := h3 0 x rfl; cases hc
    subst this
    exact run_firstCells_none w' size n n cap
  | some a =>
    refine run_firstCells_some w' size n a n cap xs hl ?_
    intro j u hj
    obtain ⟨b, off, hc, _, hr⟩ := h3 j u hj
    cases hc
    rw [Addr.add_lit, World.cell?_of_block (w := w) (by rw [hw])]
    exact hr

theorem Reads.grown {w w' : World} {row : Option Nat} {size n : Nat} {v : Value} {xs : List Value} (h : Reads w size v n xs) (hg : w.grownBy w' row) (hne : v.ownBlock = none ∨ v.ownBlock ≠ row) : Reads w' size v n xs := by
  obtain ⟨hl, a, cap, rfl, h1, h2, h3⟩ := h
  refine ⟨hl, a, cap, rfl, h1, h2, fun j u hj => ?_⟩
  obtain ⟨b, off, rfl, hb, hr⟩ := h3 j u hj
  refine ⟨b, off, rfl, Nat.lt_of_lt_of_le hb hg.size, hg.cell hr ?_⟩
  rcases hne with hne | hne
  · cases hne
  · exact hne

theorem Fresh.grown {B : Nat} {w w' : World} {e : TypeId} {row : Option Nat} {size n : Nat} {v : Value} {xs : List Value} (h : Fresh B w e size v n xs) (hg : w.grownBy w' row) (hne : v.ownBlock = none ∨ v.ownBlock ≠ row) : Fresh B w' e size v n xs :=
  ⟨h.1.grown hg hne, h.2.imp id fun k => k.kept hg hne⟩

theorem Fresh.alloc {B : Nat} {w : World} {e : TypeId} {size n : Nat} {v : Value} {xs : List Value} (h : Fresh B w e size v n xs) (o : Obj) : Fresh B (w.alloc o) e size v n xs := by
  refine h.grown (World.grownBy_alloc w o none) ?_
  cases v.ownBlock <;> simp

theorem Fresh.drew {B : Nat} {w : World} {e : TypeId} {size n : Nat} {v : Value} {xs : List Value} (h : Fresh B w e size v n xs) : Fresh B w.drew e size v n xs := h

theorem ownsRow.reads {B : Nat} {w : World} {e : TypeId} {size n : Nat} {v : Value} {xs : List Value} (h : w.ownsRow B e size v n xs) : Reads w size v n xs := by
  refine ⟨h.1, ?_⟩
  rcases h.2 with ⟨rfl, rfl⟩ | ⟨g, cap, cur, rfl, h1, h2, h3, h4, h5, h6⟩
  · refine ⟨none, 0, rfl, Nat.le_refl _, Nat.zero_le _, fun j u hj => ?_⟩
    have := h.1
    simp at this
    subst this
    simp at hj
  · refine ⟨_, cap, rfl, h3, h4, fun j u hj => ⟨g, 0, rfl, (Array.getElem?_eq_some_iff.1 h2).1, ?_⟩⟩
    have := h.cells (g := g) rfl j u hj
    rwa [Addr.add_lit] at this

theorem tape_setCells (g : Nat) (vs : List Value) (o : Nat) (w : World) : (w.setCells g o vs).tape = w.tape := by
  induction vs generalizing o w with
  | nil => rfl
  | cons v vs ih => rw [World.setCells, ih]; rfl

theorem heap_setCells_same (g : Nat) (e : TypeId) (fz : Nat × Nat) (vs : List Value) (o : Nat) (w : World) (cur : Array Value) (h : w.heap[g]? = some (.cells cur e fz)) :
    ∃ cur', (w.setCells g o vs).heap[g]? = some (.cells cur' e fz) ∧ cur'.size = cur.size := by
  induction vs generalizing o w cur with
  | nil => exact ⟨cur, h, rfl⟩
  | cons v vs ih =>
    rw [World.setCells]
    have h1 : (w.setCell ⟨g, o, none⟩ v).heap[g]? = some (.cells (cur.setIfInBounds o v) e fz) := by
      have hlt := (Array.getElem?_eq_some_iff.1 h).1
      simp [World.setCell, Array.getElem?_modify, h]
    obtain ⟨cur', k1, k2⟩ := ih (o + 1) _ _ h1
    exact ⟨cur', k1, by rw [k2, Array.size_setIfInBounds]⟩

/-- The row of what is handed back is the one that it had, or a new one. -/
def Moves (w : World) (v v' : Value) : Prop := ∀ b, b < w.heap.size → v.ownBlock ≠ some b → v'.ownBlock ≠ some b

theorem run_append_fresh {P : Program} {w : World} (B : Nat) (t tx ty e : TypeId) (i : TypeInfo) (z : Value) (size bytes : Nat) (ht : P.underlying t = some (.slice e)) (hi : P.info? e = some i) (hz : i.zero = some z)
    (hsize : i.size = size) (hby : i.bytes = bytes) (hzs : z.cells.size = size)
    (v : Value) (n : Nat) (xs : List Value) (h : Fresh B w e size v n xs) (x : Value) (m : Nat) (news : List Value) (hs : Src P size tx x m news w)
    (h63 : n + m ≤ maxLen) (hbytes : (n + m) * bytes ≤ 140737488355328) (hB : B ≤ w.heap.size) :
    ∃ v' w', (Builtin.append_ #[t, tx] ty #[v, x]).run P w = .ok v' w' ∧ Fresh B w' e size v' (n + m) (xs ++ news) ∧ w.grownBy w' v.ownBlock ∧ Below B w w' ∧ Moves w v v' := by
  subst hsize
  subst hby
  have hsmall : n + m ≤ 9223372036854775807 := by simp only [maxLen] at h63; omega
  have hnl := hs.newsLen
  have hxl := h.1.1
  have hlen : (xs ++ news).length = (n + m) * i.size := by rw [List.length_append, hxl, hnl, Nat.add_mul]
  have grow : ∀ (bs : Option Addr) (sc : Nat), v = .slice bs n sc → sc < n + m →
      ∃ v' w', (Builtin.append_ #[t, tx] ty #[v, x]).run P w = .ok v' w' ∧ Fresh B w' e i.size v' (n + m) (xs ++ news) ∧ w.grownBy w' v.ownBlock ∧ Below B w w' ∧ Moves w v v' := by
    rintro bs sc hv hg
    have hold := h.1.firstCells (P := P) w.drew rfl
    subst hv
    have hrun := run_append_grow_src (P := P) w t tx ty e i z ht hi hz bs n sc xs hold x m news hs hg (by omega) (growslice_fits hg hbytes)
    have hge := grownCap_ge w (n + m) sc e
    have hcm := grownCap_le_maxLen w (n + m) sc e h63
    have hblk : ∀ k, k < w.heap.size → (w.drew.alloc (.cells ((xs ++ news).toArray ++ Builtin.zeroCells z.cells (grownCap w (n + m) sc e - (n + m))) e)).heap[k]? = w.heap[k]? := fun k hk => Below.heap_alloc w.drew _ k hk
    have hown : (w.drew.alloc (.cells ((xs ++ news).toArray ++ Builtin.zeroCells z.cells (grownCap w (n + m) sc e - (n + m))) e)).ownsRow B e i.size (.slice (some ⟨w.heap.size, 0, none⟩) (n + m) (grownCap w (n + m) sc e)) (n + m) (xs ++ news) := by
      refine ⟨hlen, .inr ⟨w.heap.size, _, _, rfl, hB, heap_alloc_new w.drew _, hge, hcm, ?_, ?_⟩⟩
      · rw [Array.size_append, List.size_toArray, hlen, size_zeroCells, hzs, ← Nat.add_mul]
        congr 1
        omega
      · simp only [Array.toList_append]
        rw [← hlen]
        exact List.take_left
    exact ⟨_, _, hrun, ⟨ownsRow.reads hown, .inr hown⟩, ⟨rfl, rfl, rfl, by simp, fun k hk _ => hblk k hk⟩, ⟨rfl, rfl, rfl, by simp, fun k hk => hblk k (by omega)⟩, fun b hb _ => by simp [Value.ownBlock]; omega⟩
  by_cases hm : m = 0
  · subst hm
    have hn : news = [] := List.eq_nil_of_length_eq_zero (by simpa using hnl)
    subst hn
    obtain ⟨_, a, cap, rfl, h1, h2, h3⟩ := h.1
    exact ⟨_, w, run_append_nothing (P := P) w t tx ty e i ht hi a n cap h1 x hs, by simpa using h, World.grownBy.refl _ _, Below.refl _ _, fun _ _ h => h⟩
  · rcases h.2 with ⟨a, hv⟩ | hown
    · exact grow a n hv (by omega)
    · rcases hown.2 with ⟨hv, h0⟩ | ⟨g, cap, cur, hv, hbg, hg, hnc, hcm, hcs, htake⟩
      · subst h0
        exact grow none 0 hv (by omega)
      · by_cases hroom : n + m ≤ cap
        · subst hv
          have hfit : n * i.size + news.length ≤ cur.size := by rw [hnl, hcs, ← Nat.add_mul]; exact Nat.mul_le_mul_right _ hroom
          have hc : ∀ j, j < news.length → (w.cell? ⟨g, 0 + n * i.size + j, none⟩).isSome = true := by
            intro j hj
            have hlt : n * i.size + j < cur.size := by omega
            simp [World.cell?, hg, Array.getElem?_eq_getElem hlt]
          have hf : ∀ j, j < news.length → w.frozen? ⟨g, 0 + n * i.size + j, none⟩ = false := by
            intro j hj
            simp [World.frozen?, hg]
          have hrun := run_append_room_src (P := P) w t tx ty e i ht hi g 0 n cap x m news hs hroom hc hf
          have hk := World.keptBut_setCells g (may := fun p => p.block = g) news (0 + n * i.size) w (fun _ _ => rfl)
          have hblk : ∀ k, k < w.heap.size → k ≠ g → (w.setCells g (0 + n * i.size) news).heap[k]? = w.heap[k]? := fun k hk1 hk2 => World.heap_setCells_other w g _ news hk1 hk2
          have hcell : ∀ j u, (xs ++ news)[j]? = some u → (w.setCells g (0 + n * i.size) news).cell? ⟨g, 0 + j, none⟩ = some u := by
            intro j u hj
            by_cases hjx : j < xs.length
            · rw [World.cell?_setCells_out g _ _ _ _ (fun _ _ => Or.inl (by show 0 + j < 0 + n * i.size; omega))]
              rw [List.getElem?_append_left hjx] at hj
              have := hown.cells (g := g) rfl j u hj
              rwa [Addr.add_lit] at this
            · rw [List.getElem?_append_right (by omega)] at hj
              obtain ⟨hjl, hju⟩ := List.getElem?_eq_some_iff.1 hj
              have := World.cell?_setCells_in g news (0 + n * i.size) w hc (j - xs.length) hjl
              rw [show 0 + n * i.size + (j - xs.length) = 0 + j by omega] at this
              rw [this, hju]
          obtain ⟨cur', hc1, hc2⟩ := heap_setCells_same g e (0, 0) news (0 + n * i.size) w cur hg
          have hown' : (w.setCells g (0 + n * i.size) news).ownsRow B e i.size (.slice (some ⟨g, 0, none⟩) (n + m) cap) (n + m) (xs ++ news) := by
            refine ⟨hlen, .inr ⟨g, cap, cur', rfl, hbg, hc1, hroom, hcm, by rw [hc2, hcs], ?_⟩⟩
            have hl1 : (n + m) * i.size ≤ cap * i.size := Nat.mul_le_mul_right _ hroom
            apply List.ext_getElem?
            intro j
            by_cases hj : j < (xs ++ news).length
            · have hr := hcell j _ (List.getElem?_eq_getElem hj)
              rw [List.getElem?_eq_getElem hj, ← hr, List.getElem?_take_of_lt (by omega)]
              unfold World.cell?
              rw [hc1]
              simp
            · rw [List.getElem?_eq_none (by rw [List.length_take]; omega), List.getElem?_eq_none (by omega)]
          exact ⟨_, _, hrun, ⟨ownsRow.reads hown', .inr hown'⟩, ⟨World.os_setCells _ _ _ _, tape_setCells _ _ _ _, World.output_setCells _ _ _ _, hk.size, fun k hk1 hk2 => hblk k hk1 (fun e => hk2 (by simp [Value.ownBlock, e]))⟩, ⟨World.os_setCells _ _ _ _, tape_setCells _ _ _ _, World.output_setCells _ _ _ _, hk.size, fun k hk1 => hblk k (by omega) (by omega)⟩, fun _ _ h => h⟩
        · exact grow _ cap hv (by omega)

/-- 'append(s, x...)' for the walk. -/
theorem wpList_append_fresh {P : Program} {w : World} {ops : Array Oper} {rest : List Oper} {o : Oper} {a : Act} {Q : Exit → Act → World → Prop} (hgd : o.guard = none) (s x : Operand) (t tx : TypeId)
    (ho : o.op = .call { callee := .builtin .append, args := #[s, x], argTypes := #[t, tx] })
    (B : Nat) (e : TypeId) (i : TypeInfo) (z : Value) (size bytes : Nat) (ht : P.underlying t = some (.slice e)) (hi : P.info? e = some i) (hz : i.zero = some z)
    (hsize : i.size = size) (hby : i.bytes = bytes) (hzs : z.cells.size = size)
    (v : Value) (n : Nat) (xs : List Value) (hs : a.eval s = v) (hown : Fresh B w e size v n xs)
    (xv : Value) (m : Nat) (news : List Value) (hx : a.eval x = xv) (hsrc : Src P size tx xv m news w)
    (h63 : n + m ≤ maxLen) (hbytes : (n + m) * bytes ≤ 140737488355328) (hB : B ≤ w.heap.size)
    (h : ∀ v' w', Fresh B w' e size v' (n + m) (xs ++ news) → w.grownBy w' v.ownBlock → Below B w w' → Moves w v v' → wpList P ops Q rest (a.put o.dst v') w') : wpList P ops Q (o :: rest) a w := by
  refine wpList_plain hgd fun K hK => ?_
  obtain ⟨v', w', hr, h2, h3, h4, h5⟩ := run_append_fresh (P := P) B t tx o.type e i z size bytes ht hi hz hsize hby hzs v n xs hown xv m news hsrc h63 hbytes hB
  unfold Oper.wp execOp
  simp only [ho, resolve, invoke, builtin, Sem.run_bind, Sem.run_pure, Result.andThen_ok, List.map_toArray, List.map_cons, List.map_nil, hs, hx, hr]
  exact hK _ _ (h v' w' h2 h3 h4 h5)

theorem Src.ofLits {P : Program} {tx e' e : TypeId} (hk : P.underlying tx = some (.slice e')) (w0 : World) (n : Nat) (us : List Value) (hl : us.length = n) (h1 : ∀ u ∈ us, u.oneCell' = true) :
    Src P 1 tx (.slice (some ⟨w0.heap.size, 0, none⟩) n n) n us (w0.alloc (.cells us.toArray e)) := by
  refine Src.ofSlice _ hk _ _ _ _ (by omega) ?_ h1
  intro j y hj
  rw [Addr.add_lit]
  rw [show (0 + j) = j by omega]
  rw [World.cell?_alloc_new w0 _ _ j]
  simpa using hj

/-- 'append(s, x, ..)' of cells that have just been laid in a block of their own. -/
theorem wpList_append_lits {P : Program} {w0 : World} {ops : Array Oper} {rest : List Oper} {o : Oper} {a : Act} {Q : Exit → Act → World → Prop} (hgd : o.guard = none) (s x : Operand) (t : TypeId)
    (ho : o.op = .call { callee := .builtin .append, args := #[s, x], argTypes := #[t, t] })
    (B : Nat) (e : TypeId) (i : TypeInfo) (z : Value) (bytes : Nat) (ht : P.underlying t = some (.slice e)) (hi : P.info? e = some i) (hz : i.zero = some z)
    (hsize : i.size = 1) (hby : i.bytes = bytes) (hzs : z.cells.size = 1)
    {v : Value} {n : Nat} {xs : List Value} (us : List Value) (m : Nat) (hl : us.length = m) (hown : Fresh B w0 e 1 v n xs) (hs : a.eval s = v) (hx : a.eval x = .slice (some ⟨w0.heap.size, 0, none⟩) m m) (h1 : ∀ u ∈ us, u.oneCell' = true)
    (h63 : n + m ≤ maxLen) (hbytes : (n + m) * bytes ≤ 140737488355328) (hB : B ≤ w0.heap.size)
    (h : ∀ v' w', Fresh B w' e 1 v' (n + m) (xs ++ us) → w0.grownBy w' v.ownBlock → Below B w0 w' → Moves w0 v v' → wpList P ops Q rest (a.put o.dst v') w') : wpList P ops Q (o :: rest) a (w0.alloc (.cells us.toArray e)) := by
  refine wpList_append_fresh hgd s x t t ho B e i z 1 bytes ht hi hz hsize hby hzs v n xs hs (hown.alloc _) _ m us hx (Src.ofLits ht w0 m us hl h1) h63 hbytes (by simp; omega) (fun v' w' k1 k2 k3 k4 => h v' w' k1 ((World.grownBy_alloc w0 _ _).trans k2) (((Below.refl _ _).alloc hB _).trans k3) (fun b hb => k4 b (by simp; omega)))

/-- 'append(s, x)' of one cell that has just been laid in a block of its own. -/
theorem wpList_append_one {P : Program} {w0 : World} {ops : Array Oper} {rest : List Oper} {o : Oper} {a : Act} {Q : Exit → Act → World → Prop} (hgd : o.guard = none) (s x : Operand) (t : TypeId)
    (ho : o.op = .call { callee := .builtin .append, args := #[s, x], argTypes := #[t, t] })
    (B : Nat) (e : TypeId) (i : TypeInfo) (z : Value) (bytes : Nat) (ht : P.underlying t = some (.slice e)) (hi : P.info? e = some i) (hz : i.zero = some z)
    (hsize : i.size = 1) (hby : i.bytes = bytes) (hzs : z.cells.size = 1)
    {v : Value} {n : Nat} {xs : List Value} {u : Value} (hown : Fresh B w0 e 1 v n xs) (hs : a.eval s = v) (hx : a.eval x = .slice (some ⟨w0.heap.size, 0, none⟩) 1 1) (h1 : u.oneCell' = true)
    (h63 : n + 1 ≤ maxLen) (hbytes : (n + 1) * bytes ≤ 140737488355328) (hB : B ≤ w0.heap.size)
    (h : ∀ v' w', Fresh B w' e 1 v' (n + 1) (xs ++ [u]) → w0.grownBy w' v.ownBlock → Below B w0 w' → Moves w0 v v' → wpList P ops Q rest (a.put o.dst v') w') : wpList P ops Q (o :: rest) a (w0.alloc (.cells #[u] e)) :=
  wpList_append_lits hgd s x t ho B e i z bytes ht hi hz hsize hby hzs [u] 1 rfl hown hs hx (fun y hy => by simp at hy; subst hy; exact h1) h63 hbytes hB h

theorem Reads.src {P : Program} {w : World} {size n : Nat} {v : Value} {xs : List Value} {tx e' : TypeId} (hk : P.underlying tx = some (.slice e')) (h : Reads w size v n xs) (h1 : ∀ u ∈ xs, u.oneCell' = true) : Src P size tx v n xs w := by
  refine ⟨.inl ⟨e', hk⟩, fun w' => ?_, h.firstCells w rfl, h.firstCells w.drew rfl, h.1, h1⟩
  obtain ⟨_, a, cap, rfl, _⟩ := h
  rfl

theorem Reads.alloc {w : World} {size n : Nat} {v : Value} {xs : List Value} (h : Reads w size v n xs) (o : Obj) : Reads (w.alloc o) size v n xs := by
  refine h.grown (World.grownBy_alloc w o none) ?_
  cases v.ownBlock <;> simp

theorem Reads.drew {w : World} {size n : Nat} {v : Value} {xs : List Value} (h : Reads w size v n xs) : Reads w.drew size v n xs := h

/-- What lies in old blocks reads as it did. -/
theorem Reads.below {B : Nat} {w w' : World} {size n : Nat} {v : Value} {xs : List Value} (h : Reads w size v n xs) (hb : Below B w w') (hB : ∀ b, v.ownBlock = some b → b < B) : Reads w' size v n xs := by
  obtain ⟨hl, a, cap, rfl, h1, h2, h3⟩ := h
  refine ⟨hl, a, cap, rfl, h1, h2, fun j u hj => ?_⟩
  obtain ⟨b, off, rfl, hlt, hr⟩ := h3 j u hj
  exact ⟨b, off, rfl, Nat.lt_of_lt_of_le hlt hb.size, (hb.cell (hB b rfl)).trans hr⟩

theorem Reads.below' {w w' : World} {size n : Nat} {v : Value} {xs : List Value} (h : Reads w size v n xs) (hb : Below w.heap.size w w') : Reads w' size v n xs := by
  obtain ⟨hl, a, cap, rfl, h1, h2, h3⟩ := h
  refine ⟨hl, a, cap, rfl, h1, h2, fun j u hj => ?_⟩
  obtain ⟨b, off, rfl, hlt, hr⟩ := h3 j u hj
  exact ⟨b, off, rfl, Nat.lt_of_lt_of_le hlt hb.size, (hb.cell hlt).trans hr⟩

/-- The bytes l, as cells. -/
def bcells (l : List UInt8) : List Value := l.map fun b => Value.int .u8 (b.toNat : Int)

theorem bcells_append (a b : List UInt8) : bcells (a ++ b) = bcells a ++ bcells b := List.map_append ..
theorem bcells_length (a : List UInt8) : (bcells a).length = a.length := List.length_map ..
theorem bcells_one (a : List UInt8) : ∀ u ∈ bcells a, u.oneCell' = true := by
  intro u hu
  obtain ⟨_, _, rfl⟩ := List.mem_map.1 hu
  rfl
theorem bcells_byteCells (s : ByteArray) : byteCells s = bcells s.data.toList := rfl

theorem bcells_snoc (l : List UInt8) (b : UInt8) {z : Int} (h : z = (b.toNat : Int)) : bcells l ++ [Value.int .u8 z] = bcells (l ++ [b]) := by
  subst h; simp [bcells]

theorem Reads.head {w : World} {n : Nat} {v : Value} {l : List UInt8} (h : Reads w 1 v n (bcells l)) (hp : 0 < n) :
    ∃ b off cap, v = .slice (some ⟨b, off, none⟩) n cap ∧ n ≤ cap ∧ cap ≤ maxLen ∧ l.length = n ∧ ∀ j, (hj : j < n) → w.cell? ⟨b, off + j, none⟩ = some (.int .u8 ((l.getD j 0).toNat : Int)) := by
  obtain ⟨hl, a, cap, rfl, h1, h2, h3⟩ := h
  rw [bcells_length] at hl
  have hg : ∀ j, j < n → (bcells l)[j]? = some (.int .u8 ((l.getD j 0).toNat : Int)) := by
    intro j hj
    simp [bcells, List.getElem?_eq_getElem (show j < l.length by omega)]
  obtain ⟨b, off, rfl, _, _⟩ := h3 0 _ (hg 0 hp)
  refine ⟨b, off, cap, rfl, h1, h2, by omega, fun j hj => ?_⟩
  obtain ⟨b', off', e, _, hr⟩ := h3 j _ (hg j hj)
  cases e
  exact hr

/-- 'string(b)'. -/
theorem Reads.conv {P : Program} {w : World} {n : Nat} {v : Value} {l : List UInt8} {src e dst : TypeId} (hs : P.underlying src = some (.slice e)) (he : P.underlying e = some (.int .u8)) (hd : P.underlying dst = some .string)
    (h : Reads w 1 v n (bcells l)) : (convert src dst v).run P w = .ok (.string ⟨l.toArray⟩) w := by
  by_cases hp : n = 0
  · subst hp
    obtain ⟨hl, a, cap, rfl, h1, h2, h3⟩ := h
    obtain rfl : l = [] := by simpa [bcells_length] using hl
    cases a with
    | none => exact run_convert_bytes_nil w src e hs he _ _ dst hd
    | some a =>
      have hl : (loadCells a 0).run P w = .ok ((([] : List Int)).map (Value.int .u8)).toArray w := by
        simp [loadCells, loadCellsFrom]
      rw [run_convert_bytes_string w src dst e _ 0 cap hs he hd, run_bytesToString w _ 0 cap [] hl]
      rfl
  · obtain ⟨b, off, cap, rfl, h1, h2, hl, hcell⟩ := h.head (by omega)
    have := run_convert_bytes_arg w src e hs he b off n cap (l.map fun b => (b.toNat : Int)) (by simpa using hl) (fun i hi => by
      rw [hcell i hi]
      simp [List.getD, show i < l.length by omega]) dst hd
    rw [this]
    have e : (l.map fun b => (b.toNat : Int)).map (fun n => UInt8.ofNat n.toNat) = l := by
      rw [List.map_map]
      exact (List.map_congr_left fun b _ => by simp).trans (List.map_id l)
    unfold strOfNums
    rw [e]

/-- What a slice of bytes that came in reads as. -/
def IsRow (k : IntKind) (w : World) (a : Option Addr) (len cap : Nat) (zs : List Int) : Prop :=
  (a = none ∧ len = 0 ∧ cap = 0 ∧ zs = []) ∨
  ∃ x, a = some x ∧ len ≤ cap ∧ cap ≤ maxLen ∧ zs.length = cap ∧ (∀ i, i < zs.length → w.cell? (x.add i) = some (.int k (zs.getD i 0))) ∧ ∀ n ∈ zs, (Lit.int k n).wf = true

theorem IsRow.reads {w : World} {a : Option Addr} {len cap : Nat} {zs : List Int} (h : IsRow .u8 w a len cap zs) : ∃ l : List UInt8, l.length = len ∧ Reads w 1 (.slice a len cap) len (bcells l) := by
  rcases h with ⟨rfl, rfl, rfl, rfl⟩ | ⟨x, rfl, h1, h2, h3, h4, h5⟩
  · exact ⟨[], rfl, by simp [bcells], none, 0, rfl, Nat.le_refl _, Nat.zero_le _, fun j u hj => by simp [bcells] at hj⟩
  · refine ⟨(zs.take len).map fun z => UInt8.ofNat z.toNat, by simp; omega, by simp [bcells]; omega, _, cap, rfl, h1, h2, fun j u hj => ?_⟩
    have hj' := (List.getElem?_eq_some_iff.1 hj).1
    simp [bcells] at hj'
    have hj1 : j < len := by omega
    have hj2 : j < zs.length := by omega
    have hw := h5 zs[j] (List.getElem_mem _)
    have hb : 0 ≤ zs[j] ∧ zs[j] ≤ 255 := by simpa [Lit.wf, IntKind.min, IntKind.max, IntKind.signed, IntKind.bits] using hw
    have hc := h4 j (by omega)
    obtain ⟨b, off, spot⟩ := x
    have hspot : spot = none := by
      have h0 := h4 0 (by omega)
      simpa [Addr.add] using World.cell?_spot h0
    subst hspot
    rw [Addr.add_lit] at hc
    refine ⟨b, off, rfl, World.block_lt_of_cell? _ _ hc, ?_⟩
    rw [hc]
    simp [bcells, hj1, hj2] at hj
    rw [← hj]
    simp [List.getD, hj2]
    omega

theorem Reads.take {w : World} {n : Nat} {v : Value} {l : List UInt8} (h : Reads w 1 v n (bcells l)) (k : Nat) (hk : k ≤ n) :
    ∃ a cap, v = .slice a n cap ∧ n ≤ cap ∧ cap ≤ maxLen ∧ Reads w 1 (.slice a k cap) k (bcells (l.take k)) := by
  obtain ⟨hl, a, cap, rfl, h1, h2, h3⟩ := h
  rw [bcells_length] at hl
  refine ⟨a, cap, rfl, h1, h2, by rw [bcells_length, List.length_take]; omega, a, cap, rfl, by omega, h2, fun j u hj => h3 j u ?_⟩
  simp only [bcells, List.map_take] at hj ⊢
  rw [List.getElem?_take] at hj
  split at hj
  · exact hj
  · cases hj

/-- A slice of what is read. -/
theorem Reads.skip {w : World} {n : Nat} {b off cap : Nat} {l : List UInt8} (h : Reads w 1 (.slice (some ⟨b, off, none⟩) n cap) n (bcells l)) (k : Nat) (hk : k ≤ n) :
    Reads w 1 (.slice (some ⟨b, off + k, none⟩) (n - k) (cap - k)) (n - k) (bcells (l.drop k)) := by
  obtain ⟨hl, a, cap', hv, h1, h2, h3⟩ := h
  cases hv
  rw [bcells_length] at hl
  refine ⟨by rw [bcells_length, List.length_drop]; omega, _, _, rfl, by omega, by omega, fun j u hj => ?_⟩
  simp only [bcells, List.map_drop] at hj h3
  rw [List.getElem?_drop] at hj
  obtain ⟨b', off', e, hb, hr⟩ := h3 _ _ hj
  cases e
  exact ⟨_, _, rfl, hb, by rw [Nat.add_assoc]; exact hr⟩

theorem Reads.le {w : World} {size n : Nat} {v : Value} {xs : List Value} (h : Reads w size v n xs) : ∃ a cap, v = .slice a n cap ∧ n ≤ cap ∧ cap ≤ maxLen := by
  obtain ⟨_, a, cap, rfl, h1, h2, _⟩ := h
  exact ⟨a, cap, rfl, h1, h2⟩

/-- '[]byte(s)'. -/
theorem wpList_bytes {P : Program} {w : World} {ops : Array Oper} {rest : List Oper} {o : Oper} {a : Act} {Q : Exit → Act → World → Prop} (hgd : o.guard = none) (x : Operand) (src dst e : TypeId)
    (ho : o.op = .convert src dst x) (hs : P.underlying src = some .string) (hd : P.underlying dst = some (.slice e)) (he : P.underlying e = some (.int .u8)) (s : ByteArray) (hx : a.eval x = .string s) (hlen : s.size ≤ maxLen)
    (h : ∀ cap w', Reads w' 1 (.slice (some ⟨w.heap.size, 0, none⟩) s.size cap) s.size (bcells s.data.toList) → w.grownBy w' none → Below w.heap.size w w' → w.heap.size < w'.heap.size → wpList P ops Q rest (a.put o.dst (.slice (some ⟨w.heap.size, 0, none⟩) s.size cap)) w') : wpList P ops Q (o :: rest) a w := by
  refine wpList_plain hgd fun K hK => ?_
  have hrun := run_bytes_of_string (P := P) w src dst e s hs hd he
  have hge := grownCap_ge w s.size 0 e
  have hle := grownCap_le_maxLen w s.size 0 e hlen
  unfold Oper.wp execOp
  simp only [ho, Sem.run_bind, Sem.run_pure, Result.andThen_ok, hx, hrun]
  refine hK _ _ (h _ _ ⟨?_, _, _, rfl, hge, hle, fun j u hj => ⟨_, _, rfl, by simp, ?_⟩⟩ ⟨rfl, rfl, rfl, by simp, fun k hk _ => Below.heap_alloc w.drew _ k hk⟩ ⟨rfl, rfl, rfl, by simp, fun k hk => Below.heap_alloc w.drew _ k hk⟩ (by simp))
  · rw [bcells_length, Array.length_toList, Nat.mul_one]
    rfl
  · obtain ⟨hjl, hju⟩ := List.getElem?_eq_some_iff.1 hj
    rw [bcells_length, Array.length_toList] at hjl
    have : ((w.drew.alloc (.cells (bytesRow s (grownCap w s.size 0 e)) e ((bytesRow s (grownCap w s.size 0 e)).size, (bytesRow s (grownCap w s.size 0 e)).size + 1))).heap[w.heap.size]?) = some (.cells (bytesRow s (grownCap w s.size 0 e)) e ((bytesRow s (grownCap w s.size 0 e)).size, (bytesRow s (grownCap w s.size 0 e)).size + 1)) := heap_alloc_new w.drew _
    unfold World.cell?
    simp only [this]
    simp only [bcells, List.getElem_map, Array.getElem_toList] at hju
    have hjs : j < s.size := hjl
    simp [bytesRow, ← hju, Array.getElem?_append, hjs]

/-- 'make([]T, 0, n)'. -/
theorem wpList_make_fresh {P : Program} {w : World} {ops : Array Oper} {rest : List Oper} {o : Oper} {a : Act} {Q : Exit → Act → World → Prop} (hg : o.guard = none) (l c : Operand) (t : TypeId) (hop : o.op = Op.makeSlice t l c)
    (B : Nat) (e : TypeId) (i : TypeInfo) (z : Value) (size bytes : Nat) (h1 : P.underlying t = some (.slice e)) (h2 : P.info? e = some i) (h3 : i.zero = some z) (h4 : i.size = size) (h5 : i.bytes = bytes)
    (kl kc : IntKind) (C : Int) (n : Nat) (hl : a.eval l = .int kl 0) (hc : a.eval c = .int kc C) (hC : C = (n : Int)) (b2 : bytes * n ≤ 281474976710656) (b3 : n ≤ maxLen) (b4 : B ≤ w.heap.size)
    (hK : ∀ w', Fresh B w' e size (.slice (some ⟨w.heap.size, 0, none⟩) 0 n) 0 [] → w.grownBy w' none → Below w.heap.size w w' → w.heap.size < w'.heap.size → wpList P ops Q rest (a.put o.dst (.slice (some ⟨w.heap.size, 0, none⟩) 0 n)) w') : wpList P ops Q (o :: rest) a w := by
  subst h5
  refine wpList_make_own w hg l c t hop B e i z size h1 h2 h3 h4 kl kc C n hl hc hC b2 b3 b4 fun w' hown hg => ?_
  refine hK w' ⟨ownsRow.reads hown, .inr hown⟩ hg ⟨hg.os, hg.tape, hg.output, hg.size, fun k hk => hg.block k hk (by simp)⟩ ?_
  exact (hown.lt w.heap.size rfl).2
end Go.Proofs.Ytbhapbioibhalaa
