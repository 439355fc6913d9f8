/- A schema that grows, in memory. -/
import Derived.Test.YtopnldebekhelaaDoorZSchAll
namespace Go.Proofs.YtopnldebekhelaaDoor
open Go Go.RowKit

structure RlE where
  name : ByteArray
  x : RuE
def RlE.cells (e : RlE) : List Value := .string e.name :: e.x.cells
def RlE.rl (e : RlE) : Rl := ⟨e.name, e.x.tree⟩
def rlEAt (ok : Nat → Prop) (w : World) (e : RlE) : Prop := ruEAt ok w e.x
theorem rlE_keep : EKeep rlEAt := ⟨fun ok w w' e k h => ruE_keep.keep ok w w' e.x k h, fun ok ok' w e k h => ruE_keep.mono ok ok' w e.x k h⟩
theorem RlE.len (e : RlE) : e.cells.length = 5 := rfl

structure TyE where
  name : ByteArray
  rels : List Rl
  a : Option Addr
  cap : Nat
def TyE.v (e : TyE) : Value := .slice e.a e.rels.length e.cap
def TyE.cells (e : TyE) : List Value := [.string e.name, e.v]
def TyE.ty (e : TyE) : Ty := ⟨e.name, e.rels⟩
theorem TyE.len (e : TyE) : e.cells.length = 2 := rfl
def tyEAt (ok : Nat → Prop) (w : World) (e : TyE) : Prop := ∃ rs : List RlE, rs.map RlE.rl = e.rels ∧ RowsAt ok w e.v e.rels.length (rs.flatMap RlE.cells) ∧ ∀ r ∈ rs, rlEAt ok w r
theorem tyE_keep : EKeep tyEAt := ⟨fun ok w w' _ k ⟨rs, h1, h2, h3⟩ => ⟨rs, h1, h2.keep k, fun r hr => rlE_keep.keep ok w w' r k (h3 r hr)⟩, fun ok ok' w _ k ⟨rs, h1, h2, h3⟩ => ⟨rs, h1, h2.mono k, fun r hr => rlE_keep.mono ok ok' w r k (h3 r hr)⟩⟩

def lastV (es : List TyE) : Value := match es.getLast? with
  | some e => e.v
  | none => .slice none 0 0
def lastR (es : List TyE) : List Rl := match es.getLast? with
  | some e => e.rels
  | none => []
theorem lastV_snoc (es : List TyE) (e : TyE) : lastV (es ++ [e]) = e.v := by unfold lastV; rw [List.getLast?_concat]
theorem lastR_snoc (es : List TyE) (e : TyE) : lastR (es ++ [e]) = e.rels := by unfold lastR; rw [List.getLast?_concat]

def okT (B : Nat) (X : Nat → Prop) (tv : Value) (es : List TyE) (b : Nat) : Prop := (B ≤ b ∧ X b) ∧ tv.ownBlock ≠ some b ∧ (lastV es).ownBlock ≠ some b

structure TysAt (w : World) (B : Nat) (X : Nat → Prop) (tv : Value) (es : List TyE) (rs : List RlE) : Prop where
  own : w.ownsRow B 39 2 tv es.length (es.flatMap TyE.cells)
  last : w.ownsRow B 44 5 (lastV es) rs.length (rs.flatMap RlE.cells)
  same : rs.map RlE.rl = lastR es
  trees : ∀ r ∈ rs, rlEAt (okT B X tv es) w r
  init : ∀ x ∈ es.dropLast, tyEAt (okT B X tv es) w x
  lastX : ∀ c, (lastV es).ownBlock = some c → X c

theorem TysAt.nil (w : World) (B : Nat) (X : Nat → Prop) : TysAt w B X (.slice none 0 0) [] [] :=
  ⟨owns_nil _ _ _ _, owns_nil _ _ _ _, rfl, (fun r h => by cases h), (fun r h => by cases h), (fun c h => by cases h)⟩

theorem TysAt.keep {w w' : World} {B : Nat} {X : Nat → Prop} {tv : Value} {es : List TyE} {rs : List RlE} (h : TysAt w B X tv es rs) (hb : Below w.heap.size w w') : TysAt w' B X tv es rs :=
  ⟨owns_below h.own hb, owns_below h.last hb, h.same, fun r hr => rlE_keep.keep _ _ _ _ (Keeps.of_below_size hb) (h.trees r hr), fun x hx => tyE_keep.keep _ _ _ _ (Keeps.of_below_size hb) (h.init x hx), h.lastX⟩

theorem own_apart {w : World} {B n m s k : Nat} {e e' : TypeId} {v v' : Value} {xs ys : List Value} (h : w.ownsRow B e s v n xs) (h' : w.ownsRow B e' k v' m ys) (hne : e ≠ e') : ∀ c, v.ownBlock = some c → v'.ownBlock ≠ some c := by
  intro c hc hc'
  rcases h.2 with ⟨rfl, _⟩ | ⟨g, cap, cur, rfl, _, hg, _⟩
  · simp [Value.ownBlock] at hc
  · rcases h'.2 with ⟨rfl, _⟩ | ⟨g', cap', cur', rfl, _, hg', _⟩
    · simp [Value.ownBlock] at hc'
    · simp [Value.ownBlock] at hc hc'
      subst hc
      subst hc'
      rw [hg] at hg'
      injection hg' with hg'
      injection hg' with _ h2 _
      exact hne h2

theorem own_rowsAt' {w : World} {B n k : Nat} {e : TypeId} {v : Value} {xs : List Value} (h : w.ownsRow B e k v n xs) : RowsAt (fun b => B ≤ b ∧ v.ownBlock = some b) w v n xs := by
  obtain ⟨hl, a, cap, hv, h1, h2, h3⟩ := ownsRow.reads h
  refine ⟨a, cap, hv, h1, h2, fun j u hj => ?_⟩
  obtain ⟨b, off, ha, hb, hc⟩ := h3 j u hj
  have hbo : v.ownBlock = some b := by rw [hv, ha]; rfl
  exact ⟨b, off, ha, ⟨(h.lt b hbo).1, hbo⟩, hb, hc⟩

/-- The last type, told as the others. -/
theorem TysAt.lastAt {w : World} {B : Nat} {X : Nat → Prop} {tv : Value} {es : List TyE} {e : TyE} {rs : List RlE} (h : TysAt w B X tv (es ++ [e]) rs) : tyEAt (fun b => (B ≤ b ∧ X b) ∧ tv.ownBlock ≠ some b) w e := by
  have hs := h.same
  rw [lastR_snoc] at hs
  have hl := h.last
  have hx := h.lastX
  rw [lastV_snoc] at hl hx
  have hn : rs.length = e.rels.length := by rw [← hs, List.length_map]
  refine ⟨rs, hs, ?_, fun r hr => rlE_keep.mono _ _ _ _ (fun b _ hb => ⟨hb.1, hb.2.1⟩) (h.trees r hr)⟩
  have := own_rowsAt' hl
  rw [hn] at this
  exact this.mono fun b _ hb => ⟨⟨hb.1, hx b hb.2⟩, own_apart hl h.own (by decide) b hb.2⟩

theorem TysAt.all {w : World} {B : Nat} {X : Nat → Prop} {tv : Value} {es : List TyE} {rs : List RlE} (h : TysAt w B X tv es rs) : ∀ x ∈ es, tyEAt (fun b => (B ≤ b ∧ X b) ∧ tv.ownBlock ≠ some b) w x := by
  intro x hx
  rcases List.eq_nil_or_concat es with rfl | ⟨es0, e, rfl⟩
  · cases hx
  · rw [List.concat_eq_append] at *
    rcases List.mem_append.1 hx with hx | hx
    · exact tyE_keep.mono _ _ _ _ (fun b _ hb => ⟨hb.1, hb.2.1⟩) (h.init x (by rw [List.dropLast_concat]; exact hx))
    · simp at hx
      subst hx
      exact h.lastAt

/-- One more type. -/
theorem TysAt.push {w w6 : World} {B : Nat} {X : Nat → Prop} {tv v6 : Value} {es : List TyE} {rs : List RlE} (h : TysAt w B X tv es rs) (nm : ByteArray)
    (o6 : w6.ownsRow B 39 2 v6 (es.length + 1) (es.flatMap TyE.cells ++ [.string nm, .slice none 0 0])) (g6 : w.grownBy w6 tv.ownBlock) (m6 : Moves w tv v6) : TysAt w6 B X v6 (es ++ [⟨nm, [], none, 0⟩]) [] := by
  refine ⟨?_, by rw [lastV_snoc]; exact owns_nil _ _ _ _, by rw [lastR_snoc]; rfl, (fun r hr => by cases hr), fun x hx => ?_, fun c hc => by rw [lastV_snoc] at hc; simp [TyE.v, Value.ownBlock] at hc⟩
  · rw [List.length_append, List.flatMap_append]
    exact o6
  · rw [List.dropLast_concat] at hx
    have h0 := h.all x hx
    have h1 := tyE_keep.mono _ (fun b => tv.ownBlock ≠ some b ∧ ((B ≤ b ∧ X b) ∧ v6.ownBlock ≠ some b)) _ _ (fun b hl hb => ⟨hb.2, hb.1, m6 b hl hb.2⟩) h0
    have h2 := tyE_keep.keep _ _ w6 _ ⟨g6.size, fun b hb hl => g6.block b hl (fun e => hb.1 e.symm)⟩ h1
    exact tyE_keep.mono _ _ _ _ (fun b _ hb => ⟨hb.2.1, hb.2.2, by rw [lastV_snoc]; simp [TyE.v, Value.ownBlock]⟩) h2

/-- Other blocks may be left out of account: those that came later. -/
theorem TysAt.later {w : World} {B : Nat} {X Y : Nat → Prop} {tv : Value} {es : List TyE} {rs : List RlE} (h : TysAt w B X tv es rs) (hY : ∀ b, b < w.heap.size → X b → Y b) : TysAt w B Y tv es rs :=
  ⟨h.own, h.last, h.same, fun r hr => rlE_keep.mono _ _ _ _ (fun b hl hb => ⟨⟨hb.1.1, hY b hl hb.1.2⟩, hb.2⟩) (h.trees r hr), fun x hx => tyE_keep.mono _ _ _ _ (fun b hl hb => ⟨⟨hb.1.1, hY b hl hb.1.2⟩, hb.2⟩) (h.init x hx), fun c hc => hY c (h.last.lt c hc).2 (h.lastX c hc)⟩

theorem own_set2' {w : World} {B n g cap s : Nat} {e : TypeId} {xs : List Value} (h : w.ownsRow B e s (.slice (some ⟨g, 0, none⟩) n cap) n xs) {i : Nat} (v : Value) : (w.setCell ⟨g, i, none⟩ v).ownsRow B e s (.slice (some ⟨g, 0, none⟩) n cap) n (xs.set i v) := by
  refine ⟨by rw [List.length_set]; exact h.1, ?_⟩
  rcases h.2 with ⟨h0, _⟩ | ⟨g', cap', cur, hv, hB, hg, h1, h2, h3, h4⟩
  · cases h0
  · cases hv
    refine .inr ⟨g, cap, cur.setIfInBounds i v, rfl, hB, heap_setCell_same _ _ i _ _ _ hg, h1, h2, by simpa using h3, ?_⟩
    rw [← h4, Array.toList_setIfInBounds, List.take_set]

theorem set_tail2 (xs : List Value) (n : Nat) (h : xs.length = n * 2) (a b c : Value) : (xs ++ [a, b]).set (n * 2 + 1) c = xs ++ [a, c] := by
  rw [List.set_append, if_neg (by omega), show n * 2 + 1 - xs.length = 1 by omega]
  rfl

theorem owns_cell' {w : World} {B k n : Nat} {e : TypeId} {v : Value} {xs : List Value} (h : w.ownsRow B e k v n xs) {c : Nat} (hc : v.ownBlock ≠ some c) (i : Nat) (u : Value) : (w.setCell ⟨c, i, none⟩ u).ownsRow B e k v n xs := by
  refine h.kept (row := some c) ⟨rfl, rfl, rfl, by simp [World.setCell], fun k _ hn => Below.heap_setCell _ _ _ _ (fun e => hn (by rw [e]))⟩ ?_
  cases hv : v.ownBlock with
  | none => exact .inl rfl
  | some b => exact .inr (fun e => hc (by rw [hv, e]))

/-- One more relation of the last type. -/
theorem TysAt.addRel {w w6 : World} {B C tb n cap : Nat} {X : Nat → Prop} {a6 : Option Addr} {c6 : Nat} {es : List TyE} {e : TyE} {rs : List RlE} (h : TysAt w B X (.slice (some ⟨tb, 0, none⟩) n cap) (es ++ [e]) rs) (hXC : ∀ b, C ≤ b → X b) (hCw : C ≤ w.heap.size) (nm : ByteArray) {x : RuE}
    (hx : ruEAt (fun b => C ≤ b) w x) (hC : B ≤ C) (htb : tb < C) (hrv : ∀ c, e.v.ownBlock = some c → c < C)
    (o6 : w6.ownsRow B 44 5 (.slice a6 (rs.length + 1) c6) (rs.length + 1) (rs.flatMap RlE.cells ++ RlE.cells ⟨nm, x⟩)) (g6 : w.grownBy w6 e.v.ownBlock) (m6 : Moves w e.v (.slice a6 (rs.length + 1) c6)) :
    TysAt (w6.setCell ⟨tb, es.length * 2 + 1, none⟩ (.slice a6 (rs.length + 1) c6)) B X (.slice (some ⟨tb, 0, none⟩) n cap) (es ++ [⟨e.name, e.rels ++ [⟨nm, x.tree⟩], a6, c6⟩]) (rs ++ [⟨nm, x⟩]) := by
  have hs := h.same
  rw [lastR_snoc] at hs
  have hl := h.last
  rw [lastV_snoc] at hl
  have hrl : rs.length = e.rels.length := by rw [← hs, List.length_map]
  have hn : n = es.length + 1 := by
    have h1 := h.own.2
    rcases h1 with ⟨h0, _⟩ | ⟨_, _, _, h0, _⟩
    · cases h0
    · have h3 : (es ++ [e]).length = es.length + 1 := by simp
      have := h.own.2
      rw [h3] at h0
      injection h0
  have htv : (Value.slice (some ⟨tb, 0, none⟩) n cap).ownBlock = some tb := rfl
  have hne : e.v.ownBlock ≠ some tb := fun he => own_apart hl h.own (by decide) tb he rfl
  have ho := h.own
  have hn' : (es ++ [e]).length = n := by rw [hn]; simp
  rw [hn'] at ho
  have ho6 : w6.ownsRow B 39 2 (.slice (some ⟨tb, 0, none⟩) n cap) n ((es ++ [e]).flatMap TyE.cells) := ho.kept g6 (by
    rw [htv]
    cases hv : e.v.ownBlock with
    | none => exact .inr (by simp)
    | some b => exact .inr (fun e => hne (by rw [hv]; exact e.symm)))
  have hne6 : (Value.slice a6 (rs.length + 1) c6).ownBlock ≠ some tb := fun he => own_apart o6 ho6 (by decide) tb he rfl
  have hok : ∀ b, okT B X (.slice (some ⟨tb, 0, none⟩) n cap) (es ++ [e]) b → (B ≤ b ∧ X b) ∧ tb ≠ b ∧ e.v.ownBlock ≠ some b := fun b hb => ⟨hb.1, fun e => hb.2.1 (by rw [htv, e]), by have := hb.2.2; rwa [lastV_snoc] at this⟩
  have hkp : Keeps (fun b => ((B ≤ b ∧ X b) ∧ tb ≠ b ∧ e.v.ownBlock ≠ some b) ∧ (Value.slice a6 (rs.length + 1) c6).ownBlock ≠ some b) w (w6.setCell ⟨tb, es.length * 2 + 1, none⟩ (.slice a6 (rs.length + 1) c6)) :=
    ⟨Nat.le_trans g6.size (by simp [World.setCell]), fun b hb hl => (Below.heap_setCell _ _ _ _ (fun e => hb.1.2.1 e.symm)).trans (g6.block b hl (fun e => hb.1.2.2 e.symm))⟩
  have hv6 : (⟨e.name, e.rels ++ [⟨nm, x.tree⟩], a6, c6⟩ : TyE).v = .slice a6 (rs.length + 1) c6 := by unfold TyE.v; simp [hrl]
  have hfin : ∀ b, ((B ≤ b ∧ X b) ∧ tb ≠ b ∧ e.v.ownBlock ≠ some b) ∧ (Value.slice a6 (rs.length + 1) c6).ownBlock ≠ some b → okT B X (.slice (some ⟨tb, 0, none⟩) n cap) (es ++ [⟨e.name, e.rels ++ [⟨nm, x.tree⟩], a6, c6⟩]) b := fun b hb => ⟨hb.1.1, fun e => hb.1.2.1 (by rw [htv] at e; injection e), by rw [lastV_snoc, hv6]; exact hb.2⟩
  refine ⟨?_, ?_, ?_, fun r hr => ?_, fun y hy => ?_, fun c hc => ?_⟩
  · have h1 := own_set2' ho6 (i := es.length * 2 + 1) (.slice a6 (rs.length + 1) c6)
    rw [List.flatMap_append, List.flatMap_cons, List.flatMap_nil, List.append_nil] at h1
    unfold TyE.cells at h1
    rw [set_tail2 _ es.length (flat_length _ 2 (fun _ => rfl) es)] at h1
    have h2 : (es ++ [(⟨e.name, e.rels ++ [⟨nm, x.tree⟩], a6, c6⟩ : TyE)]).length = n := by rw [hn]; simp
    rw [h2, List.flatMap_append, List.flatMap_cons, List.flatMap_nil, List.append_nil]
    unfold TyE.cells
    rw [hv6]
    exact h1
  · rw [lastV_snoc, hv6]
    have : (rs ++ [(⟨nm, x⟩ : RlE)]).length = rs.length + 1 := by simp
    rw [this, List.flatMap_append, List.flatMap_cons, List.flatMap_nil, List.append_nil]
    exact owns_cell' o6 hne6 _ _
  · rw [lastR_snoc, List.map_append, hs]; rfl
  · have h1 : rlEAt (fun b => ((B ≤ b ∧ X b) ∧ tb ≠ b ∧ e.v.ownBlock ≠ some b)) w r := by
      rcases List.mem_append.1 hr with hr | hr
      · exact rlE_keep.mono _ _ _ _ (fun b _ hb => hok b hb) (h.trees r hr)
      · simp at hr
        subst hr
        exact rlE_keep.mono _ _ _ _ (fun b _ hb => ⟨⟨Nat.le_trans hC hb, hXC b hb⟩, by omega, fun e => by have := hrv b e; omega⟩) (show rlEAt (fun b => C ≤ b) w ⟨nm, x⟩ from hx)
    exact rlE_keep.mono _ _ _ _ (fun b _ hb => hfin b hb) (rlE_keep.keep _ _ _ _ hkp (rlE_keep.mono _ _ _ _ (fun b hl hb => ⟨hb, m6 b hl hb.2.2⟩) h1))
  · rw [List.dropLast_concat] at hy
    have h1 := tyE_keep.mono _ _ _ _ (fun b _ hb => hok b hb) (h.init y (by rw [List.dropLast_concat]; exact hy))
    exact tyE_keep.mono _ _ _ _ (fun b _ hb => hfin b hb) (tyE_keep.keep _ _ _ _ hkp (tyE_keep.mono _ _ _ _ (fun b hl hb => ⟨hb, m6 b hl hb.2.2⟩) h1))
  · rw [lastV_snoc, hv6] at hc
    by_cases hcw : c < w.heap.size
    · by_cases hce : e.v.ownBlock = some c
      · have := h.lastX
        rw [lastV_snoc] at this
        exact this c hce
      · exact absurd hc (m6 c hcw hce)
    · exact hXC c (by omega)

theorem TysAt.lastXv {w : World} {B : Nat} {X : Nat → Prop} {tv : Value} {es : List TyE} {e : TyE} {rs : List RlE} (h : TysAt w B X tv (es ++ [e]) rs) : ∀ c, e.v.ownBlock = some c → X c := by
  have := h.lastX
  rwa [lastV_snoc] at this

/-- A block of an own type that may be left out of account. -/
theorem TysAt.apart {w w' : World} {B g : Nat} {tv : Value} {es : List TyE} {rs : List RlE} {cs : Array Value} {e' : TypeId} {fz : Nat × Nat} (h : TysAt w B (· ≠ g) tv es rs) (hg : w.heap[g]? = some (.cells cs e' fz)) (h1 : e' ≠ 39) (h2 : e' ≠ 44) (ht : Touch w w' [g]) : TysAt w' B (· ≠ g) tv es rs := by
  have hk : ∀ {e : TypeId} {k n : Nat} {v : Value} {xs : List Value}, e' ≠ e → w.ownsRow B e k v n xs → w'.ownsRow B e k v n xs := fun hne ho => by
    refine ho.kept (row := some g) ⟨ht.os, ht.tape, ht.output, ht.size, fun k hk hn => ht.block k hk (by simp; exact fun e => hn (by rw [e]))⟩ ?_
    have := owns_other ho hg hne
    cases hv : Value.ownBlock _ with
    | none => exact .inl rfl
    | some b => exact .inr (fun e => this (by rw [hv, e]))
  refine ⟨hk h1 h.own, hk h2 h.last, h.same, fun r hr => rlE_keep.keep _ _ _ _ ⟨ht.size, fun b hb hl => ht.block b hl (by simp; exact hb.1.2)⟩ (h.trees r hr), fun x hx => tyE_keep.keep _ _ _ _ ⟨ht.size, fun b hb hl => ht.block b hl (by simp; exact hb.1.2)⟩ (h.init x hx), h.lastX⟩

/-- A store below. -/
theorem TysAt.setLow {w : World} {B c : Nat} {X : Nat → Prop} {tv : Value} {es : List TyE} {rs : List RlE} (h : TysAt w B X tv es rs) (hc : c < B) (j : Nat) (u : Value) : TysAt (w.setCell ⟨c, j, none⟩ u) B X tv es rs := by
  have hkp : Keeps (okT B X tv es) w (w.setCell ⟨c, j, none⟩ u) := ⟨by simp [World.setCell], fun b hb _ => Below.heap_setCell _ _ _ _ (fun e => by have e : b = c := e; have := hb.1.1; omega)⟩
  exact ⟨owns_cell' h.own (fun e => by have := (h.own.lt c e).1; omega) _ _, owns_cell' h.last (fun e => by have := (h.last.lt c e).1; omega) _ _, h.same, fun r hr => rlE_keep.keep _ _ _ _ hkp (h.trees r hr), fun x hx => tyE_keep.keep _ _ _ _ hkp (h.init x hx), h.lastX⟩

theorem addRl_snoc (S : List Ty) (t : Ty) (r : Rl) : addRl (S ++ [t]) r = S ++ [⟨t.name, t.rels ++ [r]⟩] := by
  unfold addRl
  rw [List.getLast?_concat, List.dropLast_concat]

/-- A schema in block sb; its rows are blocks from B on. -/
def SAt (w : World) (B sb : Nat) (S : List Ty) : Prop :=
  ∃ tv es rs, w.heap[sb]? = some (.cells #[tv] 25 (0, 0)) ∧ sb < B ∧ TysAt w B (fun _ => True) tv es rs ∧ es.map TyE.ty = S

structure KeptB (B sb : Nat) (w w' : World) : Prop where
  os : w'.os = w.os
  tape : w'.tape = w.tape
  output : w'.output = w.output
  size : w.heap.size ≤ w'.heap.size
  block : ∀ k, k < B → k ≠ sb → w'.heap[k]? = w.heap[k]?
theorem KeptB.trans {B sb : Nat} {a b c : World} (h : KeptB B sb a b) (k : KeptB B sb b c) : KeptB B sb a c := ⟨k.os.trans h.os, k.tape.trans h.tape, k.output.trans h.output, Nat.le_trans h.size k.size, fun x hx hn => (k.block x hx hn).trans (h.block x hx hn)⟩
theorem KeptB.of_below {B sb : Nat} {a b : World} (h : Below B a b) : KeptB B sb a b := ⟨h.os, h.tape, h.output, h.size, fun x hx _ => h.block x hx⟩
theorem KeptB.refl (B sb : Nat) (w : World) : KeptB B sb w w := ⟨rfl, rfl, rfl, Nat.le_refl _, fun _ _ _ => rfl⟩
end Go.Proofs.YtopnldebekhelaaDoor
