/- The reader's trees: mathematics; rows of one's own whose elements lead on. -/
import Derived.Test.YtdonibkkdhokpaaGreatZWireRp
import Derived.Test.YtdonibkkdhokpaaGreatZWireSt
import Derived.Test.YtdonibkkdhokpaaGreatMga
namespace Go.Proofs.YtdonibkkdhokpaaGreat
open Go Go.RowKit

def ruZero : RuH := ⟨0, ⟨#[]⟩, ⟨#[]⟩⟩
def noZero : NoH := ⟨0, ⟨#[]⟩, ⟨#[]⟩, ⟨#[]⟩, []⟩

def rru (l : List UInt8) (b : Bool) : RuH × List UInt8 × Bool :=
  let r1 := rlong l b
  let r2 := rtxt r1.2.1 r1.2.2
  let r3 := rtxt r2.2.1 r2.2.2
  (⟨r1.1, r2.1, r3.1⟩, r3.2)

def rno (l : List UInt8) (b : Bool) : NoH × List UInt8 × Bool :=
  let r1 := rlong l b
  let r2 := robj2 r1.2.1 r1.2.2
  let r3 := rtxt r2.2.1 r2.2.2
  let r4 := rlist rsub3 r3.2.1 r3.2.2
  (⟨r1.1, r2.1.a, r2.1.b, r3.1, r4.1⟩, r4.2)

theorem eats_ru : Eats (fun l b => (rru l b).2) := (eats_long.seq eats_txt).seq eats_txt
theorem eats_no : Eats (fun l b => (rno l b).2) := ((eats_long.seq eats_obj2).seq eats_txt).seq (eats_list eats_sub3)

def rtree {α : Type} (rh : List UInt8 → Bool → α × List UInt8 × Bool) (z : α) : Nat → List UInt8 → Bool → Tr α × List UInt8 × Bool
  | 0, l, _ => (.mk z [], l, true)
  | D + 1, l, b => if b = true then (.mk z [], l, true) else (.mk (rh l false).1 (rlist (rtree rh z D) (rh l false).2.1 (rh l false).2.2).1, (rlist (rtree rh z D) (rh l false).2.1 (rh l false).2.2).2)

theorem rtree_bad {α : Type} (rh : List UInt8 → Bool → α × List UInt8 × Bool) (z : α) (D : Nat) (l : List UInt8) : rtree rh z D l true = (.mk z [], l, true) := by
  cases D with
  | zero => rfl
  | succ D => rw [rtree, if_pos rfl]

theorem rtree_next {α : Type} (rh : List UInt8 → Bool → α × List UInt8 × Bool) (z : α) (D : Nat) (l : List UInt8) : rtree rh z (D + 1) l false = (.mk (rh l false).1 (rlist (rtree rh z D) (rh l false).2.1 (rh l false).2.2).1, (rlist (rtree rh z D) (rh l false).2.1 (rh l false).2.2).2) := by
  rw [rtree, if_neg (by decide)]

theorem eats_tree {α : Type} {rh : List UInt8 → Bool → α × List UInt8 × Bool} (z : α) (h : Eats (fun l b => (rh l b).2)) : ∀ D : Nat, Eats (fun l b => (rtree rh z D l b).2)
  | 0 => ⟨fun l b => Nat.le_refl _, fun l => rfl, fun l hl => by cases hl⟩
  | D + 1 => by
    have ih := eats_list (eats_tree z h D)
    refine ⟨fun l b => ?_, fun l => ?_, fun l hl => ?_⟩
    · cases b with
      | true => dsimp only; rw [rtree_bad]; exact Nat.le_refl _
      | false =>
        dsimp only
        rw [rtree_next]
        exact Nat.le_trans (ih.1 _ _) (h.1 l false)
    · dsimp only
      rw [rtree_bad]
    · dsimp only at hl ⊢
      rw [rtree_next] at hl ⊢
      exact (h.seq ih).2.2 l hl

/-- What elements of a row lead on to stays where its blocks stay. -/
structure EKeep {ε : Type} (eat : (Nat → Prop) → World → ε → Prop) : Prop where
  keep : ∀ ok w w' e, Keeps ok w w' → eat ok w e → eat ok w' e
  mono : ∀ (ok ok' : Nat → Prop) w e, (∀ x, x < w.heap.size → ok x → ok' x) → eat ok w e → eat ok' w e

/-- A row of one's own whose elements lead on to blocks of one's own. -/
def EOwn {ε : Type} (ec : ε → List Value) (eat : (Nat → Prop) → World → ε → Prop) (ty : TypeId) (s B0 : Nat) (w : World) (v : Value) (es : List ε) : Prop :=
  w.ownsRow B0 ty s v es.length (es.flatMap ec) ∧ ∀ e ∈ es, eat (fun b => B0 ≤ b ∧ v.ownBlock ≠ some b) w e

section
variable {ε : Type} {ec : ε → List Value} {eat : (Nat → Prop) → World → ε → Prop} {ty : TypeId} {s B0 : Nat}

theorem EOwn.nil (w : World) : EOwn ec eat ty s B0 w (.slice none 0 0) [] := ⟨owns_nil _ _ _ _, fun e he => by cases he⟩

theorem EOwn.touch {w w' : World} {v : Value} {es : List ε} {g c : Nat} (hk : EKeep eat) (h : EOwn ec eat ty s B0 w v es) (ht : Touch w w' [g, c]) (hg : g < B0) (hc : c < B0) : EOwn ec eat ty s B0 w' v es := by
  refine ⟨?_, fun e he => hk.keep _ _ _ _ ⟨ht.size, fun b hb hl => ht.block b hl (by simp; omega)⟩ (h.2 e he)⟩
  obtain ⟨h1, h2 | ⟨k, cap, cur, hv, hb, hh, rest⟩⟩ := h.1
  · exact ⟨h1, .inl h2⟩
  · exact ⟨h1, .inr ⟨k, cap, cur, hv, hb, (ht.block k (Array.getElem?_eq_some_iff.1 hh).1 (by simp; omega)).trans hh, rest⟩⟩

theorem EOwn.base {w : World} {v : Value} {es : List ε} {C : Nat} (hk : EKeep eat) (h : EOwn ec eat ty s C w v es) (hB : B0 ≤ C) : EOwn ec eat ty s B0 w v es :=
  ⟨ownsRow_base h.1 hB, fun e he => hk.mono _ _ _ _ (fun _ _ hx => ⟨Nat.le_trans hB hx.1, hx.2⟩) (h.2 e he)⟩

theorem EOwn.push {w w6 : World} {v v6 : Value} {es : List ε} {e : ε} {C : Nat} (hk : EKeep eat) (h : EOwn ec eat ty s B0 w v es) (he : eat (fun b => C ≤ b) w e) (hC : B0 ≤ C) (hv : ∀ c, v.ownBlock = some c → c < C)
    (o6 : w6.ownsRow B0 ty s v6 (es.length + 1) (es.flatMap ec ++ ec e)) (g6 : w.grownBy w6 v.ownBlock) (m6 : Moves w v v6) : EOwn ec eat ty s B0 w6 v6 (es ++ [e]) := by
  refine ⟨by rw [List.length_append, List.flatMap_append, List.flatMap_cons, List.flatMap_nil, List.append_nil]; exact o6, fun x hx => ?_⟩
  have hkp : Keeps (fun b => v.ownBlock ≠ some b) w w6 := ⟨g6.size, fun b hb hl => g6.block b hl (fun e => hb e.symm)⟩
  have hin : eat (fun b => B0 ≤ b ∧ v.ownBlock ≠ some b) w x := by
    rcases List.mem_append.1 hx with hx | hx
    · exact h.2 x hx
    · simp at hx
      subst hx
      exact hk.mono _ _ _ _ (fun b _ hb => ⟨Nat.le_trans hC hb, fun e => by have := hv b e; omega⟩) he
  have h1 := hk.keep _ _ _ _ (hkp.mono (fun b _ hb => hb.2)) (hk.mono _ (fun b => (B0 ≤ b ∧ v.ownBlock ≠ some b) ∧ v6.ownBlock ≠ some b) _ _ (fun b hl hb => ⟨hb, m6 b hl hb.2⟩) hin |> hk.mono _ (fun b => (B0 ≤ b ∧ v6.ownBlock ≠ some b) ∧ v.ownBlock ≠ some b) _ _ (fun b _ hb => ⟨⟨hb.1.1, hb.2⟩, hb.1.2⟩))
  exact hk.mono _ _ _ _ (fun b _ hb => hb.1) h1

end

structure RuE where
  h : RuH
  ps : List (Tr RuH)
  a : Option Addr
  cap : Nat

structure NoE where
  h : NoH
  ps : List (Tr NoH)
  sa : Option Addr
  sc : Nat
  a : Option Addr
  cap : Nat

structure StE where
  y : Stp
  a : Option Addr
  cap : Nat
  ba : Option Addr
  bc : Nat

def RuE.cells (e : RuE) : List Value := [.int .i64 e.h.kind, .string e.h.a, .string e.h.b, .slice e.a e.ps.length e.cap]
def NoE.cells (e : NoE) : List Value := [.int .i64 e.h.kind, .string e.h.o, .string e.h.i, .string e.h.rel, .slice e.sa e.h.subs.length e.sc, .slice e.a e.ps.length e.cap]
def StE.cells (e : StE) : List Value := [.string e.y.p.a, .string e.y.p.b, .string e.y.p.c, .int .i64 e.y.h.kind, .string e.y.h.a, .string e.y.h.b, .slice e.a e.y.ps.length e.cap, .string e.y.s.a, .string e.y.s.b, .string e.y.s.c, .slice e.ba e.y.ys.length e.bc]

def ruEAt (ok : Nat → Prop) (w : World) (e : RuE) : Prop := e.ps.length ≤ e.cap ∧ e.cap ≤ maxLen ∧ TrsAt ruHd ok 4 w e.a 0 e.ps
def noEAt (ok : Nat → Prop) (w : World) (e : NoE) : Prop := e.ps.length ≤ e.cap ∧ e.cap ≤ maxLen ∧ TrsAt noHd ok 6 w e.a 0 e.ps ∧ RowsAt ok w (.slice e.sa e.h.subs.length e.sc) e.h.subs.length (e.h.subs.flatMap T3.cells)
def stEAt (ok : Nat → Prop) (w : World) (e : StE) : Prop := e.y.ps.length ≤ e.cap ∧ e.cap ≤ maxLen ∧ TrsAt ruHd ok 4 w e.a 0 e.y.ps ∧ RowsAt ok w (.slice e.ba e.y.ys.length e.bc) e.y.ys.length (e.y.ys.map intC)

theorem ruE_keep : EKeep ruEAt := ⟨fun _ _ _ _ k h => ⟨h.1, h.2.1, TrsAt.keep k (ruHd_keep k) _ h.2.2⟩, fun _ _ _ _ k h => ⟨h.1, h.2.1, TrsAt.mono k (ruHd_mono k) _ h.2.2⟩⟩
theorem noE_keep : EKeep noEAt := ⟨fun _ _ _ _ k h => ⟨h.1, h.2.1, TrsAt.keep k (noHd_keep k) _ h.2.2.1, h.2.2.2.keep k⟩, fun _ _ _ _ k h => ⟨h.1, h.2.1, TrsAt.mono k (noHd_mono k) _ h.2.2.1, h.2.2.2.mono k⟩⟩
theorem stE_keep : EKeep stEAt := ⟨fun _ _ _ _ k h => ⟨h.1, h.2.1, TrsAt.keep k (ruHd_keep k) _ h.2.2.1, h.2.2.2.keep k⟩, fun _ _ _ _ k h => ⟨h.1, h.2.1, TrsAt.mono k (ruHd_mono k) _ h.2.2.1, h.2.2.2.mono k⟩⟩

def RuE.tree (e : RuE) : Tr RuH := .mk e.h e.ps
def NoE.tree (e : NoE) : Tr NoH := .mk e.h e.ps

theorem RuE.at {ok : Nat → Prop} {w : World} {e : RuE} (h : ruEAt ok w e) : TrAt ruHd ok 4 w e.cells e.tree := by
  unfold RuE.tree
  rw [TrAt]
  exact ⟨[.int .i64 e.h.kind, .string e.h.a, .string e.h.b], e.a, e.cap, rfl, rfl, rfl, h.1, h.2.1, h.2.2⟩

theorem NoE.at {ok : Nat → Prop} {w : World} {e : NoE} (h : noEAt ok w e) : TrAt noHd ok 6 w e.cells e.tree := by
  unfold NoE.tree
  rw [TrAt]
  exact ⟨[.int .i64 e.h.kind, .string e.h.o, .string e.h.i, .string e.h.rel, .slice e.sa e.h.subs.length e.sc], e.a, e.cap, rfl, rfl, ⟨_, rfl, h.2.2.2⟩, h.1, h.2.1, h.2.2.1⟩

/-- A row of trees' elements is a list of trees. -/
theorem EOwn.trs {α ε : Type} {hd : (Nat → Prop) → World → List Value → α → Prop} {ec : ε → List Value} {eat : (Nat → Prop) → World → ε → Prop} {ty : TypeId} {s B0 : Nat} {w : World} {v : Value} {es : List ε} (et : ε → Tr α) (hs : 0 < s) (hec : ∀ e, (ec e).length = s)
    (hat : ∀ ok e, eat ok w e → TrAt hd ok s w (ec e) (et e)) (hk : EKeep eat) (h : EOwn ec eat ty s B0 w v es) : ∃ a cap, v = .slice a es.length cap ∧ es.length ≤ cap ∧ cap ≤ maxLen ∧ TrsAt hd (fun b => B0 ≤ b) s w a 0 (es.map et) := by
  obtain ⟨a, cap, hv, h1, h2⟩ := (ownsRow.reads h.1).le
  refine ⟨a, cap, hv, h1, h2, TrsAt.of_all _ _ fun i p hi => ?_⟩
  rw [List.getElem?_map] at hi
  obtain ⟨e, he, rfl⟩ := Option.map_eq_some_iff.1 hi
  subst hv
  obtain ⟨b, off, rfl, hb, hc⟩ := rows_at ec s hec (ownsRow.reads h.1) he hs
  have hbB : B0 ≤ b := by
    obtain ⟨_, ⟨h3, _⟩ | ⟨k, c2, cur, h3, h4, _⟩⟩ := h.1
    · cases h3
    · cases h3
      exact h4
  refine ⟨b, off, ec e, rfl, hbB, hb, hec e, fun j u hj => ?_, hat _ _ (hk.mono _ _ _ _ (fun _ _ hx => hx.1) (h.2 e (List.mem_of_getElem? he)))⟩
  rw [Nat.zero_add]
  exact hc j u hj
end Go.Proofs.YtdonibkkdhokpaaGreat
