/- Rules as trees in memory; rows of them. -/
import Derived.Test.YtopnldebekhelaaDoorZTreeM
import Derived.Test.YtopnldebekhelaaDoorMga
namespace Go.Proofs.YtopnldebekhelaaDoor
open Go Go.RowKit

structure RuH where
  kind : Int
  a : ByteArray
  b : ByteArray

def ruHd (_ : Nat → Prop) (_ : World) (hc : List Value) (x : RuH) : Prop := hc = [.int .i64 x.kind, .string x.a, .string x.b]

theorem ruHd_keep {ok : Nat → Prop} {w w' : World} (_ : Keeps ok w w') (hc : List Value) (h : RuH) (k : ruHd ok w hc h) : ruHd ok w' hc h := k
theorem ruHd_mono {ok ok' : Nat → Prop} {w : World} (_ : ∀ x, x < w.heap.size → ok x → ok' x) (hc : List Value) (h : RuH) (k : ruHd ok w hc h) : ruHd ok' w hc h := k

theorem ownsRow_base {w : World} {B C k n : Nat} {e : TypeId} {v : Value} {xs : List Value} (h : w.ownsRow C e k v n xs) (hB : B ≤ C) : w.ownsRow B e k v n xs := by
  refine ⟨h.1, ?_⟩
  rcases h.2 with h | ⟨g, cap, cur, hv, hb, rest⟩
  · exact .inl h
  · exact .inr ⟨g, cap, cur, hv, Nat.le_trans hB hb, rest⟩

theorem rows_at {α : Type} (f : α → List Value) (k : Nat) (hk : ∀ x, (f x).length = k) {w : World} {a : Option Addr} {n cap : Nat} {xs : List α} (h : Reads w k (.slice a n cap) n (xs.flatMap f)) {i : Nat} {x : α} (hx : xs[i]? = some x) (h0 : 0 < k) :
    ∃ b off, a = some ⟨b, off, none⟩ ∧ b < w.heap.size ∧ ∀ (j : Nat) (u : Value), (f x)[j]? = some u → w.cell? ⟨b, off + i * k + j, none⟩ = some u := by
  have hj0 : ∃ u, (f x)[0]? = some u := ⟨_, List.getElem?_eq_getElem (by rw [hk]; exact h0)⟩
  obtain ⟨u0, hu0⟩ := hj0
  obtain ⟨b, off, rfl, hb, _⟩ := h.at (j := i * k + 0) (u := u0) (by rw [flat_cell f k hk xs i x hx 0 h0]; exact hu0)
  refine ⟨b, off, rfl, hb, fun j u hj => ?_⟩
  have hjk : j < k := by
    have := (List.getElem?_eq_some_iff.1 hj).1
    rwa [hk] at this
  obtain ⟨b2, off2, hv, _, hc⟩ := h.at (j := i * k + j) (u := u) (by rw [flat_cell f k hk xs i x hx j hjk]; exact hj)
  cases hv
  rw [Nat.add_assoc]
  exact hc

/-- What elements of a row lead on to stays where its blocks stay. -/
structure EKeep {ε : Type} (eat : (Nat → Prop) → World → ε → Prop) : Prop where
  keep : ∀ ok w w' e, Keeps ok w w' → eat ok w e → eat ok w' e
  mono : ∀ (ok ok' : Nat → Prop) w e, (∀ x, x < w.heap.size → ok x → ok' x) → eat ok w e → eat ok' w e

/-- A row of one's own whose elements lead on to blocks of one's own. -/
def EOwn {ε : Type} (ec : ε → List Value) (eat : (Nat → Prop) → World → ε → Prop) (ty : TypeId) (s B0 : Nat) (w : World) (v : Value) (es : List ε) : Prop :=
  w.ownsRow B0 ty s v es.length (es.flatMap ec) ∧ ∀ e ∈ es, eat (fun b => B0 ≤ b ∧ v.ownBlock ≠ some b) w e

section
variable {ε : Type} {ec : ε → List Value} {eat : (Nat → Prop) → World → ε → Prop} {ty : TypeId} {s B0 : Nat}

theorem EOwn.nil (w : World) : EOwn ec eat ty s B0 w (.slice none 0 0) [] := ⟨owns_nil _ _ _ _, fun e he => by cases he⟩

theorem EOwn.touch {w w' : World} {v : Value} {es : List ε} {g c : Nat} (hk : EKeep eat) (h : EOwn ec eat ty s B0 w v es) (ht : Touch w w' [g, c]) (hg : g < B0) (hc : c < B0) : EOwn ec eat ty s B0 w' v es := by
  refine ⟨?_, fun e he => hk.keep _ _ _ _ ⟨ht.size, fun b hb hl => ht.block b hl (by simp; omega)⟩ (h.2 e he)⟩
  obtain ⟨h1, h2 | ⟨k, cap, cur, hv, hb, hh, rest⟩⟩ := h.1
  · exact ⟨h1, .inl h2⟩
  · exact ⟨h1, .inr ⟨k, cap, cur, hv, hb, (ht.block k (Array.getElem?_eq_some_iff.1 hh).1 (by simp; omega)).trans hh, rest⟩⟩

theorem EOwn.base {w : World} {v : Value} {es : List ε} {C : Nat} (hk : EKeep eat) (h : EOwn ec eat ty s C w v es) (hB : B0 ≤ C) : EOwn ec eat ty s B0 w v es :=
  ⟨ownsRow_base h.1 hB, fun e he => hk.mono _ _ _ _ (fun _ _ hx => ⟨Nat.le_trans hB hx.1, hx.2⟩) (h.2 e he)⟩

theorem EOwn.push {w w6 : World} {v v6 : Value} {es : List ε} {e : ε} {C : Nat} (hk : EKeep eat) (h : EOwn ec eat ty s B0 w v es) (he : eat (fun b => C ≤ b) w e) (hC : B0 ≤ C) (hv : ∀ c, v.ownBlock = some c → c < C)
    (o6 : w6.ownsRow B0 ty s v6 (es.length + 1) (es.flatMap ec ++ ec e)) (g6 : w.grownBy w6 v.ownBlock) (m6 : Moves w v v6) : EOwn ec eat ty s B0 w6 v6 (es ++ [e]) := by
  refine ⟨by rw [List.length_append, List.flatMap_append, List.flatMap_cons, List.flatMap_nil, List.append_nil]; exact o6, fun x hx => ?_⟩
  have hkp : Keeps (fun b => v.ownBlock ≠ some b) w w6 := ⟨g6.size, fun b hb hl => g6.block b hl (fun e => hb e.symm)⟩
  have hin : eat (fun b => B0 ≤ b ∧ v.ownBlock ≠ some b) w x := by
    rcases List.mem_append.1 hx with hx | hx
    · exact h.2 x hx
    · simp at hx
      subst hx
      exact hk.mono _ _ _ _ (fun b _ hb => ⟨Nat.le_trans hC hb, fun e => by have := hv b e; omega⟩) he
  have h1 := hk.keep _ _ _ _ (hkp.mono (fun b _ hb => hb.2)) (hk.mono _ (fun b => (B0 ≤ b ∧ v.ownBlock ≠ some b) ∧ v6.ownBlock ≠ some b) _ _ (fun b hl hb => ⟨hb, m6 b hl hb.2⟩) hin |> hk.mono _ (fun b => (B0 ≤ b ∧ v6.ownBlock ≠ some b) ∧ v.ownBlock ≠ some b) _ _ (fun b _ hb => ⟨⟨hb.1.1, hb.2⟩, hb.1.2⟩))
  exact hk.mono _ _ _ _ (fun b _ hb => hb.1) h1

end

structure RuE where
  h : RuH
  ps : List (Tr RuH)
  a : Option Addr
  cap : Nat

def RuE.cells (e : RuE) : List Value := [.int .i64 e.h.kind, .string e.h.a, .string e.h.b, .slice e.a e.ps.length e.cap]

def ruEAt (ok : Nat → Prop) (w : World) (e : RuE) : Prop := e.ps.length ≤ e.cap ∧ e.cap ≤ maxLen ∧ TrsAt ruHd ok 4 w e.a 0 e.ps

theorem ruE_keep : EKeep ruEAt := ⟨fun _ _ _ _ k h => ⟨h.1, h.2.1, TrsAt.keep k (ruHd_keep k) _ h.2.2⟩, fun _ _ _ _ k h => ⟨h.1, h.2.1, TrsAt.mono k (ruHd_mono k) _ h.2.2⟩⟩

def RuE.tree (e : RuE) : Tr RuH := .mk e.h e.ps

theorem RuE.at {ok : Nat → Prop} {w : World} {e : RuE} (h : ruEAt ok w e) : TrAt ruHd ok 4 w e.cells e.tree := by
  unfold RuE.tree
  rw [TrAt]
  exact ⟨[.int .i64 e.h.kind, .string e.h.a, .string e.h.b], e.a, e.cap, rfl, rfl, rfl, h.1, h.2.1, h.2.2⟩

/-- A row of trees' elements is a list of trees. -/
theorem EOwn.trs {α ε : Type} {hd : (Nat → Prop) → World → List Value → α → Prop} {ec : ε → List Value} {eat : (Nat → Prop) → World → ε → Prop} {ty : TypeId} {s B0 : Nat} {w : World} {v : Value} {es : List ε} (et : ε → Tr α) (hs : 0 < s) (hec : ∀ e, (ec e).length = s)
    (hat : ∀ ok e, eat ok w e → TrAt hd ok s w (ec e) (et e)) (hk : EKeep eat) (h : EOwn ec eat ty s B0 w v es) : ∃ a cap, v = .slice a es.length cap ∧ es.length ≤ cap ∧ cap ≤ maxLen ∧ TrsAt hd (fun b => B0 ≤ b) s w a 0 (es.map et) := by
  obtain ⟨a, cap, hv, h1, h2⟩ := (ownsRow.reads h.1).le
  refine ⟨a, cap, hv, h1, h2, TrsAt.of_all _ _ fun i p hi => ?_⟩
  rw [List.getElem?_map] at hi
  obtain ⟨e, he, rfl⟩ := Option.map_eq_some_iff.1 hi
  subst hv
  obtain ⟨b, off, rfl, hb, hc⟩ := rows_at ec s hec (ownsRow.reads h.1) he hs
  have hbB : B0 ≤ b := by
    obtain ⟨_, ⟨h3, _⟩ | ⟨k, c2, cur, h3, h4, _⟩⟩ := h.1
    · cases h3
    · cases h3
      exact h4
  refine ⟨b, off, ec e, rfl, hbB, hb, hec e, fun j u hj => ?_, hat _ _ (hk.mono _ _ _ _ (fun _ _ hx => hx.1) (h.2 e (List.mem_of_getElem? he)))⟩
  rw [Nat.zero_add]
  exact hc j u hj

theorem trRu_open {ok : Nat → Prop} {w : World} {cs : List Value} {h : RuH} {ps : List (Tr RuH)} (k : TrAt ruHd ok 4 w cs (.mk h ps)) : ∃ a cap, cs = [.int .i64 h.kind, .string h.a, .string h.b, .slice a ps.length cap] ∧ ps.length ≤ cap ∧ cap ≤ maxLen ∧ TrsAt ruHd ok 4 w a 0 ps := by
  rw [TrAt] at k
  obtain ⟨hc, a, cap, rfl, _, h3, h4, h5, h6⟩ := k
  exact ⟨a, cap, by rw [h3]; rfl, h4, h5, h6⟩

theorem sub_own {w w' : World} {B n k : Nat} {e : TypeId} {v : Value} {xs : List Value} {g c : Nat} (h : w.ownsRow B e k v n xs) (ht : Touch w w' [g, c]) (hg : g < B) (hc : c < B) : w'.ownsRow B e k v n xs := by
  obtain ⟨h1, h2 | ⟨q, cap, cur, hv, hb, hh, rest⟩⟩ := h
  · exact ⟨h1, .inl h2⟩
  · exact ⟨h1, .inr ⟨q, cap, cur, hv, hb, (ht.block q (Array.getElem?_eq_some_iff.1 hh).1 (by simp; omega)).trans hh, rest⟩⟩

theorem own_rowsAt {w : World} {B n k : Nat} {e : TypeId} {v : Value} {xs : List Value} (h : w.ownsRow B e k v n xs) : RowsAt (fun b => B ≤ b) w v n xs := by
  obtain ⟨hl, a, cap, hv, h1, h2, h3⟩ := ownsRow.reads h
  refine ⟨a, cap, hv, h1, h2, fun j u hj => ?_⟩
  obtain ⟨b, off, ha, hb, hc⟩ := h3 j u hj
  have hbB : B ≤ b := by
    obtain ⟨_, ⟨h4, _⟩ | ⟨q, c2, cur, h4, h5, _⟩⟩ := h
    · rw [hv, ha] at h4; cases h4
    · rw [hv, ha] at h4; cases h4; exact h5
  exact ⟨b, off, ha, hbB, hb, hc⟩

theorem below_quietS {B : Nat} {w wr : World} (h : Below B w wr) (n : Nat) : Below B w (wr.drewN n) := ⟨h.os, h.tape, h.output, h.size, h.block⟩

end Go.Proofs.YtopnldebekhelaaDoor
