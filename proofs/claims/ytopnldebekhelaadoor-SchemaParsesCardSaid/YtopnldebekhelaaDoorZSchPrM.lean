/- A schema's text; how far it has been written. -/
import Derived.Test.YtopnldebekhelaaDoorZSchWRule
import Derived.Test.YtopnldebekhelaaDoorZSchWStr
import Derived.Test.YtopnldebekhelaaDoorZSchLines
namespace Go.Proofs.YtopnldebekhelaaDoor
open Go Go.RowKit

def eqS : List UInt8 := [32, 61, 32]
def typeS : List UInt8 := [116, 121, 112, 101, 32]

def relsT : List Rl → Option (List UInt8)
  | [] => some []
  | r :: rs => if isRelB r.name = true then (textF 0 0 r.rule).bind fun s => (relsT rs).map fun x => r.name.data.toList ++ eqS ++ s ++ [10] ++ x else none
def printT : List Ty → Option (List UInt8)
  | [] => some []
  | t :: ts => if isRefB t.name = true then (relsT t.rels).bind fun s => (printT ts).map fun y => typeS ++ t.name.data.toList ++ [10] ++ s ++ y else none

def wR (r : Rl) : Nat := r.name.size + r.rule.wt + 4
def wRs (rs : List Rl) : Nat := (rs.map wR).sum
def wY (t : Ty) : Nat := t.name.size + 6 + wRs t.rels
def wS (S : List Ty) : Nat := (S.map wY).sum

theorem wRs_snoc {rs : List Rl} {j : Nat} {r : Rl} (h : rs[j]? = some r) : wRs (rs.take (j + 1)) = wRs (rs.take j) + wR r := by
  rw [List.take_add_one, h, Option.toList_some]
  simp [wRs]
theorem wS_snoc {S : List Ty} {j : Nat} {t : Ty} (h : S[j]? = some t) : wS (S.take (j + 1)) = wS (S.take j) + wY t := by
  rw [List.take_add_one, h, Option.toList_some]
  simp [wS]
theorem wRs_take (rs : List Rl) (j : Nat) : wRs (rs.take j) ≤ wRs rs := by
  have : wRs rs = wRs (rs.take j) + wRs (rs.drop j) := by
    unfold wRs
    rw [← List.sum_append, ← List.map_append, List.take_append_drop]
  omega
theorem wS_take (S : List Ty) (j : Nat) : wS (S.take j) ≤ wS S := by
  have : wS S = wS (S.take j) + wS (S.drop j) := by
    unfold wS
    rw [← List.sum_append, ← List.map_append, List.take_append_drop]
  omega
theorem wRs_len (rs : List Rl) : rs.length ≤ wRs rs := by
  unfold wRs
  induction rs with
  | nil => simp
  | cons r rs ih =>
    have : 4 ≤ wR r := by unfold wR; omega
    simp only [List.map_cons, List.sum_cons, List.length_cons]
    omega
theorem drop_at {α : Type} {l : List α} {i : Nat} {x : α} (h : l[i]? = some x) : l.drop i = x :: l.drop (i + 1) :=
  (List.getElem_cons_drop (h := (List.getElem?_eq_some_iff.1 h).1)).symm.trans (by rw [(List.getElem?_eq_some_iff.1 h).2])

def TySt (S : List Ty) (R : Option (List UInt8)) (i : Nat) (li : List UInt8) (bd : Bool) : Prop :=
  li.length ≤ wS (S.take i) ∧ ((bd = true ∧ R = none) ∨ (bd = false ∧ R = (printT (S.drop i)).map (li ++ ·)))
def RelSt (rest : List Ty) (mx : Nat) (rels : List Rl) (R : Option (List UInt8)) (j : Nat) (lj : List UInt8) (bd : Bool) : Prop :=
  lj.length ≤ mx + wRs (rels.take j) ∧ ((bd = true ∧ R = none) ∨ (bd = false ∧ R = (relsT (rels.drop j)).bind fun x => (printT rest).map fun y => lj ++ x ++ y))

theorem tySt_line {S : List Ty} {R : Option (List UInt8)} {i : Nat} {li : List UInt8} {bd bd5 : Bool} {tn : ByteArray} {rels : List Rl} (h : TySt S R i li bd) (hi : S[i]? = some ⟨tn, rels⟩) (hb : bd5 = (bd || !isRefB tn)) :
    RelSt (S.drop (i + 1)) (wS (S.take i) + tn.size + 6) rels R 0 (li ++ (typeS ++ tn.data.toList ++ [10])) bd5 := by
  obtain ⟨h1, h2⟩ := h
  have ht : tn.data.toList.length = tn.size := Array.length_toList
  refine ⟨by simp [typeS, wRs]; omega, ?_⟩
  rcases h2 with ⟨rfl, h2⟩ | ⟨rfl, h2⟩
  · exact .inl ⟨by simpa using hb, h2⟩
  · rw [drop_at hi, printT] at h2
    cases hr : isRefB tn with
    | false =>
      rw [hr, if_neg (by decide)] at h2
      exact .inl ⟨by rw [hb, hr]; rfl, h2⟩
    | true =>
      rw [hr, if_pos rfl] at h2
      refine .inr ⟨by rw [hb, hr]; rfl, ?_⟩
      rw [h2, List.drop_zero]
      cases relsT rels with
      | none => rfl
      | some x => cases printT (S.drop (i + 1)) <;> simp

theorem relSt_next {rest : List Ty} {mx : Nat} {rels : List Rl} {R : Option (List UInt8)} {j : Nat} {lj l8 : List UInt8} {bdj bd6 bd8 : Bool} {nm : ByteArray} {t : Tr RuH} (h : RelSt rest mx rels R j lj bdj) (hj : rels[j]? = some ⟨nm, t⟩) (hb : bd6 = (bdj || !isRelB nm))
    (hl : l8.length ≤ lj.length + nm.size + 3 + (t.wt - 3)) (hc : (bd8 = false ∧ ∃ s, orBad bd6 (textF 0 0 t) = some s ∧ l8 = lj ++ (nm.data.toList ++ eqS) ++ s) ∨ (bd8 = true ∧ orBad bd6 (textF 0 0 t) = none)) :
    RelSt rest mx rels R (j + 1) (l8 ++ [10]) bd8 := by
  obtain ⟨h1, h2⟩ := h
  have hw := wRs_snoc hj
  have hge := wt_ge t
  unfold wR at hw
  dsimp only at hw
  refine ⟨by rw [List.length_append, List.length_singleton]; omega, ?_⟩
  rcases hc with ⟨rfl, s, h3, rfl⟩ | ⟨rfl, h3⟩
  · have hb0 : bd6 = false := by
      cases bd6 with
      | false => rfl
      | true => cases h3
    subst hb0
    have ht : textF 0 0 t = some s := h3
    rcases h2 with ⟨rfl, _⟩ | ⟨rfl, h2⟩
    · cases hb
    · have hir : isRelB nm = true := by
        cases hi : isRelB nm with
        | true => rfl
        | false => rw [hi] at hb; cases hb
      refine .inr ⟨rfl, ?_⟩
      rw [h2, drop_at hj, relsT, hir, if_pos rfl, ht]
      simp only [Option.bind_some]
      cases relsT (rels.drop (j + 1)) with
      | none => rfl
      | some x => cases printT rest <;> simp
  · refine .inl ⟨rfl, ?_⟩
    rcases h2 with ⟨rfl, h2⟩ | ⟨rfl, h2⟩
    · exact h2
    · rw [h2, drop_at hj, relsT]
      cases hi : isRelB nm with
      | false => rw [if_neg (by decide)]; rfl
      | true =>
        rw [hi] at hb
        subst hb
        have ht : textF 0 0 t = none := h3
        rw [if_pos rfl, ht]; rfl

theorem relSt_end {S : List Ty} {R : Option (List UInt8)} {i : Nat} {lj : List UInt8} {bd : Bool} {tn : ByteArray} {rels : List Rl} {j : Nat} (h : RelSt (S.drop (i + 1)) (wS (S.take i) + tn.size + 6) rels R j lj bd) (hj : rels.length = j) (hi : S[i]? = some ⟨tn, rels⟩) : TySt S R (i + 1) lj bd := by
  obtain ⟨h1, h2⟩ := h
  have hw := wS_snoc hi
  unfold wY at hw
  dsimp only at hw
  rw [show rels.take j = rels from List.take_of_length_le (by omega)] at h1
  refine ⟨by omega, ?_⟩
  rcases h2 with h2 | ⟨rfl, h2⟩
  · exact .inl h2
  · refine .inr ⟨rfl, ?_⟩
    rw [h2, show rels.drop j = [] from List.drop_of_length_le (by omega), relsT]
    simp

theorem wr_open {w' : World} {B b : Nat} {lj l7 : List UInt8} {m : Nat} {bd6 : Bool} {t : Tr RuH} {n3 : Nat} (h : WrRes w' B b l7 0 (t.wt - 3) (orBad bd6 (textF 0 0 t))) (hl : l7.length = lj.length + m + n3) (hw : ∀ s, textF 0 0 t = some s → s.length + 3 ≤ t.wt) :
    ∃ l8 bd8, WAt w' B b l8 0 bd8 ∧ l8.length ≤ lj.length + m + n3 + (t.wt - 3) ∧ ((bd8 = false ∧ ∃ s, orBad bd6 (textF 0 0 t) = some s ∧ l8 = l7 ++ s) ∨ (bd8 = true ∧ orBad bd6 (textF 0 0 t) = none)) := by
  cases ho : orBad bd6 (textF 0 0 t) with
  | none =>
    rw [ho] at h
    obtain ⟨l', e1, e2⟩ := h
    exact ⟨l', true, e2, by omega, .inr ⟨rfl, rfl⟩⟩
  | some s =>
    rw [ho] at h
    have hg : textF 0 0 t = some s := by
      unfold orBad at ho
      split at ho
      · cases ho
      · exact ho
    have := hw s hg
    exact ⟨_, false, h, by rw [List.length_append]; omega, .inl ⟨rfl, s, rfl, rfl⟩⟩

/-- Relations in memory. -/
def RelsAt (ok : Nat → Prop) (w : World) (a : Option Addr) (cap : Nat) (rels : List Rl) : Prop :=
  ∃ rs : List RlE, rs.map RlE.rl = rels ∧ RowsAt ok w (.slice a rels.length cap) rels.length (rs.flatMap RlE.cells) ∧ ∀ r ∈ rs, rlEAt ok w r
theorem RelsAt.keep {ok : Nat → Prop} {w w' : World} {a : Option Addr} {cap : Nat} {rels : List Rl} (h : RelsAt ok w a cap rels) (k : Keeps ok w w') : RelsAt ok w' a cap rels := by
  obtain ⟨rs, h1, h2, h3⟩ := h
  exact ⟨rs, h1, h2.keep k, fun r hr => rlE_keep.keep _ _ _ _ k (h3 r hr)⟩

theorem ty_get {ok : Nat → Prop} {w : World} {v : Value} {S : List Ty} (h : SchAt ok w v S) {i : Nat} {t : Ty} (hi : S[i]? = some t) :
    ∃ b off a cap, (∃ vc, v = .slice (some ⟨b, off, none⟩) S.length vc) ∧ ok b ∧ b < w.heap.size ∧ w.cell? ⟨b, off + i * 2, none⟩ = some (.string t.name) ∧ w.cell? ⟨b, off + i * 2 + 1, none⟩ = some (.slice a t.rels.length cap) ∧ RelsAt ok w a cap t.rels := by
  obtain ⟨es, h1, h2, h3⟩ := h
  rw [← h1, List.getElem?_map] at hi
  obtain ⟨e, he, rfl⟩ := Option.map_eq_some_iff.1 hi
  have hlen : es.length = S.length := by rw [← h1, List.length_map]
  have hr := h2.reads (k := 2) (by rw [flat_length TyE.cells 2 (fun _ => rfl), hlen])
  obtain ⟨va, vc, hv, _, _, hcell⟩ := h2
  subst hv
  obtain ⟨b, off, rfl, hb, hcs⟩ := rows_at TyE.cells 2 (fun _ => rfl) hr he (by decide)
  have hokb : ok b := by
    obtain ⟨b', off', e1, e2, _⟩ := hcell (i * 2 + 0) (.string e.name) (by rw [flat_cell TyE.cells 2 (fun _ => rfl) es i e he 0 (by decide)]; rfl)
    cases e1
    exact e2
  refine ⟨b, off, e.a, e.cap, ⟨vc, rfl⟩, hokb, hb, hcs 0 _ rfl, hcs 1 _ rfl, h3 e (List.mem_of_getElem? he)⟩

theorem rel_get {ok : Nat → Prop} {w : World} {a : Option Addr} {cap : Nat} {rels : List Rl} (h : RelsAt ok w a cap rels) {j : Nat} {nm : ByteArray} {xh : RuH} {xp : List (Tr RuH)} (hj : rels[j]? = some ⟨nm, .mk xh xp⟩) :
    ∃ b off xa xcap, a = some ⟨b, off, none⟩ ∧ b < w.heap.size ∧ w.cell? ⟨b, off + j * 5, none⟩ = some (.string nm) ∧ w.cell? ⟨b, off + j * 5 + 1, none⟩ = some (.int .i64 xh.kind) ∧ w.cell? ⟨b, off + j * 5 + 2, none⟩ = some (.string xh.a) ∧ w.cell? ⟨b, off + j * 5 + 3, none⟩ = some (.string xh.b) ∧ w.cell? ⟨b, off + j * 5 + 4, none⟩ = some (.slice xa xp.length xcap) ∧ xp.length ≤ xcap ∧ xcap ≤ maxLen ∧ TrsAt ruHd ok 4 w xa 0 xp := by
  obtain ⟨rs, h1, h2, h3⟩ := h
  rw [← h1, List.getElem?_map] at hj
  obtain ⟨⟨en, ⟨eh, ep, ea, ec⟩⟩, he, h4⟩ := Option.map_eq_some_iff.1 hj
  have hlen : rs.length = rels.length := by rw [← h1, List.length_map]
  have hr := h2.reads (k := 5) (by rw [flat_length RlE.cells 5 (fun _ => rfl), hlen])
  obtain ⟨b, off, rfl, hb, hcs⟩ := rows_at RlE.cells 5 (fun _ => rfl) hr he (by decide)
  unfold RlE.rl RuE.tree at h4
  simp only [Rl.mk.injEq, Tr.mk.injEq] at h4
  obtain ⟨rfl, rfl, rfl⟩ := h4
  obtain ⟨q1, q2, q3⟩ := h3 _ (List.mem_of_getElem? he)
  exact ⟨b, off, ea, ec, rfl, hb, hcs 0 _ rfl, hcs 1 _ rfl, hcs 2 _ rfl, hcs 3 _ rfl, hcs 4 _ rfl, q1, q2, q3⟩

theorem rels_low {B : Nat} {w : World} {b off : Nat} {cap : Nat} {rels : List Rl} (h : RelsAt (· < B) w (some ⟨b, off, none⟩) cap rels) : ∀ {j : Nat} {r : Rl}, rels[j]? = some r → b < B := by
  obtain ⟨rs, h1, h2, h3⟩ := h
  intro j r hj
  rw [← h1, List.getElem?_map] at hj
  obtain ⟨e, he, _⟩ := Option.map_eq_some_iff.1 hj
  obtain ⟨a, c, hv, _, _, hc⟩ := h2
  cases hv
  obtain ⟨b', off', e1, e2, _⟩ := hc (j * 5 + 0) (.string e.name) (by rw [flat_cell RlE.cells 5 (fun _ => rfl) rs j e he 0 (by decide)]; rfl)
  cases e1
  exact e2

theorem catT (tn : ByteArray) : (⟨#[116, 121, 112, 101, 32]⟩ ++ tn ++ ⟨#[10]⟩ : ByteArray).data.toList = typeS ++ tn.data.toList ++ [10] := by
  rw [ByteArray.data_append, ByteArray.data_append, Array.toList_append, Array.toList_append]
  rfl
theorem catE (nm : ByteArray) : (nm ++ ⟨#[32, 61, 32]⟩ : ByteArray).data.toList = nm.data.toList ++ eqS := by
  rw [ByteArray.data_append, Array.toList_append]
  rfl

def PrRel (w2 : World) (B b n : Nat) (S : List Ty) (R : Option (List UInt8)) (iv : Value) (wr : World) : Prop :=
  ∃ (i : Nat) (li : List UInt8) (bd : Bool), iv = .int .i64 (i : Int) ∧ i ≤ n ∧ WAt wr B b li 0 bd ∧ WF B b w2 wr ∧ TySt S R i li bd
def PjRel (w2 : World) (B b m : Nat) (rest : List Ty) (mx : Nat) (rels : List Rl) (R : Option (List UInt8)) (jv : Value) (wj : World) : Prop :=
  ∃ (j : Nat) (lj : List UInt8) (bd : Bool), jv = .int .i64 (j : Int) ∧ j ≤ m ∧ WAt wj B b lj 0 bd ∧ WF B b w2 wj ∧ RelSt rest mx rels R j lj bd
end Go.Proofs.YtopnldebekhelaaDoor
