/- The reference's rules out of signs: what its calls answer, and how a row of parts grows. -/
import Derived.Test.YtopnldebekhelaaDoorZSchRpM
import Derived.Test.YtopnldebekhelaaDoorZSchRowM
import Derived.Test.YtopnldebekhelaaDoorZSchRfName
namespace Go.Proofs.YtopnldebekhelaaDoor
open Go Go.RowKit

/-- Some signs in memory, in blocks below B. -/
structure Seg (B : Nat) (w : World) (a : Option Addr) (n c : Nat) (l : List ByteArray) : Prop where
  len : n = l.length
  le : n ≤ c
  cap : c ≤ maxLen
  at' : ∀ (j : Nat) (s : ByteArray), l[j]? = some s → ∃ b off, a = some ⟨b, off, none⟩ ∧ b < B ∧ b < w.heap.size ∧ w.cell? ⟨b, off + j, none⟩ = some (.string s)

theorem Seg.keep {B : Nat} {w w' : World} {a : Option Addr} {n c : Nat} {l : List ByteArray} (h : Seg B w a n c l) (k : Below B w w') : Seg B w' a n c l :=
  ⟨h.len, h.le, h.cap, fun j s hj => by
    obtain ⟨b, off, e, h1, h2, h3⟩ := h.at' j s hj
    exact ⟨b, off, e, h1, Nat.lt_of_lt_of_le h2 k.size, (cell_same (k.block b h1) _).trans h3⟩⟩
theorem Seg.of_reads {w : World} {a : Option Addr} {n c : Nat} {l : List ByteArray} (h : Reads w 1 (.slice a n c) n (scells l)) : Seg w.heap.size w a n c l := by
  obtain ⟨hl, a', c', hv, h1, h2, h3⟩ := h
  cases hv
  rw [scells_length] at hl
  refine ⟨by omega, h1, h2, fun j s hj => ?_⟩
  obtain ⟨b, off, e, g1, g2⟩ := h3 j (.string s) (by unfold scells; rw [List.getElem?_map, hj]; rfl)
  exact ⟨b, off, e, g1, g1, g2⟩
theorem Seg.head {B : Nat} {w : World} {a : Option Addr} {n c : Nat} {s : ByteArray} {l : List ByteArray} (h : Seg B w a n c (s :: l)) : ∃ b off, a = some ⟨b, off, none⟩ ∧ b < B ∧ b < w.heap.size ∧ w.cell? ⟨b, off, none⟩ = some (.string s) := by
  obtain ⟨b, off, e, h1, h2, h3⟩ := h.at' 0 s rfl
  exact ⟨b, off, e, h1, h2, h3⟩
theorem Seg.cut {B : Nat} {w : World} {b off n c : Nat} {l : List ByteArray} (h : Seg B w (some ⟨b, off, none⟩) n c l) (k : Nat) (hk : k ≤ n) (o : Nat) (ho : c ≠ k → o = off + k) : Seg B w (some ⟨b, o, none⟩) (n - k) (c - k) (l.drop k) := by
  have h1 := h.len
  have h2 := h.le
  refine ⟨by rw [List.length_drop]; omega, by omega, by have := h.cap; omega, fun j s hj => ?_⟩
  rw [List.getElem?_drop] at hj
  have hlt := (List.getElem?_eq_some_iff.1 hj).1
  obtain ⟨b', off', e, g1, g2, g3⟩ := h.at' _ s hj
  cases e
  rw [ho (by omega)]
  exact ⟨b, off + k, rfl, g1, g2, by rw [Nat.add_assoc]; exact g3⟩

/-- What a call answers: a rule and the signs left, or that there is none. -/
def SvPost (B : Nat) (w : World) (r : Pr) (e : Ending) (w' : World) : Prop :=
  ∃ (x : RuE) (a : Option Addr) (n c : Nat) (ok : Bool), e = .returned (.tuple #[.agg #[.int .i64 x.h.kind, .string x.h.a, .string x.h.b, .slice x.a x.ps.length x.cap], .slice a n c, .bool ok]) ∧ Below w.heap.size w w' ∧ n ≤ c ∧ c ≤ maxLen ∧
    ((ok = false ∧ r = none) ∨ (ok = true ∧ ∃ U, r = some (x.tree, U) ∧ ruEAt (fun b => w.heap.size ≤ b) w' x ∧ Seg B w' a n c U))

theorem sv_no {B : Nat} {w w' : World} {k : Int} {s1 s2 : ByteArray} {xa a : Option Addr} {xn xc n c : Nat} {r : Pr} (h : r = none) (hb : Below w.heap.size w w') (h1 : n ≤ c) (h2 : c ≤ maxLen) {x : RuE} (hx : x.h.kind = k ∧ x.h.a = s1 ∧ x.h.b = s2 ∧ x.a = xa ∧ x.ps.length = xn ∧ x.cap = xc) :
    SvPost B w r (.returned (.tuple #[.agg #[.int .i64 k, .string s1, .string s2, .slice xa xn xc], .slice a n c, .bool false])) w' := by
  obtain ⟨rfl, rfl, rfl, rfl, rfl, rfl⟩ := hx
  exact ⟨x, a, n, c, false, rfl, hb, h1, h2, .inl ⟨rfl, h⟩⟩
/-- A rule of nothing. -/
def ruZ : RuE := ⟨⟨0, ⟨#[]⟩, ⟨#[]⟩⟩, [], none, 0⟩
theorem sv_none {B : Nat} {w w' : World} {a : Option Addr} {n c : Nat} {r : Pr} (h : r = none) (hb : Below w.heap.size w w') (h1 : n ≤ c) (h2 : c ≤ maxLen) :
    SvPost B w r (.returned (.tuple #[.agg #[.int .i64 0, .string ⟨#[]⟩, .string ⟨#[]⟩, .slice none 0 0], .slice a n c, .bool false])) w' :=
  sv_no h hb h1 h2 (x := ruZ) ⟨rfl, rfl, rfl, rfl, rfl, rfl⟩
theorem sv_yes {B : Nat} {w w' : World} {x : RuE} {a : Option Addr} {n c : Nat} {r : Pr} {U : List ByteArray} (h : r = some (x.tree, U)) (hb : Below w.heap.size w w') (hx : ruEAt (fun b => w.heap.size ≤ b) w' x) (hr : Seg B w' a n c U) :
    SvPost B w r (.returned (.tuple #[.agg #[.int .i64 x.h.kind, .string x.h.a, .string x.h.b, .slice x.a x.ps.length x.cap], .slice a n c, .bool true])) w' :=
  ⟨x, a, n, c, true, rfl, hb, hr.le, hr.cap, .inr ⟨rfl, U, h, hx, hr⟩⟩

theorem ret_ru3 {w' : World} {g : Nat} {k : Int} {s1 s2 : ByteArray} {a : Option Addr} {n c : Nat} {fn : Func} {p q r : Tmp} {tmps : Array Value} (hf : fn.results = #[.cell p 42, .tmp q, .tmp r]) (hp : tmps.getD p undef = .pointer (some ⟨g, 0, none⟩))
    (ht : w'.heap[g]? = some (.cells #[.int .i64 k, .string s1, .string s2, .slice a n c] 42 (0, 0))) :
    (results fn tmps).run Tryd.prog w' = .ok (.tuple #[.agg #[.int .i64 k, .string s1, .string s2, .slice a n c], tmps.getD q undef, tmps.getD r undef]) w' := by
  have hp' : tmps[p]?.getD undef = .pointer (some ⟨g, 0, none⟩) := by simpa using hp
  have hl := run_loadVar_row (P := Tryd.prog) w' g _ 42 _ _ _ ht Tryd.underlying42 rfl (by kernel_rfl)
  simp [results, hf, hp', asAddr, hl]

/-- Four cells of a box set. -/
def set4 (w : World) (g : Nat) (v0 v1 v2 v3 : Value) : World := (((w.setCell ⟨g, 0, none⟩ v0).setCell ⟨g, 1, none⟩ v1).setCell ⟨g, 2, none⟩ v2).setCell ⟨g, 3, none⟩ v3
theorem set4_at {w : World} {g : Nat} {cs : Array Value} (hs : cs.size = 4) (h : w.heap[g]? = some (.cells cs 42 (0, 0))) (v0 v1 v2 v3 : Value) : (set4 w g v0 v1 v2 v3).heap[g]? = some (.cells #[v0, v1, v2, v3] 42 (0, 0)) := rule_stored hs h v0 v1 v2 v3
theorem set4_below {w0 w : World} {B g : Nat} (h : Below B w0 w) (hg : B ≤ g) (v0 v1 v2 v3 : Value) : Below B w0 (set4 w g v0 v1 v2 v3) := by
  have h1 : ∀ (W : World) (v : Value) (j : Nat), Below B w0 W → Below B w0 (W.setCell ⟨g, j, none⟩ v) := fun W v j h => ⟨h.os, h.tape, h.output, Nat.le_trans h.size (by simp [World.setCell]), fun k hk => (Below.heap_setCell _ _ _ _ (fun e => by have e : k = g := e; omega)).trans (h.block k hk)⟩
  exact h1 _ _ _ (h1 _ _ _ (h1 _ _ _ (h1 _ _ _ h)))
theorem set4_size (w : World) (g : Nat) (v0 v1 v2 v3 : Value) : (set4 w g v0 v1 v2 v3).heap.size = w.heap.size := by simp [set4, World.setCell]
theorem set4_drew (w : World) (g : Nat) (v0 v1 v2 v3 : Value) : set4 w.drew g v0 v1 v2 v3 = (set4 w g v0 v1 v2 v3).drew := rfl

theorem hd_none {op : ByteArray} (h : op ≠ cNone) : ¬ ([] : List ByteArray).headD cNone = op := fun e => h e.symm

/-- What one more round makes. -/
theorem rv_step {f : List ByteArray → Pr} (hf : StepOk f) (hlen : StepLen f) {op : ByteArray} {k : Int} {T0 T : List ByteArray} {n : Nat} {acc : List (Tr RuH)} {R : Pr} {t : Tr RuH} {U : List ByteArray} (hn : T.length < n) (hR : R = rowF f op k n acc T) (hw : wtL acc + wtT T ≤ wtT T0) (hs : f T = some (t, U)) :
    t.wt ≤ wtT T ∧ wtL (addP k acc t) + wtT U ≤ wtT T0 ∧ wtT U ≤ wtT T ∧ (U.headD cNone = op → U.tail.length < n - 1 ∧ U.tail.length < T.length ∧ R = rowF f op k (n - 1) (addP k acc t) U.tail ∧ wtL (addP k acc t) + wtT U.tail ≤ wtT T0) ∧
      (U.headD cNone ≠ op → R = some (mkRow k (addP k acc t), U)) := by
  have ha := addP_wt k acc t
  obtain ⟨m, rfl⟩ : ∃ m, n = m + 1 := ⟨n - 1, by omega⟩
  rw [rowF, hs] at hR
  dsimp only at hR
  have h0 := hf _ _ _ hs
  have h1 := hlen _ _ _ hs
  have h2 := wtT_tail U
  have h3 := tail_le U
  refine ⟨by omega, by omega, by omega, fun hu => ?_, fun hu => ?_⟩
  · rw [if_pos hu] at hR
    refine ⟨by rw [Nat.add_sub_cancel]; omega, by omega, hR, by omega⟩
  · rw [if_neg hu] at hR
    exact hR
theorem rv_none {f : List ByteArray → Pr} {op : ByteArray} {k : Int} {T : List ByteArray} {n : Nat} {acc : List (Tr RuH)} {R : Pr} (hn : T.length < n) (hR : R = rowF f op k n acc T) (hs : f T = none) : R = none := by
  obtain ⟨m, rfl⟩ : ∃ m, n = m + 1 := ⟨n - 1, by omega⟩
  rw [rowF, hs] at hR
  exact hR

def slen : Value → Nat
  | .slice _ n _ => n
  | _ => 0

def RvRel (B : Nat) (w : World) (f : List ByteArray → Pr) (op : ByteArray) (k : Int) (T0 : List ByteArray) (R : Pr) (lv pv : Value) (wr : World) : Prop :=
  ∃ (T : List ByteArray) (n : Nat) (es : List RuE) (a : Option Addr) (m c : Nat), lv = .slice a m c ∧ Seg B wr a m c T ∧ EOwn RuE.cells ruEAt 42 4 (w.heap.size + 1) wr pv es ∧ wr.heap[w.heap.size]? = some (.cells #[.int .i64 0, .string ⟨#[]⟩, .string ⟨#[]⟩, .slice none 0 0] 42 (0, 0)) ∧ Below w.heap.size w wr ∧
    T.length < n ∧ R = rowF f op k n (es.map RuE.tree) T ∧ wtL (es.map RuE.tree) + wtT T ≤ wtT T0

/-- A box set: what lies above it stays. -/
theorem set4_keeps (w : World) (M : Nat) (v0 v1 v2 v3 : Value) : Keeps (fun b => M + 1 ≤ b) w (set4 w M v0 v1 v2 v3) :=
  ⟨by rw [set4_size]; exact Nat.le_refl _, fun b hb _ => by
    unfold set4
    iterate 4 rw [Below.heap_setCell _ _ _ _ (fun e => by have e : b = M := e; omega)]⟩
end Go.Proofs.YtopnldebekhelaaDoor
