/- The parser: a row of what stands between signs: its rounds. -/
import Derived.Test.YtopnldebekhelaaDoorZSchRowM
namespace Go.Proofs.YtopnldebekhelaaDoor
open Go Go.RowKit

def strOf : Option Value → ByteArray
  | some (.string s) => s
  | _ => cNone

/-- How much a parser has before it. -/
def pw (w : World) (g : Nat) : Nat := match w.heap[g]? with
  | some (.cells cs _ _) => (strOf cs[1]?).size + 8 + wtT (toks (strOf cs[0]?).data.toList)
  | _ => 0

theorem pw_at {w : World} {g : Nat} {T : List ByteArray} {d : Int} {bad : Bool} (h : PAt w g T d bad) : pw w g = (T.headD cNone).size + 8 + wtT T.tail := by
  obtain ⟨R, h1, h2, _⟩ := h
  unfold pw
  rw [h1]
  show (T.headD cNone).size + 8 + wtT (toks R.data.toList) = _
  rw [h2]

def mw (mv : Value) (w : World) (g : Nat) : Nat := match mv with
  | .bool true => pw w g + 1
  | _ => 0

def RwGo (f : List ByteArray → Pr) (op : ByteArray) (k : Int) (T0 : List ByteArray) (g : Nat) (d : Int) (R : Pr) (es : List RuE) (wr : World) : Prop :=
  ∃ T n, PAt wr g T d false ∧ T.length < n ∧ R = rowF f op k n (es.map RuE.tree) T ∧ wtL (es.map RuE.tree) + (if es = [] then 0 else 9) + wtT T ≤ wtT T0

def RwEnd (k : Int) (T0 : List ByteArray) (g : Nat) (d : Int) (R : Pr) (es : List RuE) (wr : World) : Prop :=
  wtL (es.map RuE.tree) ≤ wtT T0 + 8 ∧ PrRes wr g T0 d (mkRow k (es.map RuE.tree)) R

def RwRel (w : World) (f : List ByteArray → Pr) (op : ByteArray) (k : Int) (T0 : List ByteArray) (g : Nat) (d : Int) (R : Pr) (pv mv : Value) (wr : World) : Prop :=
  ∃ es : List RuE, EOwn RuE.cells ruEAt 42 4 (w.heap.size + 1) wr pv es ∧ wr.heap[w.heap.size]? = some (.cells #[.int .i64 0, .string ⟨#[]⟩, .string ⟨#[]⟩, .slice none 0 0] 42 (0, 0)) ∧ Touch w wr [g] ∧
    ((mv = .bool true ∧ RwGo f op k T0 g d R es wr) ∨ (mv = .bool false ∧ RwEnd k T0 g d R es wr))

/-- What one more round makes. -/
theorem rw_step {f : List ByteArray → Pr} (hf : StepOk f) (hlen : StepLen f) {op : ByteArray} (hop : op.size = 1) {k : Int} {T0 T : List ByteArray} {n : Nat} {g : Nat} {d : Int} {acc : List (Tr RuH)} {R : Pr} {W : World} {t : Tr RuH} (hn : T.length < n) (hR : R = rowF f op k n acc T) (hw : wtL acc + (if acc = [] then 0 else 9) + wtT T ≤ wtT T0) (hp : PrRes W g T d t (f T)) :
    wtL (addP k acc t) ≤ wtT T0 + 8 ∧ ((∃ T', PAt W g T' d false ∧ T'.headD cNone = op ∧ T'.tail.length < n - 1 ∧ R = rowF f op k (n - 1) (addP k acc t) T'.tail ∧ wtL (addP k acc t) + 9 + wtT T'.tail ≤ wtT T0 ∧ wtT T'.tail + 17 ≤ wtT T) ∨
      (∃ T', PAt W g T' d false ∧ T'.headD cNone ≠ op ∧ R = some (mkRow k (addP k acc t), T')) ∨
      (∃ T' d', PAt W g T' d' true ∧ R = none ∧ (mkRow k (addP k acc t)).wt ≤ wtT T0 + 8)) := by
  have ha := addP_wt k acc t
  obtain ⟨m, rfl⟩ : ∃ m, n = m + 1 := ⟨n - 1, by omega⟩
  rw [rowF] at hR
  cases hs : f T with
  | none =>
    rw [hs] at hR hp
    obtain ⟨h1, T', d', h2⟩ := hp
    have h3 : wtL acc + t.wt ≤ wtT T0 + 8 := by split at hw <;> omega
    refine ⟨by omega, .inr (.inr ⟨T', d', h2, hR, ?_⟩)⟩
    by_cases he : acc = []
    · subst he
      have := mkRow_wt1 k t
      rw [wtL_nil] at h3
      omega
    · rw [if_neg he] at hw
      have := mkRow_wt k (addP k acc t)
      omega
  | some x =>
    obtain ⟨u, U⟩ := x
    have h0 := hf _ _ _ hs
    rw [hs] at hR hp
    obtain ⟨rfl, h2⟩ := hp
    dsimp only at hR
    have h3 : wtL acc + t.wt ≤ wtT T0 + 8 := by split at hw <;> omega
    refine ⟨by omega, ?_⟩
    by_cases hu : U.headD cNone = op
    · rw [if_pos hu] at hR
      have h4 := headD_tail_wt hu (fun e => by rw [e] at hop; exact absurd hop (by decide))
      have h6 := wt_ge t
      refine .inl ⟨U, h2, hu, ?_, hR, ?_, by omega⟩
      · show U.tail.length < m
        have : U.tail.length < T.length := by
          have hz : (U.tail.length < T.length) := by
            have := hlen _ _ _ hs
            rw [List.length_tail]
            omega
          exact hz
        omega
      · split at hw <;> omega
    · rw [if_neg hu] at hR
      exact .inr (.inl ⟨U, h2, hu, hR⟩)
theorem PrRes.touch {w w' : World} {g : Nat} {T : List ByteArray} {d : Int} {t : Tr RuH} {r : Pr} {l : List Nat} (h : PrRes w g T d t r) (ht : Touch w w' l) (hn : g ∉ l) : PrRes w' g T d t r := by
  cases r with
  | none =>
    obtain ⟨h1, T', d', h2⟩ := h
    exact ⟨h1, T', d', h2.touch ht hn⟩
  | some x => exact ⟨h.1, h.2.touch ht hn⟩

theorem PAt.belowB {w w' : World} {g B : Nat} {T : List ByteArray} {d : Int} {bad : Bool} (h : PAt w g T d bad) (b : Below B w w') (hg : g < B) : PAt w' g T d bad := by
  obtain ⟨R, h1, h2⟩ := h
  exact ⟨R, (b.block g hg).trans h1, h2⟩
theorem PrRes.belowB {w w' : World} {g B : Nat} {T : List ByteArray} {d : Int} {t : Tr RuH} {r : Pr} (h : PrRes w g T d t r) (b : Below B w w') (hg : g < B) : PrRes w' g T d t r := by
  cases r with
  | none =>
    obtain ⟨h1, T', d', h2⟩ := h
    exact ⟨h1, T', d', h2.belowB b hg⟩
  | some x => exact ⟨h.1, h.2.belowB b hg⟩
theorem touch_below {w w2 w6 : World} {B : Nat} {l : List Nat} (h : Touch w w2 l) (b : Below B w2 w6) (hB : w.heap.size ≤ B) : Touch w w6 l :=
  ⟨b.os.trans h.os, b.tape.trans h.tape, b.output.trans h.output, Nat.le_trans h.size b.size, fun i hi hn => (b.block i (by omega)).trans (h.block i hi hn)⟩
theorem prRes_wt {f : List ByteArray → Pr} (hok : StepOk f) {w : World} {g : Nat} {T : List ByteArray} {d : Int} {t : Tr RuH} (h : PrRes w g T d t (f T)) (hT : wtT T ≤ 600000) : t.wt ≤ 600008 := by
  cases hf : f T with
  | none => rw [hf] at h; have := h.1; omega
  | some x =>
    rw [hf] at h
    have h1 := hok _ _ _ hf
    rw [h.1]
    omega
theorem pw_less {T U : List ByteArray} (h : wtT U + 17 ≤ wtT T) : (U.headD cNone).size + 8 + wtT U.tail < (T.headD cNone).size + 8 + wtT T.tail := by
  cases T with
  | nil => rw [wtT_nil] at h; omega
  | cons a T =>
    rw [wtT_cons] at h
    simp only [List.headD_cons, List.tail_cons]
    cases U with
    | nil =>
      show cNone.size + 8 + wtT [] < _
      rw [wtT_nil, cNone_size]
      omega
    | cons b U =>
      rw [wtT_cons] at h
      simp only [List.headD_cons, List.tail_cons]
      omega

theorem if_le {c : Prop} [Decidable c] {a b m : Nat} (h : a + 9 + b ≤ m) : a + (if c then 0 else 9) + b ≤ m := by split <;> omega

theorem one_two {w w' : World} {g : Nat} (h : Touch w w' [g]) : Touch w w' [g, g] := h.mono (by simp)
theorem touch_own {w w' : World} {N : Nat} {ob : Option Nat} (h : w.grownBy w' ob) (ho : ∀ c, ob = some c → N ≤ c) (hN : N ≤ w.heap.size) : Below N w w' :=
  ⟨h.os, h.tape, h.output, h.size, fun k hk => h.block k (by omega) (fun e => by have := ho k e.symm; omega)⟩

theorem badB {w : World} {g : Nat} {T : List ByteArray} {d : Int} {bad : Bool} (h : PAt w g T d bad) : w.cell? ⟨g, 3, none⟩ = some (.bool bad) := by
  obtain ⟨R, h1, _⟩ := h
  have := Lib.cell_of_heap h1 3
  simpa using this
theorem depthB {w : World} {g : Nat} {T : List ByteArray} {d : Int} {bad : Bool} (h : PAt w g T d bad) : w.cell? ⟨g, 2, none⟩ = some (.int .i64 d) := by
  obtain ⟨R, h1, _⟩ := h
  have := Lib.cell_of_heap h1 2
  simpa using this
theorem signB {w : World} {g : Nat} {T : List ByteArray} {d : Int} {bad : Bool} (h : PAt w g T d bad) : w.cell? ⟨g, 1, none⟩ = some (.string (T.headD cNone)) := by
  obtain ⟨R, h1, _⟩ := h
  have := Lib.cell_of_heap h1 1
  simpa using this

/-- A rule that is stored into a call's result. -/
theorem row_ret {w wr : World} {g : Nat} {T : List ByteArray} {d : Int} {R : Pr} {cs : Array Value} (hs : cs.size = 4) (hN : wr.heap[w.heap.size]? = some (.cells cs 42 (0, 0))) (hT : Touch w wr [g]) (hg : g < w.heap.size) {x : RuE} (hat : ruEAt (fun b => w.heap.size + 1 ≤ b) wr x) (hP : PrRes wr g T d x.tree R)
    (W : World) (hW : W = ((((wr.setCell ⟨w.heap.size, 0, none⟩ (.int .i64 x.h.kind)).setCell ⟨w.heap.size, 1, none⟩ (.string x.h.a)).setCell ⟨w.heap.size, 2, none⟩ (.string x.h.b)).setCell ⟨w.heap.size, 3, none⟩ (.slice x.a x.ps.length x.cap))) :
    W.heap[w.heap.size]? = some (.cells #[.int .i64 x.h.kind, .string x.h.a, .string x.h.b, .slice x.a x.ps.length x.cap] 42 (0, 0)) ∧ RuPost w g T d R (.returned (.agg #[.int .i64 x.h.kind, .string x.h.a, .string x.h.b, .slice x.a x.ps.length x.cap])) W := by
  have hk : Touch wr W [w.heap.size] := by
    rw [hW]
    exact ((((Touch.refl wr _).setCell (.inl (by simp)) _).setCell (.inl (by simp)) _).setCell (.inl (by simp)) _).setCell (.inl (by simp)) _
  have hT2 : Touch w W [g] := hT.trans (n := [g]) hk (fun _ h => h) (fun x hx => by simp at hx; exact .inr (by omega))
  refine ⟨by rw [hW]; exact rule_stored hs hN _ _ _ _, x, rfl, ?_, hT2, hP.touch hk (by simp; omega)⟩
  exact ruE_keep.mono _ _ _ _ (fun b _ hb => by omega) (ruE_keep.keep _ _ _ _ ⟨hk.size, fun b hb hl => hk.block b hl (by simp; omega)⟩ hat)
end Go.Proofs.YtopnldebekhelaaDoor
