/- The writer's trees: heads, states. -/
import Derived.Test.YtdonibkkdhokpaaGreatMga
import Derived.Test.YtdonibkkdhokpaaGreatZWirePut0
namespace Go.Proofs.YtdonibkkdhokpaaGreat
open Go Go.RowKit

/-- Three texts: a subject, or a point. -/
structure T3 where
  a : ByteArray
  b : ByteArray
  c : ByteArray

def T3.cells (t : T3) : List Value := [.string t.a, .string t.b, .string t.c]
def t3B (t : T3) : List UInt8 := txts [t.a, t.b, t.c]

structure RuH where
  kind : Int
  a : ByteArray
  b : ByteArray

structure NoH where
  kind : Int
  o : ByteArray
  i : ByteArray
  rel : ByteArray
  subs : List T3

def ruHd (_ : Nat → Prop) (_ : World) (hc : List Value) (x : RuH) : Prop := hc = [.int .i64 x.kind, .string x.a, .string x.b]
def noHd (ok : Nat → Prop) (w : World) (hc : List Value) (x : NoH) : Prop := ∃ v, hc = [.int .i64 x.kind, .string x.o, .string x.i, .string x.rel, v] ∧ RowsAt ok w v x.subs.length (x.subs.flatMap T3.cells)

def ruB (x : RuH) : List UInt8 := enc (zig x.kind) ++ txts [x.a, x.b]
def noB (x : NoH) : List UInt8 := enc (zig x.kind) ++ txts [x.o, x.i] ++ txts [x.rel] ++ listB t3B x.subs

def ruIn (x : RuH) : Prop := in64 x.kind
def noIn (x : NoH) : Prop := in64 x.kind ∧ x.subs.length ≤ 20000000

theorem ruHd_keep {ok : Nat → Prop} {w w' : World} (_ : Keeps ok w w') (hc : List Value) (h : RuH) (k : ruHd ok w hc h) : ruHd ok w' hc h := k
theorem ruHd_mono {ok ok' : Nat → Prop} {w : World} (_ : ∀ x, x < w.heap.size → ok x → ok' x) (hc : List Value) (h : RuH) (k : ruHd ok w hc h) : ruHd ok' w hc h := k
theorem noHd_keep {ok : Nat → Prop} {w w' : World} (hk : Keeps ok w w') (hc : List Value) (h : NoH) (k : noHd ok w hc h) : noHd ok w' hc h := by
  obtain ⟨v, h1, h2⟩ := k
  exact ⟨v, h1, h2.keep hk⟩
theorem noHd_mono {ok ok' : Nat → Prop} {w : World} (hk : ∀ x, x < w.heap.size → ok x → ok' x) (hc : List Value) (h : NoH) (k : noHd ok w hc h) : noHd ok' w hc h := by
  obtain ⟨v, h1, h2⟩ := k
  exact ⟨v, h1, h2.mono hk⟩

/-- The writer, or one that has stood too deep. -/
def WS (B : Nat) (w : World) (g : Nat) (l : List UInt8) (d : Int) (ok : Bool) : Prop :=
  (ok = true ∧ WAt B w g l d false) ∨ (ok = false ∧ ∃ l' : List UInt8, l'.length ≤ l.length ∧ WAt B w g l' d true)

theorem WS.yes {B : Nat} {w : World} {g : Nat} {l : List UInt8} {d : Int} (h : WAt B w g l d false) : WS B w g l d true := .inl ⟨rfl, h⟩

theorem WS.at {B : Nat} {w : World} {g : Nat} {l : List UInt8} {d : Int} {ok : Bool} (h : WS B w g l d ok) : ∃ l' dp, WAt B w g l' d dp := by
  rcases h with ⟨_, h⟩ | ⟨_, l', _, h⟩
  · exact ⟨_, _, h⟩
  · exact ⟨_, _, h⟩

theorem WS.depth {B : Nat} {w : World} {g : Nat} {l : List UInt8} {d : Int} {ok : Bool} (h : WS B w g l d ok) (d' : Int) : WS B (w.setCell ⟨g, 1, none⟩ (.int .i64 d')) g l d' ok := by
  rcases h with ⟨e, h⟩ | ⟨e, l', hl, h⟩
  · exact .inl ⟨e, h.depth d'⟩
  · exact .inr ⟨e, l', hl, h.depth d'⟩

theorem WS.longer {B : Nat} {w : World} {g : Nat} {l m : List UInt8} {d : Int} (h : WS B w g l d false) (hl : l.length ≤ m.length) : WS B w g m d false := by
  rcases h with ⟨e, h⟩ | ⟨e, l', h1, h⟩
  · cases e
  · exact .inr ⟨rfl, l', Nat.le_trans h1 hl, h⟩

theorem WS.below {B : Nat} {w w' : World} {g : Nat} {l : List UInt8} {d : Int} {ok : Bool} (h : WS B w g l d ok) (b : Below w.heap.size w w') : WS B w' g l d ok := by
  rcases h with ⟨e, h⟩ | ⟨e, l', h1, h⟩
  · exact .inl ⟨e, h.below b⟩
  · exact .inr ⟨e, l', h1, h.below b⟩

def WSPost (B : Nat) (w : World) (g : Nat) (l : List UInt8) (d : Int) (ok : Bool) (e : Ending) (w' : World) : Prop :=
  e = .returned (.tuple #[]) ∧ WS B w' g l d ok ∧ Below B w w' ∧ KeepW g w w'

def fit (d : Int) {α : Type} (t : Tr α) : Bool := decide (d + t.depth ≤ 64)

theorem fit_all {α : Type} {d : Int} (h : α) (ps : List (Tr α)) (hd : d + 1 ≤ 64) : ps.all (fit (d + 1)) = fit d (Tr.mk h ps) := by
  unfold fit
  rw [Tr.depth_mk, Bool.eq_iff_iff, List.all_eq_true, decide_eq_true_eq]
  constructor
  · intro k
    have : Tr.depthL ps ≤ (64 - (d + 1)).toNat := (Tr.depthL_le ps).2 fun p hp => by
      have := k p hp
      simp only [decide_eq_true_eq] at this
      omega
    omega
  · intro k p hp
    have := (Tr.depthL_le ps).1 (Nat.le_refl _) p hp
    simp only [decide_eq_true_eq]
    omega

theorem fit_deep {α : Type} {d : Int} (t : Tr α) (hd : ¬ d + 1 ≤ 64) : fit d t = false := by
  cases t with
  | mk h ps =>
    unfold fit
    rw [Tr.depth_mk]
    simp only [decide_eq_false_iff_not]
    omega

def TLRel {α : Type} (f : Tr α → List UInt8) (B : Nat) (w : World) (g : Nat) (l : List UInt8) (d : Int) (ps : List (Tr α)) (v : Value) (wr : World) : Prop :=
  ∃ i : Nat, v = .int .i64 (i : Int) ∧ i ≤ ps.length ∧ WS B wr g (l ++ (ps.take i).flatMap f) d ((ps.take i).all (fit d)) ∧ Below B w wr ∧ KeepW g w wr

theorem wsub_t3 (w : World) (B g : Nat) (l : List UInt8) (d : Int) (deep : Bool) (t : T3) (h : WAt B w g l d deep) (hB : B ≤ w.heap.size) (hl : l.length + (t3B t).length ≤ 1000000000) :
    Calls Tryz.prog 87 #[.pointer (some ⟨g, 0, none⟩), .agg #[.string t.a, .string t.b, .string t.c]] w (WPost B w g (l ++ t3B t) d deep) := wsub_any w B g l d deep t.a t.b t.c h hB hl
end Go.Proofs.YtdonibkkdhokpaaGreat
