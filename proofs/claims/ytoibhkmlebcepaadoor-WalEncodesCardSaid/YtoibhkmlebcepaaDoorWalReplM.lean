import Derived.Test.YtoibhkmlebcepaaDoorWalDecode
import Derived.Test.YtoibhkmlebcepaaDoorFrameAllMath
namespace Go.Proofs.YtoibhkmlebcepaaDoor
open Go Go.RowKit

def follows (p : Option Nat) (rev : Nat) : Bool := match p with | none => true | some q => decide (rev = q + 1)

/-- The commits that a log tells behind one of revision p, and the bytes of their frames. -/
def replGo (p : Option Nat) (b : List UInt8) : List (Nat × List Ent) × Nat :=
  if h : (nextL b).1 = 0 then
    match decL (nextL b).2 with
    | none => ([], 0)
    | some (rev, es) => if follows p rev = true then ((rev, es) :: (replGo (some rev) (b.drop (nextN b))).1, nextN b + (replGo (some rev) (b.drop (nextN b))).2) else ([], 0)
  else ([], 0)
termination_by b.length
decreasing_by all_goals
  have h1 := nextL_ok h
  have h2 : (b.drop (nextN b)).length = b.length - nextN b := List.length_drop
  rw [h2]
  omega

theorem repl_stop {p : Option Nat} {b : List UInt8} (h : ¬ (nextL b).1 = 0) : replGo p b = ([], 0) := by
  rw [replGo, dif_neg h]

theorem repl_bad {p : Option Nat} {b : List UInt8} (h : (nextL b).1 = 0) (hd : decL (nextL b).2 = none) : replGo p b = ([], 0) := by
  rw [replGo, dif_pos h, hd]

theorem repl_gap {p : Option Nat} {b : List UInt8} {rev : Nat} {es : List Ent} (h : (nextL b).1 = 0) (hd : decL (nextL b).2 = some (rev, es)) (hf : follows p rev = false) : replGo p b = ([], 0) := by
  rw [replGo, dif_pos h, hd]
  simp [hf]

theorem repl_more {p : Option Nat} {b : List UInt8} {rev : Nat} {es : List Ent} (h : (nextL b).1 = 0) (hd : decL (nextL b).2 = some (rev, es)) (hf : follows p rev = true) :
    replGo p b = ((rev, es) :: (replGo (some rev) (b.drop (nextN b))).1, nextN b + (replGo (some rev) (b.drop (nextN b))).2) := by
  conv => lhs; rw [replGo, dif_pos h, hd]
  simp [hf]

def lastR (cs : List (Nat × List Ent)) : Option Nat := cs.getLast?.map (·.1)

theorem lastR_snoc (cs : List (Nat × List Ent)) (c : Nat × List Ent) : lastR (cs ++ [c]) = some c.1 := by simp [lastR]
theorem lastR_nil : lastR [] = none := rfl

theorem dec_right {b : List UInt8} {rev : Nat} {es : List Ent} (h : decL b = some (rev, es)) : rightB rev es = true ∧ rev < 18446744073709551616 := by
  unfold decL at h
  split at h
  · split at h
    · unfold finL at h
      split at h
      · split at h
        · rename_i hr
          cases h
          exact ⟨by simpa using hr, getGo_lt b⟩
        · cases h
      · cases h
    · cases h
  · cases h

/-- A slice of commits, a row of the call's own; the entries of each are rows of the call's own, too. -/
def CRows (B : Nat) (w : World) (v : Value) (cs : List (Nat × List Ent)) : Prop :=
  ∃ svs : List Value, svs.length = cs.length ∧ w.ownsRow B 25 2 v cs.length ((cs.zip svs).flatMap fun x => [.int .u64 (x.1.1 : Int), x.2]) ∧
    ∀ (i : Nat) (c : Nat × List Ent) (sv : Value), cs[i]? = some c → svs[i]? = some sv → ∃ a cap, sv = .slice a c.2.length cap ∧ w.ownsRow B 48 3 sv c.2.length (ecells c.2)

theorem CRows.nil (B : Nat) (w : World) : CRows B w (.slice none 0 0) [] := ⟨[], rfl, owns_nil _ _ _ _, fun i c sv h => by simp at h⟩

theorem CRows.below {B : Nat} {w w' : World} {v : Value} {cs : List (Nat × List Ent)} (h : CRows B w v cs) (hb : Below w.heap.size w w') : CRows B w' v cs := by
  obtain ⟨svs, h1, h2, h3⟩ := h
  refine ⟨svs, h1, owns_below h2 hb, fun i c sv hi hs => ?_⟩
  obtain ⟨a, cap, he, ho⟩ := h3 i c sv hi hs
  exact ⟨a, cap, he, owns_below ho hb⟩

theorem owns_apart {w : World} {B n m s t : Nat} {e f : TypeId} {v u : Value} {xs ys : List Value} (h : w.ownsRow B e s v n xs) (k : w.ownsRow B f t u m ys) (hef : f ≠ e) : u.ownBlock = none ∨ u.ownBlock ≠ v.ownBlock := by
  rcases k.2 with ⟨rfl, _⟩ | ⟨g, cap, cur, rfl, _, hg, _⟩
  · left; rfl
  · right
    intro hh
    exact owns_other h hg hef hh.symm

/-- One commit more. -/
theorem CRows.push {B : Nat} {w w' : World} {v v' sv : Value} {cs : List (Nat × List Ent)} {rev : Nat} {es : List Ent} {a : Option Addr} {cap : Nat} {svs : List Value} (h1 : svs.length = cs.length)
    (h2 : w.ownsRow B 25 2 v cs.length ((cs.zip svs).flatMap fun x => [.int .u64 (x.1.1 : Int), x.2]))
    (h3 : ∀ (i : Nat) (c : Nat × List Ent) (sv : Value), cs[i]? = some c → svs[i]? = some sv → ∃ a cap, sv = .slice a c.2.length cap ∧ w.ownsRow B 48 3 sv c.2.length (ecells c.2))
    (hsv : sv = .slice a es.length cap) (hes : w.ownsRow B 48 3 sv es.length (ecells es)) (hg : w.grownBy w' v.ownBlock)
    (hown : w'.ownsRow B 25 2 v' (cs.length + 1) (((cs.zip svs).flatMap fun x => [.int .u64 (x.1.1 : Int), x.2]) ++ [.int .u64 (rev : Int), sv])) : CRows B w' v' (cs ++ [(rev, es)]) := by
  have hz : (cs ++ [(rev, es)]).zip (svs ++ [sv]) = cs.zip svs ++ [((rev, es), sv)] := by
    rw [List.zip_append h1.symm]
    rfl
  refine ⟨svs ++ [sv], by simp [h1], ?_, fun i c sv' hi hs => ?_⟩
  · rw [hz, List.flatMap_append]
    simpa using hown
  · by_cases hlt : i < cs.length
    · rw [List.getElem?_append_left hlt] at hi
      rw [List.getElem?_append_left (by omega)] at hs
      obtain ⟨a', cap', he, ho⟩ := h3 i c sv' hi hs
      exact ⟨a', cap', he, ho.kept hg (owns_apart h2 ho (by decide))⟩
    · have hi' : i = cs.length := by
        have := (List.getElem?_eq_some_iff.1 hi).1
        simp at this
        omega
      subst hi'
      simp at hi
      rw [List.getElem?_append_right (by omega)] at hs
      simp [h1] at hs
      subst hi
      subst hs
      exact ⟨a, cap, hsv, hes.kept hg (owns_apart h2 hes (by decide))⟩

theorem Sl.of_owns {w : World} {B : Nat} {v : Value} {l : List UInt8} (h : w.ownsRow B 5 1 v l.length (bcells l)) : Sl w.heap.size w v l := by
  have hr := ownsRow.reads h
  rcases h.2 with ⟨rfl, h0⟩ | ⟨g, cap, cur, rfl, _, hg, _⟩
  · left
    exact ⟨⟨_, rfl⟩, List.eq_nil_of_length_eq_zero h0⟩
  · right
    exact ⟨g, 0, cap, rfl, fun _ => (Array.getElem?_eq_some_iff.1 hg).1, fun _ => (Array.getElem?_eq_some_iff.1 hg).1, hr⟩

def RepPost (w : World) (b : List UInt8) (e : Ending) (w' : World) : Prop :=
  ∃ v, e = .returned (.tuple #[v, .int .i64 ((replGo none b).2 : Int)]) ∧ CRows w.heap.size w' v (replGo none b).1 ∧ Below w.heap.size w w'

def RepInv (b : List UInt8) (cs : List (Nat × List Ent)) (k : Nat) : Prop :=
  replGo none b = (cs ++ (replGo (lastR cs) (b.drop k)).1, k + (replGo (lastR cs) (b.drop k)).2) ∧ cs.length ≤ k ∧ k ≤ b.length ∧ ∀ c ∈ cs, c.1 < 18446744073709551616

def RepRel (w : World) (b : List UInt8) (lv av : Value) (wr : World) : Prop :=
  ∃ (cs : List (Nat × List Ent)) (k : Nat), av = .int .i64 (k : Int) ∧ RepInv b cs k ∧ CRows w.heap.size wr lv cs ∧ Below w.heap.size w wr

theorem RepInv.stop {b : List UInt8} {cs : List (Nat × List Ent)} {k : Nat} (h : RepInv b cs k) (hs : replGo (lastR cs) (b.drop k) = ([], 0)) : replGo none b = (cs, k) := by
  rw [h.1, hs]
  simp

theorem RepInv.more {b : List UInt8} {cs : List (Nat × List Ent)} {k : Nat} {rev : Nat} {es : List Ent} (h : RepInv b cs k) (h0 : (nextL (b.drop k)).1 = 0) (hd : decL (nextL (b.drop k)).2 = some (rev, es)) (hf : follows (lastR cs) rev = true) :
    RepInv b (cs ++ [(rev, es)]) (k + nextN (b.drop k)) := by
  obtain ⟨h1, h2, h3, h4⟩ := h
  have hn := nextL_ok h0
  have hl : (b.drop k).length = b.length - k := List.length_drop
  rw [hl] at hn
  refine ⟨?_, by rw [List.length_append]; simp; omega, by omega, fun c hc => ?_⟩
  rotate_left
  · rcases List.mem_append.1 hc with hc | hc
    · exact h4 c hc
    · simp at hc
      subst hc
      exact (dec_right hd).2
  rw [h1, repl_more h0 hd hf, lastR_snoc, List.drop_drop]
  simp [Nat.add_assoc]
end Go.Proofs.YtoibhkmlebcepaaDoor
