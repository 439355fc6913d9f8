/- What the proof stands on, part 5. -/
import Derived.Test.YtoibhkmlebcepaaDoorMg4
import Derived.BigQuiet
import Derived.Deep.QuietTactic
namespace Go.Proofs.YtoibhkmlebcepaaDoor
open Go

theorem nextL_ok {b : List UInt8} (h : (nextL b).1 = 0) : 8 ≤ b.length ∧ nextN b = 8 + (nextL b).2.length ∧ nextN b ≤ b.length := by
  have hN : nextN b = 8 + (nextL b).2.length := by rw [nextN, if_pos h]
  by_cases h1 : b.length < 8 ∨ b.length - 8 < num4 b
  · have e1 : nextL b = (7, []) := if_pos h1
    rw [e1] at h
    cases h
  · by_cases h2 : sumL ((b.drop 8).take (num4 b)) = num4 (b.drop 4)
    · have e1 : nextL b = (0, (b.drop 8).take (num4 b)) := by rw [nextL, if_neg h1, if_pos h2]
      rw [hN, e1]
      refine ⟨by omega, rfl, ?_⟩
      simp only [List.length_take, List.length_drop]
      omega
    · have e1 : nextL b = (8, []) := by rw [nextL, if_neg h1, if_neg h2]
      rw [e1] at h
      cases h

/-- all frames at the head of bytes, and where they end -/
def allL (b : List UInt8) : List (List UInt8) × Nat :=
  if _h : (nextL b).1 = 0 then ((nextL b).2 :: (allL (b.drop (nextN b))).1, nextN b + (allL (b.drop (nextN b))).2) else ([], 0)
termination_by b.length
decreasing_by
  all_goals
    have := nextL_ok (by assumption)
    simp only [List.length_drop]
    omega

theorem allL_more {b : List UInt8} (h : (nextL b).1 = 0) : allL b = ((nextL b).2 :: (allL (b.drop (nextN b))).1, nextN b + (allL (b.drop (nextN b))).2) := by
  conv => lhs; rw [allL]
  rw [dif_pos h]

theorem allL_stop {b : List UInt8} (h : ¬ (nextL b).1 = 0) : allL b = ([], 0) := by
  rw [allL, dif_neg h]

/-- frames behind one another -/
def seals (ps : List (List UInt8)) : List UInt8 := ps.flatMap sealL

theorem seals_cons (p : List UInt8) (r : List (List UInt8)) : seals (p :: r) = sealL p ++ seals r := rfl

theorem seals_snoc (ps : List (List UInt8)) (p : List UInt8) : seals (ps ++ [p]) = seals ps ++ sealL p := by simp [seals]

/-- where the first m frames end -/
def endAt (ps : List (List UInt8)) (m : Nat) : Nat := (seals (ps.take m)).length

/-- A frame that is cut isn't read. -/
theorem next_cut {p : List UInt8} (h : p.length < 4294967296) {c : Nat} (hc : c < 8 + p.length) : ¬ (nextL ((sealL p).take c)).1 = 0 := by
  have hl : ((sealL p).take c).length = c := by rw [List.length_take, sealL_length]; omega
  have hs : nextL ((sealL p).take c) = (7, []) := by
    apply if_pos
    rw [hl]
    by_cases h8 : c < 8
    · exact .inl h8
    · right
      have e1 : (sealL p).take c = be4 p.length ++ ((be4 (sumL p) ++ p).take (c - 4)) := by
        have e2 : sealL p = be4 p.length ++ (be4 (sumL p) ++ p) := by simp [sealL]
        rw [e2, List.take_append, List.take_of_length_le (by simp [be4]; omega)]
        rfl
      rw [e1, num4_be4 h]
      omega
  rw [hs]
  decide

theorem all_cut {ps : List (List UInt8)} (hp : ∀ p ∈ ps, p.length < 4294967296) : ∀ (cut m : Nat), m ≤ ps.length → endAt ps m ≤ cut → (m < ps.length → cut < endAt ps (m + 1)) → cut ≤ (seals ps).length →
    allL ((seals ps).take cut) = (ps.take m, endAt ps m) := by
  induction ps with
  | nil =>
    intro cut m hm h1 h2 h3
    have e : (seals []).take cut = [] := by simp [seals]
    rw [e, allL_stop (by decide +kernel)]
    simp [endAt, seals]
  | cons p r ih =>
    intro cut m hm h1 h2 h3
    have hpl := hp p (by simp)
    have hsl := sealL_length p
    rw [seals_cons] at h3 ⊢
    cases m with
    | zero =>
      have hc : cut < 8 + p.length := by
        have := h2 (by simp)
        simp [endAt, seals, hsl] at this
        omega
      rw [List.take_append_of_le_length (by omega), allL_stop (next_cut hpl hc)]
      simp [endAt, seals]
    | succ m =>
      have e0 : ∀ j, endAt (p :: r) (j + 1) = 8 + p.length + endAt r j := by
        intro j
        unfold endAt
        rw [List.take_succ_cons, seals_cons, List.length_append, hsl]
      rw [e0] at h1
      have hc : 8 + p.length ≤ cut := by omega
      have e1 : (sealL p ++ seals r).take cut = sealL p ++ (seals r).take (cut - (8 + p.length)) := by
        rw [List.take_append, List.take_of_length_le (by omega), hsl]
      have hn := next_seal hpl ((seals r).take (cut - (8 + p.length)))
      have hN := nextN_seal hpl ((seals r).take (cut - (8 + p.length)))
      have hd : (sealL p ++ (seals r).take (cut - (8 + p.length))).drop (8 + p.length) = (seals r).take (cut - (8 + p.length)) := by
        rw [← hsl, List.drop_left]
      have hi := ih (fun q hq => hp q (by simp [hq])) (cut - (8 + p.length)) m (by simp at hm; omega) (by omega) (fun hlt => by
        have := h2 (by simp; omega)
        rw [e0] at this
        omega) (by rw [List.length_append, hsl] at h3; omega)
      rw [e1, allL_more (by rw [hn]), hn, hN, hd, hi, e0]
      simp

/-- how many of the first j frames are whole within the cut -/
def wholeN (ps : List (List UInt8)) (cut : Nat) : Nat → Nat
  | 0 => 0
  | j + 1 => if endAt ps (j + 1) ≤ cut then j + 1 else wholeN ps cut j

theorem wholeN_spec (ps : List (List UInt8)) (cut j : Nat) : wholeN ps cut j ≤ j ∧ endAt ps (wholeN ps cut j) ≤ cut ∧ ∀ i, wholeN ps cut j < i → i ≤ j → cut < endAt ps i := by
  induction j with
  | zero => exact ⟨Nat.le_refl _, by simp [wholeN, endAt, seals], fun i h1 h2 => by simp [wholeN] at h1; omega⟩
  | succ j ih =>
    rw [wholeN]
    by_cases h : endAt ps (j + 1) ≤ cut
    · rw [if_pos h]
      exact ⟨Nat.le_refl _, h, fun i h1 h2 => by omega⟩
    · rw [if_neg h]
      refine ⟨by omega, ih.2.1, fun i h1 h2 => ?_⟩
      by_cases hi : i = j + 1
      · subst hi; omega
      · exact ih.2.2 i h1 (by omega)

theorem all_whole {ps : List (List UInt8)} (hp : ∀ p ∈ ps, p.length < 4294967296) (cut : Nat) (hc : cut ≤ (seals ps).length) :
    allL ((seals ps).take cut) = (ps.take (wholeN ps cut ps.length), endAt ps (wholeN ps cut ps.length)) := by
  obtain ⟨h1, h2, h3⟩ := wholeN_spec ps cut ps.length
  exact all_cut hp cut _ h1 h2 (fun hlt => h3 _ (by omega) (by omega)) hc

theorem endAt_succ {ps : List (List UInt8)} {j : Nat} {p : List UInt8} (h : ps[j]? = some p) : endAt ps (j + 1) = endAt ps j + (8 + p.length) := by
  unfold endAt
  rw [List.take_add_one, h]
  simp only [Option.toList_some]
  rw [seals_snoc, List.length_append, sealL_length]

theorem endAt_le {ps : List (List UInt8)} (hp : ∀ p ∈ ps, p.length ≤ 300) (m : Nat) : endAt ps m ≤ 308 * m := by
  induction m with
  | zero => simp [endAt, seals]
  | succ m ih =>
    cases h : ps[m]? with
    | none =>
      have : endAt ps (m + 1) = endAt ps m := by
        unfold endAt
        rw [List.take_add_one, h]
        simp
      omega
    | some p =>
      have := hp p (List.mem_of_getElem? h)
      rw [endAt_succ h]
      omega
end Go.Proofs.YtoibhkmlebcepaaDoor

namespace Go.Proofs.YtoibhkmlebcepaaDoor
open Go Go.RowKit

def follows (p : Option Nat) (rev : Nat) : Bool := match p with | none => true | some q => decide (rev = q + 1)

/-- The commits that a log tells behind one of revision p, and the bytes of their frames. -/
def replGo (p : Option Nat) (b : List UInt8) : List (Nat × List Ent) × Nat :=
  if h : (nextL b).1 = 0 then
    match decL (nextL b).2 with
    | none => ([], 0)
    | some (rev, es) => if follows p rev = true then ((rev, es) :: (replGo (some rev) (b.drop (nextN b))).1, nextN b + (replGo (some rev) (b.drop (nextN b))).2) else ([], 0)
  else ([], 0)
termination_by b.length
decreasing_by all_goals
  have h1 := nextL_ok h
  have h2 : (b.drop (nextN b)).length = b.length - nextN b := List.length_drop
  rw [h2]
  omega

theorem repl_stop {p : Option Nat} {b : List UInt8} (h : ¬ (nextL b).1 = 0) : replGo p b = ([], 0) := by
  rw [replGo, dif_neg h]

theorem repl_bad {p : Option Nat} {b : List UInt8} (h : (nextL b).1 = 0) (hd : decL (nextL b).2 = none) : replGo p b = ([], 0) := by
  rw [replGo, dif_pos h, hd]

theorem repl_gap {p : Option Nat} {b : List UInt8} {rev : Nat} {es : List Ent} (h : (nextL b).1 = 0) (hd : decL (nextL b).2 = some (rev, es)) (hf : follows p rev = false) : replGo p b = ([], 0) := by
  rw [replGo, dif_pos h, hd]
  simp [hf]

theorem repl_more {p : Option Nat} {b : List UInt8} {rev : Nat} {es : List Ent} (h : (nextL b).1 = 0) (hd : decL (nextL b).2 = some (rev, es)) (hf : follows p rev = true) :
    replGo p b = ((rev, es) :: (replGo (some rev) (b.drop (nextN b))).1, nextN b + (replGo (some rev) (b.drop (nextN b))).2) := by
  conv => lhs; rw [replGo, dif_pos h, hd]
  simp [hf]

def lastR (cs : List (Nat × List Ent)) : Option Nat := cs.getLast?.map (·.1)

theorem lastR_snoc (cs : List (Nat × List Ent)) (c : Nat × List Ent) : lastR (cs ++ [c]) = some c.1 := by simp [lastR]
theorem lastR_nil : lastR [] = none := rfl

theorem dec_right {b : List UInt8} {rev : Nat} {es : List Ent} (h : decL b = some (rev, es)) : rightB rev es = true ∧ rev < 18446744073709551616 := by
  unfold decL at h
  split at h
  · split at h
    · unfold finL at h
      split at h
      · split at h
        · rename_i hr
          cases h
          exact ⟨by simpa using hr, getGo_lt b⟩
        · cases h
      · cases h
    · cases h
  · cases h

/-- A slice of commits, a row of the call's own; the entries of each are rows of the call's own, too. -/
def CRows (B : Nat) (w : World) (v : Value) (cs : List (Nat × List Ent)) : Prop :=
  ∃ svs : List Value, svs.length = cs.length ∧ w.ownsRow B 25 2 v cs.length ((cs.zip svs).flatMap fun x => [.int .u64 (x.1.1 : Int), x.2]) ∧
    ∀ (i : Nat) (c : Nat × List Ent) (sv : Value), cs[i]? = some c → svs[i]? = some sv → ∃ a cap, sv = .slice a c.2.length cap ∧ w.ownsRow B 48 3 sv c.2.length (ecells c.2)

theorem CRows.nil (B : Nat) (w : World) : CRows B w (.slice none 0 0) [] := ⟨[], rfl, owns_nil _ _ _ _, fun i c sv h => by simp at h⟩

theorem CRows.below {B : Nat} {w w' : World} {v : Value} {cs : List (Nat × List Ent)} (h : CRows B w v cs) (hb : Below w.heap.size w w') : CRows B w' v cs := by
  obtain ⟨svs, h1, h2, h3⟩ := h
  refine ⟨svs, h1, owns_below h2 hb, fun i c sv hi hs => ?_⟩
  obtain ⟨a, cap, he, ho⟩ := h3 i c sv hi hs
  exact ⟨a, cap, he, owns_below ho hb⟩

theorem owns_apart {w : World} {B n m s t : Nat} {e f : TypeId} {v u : Value} {xs ys : List Value} (h : w.ownsRow B e s v n xs) (k : w.ownsRow B f t u m ys) (hef : f ≠ e) : u.ownBlock = none ∨ u.ownBlock ≠ v.ownBlock := by
  rcases k.2 with ⟨rfl, _⟩ | ⟨g, cap, cur, rfl, _, hg, _⟩
  · left; rfl
  · right
    intro hh
    exact owns_other h hg hef hh.symm

/-- One commit more. -/
theorem CRows.push {B : Nat} {w w' : World} {v v' sv : Value} {cs : List (Nat × List Ent)} {rev : Nat} {es : List Ent} {a : Option Addr} {cap : Nat} {svs : List Value} (h1 : svs.length = cs.length)
    (h2 : w.ownsRow B 25 2 v cs.length ((cs.zip svs).flatMap fun x => [.int .u64 (x.1.1 : Int), x.2]))
    (h3 : ∀ (i : Nat) (c : Nat × List Ent) (sv : Value), cs[i]? = some c → svs[i]? = some sv → ∃ a cap, sv = .slice a c.2.length cap ∧ w.ownsRow B 48 3 sv c.2.length (ecells c.2))
    (hsv : sv = .slice a es.length cap) (hes : w.ownsRow B 48 3 sv es.length (ecells es)) (hg : w.grownBy w' v.ownBlock)
    (hown : w'.ownsRow B 25 2 v' (cs.length + 1) (((cs.zip svs).flatMap fun x => [.int .u64 (x.1.1 : Int), x.2]) ++ [.int .u64 (rev : Int), sv])) : CRows B w' v' (cs ++ [(rev, es)]) := by
  have hz : (cs ++ [(rev, es)]).zip (svs ++ [sv]) = cs.zip svs ++ [((rev, es), sv)] := by
    rw [List.zip_append h1.symm]
    rfl
  refine ⟨svs ++ [sv], by simp [h1], ?_, fun i c sv' hi hs => ?_⟩
  · rw [hz, List.flatMap_append]
    simpa using hown
  · by_cases hlt : i < cs.length
    · rw [List.getElem?_append_left hlt] at hi
      rw [List.getElem?_append_left (by omega)] at hs
      obtain ⟨a', cap', he, ho⟩ := h3 i c sv' hi hs
      exact ⟨a', cap', he, ho.kept hg (owns_apart h2 ho (by decide))⟩
    · have hi' : i = cs.length := by
        have := (List.getElem?_eq_some_iff.1 hi).1
        simp at this
        omega
      subst hi'
      simp at hi
      rw [List.getElem?_append_right (by omega)] at hs
      simp [h1] at hs
      subst hi
      subst hs
      exact ⟨a, cap, hsv, hes.kept hg (owns_apart h2 hes (by decide))⟩

theorem Sl.of_owns {w : World} {B : Nat} {v : Value} {l : List UInt8} (h : w.ownsRow B 5 1 v l.length (bcells l)) : Sl w.heap.size w v l := by
  have hr := ownsRow.reads h
  rcases h.2 with ⟨rfl, h0⟩ | ⟨g, cap, cur, rfl, _, hg, _⟩
  · left
    exact ⟨⟨_, rfl⟩, List.eq_nil_of_length_eq_zero h0⟩
  · right
    exact ⟨g, 0, cap, rfl, fun _ => (Array.getElem?_eq_some_iff.1 hg).1, fun _ => (Array.getElem?_eq_some_iff.1 hg).1, hr⟩

def RepPost (w : World) (b : List UInt8) (e : Ending) (w' : World) : Prop :=
  ∃ v, e = .returned (.tuple #[v, .int .i64 ((replGo none b).2 : Int)]) ∧ CRows w.heap.size w' v (replGo none b).1 ∧ Below w.heap.size w w'

def RepInv (b : List UInt8) (cs : List (Nat × List Ent)) (k : Nat) : Prop :=
  replGo none b = (cs ++ (replGo (lastR cs) (b.drop k)).1, k + (replGo (lastR cs) (b.drop k)).2) ∧ cs.length ≤ k ∧ k ≤ b.length ∧ ∀ c ∈ cs, c.1 < 18446744073709551616

def RepRel (w : World) (b : List UInt8) (lv av : Value) (wr : World) : Prop :=
  ∃ (cs : List (Nat × List Ent)) (k : Nat), av = .int .i64 (k : Int) ∧ RepInv b cs k ∧ CRows w.heap.size wr lv cs ∧ Below w.heap.size w wr

theorem RepInv.stop {b : List UInt8} {cs : List (Nat × List Ent)} {k : Nat} (h : RepInv b cs k) (hs : replGo (lastR cs) (b.drop k) = ([], 0)) : replGo none b = (cs, k) := by
  rw [h.1, hs]
  simp

theorem RepInv.more {b : List UInt8} {cs : List (Nat × List Ent)} {k : Nat} {rev : Nat} {es : List Ent} (h : RepInv b cs k) (h0 : (nextL (b.drop k)).1 = 0) (hd : decL (nextL (b.drop k)).2 = some (rev, es)) (hf : follows (lastR cs) rev = true) :
    RepInv b (cs ++ [(rev, es)]) (k + nextN (b.drop k)) := by
  obtain ⟨h1, h2, h3, h4⟩ := h
  have hn := nextL_ok h0
  have hl : (b.drop k).length = b.length - k := List.length_drop
  rw [hl] at hn
  refine ⟨?_, by rw [List.length_append]; simp; omega, by omega, fun c hc => ?_⟩
  rotate_left
  · rcases List.mem_append.1 hc with hc | hc
    · exact h4 c hc
    · simp at hc
      subst hc
      exact (dec_right hd).2
  rw [h1, repl_more h0 hd hf, lastR_snoc, List.drop_drop]
  simp [Nat.add_assoc]
end Go.Proofs.YtoibhkmlebcepaaDoor

namespace Go.Proofs.YtoibhkmlebcepaaDoor
open Go Go.RowKit

set_option maxRecDepth 100000 in
set_option maxHeartbeats 1000000 in
theorem refright_any (w : World) (rev : Nat) (a : Option Addr) (n cap : Nat) (l : List Ent) (h : Reads w 3 (.slice a n cap) n (ecells l)) (hl : l.length = n) (hcap : n ≤ cap ∧ cap ≤ maxLen) (hks : ∀ x ∈ l, x.key.size ≤ maxLen) :
    Calls Tryd.prog 10 #[.agg #[.int .u64 (rev : Int), .slice a n cap]] w (GivesVal w (.bool (rightB rev l))) := by
  have HL := Lib.hid hl
  have HR := Lib.hid h
  have HK := Lib.hid hks
  unfold maxLen at hcap
  clear h hl hks
  have hg0 := heap_alloc_new w (.cells #[.int .u64 (rev : Int), .slice a n cap] 25)
  have hb0 : Below w.heap.size w (w.alloc (.cells #[.int .u64 (rev : Int), .slice a n cap] 25)) := (Below.refl _ w).alloc (Nat.le_refl _) _
  have HG0 := Lib.hid hg0
  have HB0 := Lib.hid hb0
  clear hg0 hb0
  go_enter Tryd.func10, Tryd.ntmps10
  by_cases h1 : 1 ≤ n
  · by_cases h2 : n ≤ 256
    · by_cases h3 : 1 ≤ rev
      · have h1I : ¬ (n : Int) < 1 := by omega
        have h2I : ¬ (256 : Int) < n := by omega
        have h3I : ¬ (rev : Int) < 1 := by omega
        have hsz : sizeOk rev n = true := by unfold sizeOk; rw [decide_eq_true h1, decide_eq_true h2, decide_eq_true h3]; rfl
        have HSz := Lib.hid hsz
        clear hsz h1 h2 h3
        go_wp2
        go_loopw [23] (fun i wr => MayRel w rev (.slice a n cap) l n i wr) (fun i _ => n - (intOf i).toNat)
        case atStart => exact ⟨0, rfl, Nat.zero_le _, rfl, HB0.out, HG0.out⟩
        case round =>
          obtain ⟨k, rfl, hk, hall, hb, hg⟩ := hrel
          have hbs := hb.size
          have q0 := Lib.cell_of_heap hg 0
          have q1 := Lib.cell_of_heap hg 1
          simp at q0 q1
          have hlt0 : w.heap.size < wr.heap.size := (Array.getElem?_eq_some_iff.1 hg).1
          have HB := Lib.hid hb
          have HG := Lib.hid hg
          have HA := Lib.hid hall
          clear hb hg hall HG0 HB0
          by_cases hlt : k < n
          · obtain ⟨x, hx⟩ : ∃ x, l[k]? = some x := ⟨l[k]'(by rw [HL.out]; exact hlt), List.getElem?_eq_getElem _⟩
            obtain ⟨g, off, rfl, hgl, c0, c1, c2⟩ := ent_cells (HR.out.below' HB.out) hx
            have hsz := HK.out x (List.mem_of_getElem? hx)
            unfold maxLen at hsz
            have hbad := fun h => all_bad (rev := rev) hx h
            have hgood := fun h => all_good hx h HA.out
            have hkI : (k : Int) < n := by omega
            have hne := u64_ne x.rev rev
            unfold entOk at hbad hgood
            obtain ⟨key, r, d⟩ := x
            dsimp only at c0 c1 c2 hsz hbad hgood hne
            have HBa := Lib.hid hbad
            have HGo := Lib.hid hgood
            clear hbad hgood hx
            by_cases hr : r = rev
            · rw [decide_eq_true hr] at hne
              by_cases hz : key.size ≤ 65536
              · have hzI : ¬ (65536 : Int) < key.size := by omega
                have HGG := Lib.hid (HGo.out (by rw [decide_eq_true hr, decide_eq_true hz]; rfl))
                subst hr
                clear hne
                go_wp2
                refine ⟨⟨k + 1, by go_num, by omega, HGG.out, HB.out.alloc hbs _, (heap_alloc_old _ _ hlt0).trans HG.out⟩, by simp [intOf]; omega⟩
              · have hzI : (65536 : Int) < key.size := by omega
                have HBB := Lib.hid (HBa.out (by rw [decide_eq_false hz]; simp))
                subst hr
                clear hne
                go_wp2
                go_ret
                rw [HBB.out]
                exact ⟨rfl, HB.out.alloc hbs _⟩
            · rw [decide_eq_false hr] at hne
              have HBB := Lib.hid (HBa.out (by rw [decide_eq_false hr]; simp))
              have hne2 : ((r : Int) != (rev : Int)) = true := by rw [hne]; rfl
              clear hne hr
              go_wp2
              go_ret
              rw [HBB.out]
              exact ⟨rfl, HB.out.alloc hbs _⟩
          · obtain rfl : k = n := by omega
            have hkI : ¬ ((k : Int) < k) := by omega
            have htk : l.take k = l := by rw [← HL.out]; exact List.take_length
            have hA := HA.out
            rw [htk] at hA
            have hrb : rightB rev l = true := by unfold rightB; rw [hA, HL.out, HSz.out]; rfl
            have HRb := Lib.hid hrb
            clear htk hA hrb
            go_wp2
            go_ret
            rw [HRb.out]
            exact ⟨rfl, HB.out⟩
      · have h1I : ¬ (n : Int) < 1 := by omega
        have h2I : ¬ (256 : Int) < n := by omega
        have h3I : (rev : Int) < 1 := by omega
        have hsz : rightB rev l = false := by unfold rightB sizeOk; rw [HL.out, decide_eq_false h3]; simp
        have HSz := Lib.hid hsz
        clear hsz
        go_wp2
        go_ret
        rw [HSz.out]
        exact ⟨rfl, HB0.out⟩
    · have h1I : ¬ (n : Int) < 1 := by omega
      have h2I : (256 : Int) < n := by omega
      have hsz : rightB rev l = false := by unfold rightB sizeOk; rw [HL.out, decide_eq_false h2]; simp
      have HSz := Lib.hid hsz
      clear hsz
      go_wp2
      go_ret
      rw [HSz.out]
      exact ⟨rfl, HB0.out⟩
  · have h1I : (n : Int) < 1 := by omega
    have hsz : rightB rev l = false := by unfold rightB sizeOk; rw [HL.out, decide_eq_false h1]; simp
    have HSz := Lib.hid hsz
    clear hsz
    go_wp2
    go_ret
    rw [HSz.out]
    exact ⟨rfl, HB0.out⟩
end Go.Proofs.YtoibhkmlebcepaaDoor

namespace Go.Proofs.YtoibhkmlebcepaaDoor
open Go Go.RowKit

def lowB (x : Ent) : Bool := decide (x.key.size ≤ 200)
def fewB (l : List Ent) : Bool := l.all lowB && decide (l.length ≤ 400)

def CFewRel (w : World) (rev : Nat) (sv : Value) (l : List Ent) (n : Nat) (i : Value) (wr : World) : Prop :=
  ∃ k : Nat, i = .int .i64 (k : Int) ∧ k ≤ n ∧ (l.take k).all lowB = true ∧ Below w.heap.size w wr ∧ wr.heap[w.heap.size]? = some (.cells #[.int .u64 (rev : Int), sv] 25 (0, 0))

theorem few_good {l : List Ent} {k : Nat} {x : Ent} (h : l[k]? = some x) (hx : lowB x = true) (ha : (l.take k).all lowB = true) : (l.take (k + 1)).all lowB = true := by
  rw [List.take_add_one, List.all_append, ha, h]
  simp [hx]

theorem few_bad {l : List Ent} {k : Nat} {x : Ent} (h : l[k]? = some x) (hx : lowB x = false) : fewB l = false := by
  unfold fewB
  have : l.all lowB = false := by
    rw [List.all_eq_false]
    exact ⟨x, List.mem_of_getElem? h, by rw [hx]; decide⟩
  rw [this]
  rfl

set_option maxRecDepth 100000 in
set_option maxHeartbeats 1000000 in
theorem cfew_any (w : World) (rev : Nat) (a : Option Addr) (n cap : Nat) (l : List Ent) (h : Reads w 3 (.slice a n cap) n (ecells l)) (hl : l.length = n) (hcap : n ≤ cap ∧ cap ≤ maxLen) (hks : ∀ x ∈ l, x.key.size ≤ maxLen) :
    Calls Tryd.prog 8 #[.agg #[.int .u64 (rev : Int), .slice a n cap]] w (GivesVal w (.bool (fewB l))) := by
  have HL := Lib.hid hl
  have HR := Lib.hid h
  have HK := Lib.hid hks
  unfold maxLen at hcap
  clear h hl hks
  have hg0 := heap_alloc_new w (.cells #[.int .u64 (rev : Int), .slice a n cap] 25)
  have hb0 : Below w.heap.size w (w.alloc (.cells #[.int .u64 (rev : Int), .slice a n cap] 25)) := (Below.refl _ w).alloc (Nat.le_refl _) _
  have HG0 := Lib.hid hg0
  have HB0 := Lib.hid hb0
  clear hg0 hb0
  go_enter Tryd.func8, Tryd.ntmps8
  go_wp2
  go_loopw [8] (fun i wr => CFewRel w rev (.slice a n cap) l n i wr) (fun i _ => n - (intOf i).toNat)
  case atStart => exact ⟨0, rfl, Nat.zero_le _, rfl, HB0.out, HG0.out⟩
  case round =>
    obtain ⟨k, rfl, hk, hall, hb, hg⟩ := hrel
    have hbs := hb.size
    have q0 := Lib.cell_of_heap hg 0
    have q1 := Lib.cell_of_heap hg 1
    simp at q0 q1
    have hlt0 : w.heap.size < wr.heap.size := (Array.getElem?_eq_some_iff.1 hg).1
    have HB := Lib.hid hb
    have HG := Lib.hid hg
    have HA := Lib.hid hall
    clear hb hg hall HG0 HB0
    by_cases hlt : k < n
    · obtain ⟨x, hx⟩ : ∃ x, l[k]? = some x := ⟨l[k]'(by rw [HL.out]; exact hlt), List.getElem?_eq_getElem _⟩
      obtain ⟨g, off, rfl, hgl, c0, c1, c2⟩ := ent_cells (HR.out.below' HB.out) hx
      have hsz := HK.out x (List.mem_of_getElem? hx)
      unfold maxLen at hsz
      have hbad := fun h => few_bad hx h
      have hgood := fun h => few_good hx h HA.out
      have hkI : (k : Int) < n := by omega
      unfold lowB at hbad hgood
      obtain ⟨key, r, d⟩ := x
      dsimp only at c0 c1 c2 hsz hbad hgood
      have HBa := Lib.hid hbad
      have HGo := Lib.hid hgood
      clear hbad hgood hx
      by_cases hz : key.size ≤ 200
      · have hzI : ¬ (200 : Int) < key.size := by omega
        have HGG := Lib.hid (HGo.out (by rw [decide_eq_true hz]))
        go_wp2
        exact ⟨⟨k + 1, by go_num, by omega, HGG.out, HB.out.alloc hbs _, (heap_alloc_old _ _ hlt0).trans HG.out⟩, by simp [intOf]; omega⟩
      · have hzI : (200 : Int) < key.size := by omega
        have HBB := Lib.hid (HBa.out (by rw [decide_eq_false hz]))
        go_wp2
        go_ret
        rw [HBB.out]
        exact ⟨rfl, HB.out.alloc hbs _⟩
    · obtain rfl : k = n := by omega
      have hkI : ¬ ((k : Int) < k) := by omega
      have htk : l.take k = l := by rw [← HL.out]; exact List.take_length
      have hA := HA.out
      rw [htk] at hA
      have hf : fewB l = decide (k ≤ 400) := by unfold fewB; rw [hA, HL.out]; rfl
      have HF := Lib.hid hf
      clear htk hA hf
      by_cases h4 : k ≤ 400
      · have h4I : (k : Int) ≤ 400 := by omega
        have HF4 := Lib.hid (HF.out.trans (decide_eq_true h4))
        go_wp2
        go_ret
        rw [HF4.out]
        exact ⟨rfl, HB.out⟩
      · have h4I : ¬ (k : Int) ≤ 400 := by omega
        have HF4 := Lib.hid (HF.out.trans (decide_eq_false h4))
        go_wp2
        go_ret
        rw [HF4.out]
        exact ⟨rfl, HB.out⟩
end Go.Proofs.YtoibhkmlebcepaaDoor

namespace Go.Proofs.YtoibhkmlebcepaaDoor
open Go Go.RowKit

/-- Entries, of a revision. -/
def withRev (rev : Nat) (l : List Ent) : List Ent := l.map fun x => ⟨x.key, rev, x.del⟩

theorem withRev_length (rev : Nat) (l : List Ent) : (withRev rev l).length = l.length := List.length_map ..

/-- Commits whose revisions follow one another, of rows that aren't empty. -/
def commF : Nat → List (List Ent) → List (Nat × List Ent)
  | _, [] => []
  | n, l :: r => (n, withRev n l) :: commF (n + 1) r

theorem commF_length (n : Nat) (ls : List (List Ent)) : (commF n ls).length = ls.length := by
  induction ls generalizing n with
  | nil => rfl
  | cons l r ih => simp [commF, ih]

theorem commF_snoc (n : Nat) (ls : List (List Ent)) (l : List Ent) : commF n (ls ++ [l]) = commF n ls ++ [(n + ls.length, withRev (n + ls.length) l)] := by
  induction ls generalizing n with
  | nil => simp [commF]
  | cons x r ih =>
    rw [List.cons_append, commF, commF, ih, List.cons_append]
    simp only [List.length_cons, show n + 1 + r.length = n + (r.length + 1) by omega]

theorem commF_take (n k : Nat) (ls : List (List Ent)) : (commF n ls).take k = commF n (ls.take k) := by
  induction ls generalizing n k with
  | nil => simp [commF]
  | cons l r ih =>
    cases k with
    | zero => simp [commF]
    | succ k => simp [commF, ih]

theorem commF_at (n k : Nat) (ls : List (List Ent)) {c : Nat × List Ent} (h : (commF n ls)[k]? = some c) : ∃ l, ls[k]? = some l ∧ c = (n + k, withRev (n + k) l) := by
  induction ls generalizing n k with
  | nil => simp [commF] at h
  | cons l r ih =>
    cases k with
    | zero =>
      simp [commF] at h
      exact ⟨l, rfl, h.symm⟩
    | succ k =>
      simp [commF] at h
      obtain ⟨l', h1, h2⟩ := ih (n + 1) k h
      exact ⟨l', by simpa using h1, by rw [h2, show n + 1 + k = n + (k + 1) by omega]⟩

def full (ls : List (List Ent)) : List (List Ent) := ls.filter fun l => decide (l.length ≠ 0)

def commL (first : Nat) (ls : List (List Ent)) : List (Nat × List Ent) := commF first (full ls)

theorem full_step {ls : List (List Ent)} {k : Nat} {x : List Ent} (h : ls[k]? = some x) : full (ls.take (k + 1)) = full (ls.take k) ++ if x.length = 0 then [] else [x] := by
  unfold full
  rw [List.take_add_one, h, List.filter_append]
  congr 1
  by_cases h0 : x.length = 0
  · obtain rfl : x = [] := List.eq_nil_of_length_eq_zero h0
    rfl
  · rw [if_neg h0, Option.toList_some, List.filter_cons, if_pos (by simpa using h0)]
    rfl

theorem commL_skip {first : Nat} {ls : List (List Ent)} {k : Nat} {x : List Ent} (h : ls[k]? = some x) (h0 : x.length = 0) : commL first (ls.take (k + 1)) = commL first (ls.take k) := by
  unfold commL
  rw [full_step h, if_pos h0, List.append_nil]

theorem commL_length (first : Nat) (ls : List (List Ent)) : (commL first ls).length = (full ls).length := commF_length _ _

theorem commL_more {first : Nat} {ls : List (List Ent)} {k : Nat} {x : List Ent} (h : ls[k]? = some x) (h0 : ¬ x.length = 0) :
    commL first (ls.take (k + 1)) = commL first (ls.take k) ++ [(first + (commL first (ls.take k)).length, withRev (first + (commL first (ls.take k)).length) x)] := by
  rw [commL_length]
  unfold commL
  rw [full_step h, if_neg h0, commF_snoc]

theorem commL_le (first : Nat) (ls : List (List Ent)) : (commL first ls).length ≤ ls.length := by
  rw [commL_length]
  exact List.length_filter_le _ _

theorem commL_at {first : Nat} {ls : List (List Ent)} {k : Nat} {c : Nat × List Ent} (h : (commL first ls)[k]? = some c) : ∃ l, l ∈ ls ∧ l.length ≠ 0 ∧ c = (first + k, withRev (first + k) l) := by
  obtain ⟨l, h1, h2⟩ := commF_at _ _ _ h
  have h3 := List.mem_of_getElem? h1
  unfold full at h3
  rw [List.mem_filter] at h3
  exact ⟨l, h3.1, by simpa using h3.2, h2⟩

/-- Revisions that follow one another. -/
def chain : Option Nat → List (Nat × List Ent) → Prop
  | _, [] => True
  | p, c :: r => follows p c.1 = true ∧ chain (some c.1) r

theorem follows_succ (n : Nat) : follows (some n) (n + 1) = true := by simp [follows]

theorem commF_chain (p : Option Nat) (n : Nat) (ls : List (List Ent)) (h : follows p n = true) : chain p (commF n ls) := by
  induction ls generalizing p n with
  | nil => trivial
  | cons l r ih => exact ⟨h, ih (some n) (n + 1) (follows_succ n)⟩

def okC (c : Nat × List Ent) : Prop := rightB c.1 c.2 = true ∧ c.1 < 18446744073709551616

def recs (cs : List (Nat × List Ent)) : List (List UInt8) := cs.map fun c => recL c.1 c.2

theorem recs_length (cs : List (Nat × List Ent)) : (recs cs).length = cs.length := List.length_map ..

theorem rec_short {c : Nat × List Ent} (h : okC c) : (recL c.1 c.2).length < 4294967296 := by
  obtain ⟨h1, h2⟩ := h
  obtain ⟨k1, _, _, _, k3⟩ := right_keys h1
  have := recTo_le (n := c.2.length) h2 k3 k3 k1
  unfold recL
  omega

theorem replc_one {p : Option Nat} {c : Nat × List Ent} (h : okC c) (hf : follows p c.1 = true) (r : List UInt8) :
    replGo p (sealL (recL c.1 c.2) ++ r) = (c :: (replGo (some c.1) r).1, 8 + (recL c.1 c.2).length + (replGo (some c.1) r).2) := by
  have hs := rec_short h
  have hn := next_seal hs r
  have hN := nextN_seal hs r
  have hd : (sealL (recL c.1 c.2) ++ r).drop (8 + (recL c.1 c.2).length) = r := by
    rw [← sealL_length, List.drop_left]
  rw [repl_more (by rw [hn]) (by rw [hn]; exact dec_rec h.1 h.2) hf, hN, hd]

theorem repl_cut (cs : List (Nat × List Ent)) : ∀ p, chain p cs → (∀ c ∈ cs, okC c) → ∀ (cut m : Nat), m ≤ cs.length → endAt (recs cs) m ≤ cut → (m < cs.length → cut < endAt (recs cs) (m + 1)) → cut ≤ (seals (recs cs)).length →
    replGo p ((seals (recs cs)).take cut) = (cs.take m, endAt (recs cs) m) := by
  induction cs with
  | nil =>
    intro p _ _ cut m hm h1 h2 h3
    have e : (seals (recs [])).take cut = [] := by simp [recs, seals]
    rw [e, repl_stop (by decide +kernel)]
    simp [endAt, seals, recs]
  | cons c r ih =>
    intro p hch hok cut m hm h1 h2 h3
    have hc0 := hok c (by simp)
    have hsl := sealL_length (recL c.1 c.2)
    have er : recs (c :: r) = recL c.1 c.2 :: recs r := rfl
    rw [er] at h1 h2 h3 ⊢
    rw [seals_cons] at h3 ⊢
    cases m with
    | zero =>
      have hc : cut < 8 + (recL c.1 c.2).length := by
        have := h2 (by simp)
        simp [endAt, seals, hsl] at this
        omega
      rw [List.take_append_of_le_length (by omega), repl_stop (next_cut (rec_short hc0) hc)]
      simp [endAt, seals]
    | succ m =>
      have e0 : ∀ j, endAt (recL c.1 c.2 :: recs r) (j + 1) = 8 + (recL c.1 c.2).length + endAt (recs r) j := by
        intro j
        unfold endAt
        rw [List.take_succ_cons, seals_cons, List.length_append, hsl]
      rw [e0] at h1
      have hc : 8 + (recL c.1 c.2).length ≤ cut := by omega
      have e1 : (sealL (recL c.1 c.2) ++ seals (recs r)).take cut = sealL (recL c.1 c.2) ++ (seals (recs r)).take (cut - (8 + (recL c.1 c.2).length)) := by
        rw [List.take_append, List.take_of_length_le (by omega), hsl]
      have hi := ih (some c.1) hch.2 (fun q hq => hok q (by simp [hq])) (cut - (8 + (recL c.1 c.2).length)) m (by simp at hm; omega) (by omega) (fun hlt => by
        have := h2 (by simp; omega)
        rw [e0] at this
        omega) (by rw [List.length_append, hsl] at h3; omega)
      rw [e1, replc_one hc0 hch.1, hi, e0]
      simp

theorem repl_whole (cs : List (Nat × List Ent)) (p : Option Nat) (hch : chain p cs) (hok : ∀ c ∈ cs, okC c) (cut : Nat) (hc : cut ≤ (seals (recs cs)).length) :
    replGo p ((seals (recs cs)).take cut) = (cs.take (wholeN (recs cs) cut cs.length), endAt (recs cs) (wholeN (recs cs) cut cs.length)) := by
  obtain ⟨h1, h2, h3⟩ := wholeN_spec (recs cs) cut cs.length
  exact repl_cut cs p hch hok cut _ h1 h2 (fun hlt => h3 _ (by omega) (by omega)) hc

def lastOr (p : Option Nat) : List (Nat × List Ent) → Option Nat
  | [] => p
  | c :: r => lastOr (some c.1) r

theorem repl_gaps (cs : List (Nat × List Ent)) (c : Nat × List Ent) (r : List UInt8) (hc : okC c) : ∀ p, chain p cs → (∀ x ∈ cs, okC x) → follows (lastOr p cs) c.1 = false →
    replGo p (seals (recs cs) ++ (sealL (recL c.1 c.2) ++ r)) = (cs, endAt (recs cs) cs.length) := by
  induction cs with
  | nil =>
    intro p _ _ hf
    have hf : follows p c.1 = false := hf
    have hn := next_seal (rec_short hc) r
    have e : seals (recs []) ++ (sealL (recL c.1 c.2) ++ r) = sealL (recL c.1 c.2) ++ r := rfl
    rw [e, repl_gap (rev := c.1) (es := c.2) (by rw [hn]) (by rw [hn]; exact dec_rec hc.1 hc.2) hf]
    rfl
  | cons x l ih =>
    intro p hch hok hf
    have hx := hok x (by simp)
    have er : recs (x :: l) = recL x.1 x.2 :: recs l := rfl
    have hi := ih (some x.1) hch.2 (fun q hq => hok q (by simp [hq])) hf
    have e0 : endAt (recs (x :: l)) (x :: l).length = 8 + (recL x.1 x.2).length + endAt (recs l) l.length := by
      unfold endAt
      rw [er, List.length_cons, List.take_succ_cons, seals_cons, List.length_append, sealL_length]
    rw [e0, er, seals_cons, List.append_assoc, replc_one hx hch.1, hi]

theorem lastOr_commF (p : Option Nat) (n : Nat) (ls : List (List Ent)) (h : 0 < ls.length) : lastOr p (commF n ls) = some (n + (ls.length - 1)) := by
  induction ls generalizing p n with
  | nil => simp at h
  | cons l r ih =>
    rw [commF, lastOr]
    cases r with
    | nil => rfl
    | cons y r =>
      rw [ih _ _ (by simp)]
      simp only [List.length_cons]
      congr 1
      omega

theorem right_with {rev : Nat} {l : List Ent} (h1 : 1 ≤ rev) (h2 : l.length ≠ 0) (h3 : l.length ≤ 60) (h4 : fewB (withRev rev l) = true) : rightB rev (withRev rev l) = true := by
  unfold fewB lowB at h4
  simp only [Bool.and_eq_true, List.all_eq_true, decide_eq_true_eq] at h4
  unfold rightB sizeOk entOk
  simp only [Bool.and_eq_true, List.all_eq_true, decide_eq_true_eq, withRev_length]
  refine ⟨fun x hx => ⟨?_, by have := h4.1 x hx; omega⟩, h1, by omega, by omega⟩
  obtain ⟨y, _, rfl⟩ := List.mem_map.1 hx
  rfl

theorem few_with (r1 r2 : Nat) (l : List Ent) : fewB (withRev r1 l) = fewB (withRev r2 l) := by
  unfold fewB withRev lowB
  rw [List.length_map, List.length_map, List.all_map, List.all_map]
  rfl

/-- What is known of commits whose revisions follow one another from first on. -/
structure CommOk (first : Nat) (cs : List (Nat × List Ent)) : Prop where
  len : cs.length ≤ 20
  ch : chain none cs
  rev : ∀ (i : Nat) (c : Nat × List Ent), cs[i]? = some c → c.1 = first + i
  one : ∀ (i : Nat) (c : Nat × List Ent), cs[i]? = some c → c.1 < 18446744073709551616 ∧ c.2.length ≠ 0 ∧ (∀ x ∈ c.2, x.key.size ≤ maxLen) ∧ (c.2.length ≤ 60 → fewB c.2 = true → rightB c.1 c.2 = true)
  last : ∀ (k : Nat), 0 < k → k ≤ cs.length → lastOr none (cs.take k) = some (first + (k - 1))

theorem comm_ok {first : Nat} {ls : List (List Ent)} (h1 : 1 ≤ first) (h2 : first ≤ 1152921504606846976) (hn : ls.length ≤ 20) (hk : ∀ l ∈ ls, ∀ x ∈ l, x.key.size ≤ maxLen) : CommOk first (commL first ls) := by
  have hl : (commL first ls).length ≤ 20 := Nat.le_trans (commL_le _ _) hn
  refine ⟨hl, commF_chain _ _ _ rfl, fun i c hc => ?_, fun i c hc => ?_, fun k h0 hk => ?_⟩
  · obtain ⟨l, _, _, rfl⟩ := commL_at hc
    rfl
  · have hi := (List.getElem?_eq_some_iff.1 hc).1
    obtain ⟨l, hm, h0, rfl⟩ := commL_at hc
    refine ⟨by show first + i < _; omega, by show (withRev _ l).length ≠ 0; rw [withRev_length]; exact h0, fun x hx => ?_, fun h3 h4 => ?_⟩
    · obtain ⟨y, hy, rfl⟩ := List.mem_map.1 hx
      exact hk l hm y hy
    · exact right_with (by omega) h0 (by rw [← withRev_length (first + i)]; exact h3) h4
  · rw [commL_length] at hk
    unfold commL
    rw [commF_take, lastOr_commF _ _ _ (by rw [List.length_take]; omega), List.length_take, Nat.min_eq_left hk]
end Go.Proofs.YtoibhkmlebcepaaDoor

namespace Go.Proofs.YtoibhkmlebcepaaDoor
open Go Go.RowKit

theorem info25 : (Tryd.prog.info? 25).map (fun i => (i.zero, i.size, i.bytes)) = some (some (.agg #[.int .u64 0, .slice none 0 0]), 2, 32) := by kernel_rfl

theorem next_nil : (nextL []).1 = 7 := by decide +kernel
theorem nextN_nil : nextN [] = 0 := by decide +kernel

theorem dec_case {w : World} {o : Option (Nat × List Ent)} {e : Ending} {w' : World} (h : DecPost w o e w') : (o = none ∧ GivesVal w (.tuple #[.agg #[.int .u64 0, .slice none 0 0], .int .i64 9]) e w') ∨ ∃ rev es, o = some (rev, es) ∧ DecYes w rev es e w' := by
  cases o with
  | none => exact .inl ⟨rfl, h⟩
  | some p => exact .inr ⟨p.1, p.2, rfl, h⟩

theorem follows_cases (cs : List (Nat × List Ent)) (rev : Nat) : (cs = [] ∧ follows (lastR cs) rev = true) ∨ ∃ c, cs.getLast? = some c ∧ cs[cs.length - 1]? = some c ∧ 0 < cs.length ∧ follows (lastR cs) rev = decide (rev = c.1 + 1) := by
  by_cases h : cs = []
  · left
    subst h
    exact ⟨rfl, rfl⟩
  · right
    have hpos : 0 < cs.length := List.length_pos_iff.2 h
    have hl : cs[cs.length - 1]? = some cs[cs.length - 1] := List.getElem?_eq_getElem (by omega)
    have hg : cs.getLast? = some cs[cs.length - 1] := by rw [List.getLast?_eq_getElem?, hl]
    refine ⟨_, hg, hl, hpos, ?_⟩
    unfold lastR
    rw [hg]
    rfl

/-- The revision of the k-th commit. -/
theorem CRows.rev {B : Nat} {w : World} {v : Value} {cs : List (Nat × List Ent)} (h : CRows B w v cs) {k : Nat} {c : Nat × List Ent} (hc : cs[k]? = some c) : ∃ g cap sv, v = .slice (some ⟨g, 0, none⟩) cs.length cap ∧ cs.length ≤ cap ∧ cap ≤ maxLen ∧ g < w.heap.size ∧ w.cell? ⟨g, k * 2, none⟩ = some (.int .u64 (c.1 : Int)) ∧ w.cell? ⟨g, k * 2 + 1, none⟩ = some sv ∧ ∃ a' cap', sv = .slice a' c.2.length cap' ∧ w.ownsRow B 48 3 sv c.2.length (ecells c.2) := by
  obtain ⟨svs, h1, h2, h3⟩ := h
  have hlt : k < cs.length := (List.getElem?_eq_some_iff.1 hc).1
  have hs : svs[k]? = some (svs[k]'(by omega)) := List.getElem?_eq_getElem _
  have hz : (cs.zip svs)[k]? = some (c, svs[k]'(by omega)) := by rw [List.getElem?_zip_eq_some]; exact ⟨hc, hs⟩
  have hcell := fun j hj => flat_cell (fun x : (Nat × List Ent) × Value => [Value.int .u64 (x.1.1 : Int), x.2]) 2 (fun _ => rfl) (cs.zip svs) k _ hz j hj
  rcases h2.2 with ⟨_, h0⟩ | ⟨g, cap, cur, rfl, hB, hg, hcap1, hcap2, hsz, htk⟩
  · omega
  · have hr := fun j u (hj : ((cs.zip svs).flatMap fun x => [Value.int .u64 (x.1.1 : Int), x.2])[j]? = some u) => h2.cells (g := g) rfl j u hj
    obtain ⟨a', cap', he, ho⟩ := h3 k c _ hc hs
    have c0 := hr (k * 2 + 0) _ (by rw [hcell 0 (by decide)]; rfl)
    have c1 := hr (k * 2 + 1) _ (by rw [hcell 1 (by decide)]; rfl)
    rw [Addr.add_lit, Nat.zero_add] at c0 c1
    exact ⟨g, cap, _, rfl, hcap1, hcap2, (Array.getElem?_eq_some_iff.1 hg).1, c0, c1, a', cap', he, ho⟩

theorem CRows.form {B : Nat} {w : World} {v : Value} {cs : List (Nat × List Ent)} (h : CRows B w v cs) : ∃ a cap, v = .slice a cs.length cap ∧ cs.length ≤ cap ∧ cap ≤ maxLen := by
  obtain ⟨svs, h1, h2, h3⟩ := h
  exact (ownsRow.reads h2).le

theorem CRows.grown {B : Nat} {w : World} {v : Value} {cs : List (Nat × List Ent)} (h : CRows B w v cs) (o : Obj) : CRows B (w.alloc o) v cs := h.below ((Below.refl _ w).alloc (Nat.le_refl _) o)

set_option maxRecDepth 100000 in
set_option maxHeartbeats 4000000 in
theorem replay_any (w : World) (v : Value) (b : List UInt8) (hs : Sl w.heap.size w v b) (hb : b.length ≤ 1000000) (hst : Steps w) :
    Calls Tryd.prog 16 #[v] w (RepPost w b) := by
  obtain ⟨i0, hi, hz0, hz1, hz2⟩ := info_parts info25
  have HS := Lib.hid hs
  have HSt := Lib.hid hst
  clear hst
  rcases hs with ⟨⟨ax, rfl⟩, rfl⟩ | ⟨bb, off, vcap, rfl, hbB, hbw, hrd⟩
  · rcases ax with _ | ax
    all_goals
      have HB := Lib.hid (Below.refl w.heap.size w)
      have hnx := fnext_any w _ _ _ (HS.out.reads) (by first | omega | simp) (HSt.out.below HB.out)
      have hst := repl_stop (p := none) (b := []) (by rw [next_nil]; decide)
      have HN := Lib.hid hnx
      have HSp := Lib.hid hst
      clear hnx hst
      go_enter Tryd.func16, Tryd.ntmps16
      go_wp2
      refine wp_loop_rounds 1 ?_
      rw [rounds_succ]
      go_wp2_with (go_at_call 33; go_must (refine HN.out.mono ?_))
      rintro e w1 ⟨v1, rfl, o1, b1⟩
      rw [next_nil]
      have HB1 := Lib.hid b1
      clear b1 o1
      go_wp2
      go_ret2
      refine ⟨.slice none 0 0, ?_, ?_, HB1.out⟩
      · rw [HSp.out]; rfl
      · rw [HSp.out]; exact CRows.nil _ _
  · obtain ⟨_, _, hv, hc1, hc2⟩ := hrd.le
    cases hv
    unfold maxLen at hc2
    clear hrd
    go_enter Tryd.func16, Tryd.ntmps16
    go_wp2
    go_loopw [4, 5] (fun lv av wr => RepRel w b lv av wr) (fun _ av _ => b.length + 1 - (intOf av).toNat)
    case atStart => exact ⟨[], 0, rfl, ⟨by simp [lastR_nil], Nat.zero_le _, Nat.zero_le _, fun c hc => by simp at hc⟩, CRows.nil _ _, Below.refl _ _⟩
    case round =>
      obtain ⟨cs, k, rfl, hinv, hcr, hbw2⟩ := hrel
      obtain ⟨la, lcap, rfl, hlc1, hlc2⟩ := hcr.form
      unfold maxLen at hlc2
      have hcsl : cs.length ≤ k := hinv.2.1
      have hkb : k ≤ b.length := hinv.2.2.1
      have hkbI : (k : Int) ≤ b.length := by omega
      have hcut := (HS.out.cut hkb).below hbw2
      rw [cutV_some] at hcut
      have HI := Lib.hid hinv
      have HC := Lib.hid hcr
      have HB := Lib.hid hbw2
      clear hinv hcr hbw2
      have hbs := HB.out.size
      by_cases hck : vcap = k
      · have hz1' : b.length - k = 0 := by omega
        have hz2' : vcap - k = 0 := by omega
        have hd0 : b.drop k = [] := List.eq_nil_of_length_eq_zero (by rw [List.length_drop]; omega)
        have hbl : b.length = k := by omega
        rw [if_pos hck, hz1', hz2', hd0] at hcut
        have hnx := fnext_any wr _ _ _ (hcut.reads) (by first | omega | simp) (HSt.out.below HB.out)
        have hst := HI.out.stop (by rw [hd0]; exact repl_stop (by rw [next_nil]; decide))
        have HN := Lib.hid hnx
        have HSp := Lib.hid hst
        clear hnx hst hcut hd0 hz1' hz2' HI
        subst hck
        rw [hbl]
        go_wp2_with (go_at_call 33; go_must (refine HN.out.mono ?_))
        rintro e w1 ⟨v1, rfl, o1, b1⟩
        rw [next_nil]
        have HC1 := Lib.hid (HC.out.below b1)
        have HB1 := Lib.hid (HB.out.trans (b1.mono hbs))
        clear b1 o1 HC HB
        go_wp2
        go_ret2
        refine ⟨.slice la cs.length lcap, ?_, ?_, HB1.out⟩
        · rw [HSp.out]; rfl
        · rw [HSp.out]; exact HC1.out
      · have hckI : ¬ ((vcap : Int) = k) := by omega
        have hle1 : ((b.length - k : Nat) : Int) = (b.length : Int) - k := by omega
        have hle2 : ((vcap - k : Nat) : Int) = (vcap : Int) - k := by omega
        rw [if_neg hck] at hcut
        have hdl : (b.drop k).length = b.length - k := List.length_drop
        have hnx := fnext_any wr _ _ _ (hcut.reads) (by first | omega | simp) (HSt.out.below HB.out)
        have HN := Lib.hid hnx
        clear hnx hcut
        by_cases hn0 : (nextL (b.drop k)).1 = 0
        · have hnok := nextL_ok hn0
          have hN0 := Lib.hid hn0
          go_wp2_with (go_at_call 33; go_must (refine HN.out.mono ?_))
          rintro e w1 ⟨v1, rfl, o1, b1⟩
          rw [hN0.out]
          have HC1 := Lib.hid (HC.out.below b1)
          have HB1 := Lib.hid (HB.out.trans (b1.mono hbs))
          have hbs1 := HB1.out.size
          have hdc := decode_any w1 v1 (nextL (b.drop k)).2 (Sl.of_owns o1) (by omega)
          have HD := Lib.hid hdc
          clear b1 o1 hdc HC HB HN
          go_wp2_with (go_at_call 13; go_must (refine HD.out.mono ?_))
          intro e w2 hp2
          rcases dec_case hp2 with ⟨hnone, rfl, b2⟩ | ⟨rev, es, hsome, ea, ecap, rfl, o2, b2⟩
          · have hst := HI.out.stop (repl_bad hN0.out hnone)
            have HSp := Lib.hid hst
            have HC2 := Lib.hid (HC1.out.below b2)
            have HB2 := Lib.hid (HB1.out.trans (b2.mono hbs1))
            clear hp2 hnone b2 hst HC1 HB1 HI HD hn0
            go_wp2
            go_quiet (fail)
            go_wp2
            go_ret2
            refine ⟨.slice la cs.length lcap, ?_, ?_, below_drewN (HB2.out.alloc HB2.out.size _) _⟩
            · rw [HSp.out]; rfl
            · rw [HSp.out]; exact HC2.out.below (below_drewN ((Below.refl _ _).alloc (Nat.le_refl _) _) _)
          · obtain ⟨hright, hrev⟩ := dec_right hsome
            have hrev1 : 1 ≤ rev := (right_keys hright).2.2.1
            have hmore := fun hf => HI.out.more hN0.out hsome hf
            have hgap := fun hf => HI.out.stop (repl_gap hN0.out hsome hf)
            have hrevs := fun c hc => HI.out.2.2.2 c hc
            have HMo := Lib.hid hmore
            have HGp := Lib.hid hgap
            have HC2 := Lib.hid (HC1.out.below b2)
            have HB2 := Lib.hid (HB1.out.trans (b2.mono hbs1))
            have HO2 := Lib.hid (owns_mono o2 hbs1)
            have HX2 := Lib.hid (heap_alloc_new w2 (.cells #[.int .u64 (rev : Int), .slice ea es.length ecap] 25))
            clear hp2 hsome hright hmore hgap b2 o2 HC1 HB1 HI HD hn0
            have hnn : nextN (b.drop k) = 8 + (nextL (b.drop k)).2.length := hnok.2.1
            rcases follows_cases cs rev with ⟨hnil, hft⟩ | ⟨c, _, hcl, hpos, hfe⟩
            · subst hnil
              go_wp2
              go_quiet (fail)
              have hqn : Below (w2.alloc (.cells #[.int .u64 (rev : Int), .slice ea es.length ecap] 25)).heap.size (w2.alloc (.cells #[.int .u64 (rev : Int), .slice ea es.length ecap] 25)) ((w2.alloc (.cells #[.int .u64 (rev : Int), .slice ea es.length ecap] 25)).drewN nq) := below_drewN (Below.refl _ _) nq
              have HC5 := Lib.hid ((HC2.out.grown (.cells #[.int .u64 (rev : Int), .slice ea es.length ecap] 25)).below hqn)
              have HB5 := Lib.hid ((HB2.out.alloc HB2.out.size (.cells #[.int .u64 (rev : Int), .slice ea es.length ecap] 25)).trans (hqn.mono (by have := HB2.out.size; simp; omega)))
              have HO5 := Lib.hid (owns_below (HO2.out.alloc (.cells #[.int .u64 (rev : Int), .slice ea es.length ecap] 25)) hqn)
              have hx5 := below_block hqn HX2.out (Array.getElem?_eq_some_iff.1 HX2.out).1
              clear hqn HC2 HB2 HO2 HX2
              generalize (w2.alloc (.cells #[.int .u64 (rev : Int), .slice ea es.length ecap] 25)).drewN nq = w5 at *
              have y0 := Lib.cell_of_heap hx5 0
              have y1 := Lib.cell_of_heap hx5 1
              have hgl5 := (Array.getElem?_eq_some_iff.1 hx5).1
              simp at y0 y1
              clear hx5
              obtain ⟨svs, hv1, hv2, hv3⟩ := HC5.out
              have hbs5 := HB5.out.size
              go_wp2_with (at_builtin; go_must (refine wpList_append_rows_at (w0 := w5) rfl _ _ 37 rfl w.heap.size 25 i0 _ 2 32 Tryd.underlying37 hi hz0 hz1 hz2 rfl [.int .u64 (rev : Int), .slice ea es.length ecap] 1 rfl rfl hv2 rfl rfl ?_ ?_ ?_ hbs5 ?_))
              · intro u hu
                simp at hu
                rcases hu with rfl | rfl <;> rfl
              · unfold maxLen; omega
              · omega
              intro v6 w6 o6 g6 b6 _
              have hpush := CRows.push hv1 hv2 hv3 rfl HO5.out g6 o6
              have HP6 := Lib.hid hpush
              have HB6 := Lib.hid (HB5.out.trans b6)
              clear hpush o6 g6 b6 y0 y1 hv1 hv2 hv3 HC5 HB5 HO5
              go_wp2
              exact ⟨⟨_, _, by rw [hnn]; simp [Int.add_assoc], HMo.out hft, HP6.out, HB6.out⟩, by simp [intOf]; omega⟩
            · obtain ⟨m, hm⟩ : ∃ m, cs.length = m + 1 := ⟨cs.length - 1, by omega⟩
              have hcb := hrevs c (List.mem_of_getElem? hcl)
              rw [hm, Nat.add_sub_cancel] at hcl
              obtain ⟨g, gcap, gsv, hgv, hg1, hg2, hgl, gc0, gc1, _⟩ := HC2.out.rev hcl
              have hw2a : ∀ o, (w2.alloc o).cell? ⟨g, m * 2, none⟩ = some (.int .u64 (c.1 : Int)) := fun o => (((Below.refl _ w2).alloc (Nat.le_refl _) o).cell (p := ⟨g, m * 2, none⟩) hgl).trans gc0
              cases hgv
              have gc2 := hw2a (.cells #[.int .u64 (rev : Int), .slice ea es.length ecap] 25)
              have hmI : ((cs.length : Nat) : Int) = (m : Int) + 1 := by omega
              have hposI : (0 : Int) < cs.length := by omega
              have hglt : g < w2.heap.size := hgl
              have hmw : IntKind.i64.wrap (m : Int) = (m : Int) := by rw [IntKind.wrap_i64]; omega
              have hmidx : (m : Int) < (m : Int) + 1 := by omega
              clear hw2a gc0 gc1 hg1 hg2
              by_cases hf : rev = c.1 + 1
              · have hft : follows (lastR cs) rev = true := by rw [hfe, decide_eq_true hf]
                have hneI : ((rev : Int) != (c.1 : Int) + 1) = false := by simp; omega
                have hcI : (c.1 : Int) + 1 < 18446744073709551616 := by omega
                have hcw : IntKind.u64.wrap ((c.1 : Int) + 1) = (c.1 : Int) + 1 := by rw [IntKind.wrap_u64]; omega
                have HFt := Lib.hid hft
                clear hft hfe hf
                go_wp2
                go_quiet (fail)
                have hqn : Below (w2.alloc (.cells #[.int .u64 (rev : Int), .slice ea es.length ecap] 25)).heap.size (w2.alloc (.cells #[.int .u64 (rev : Int), .slice ea es.length ecap] 25)) ((w2.alloc (.cells #[.int .u64 (rev : Int), .slice ea es.length ecap] 25)).drewN nq) := below_drewN (Below.refl _ _) nq
                have HC5 := Lib.hid ((HC2.out.grown (.cells #[.int .u64 (rev : Int), .slice ea es.length ecap] 25)).below hqn)
                have HB5 := Lib.hid ((HB2.out.alloc HB2.out.size (.cells #[.int .u64 (rev : Int), .slice ea es.length ecap] 25)).trans (hqn.mono (by have := HB2.out.size; simp; omega)))
                have HO5 := Lib.hid (owns_below (HO2.out.alloc (.cells #[.int .u64 (rev : Int), .slice ea es.length ecap] 25)) hqn)
                have hx5 := below_block hqn HX2.out (Array.getElem?_eq_some_iff.1 HX2.out).1
                clear hqn HC2 HB2 HO2 HX2
                generalize (w2.alloc (.cells #[.int .u64 (rev : Int), .slice ea es.length ecap] 25)).drewN nq = w5 at *
                have y0 := Lib.cell_of_heap hx5 0
                have y1 := Lib.cell_of_heap hx5 1
                have hgl5 := (Array.getElem?_eq_some_iff.1 hx5).1
                simp at y0 y1
                clear hx5
                have hC5v := HC5.out
                rw [hm] at hC5v
                obtain ⟨svs, hv1, hv2, hv3⟩ := hC5v
                have hbs5 := HB5.out.size
                go_wp2_with (at_builtin; go_must (refine wpList_append_rows_at (w0 := w5) rfl _ _ 37 rfl w.heap.size 25 i0 _ 2 32 Tryd.underlying37 hi hz0 hz1 hz2 rfl [.int .u64 (rev : Int), .slice ea es.length ecap] 1 rfl rfl hv2 rfl rfl ?_ ?_ ?_ hbs5 ?_))
                · intro u hu
                  simp at hu
                  rcases hu with rfl | rfl <;> rfl
                · unfold maxLen; omega
                · omega
                intro v6 w6 o6 g6 b6 _
                rw [← hm] at o6 hv2 g6
                have hpush := CRows.push hv1 hv2 hv3 rfl HO5.out g6 o6
                have HP6 := Lib.hid hpush
                have HB6 := Lib.hid (HB5.out.trans b6)
                clear hpush o6 g6 b6 y0 y1 hv1 hv2 hv3 HC5 HB5 HO5
                go_wp2
                exact ⟨⟨_, _, by rw [hnn]; simp [Int.add_assoc], HMo.out HFt.out, HP6.out, HB6.out⟩, by simp [intOf]; omega⟩
              · have hff : follows (lastR cs) rev = false := by rw [hfe, decide_eq_false hf]
                have HSp := Lib.hid (HGp.out hff)
                have hneI : ∀ z : Int, z = IntKind.u64.wrap ((c.1 : Int) + 1) → ((rev : Int) != z) = true := by
                  intro z hz
                  rw [IntKind.wrap_u64] at hz
                  simp
                  omega
                have hwr := hneI _ rfl
                clear hff hfe hf hneI
                go_wp2
                go_quiet (fail)
                go_wp2
                go_ret2
                refine ⟨.slice (some ⟨g, 0, none⟩) (m + 1) lcap, ?_, ?_, below_drewN (HB2.out.alloc HB2.out.size _) _⟩
                · rw [HSp.out]; rfl
                · rw [HSp.out, ← hm]; exact HC2.out.below (below_drewN ((Below.refl _ _).alloc (Nat.le_refl _) _) _)
        · have hst := HI.out.stop (repl_stop hn0)
          have HSp := Lib.hid hst
          have hneI : (((nextL (b.drop k)).1 : Int) != 0) = true := by simp; omega
          clear hst hn0 HI
          go_wp2_with (go_at_call 33; go_must (refine HN.out.mono ?_))
          rintro e w1 ⟨v1, rfl, o1, b1⟩
          have HC1 := Lib.hid (HC.out.below b1)
          have HB1 := Lib.hid (HB.out.trans (b1.mono hbs))
          clear b1 o1 HC HB HN
          go_wp2
          go_ret2
          refine ⟨.slice la cs.length lcap, ?_, ?_, HB1.out⟩
          · rw [HSp.out]; rfl
          · rw [HSp.out]; exact HC1.out
end Go.Proofs.YtoibhkmlebcepaaDoor
