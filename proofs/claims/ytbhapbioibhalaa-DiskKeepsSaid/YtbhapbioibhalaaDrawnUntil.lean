/- A region that draws its order, some of whose operations write into rows that the region itself made: facts that hold until their row is taken on. -/
import Derived.Test.YtbhapbioibhalaaDrawnLast
import Derived.Test.YtbhapbioibhalaaOwns
namespace Go.Proofs.Ytbhapbioibhalaa
open Go Go.RowKit

/-- A fact on a slot; the operation that uses it up, if one does; whether it speaks of the value alone. -/
structure UntilFact where
  fact : SlotFact
  until_ : Option Nat
  alone : Bool
  ok : alone = true → ∀ v w w', fact.p v w → fact.p v w'

def eqU (x : Value) : UntilFact := ⟨eqF x, none, true, fun _ _ _ _ h => h⟩
def anyU : UntilFact := ⟨anyF, none, true, fun _ _ _ _ _ => trivial⟩
def onU (f : SlotFact) (u : Option Nat) : UntilFact := ⟨f, u, false, fun h => by cases h⟩

def uAt (us : List UntilFact) (i : Nat) : UntilFact := (us[i]?).getD anyU

def waitsFor (l : List Oper) (j i : Nat) : Bool := match l[j]? with | some o => o.after.any fun e => Region.binds .any e && e.on == i | none => false

/-- waits for it, or for what waits for it -/
def waitsDeep (l : List Oper) : Nat → Nat → Nat → Bool
  | 0, j, i => waitsFor l j i
  | d + 1, j, i => waitsFor l j i || (List.range l.length).any fun x => waitsFor l j x && waitsDeep l d x i

theorem waits_deep {l : List Oper} {L : Nat → Bool} (hc : ∀ j i, L j = true → waitsFor l j i = true → L i = true) : ∀ (d j i : Nat), L j = true → waitsDeep l d j i = true → L i = true
  | 0, j, i, hj, h => hc j i hj h
  | d + 1, j, i, hj, h => by
    unfold waitsDeep at h
    rw [Bool.or_eq_true] at h
    rcases h with h | h
    · exact hc j i hj h
    · obtain ⟨x, _, hx⟩ := List.any_eq_true.1 h
      rw [Bool.and_eq_true] at hx
      exact waits_deep hc d x i (hc j x hj hx.1) hx.2

/-- An operation that writes leaves alone what is still needed. -/
def wildOk (l : List Oper) (us : List UntilFact) (wild : List Nat) : Bool :=
  wild.all fun i => (List.range l.length).all fun k => k == i || (uAt us k).alone || (uAt us k).until_ == some i || waitsDeep l 3 k i || (match (uAt us k).until_ with | some u => waitsDeep l 3 i u | none => false)

section
variable {P : Program} {id : Nat} {l : List Oper} {Q : Exit → Act → World → Prop} {a0 : Act} {w0 : World}

structure InvU (l : List Oper) (us : List UntilFact) (a0 : Act) (w0 : World) (L : Nat → Bool) (a : Act) (w : World) : Prop where
  defers : a.defers = a0.defers
  size : a.tmps.size = a0.tmps.size
  like : Like l a0 a.eval
  below : Below w0.heap.size w0 w
  closed : ∀ j i, L j = true → waitsFor l j i = true → L i = true
  only : ∀ j, L j = true → j < l.length
  facts : ∀ i o d, l[i]? = some o → o.dst = some d → L i = true → (∀ u, (uAt us i).until_ = some u → L u = false) → (uAt us i).fact.p (a.tmps.getD d undef) w

/-- what is to be shown of one operation -/
def OpGoalU (P : Program) (l : List Oper) (us : List UntilFact) (wild : List Nat) (a0 : Act) (w0 : World) (i : Nat) (o : Oper) : Prop :=
  ∀ ρ w, Like l a0 ρ → Below w0.heap.size w0 w →
    (∀ j, (o.after.any fun e => Region.binds .any e && e.on == j) = true → ((uAt us j).until_ = none ∨ (uAt us j).until_ = some i) → ∀ d, (l[j]?).bind (·.dst) = some d → (uAt us j).fact.p (ρ (.tmp d)) w) →
    YieldsP P ρ o w (fun v w' => (uAt us i).fact.p v w' ∧ Below (if wild.contains i then w0.heap.size else w.heap.size) w w')

theorem wp_region_until (hm : P.follows .mixedOrders = true) (us : List UntilFact) (wild : List Nat) (hok : drawnOk l a0.tmps.size = true) (hung : l.all (·.guard.isNone) = true) (hw : wildOk l us wild = true)
    (hop : AllFrom (OpGoalU P l us wild a0 w0) 0 l)
    (hend : ∀ a w, a.defers = a0.defers → a.tmps.size = a0.tmps.size → Like l a0 a.eval → Below w0.heap.size w0 w → (∀ (i : Nat) (o : Oper) (d : Nat), l[i]? = some o → o.dst = some d → (uAt us i).until_ = none → (uAt us i).fact.p (a.tmps.getD d undef) w) → Q .normal a w) :
    (Code.region id l.toArray true).wp P Q a0 w0 := by
  refine wp_region_inv hm hok hung (fun L a w => ∃ L0 : Nat → Bool, (∀ k, k < l.length → L0 k = L k) ∧ InvU l us a0 w0 L0 a w) (fun L hL => ?_) (fun i o hi L a w hLi hprev hJ => ?_) (fun L a w hL hJ => ?_)
  · exact ⟨fun _ => false, fun k hk => (hL k hk).symm, rfl, rfl, ⟨fun _ => rfl, fun _ => rfl, fun _ _ => rfl⟩, ⟨rfl, rfl, rfl, Nat.le_refl _, fun _ _ => rfl⟩, fun _ _ h => (by cases h), fun _ h => (by cases h), fun _ _ _ _ _ h => (by cases h)⟩
  · obtain ⟨L0, h0, hinv⟩ := hJ
    have hil : i < l.length := (List.getElem?_eq_some_iff.1 hi).1
    have hL0i : L0 i = false := by rw [h0 i hil]; exact hLi
    have hlean0 : ∀ j, waitsFor l i j = true → j < l.length ∧ L0 j = true := by
      intro j hj
      unfold waitsFor at hj
      rw [hi] at hj
      have hjl : j < l.length := by
        obtain ⟨h1, _, _⟩ := drawnOk_at hok hi
        rw [Array.any_eq_true'] at hj
        obtain ⟨e, he, hej⟩ := hj
        simp only [Bool.and_eq_true, beq_iff_eq] at hej
        have := h1 e he hej.1
        omega
      exact ⟨hjl, by rw [h0 j hjl]; exact hprev j hj⟩
    have hg := hop.at i o hi
    rw [Nat.zero_add] at hg
    have hy := hg a.eval w hinv.like hinv.below (fun j hj hu d hd => by
      obtain ⟨oj, hoj, hdj⟩ := Option.bind_eq_some_iff.1 hd
      have hwj : waitsFor l i j = true := by unfold waitsFor; rw [hi]; exact hj
      refine hinv.facts j oj d hoj hdj (hlean0 j hwj).2 (fun u hu' => ?_)
      rcases hu with hu | hu
      · rw [hu] at hu'; cases hu'
      · rw [hu] at hu'
        cases hu'
        exact hL0i)
    obtain ⟨_, h2, _⟩ := drawnOk_at hok hi
    refine wp_of_yields hy fun v w' hv L' hL' => ⟨fun k => if k = i then true else L0 k, fun k hk => ?_, ?_⟩
    · show (if k = i then true else L0 k) = L' k
      rw [hL' k]
      split
      · rfl
      · exact h0 k hk
    obtain ⟨hv, hb⟩ := hv
    have hsz : w.heap.size ≤ w'.heap.size := hb.size
    have hb0 : Below w0.heap.size w w' := by
      split at hb
      · exact hb
      · exact hb.mono hinv.below.size
    refine ⟨?_, ?_, ⟨fun c => rfl, fun f => rfl, fun k hk => ?_⟩, hinv.below.trans hb0, fun j x hj hx => ?_, fun j hj => ?_, fun j o' d hj hd hlj hu => ?_⟩
    · cases o.dst <;> exact hinv.defers
    · cases hd : o.dst with
      | none => exact hinv.size
      | some d => simpa [Act.put] using hinv.size
    · show (a.put o.dst v).tmps.getD k undef = _
      cases hd : o.dst with
      | none => exact hinv.like.tmp k hk
      | some d =>
        have hne : k ≠ d := by
          have := List.all_eq_true.1 hk o (List.mem_of_getElem? hi)
          simp [hd] at this
          exact fun e => this e.symm
        rw [getD_put hne]
        exact hinv.like.tmp k hk
    · show (if x = i then true else L0 x) = true
      split
      · rfl
      · have hj : (if j = i then true else L0 j) = true := hj
        split at hj
        · rename_i hji
          subst hji
          exact (hlean0 x hx).2
        · exact hinv.closed j x hj hx
    · have hj : (if j = i then true else L0 j) = true := hj
      split at hj
      · rename_i hji
        subst hji
        exact hil
      · exact hinv.only j hj
    · by_cases hji : j = i
      · subst hji
        rw [hi] at hj
        cases hj
        obtain ⟨h3, _⟩ := h2 d hd
        rw [hd, getD_put_same (by rw [hinv.size]; exact h3)]
        exact hv
      · have hlj' : L0 j = true := by
          have hlj : (if j = i then true else L0 j) = true := hlj
          rw [if_neg hji] at hlj
          exact hlj
        have hu' : ∀ u, (uAt us j).until_ = some u → u ≠ i ∧ L0 u = false := fun u hu' => by
          have : (if u = i then true else L0 u) = false := hu u hu'
          split at this
          · cases this
          · rename_i hne
            exact ⟨hne, this⟩
        have hold := hinv.facts j o' d hj hd hlj' (fun u hu'' => (hu' u hu'').2)
        have hnew : (uAt us j).fact.p (a.tmps.getD d undef) w' := by
          by_cases hwi : wild.contains i = true
          · have h4 := List.all_eq_true.1 hw i (by simpa using hwi)
            have hjl : j < l.length := (List.getElem?_eq_some_iff.1 hj).1
            have h5 := List.all_eq_true.1 h4 j (List.mem_range.2 hjl)
            simp only [Bool.or_eq_true, beq_iff_eq] at h5
            rcases h5 with (((h5 | h5) | h5) | h5) | h5
            · exact absurd h5 hji
            · exact (uAt us j).ok h5 _ _ _ hold
            · exact absurd rfl (hu' i h5).1
            · have := waits_deep hinv.closed 3 j i hlj' h5
              rw [hL0i] at this
              cases this
            · cases huu : (uAt us j).until_ with
              | none => rw [huu] at h5; cases h5
              | some u =>
                rw [huu] at h5
                have h5 : waitsDeep l 3 i u = true := h5
                have h6 : (if u = i then true else L0 u) = true := waits_deep (L := fun k => if k = i then true else L0 k) (fun x y hx hxy => by
                  show (if y = i then true else L0 y) = true
                  have hx : (if x = i then true else L0 x) = true := hx
                  split
                  · rfl
                  · split at hx
                    · rename_i hxi
                      subst hxi
                      exact (hlean0 y hxy).2
                    · exact hinv.closed x y hx hxy) 3 i u (by show (if i = i then true else L0 i) = true; rw [if_pos rfl]) h5
                rw [if_neg (hu' u huu).1, (hu' u huu).2] at h6
                cases h6
          · rw [if_neg hwi] at hb
            exact (uAt us j).fact.stable _ _ _ hold hb
        cases hdo : o.dst with
        | none => exact hnew
        | some d' =>
          have hne : d ≠ d' := by
            intro e
            subst e
            exact (h2 d hdo).2 j o' hj hji hd
          rw [getD_put hne]
          exact hnew
  · obtain ⟨L0, h0, hinv⟩ := hJ
    refine hend a w hinv.defers hinv.size hinv.like hinv.below fun i o d hi hd hu => hinv.facts i o d hi hd ?_ (fun u hu' => by rw [hu] at hu'; cases hu')
    have hil : i < l.length := (List.getElem?_eq_some_iff.1 hi).1
    rw [h0 i hil]
    exact hL i hil

theorem u_val {ρ : Operand → Value} {o : Oper} {w : World} {v : Value} {p : Value → World → Prop} {B : Nat} (h : (execOp ρ o).run P w = .ok (.value v) w) (hp : p v w) : YieldsP P ρ o w (fun u w' => p u w' ∧ Below B w w') := by
  unfold YieldsP
  rw [h]
  exact ⟨hp, Below.refl _ _⟩

theorem u_new {ρ : Operand → Value} {o : Oper} {w w' : World} {v : Value} {p : Value → World → Prop} {B : Nat} (h : (execOp ρ o).run P w = .ok (.value v) w') (hp : p v w') (hb : Below B w w') : YieldsP P ρ o w (fun u w' => p u w' ∧ Below B w w') := by
  unfold YieldsP
  rw [h]
  exact ⟨hp, hb⟩
end

/-- the slot holds a row of the region's own -/
def ownsF (B : Nat) (e : TypeId) (size n : Nat) (xs : List Value) : SlotFact := ⟨fun v w => w.ownsRow B e size v n xs, fun _ _ _ h hb => by
  refine ⟨h.1, ?_⟩
  rcases h.2 with h0 | ⟨g, cap, cur, hv, hB, hg, h3⟩
  · exact .inl h0
  · exact .inr ⟨g, cap, cur, hv, hB, (hb.block g (Array.getElem?_eq_some_iff.1 hg).1).trans hg, h3⟩⟩

/-- the slot holds an empty row of the region's own -/
def litF (e : TypeId) (cs : Array Value) (n : Nat) : SlotFact := ⟨fun v w => ∃ g, v = .slice (some ⟨g, 0, none⟩) n n ∧ w.heap[g]? = some (.cells cs e (0, 0)),
  fun _ _ _ ⟨g, h1, h2⟩ hb => ⟨g, h1, (hb.block g (Array.getElem?_eq_some_iff.1 h2).1).trans h2⟩⟩

/-- An append to a row without room goes into new memory. -/
theorem run_append_zero {P : Program} {w : World} (B : Nat) (t tx ty e : TypeId) (i : TypeInfo) (z : Value) (bytes : Nat) (ht : P.underlying t = some (.slice e)) (hi : P.info? e = some i) (hz : i.zero = some z)
    (hsize : i.size = 1) (hby : i.bytes = bytes) (hzs : z.cells.size = 1)
    (g : Nat) (h0 : w.ownsRow B e 1 (.slice (some ⟨g, 0, none⟩) 0 0) 0 []) (x : Value) (m : Nat) (news : List Value) (hs : Src P 1 tx x m news w)
    (h63 : m ≤ maxLen) (hbytes : m * bytes ≤ 140737488355328) (hB : B ≤ w.heap.size) :
    ∃ v' w', (Builtin.append_ #[t, tx] ty #[.slice (some ⟨g, 0, none⟩) 0 0, x]).run P w = .ok v' w' ∧ w'.ownsRow B e 1 v' m news ∧ Below w.heap.size w w' := by
  subst hby
  have hnl := hs.newsLen
  by_cases hm : m = 0
  · subst hm
    have hn : news = [] := List.eq_nil_of_length_eq_zero (by simpa using hnl)
    subst hn
    exact ⟨_, w, run_append_nothing (P := P) w t tx ty e i ht hi (some ⟨g, 0, none⟩) 0 0 (Nat.le_refl _) x (by rw [hsize]; exact hs), h0, Below.refl _ _⟩
  · have hold := (ownsRow.reads h0).firstCells (P := P) w.drew rfl
    have hsmall : 0 + m ≤ 9223372036854775807 := by simp only [maxLen] at h63; omega
    have hrun := run_append_grow_src (P := P) w t tx ty e i z ht hi hz (some ⟨g, 0, none⟩) 0 0 [] (by rw [hsize]; exact hold) x m news (by rw [hsize]; exact hs) (by omega) (by omega) (growslice_fits (by omega) (by rw [Nat.zero_add]; exact hbytes))
    have hge := grownCap_ge w (0 + m) 0 e
    have hcm := grownCap_le_maxLen w (0 + m) 0 e (by omega)
    rw [List.nil_append, Nat.zero_add] at hrun
    rw [Nat.zero_add] at hge hcm
    refine ⟨_, _, hrun, ⟨by simpa using hnl, .inr ⟨w.heap.size, _, _, rfl, hB, heap_alloc_new w.drew _, hge, hcm, ?_, ?_⟩⟩, ⟨rfl, rfl, rfl, by simp, fun k hk => Below.heap_alloc w.drew _ k hk⟩⟩
    · rw [Array.size_append, List.size_toArray, size_zeroCells, hzs, hnl]
      omega
    · simp only [Array.toList_append]
      have : m * 1 = news.length := by omega
      rw [this]
      exact List.take_left

theorem owns_less {w : World} {B B' n s : Nat} {e : TypeId} {v : Value} {xs : List Value} (h : w.ownsRow B e s v n xs) (hB : B' ≤ B) : w.ownsRow B' e s v n xs := by
  refine ⟨h.1, ?_⟩
  rcases h.2 with h0 | ⟨g, cap, cur, hv, hg, h3⟩
  · exact .inl h0
  · exact .inr ⟨g, cap, cur, hv, Nat.le_trans hB hg, h3⟩

theorem owns_zero (w : World) (e : TypeId) (size : Nat) : (w.alloc (.cells #[] e)).ownsRow w.heap.size e size (.slice (some ⟨w.heap.size, 0, none⟩) 0 0) 0 [] :=
  ⟨by simp, .inr ⟨w.heap.size, 0, #[], rfl, Nat.le_refl _, heap_alloc_new w _, Nat.le_refl _, Nat.zero_le _, by simp, by simp⟩⟩

/-- the slot holds an empty row without room -/
def zeroF (B : Nat) (e : TypeId) (size : Nat) : SlotFact := ⟨fun v w => ∃ g, v = .slice (some ⟨g, 0, none⟩) 0 0 ∧ (ownsF B e size 0 []).p v w, fun _ _ _ ⟨g, h1, h2⟩ hb => ⟨g, h1, (ownsF B e size 0 []).stable _ _ _ h2 hb⟩⟩

/-- A row that has just been laid may be read. -/
theorem lit_reads {w : World} {g n size : Nat} {e : TypeId} {cs : List Value} (hg : w.heap[g]? = some (.cells cs.toArray e (0, 0))) (hl : cs.length = n * size) (hn : n ≤ maxLen) : Reads w size (.slice (some ⟨g, 0, none⟩) n n) n cs := by
  refine ⟨hl, _, n, rfl, Nat.le_refl _, hn, fun j u hj => ⟨g, 0, rfl, (Array.getElem?_eq_some_iff.1 hg).1, ?_⟩⟩
  unfold World.cell?
  simp [hg, hj]
end Go.Proofs.Ytbhapbioibhalaa
