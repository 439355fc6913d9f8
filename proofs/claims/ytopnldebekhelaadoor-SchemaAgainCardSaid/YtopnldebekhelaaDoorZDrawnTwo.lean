/- A region that draws its order and makes two variables of its own ("x, y := a[i], b[i]", both in memory): which of them comes first is open. -/
import Derived.Test.YtopnldebekhelaaDoorMga
namespace Go.Proofs.YtopnldebekhelaaDoor
open Go Go.RowKit

section
variable {P : Program} {id : Nat} {l : List Oper} {za zb zc zd : Oper} {Q : Exit → Act → World → Prop} {a0 : Act} {w0 : World}

def ptrTo (g : Nat) : Value := .pointer (some ⟨g, 0, none⟩)
theorem ptrTo_inj {g h : Nat} (e : ptrTo g = ptrTo h) : g = h := by
  unfold ptrTo at e
  cases e
  rfl

/-- the slots that o leans on, of those told ahead, hold what is told of them -/
def HoldsN (l : List Oper) (n : Nat) (vs : List Value) (o : Oper) (ρ : Operand → Value) : Prop :=
  ∀ j, (decide (j < n) && (o.after.any fun e => Region.binds .any e && e.on == j)) = true → ∀ d, (l[j]?).bind (·.dst) = some d → ρ (.tmp d) = (vs[j]?).getD undef

def TwoRead (P : Program) (l : List Oper) (n : Nat) (vs : List Value) (a0 : Act) (w0 : World) (i : Nat) (o : Oper) : Prop :=
  ∀ ρ w, Like l a0 ρ → Below w0.heap.size w0 w → HoldsN l n vs o ρ → YieldsP P ρ o w (fun v w' => v = (vs[i]?).getD undef ∧ w' = w)

def TwoMade (P : Program) (Z : Obj) (o : Oper) : Prop :=
  ∀ ρ w, YieldsP P ρ o w (fun v w' => v = ptrTo w.heap.size ∧ Below w.heap.size w w' ∧ w'.heap[w.heap.size]? = some Z)

def TwoStore (P : Program) (l : List Oper) (n : Nat) (vs : List Value) (a0 : Act) (w0 : World) (Z y : Obj) (s : Nat) (o : Oper) : Prop :=
  ∀ ρ w g, Like l a0 ρ → Below w0.heap.size w0 w → HoldsN l n vs o ρ → ρ (.tmp s) = ptrTo g → w.heap[g]? = some Z → YieldsP P ρ o w (fun _ w' => Touch w w' [g] ∧ w'.heap[g]? = some y)

structure TwoInv (l : List Oper) (n : Nat) (vs : List Value) (a0 : Act) (w0 : World) (Z ya yb : Obj) (sa sb : Nat) (L : Nat → Bool) (a : Act) (w : World) : Prop where
  defers : a.defers = a0.defers
  size : a.tmps.size = a0.tmps.size
  like : Like l a0 a.eval
  below : Below w0.heap.size w0 w
  vals : ∀ (i : Nat) (o : Oper) (d : Nat), i < n → l[i]? = some o → o.dst = some d → L i = true → a.tmps.getD d undef = (vs[i]?).getD undef
  one : L n = true → ∃ g, a.tmps.getD sa undef = ptrTo g ∧ w0.heap.size ≤ g ∧ w.heap[g]? = some (if L (n + 2) = true then ya else Z)
  two : L (n + 1) = true → ∃ g, a.tmps.getD sb undef = ptrTo g ∧ w0.heap.size ≤ g ∧ w.heap[g]? = some (if L (n + 3) = true then yb else Z)
  cl1 : L (n + 2) = true → L n = true
  cl2 : L (n + 3) = true → L (n + 1) = true
  apart : L n = true → L (n + 1) = true → a.tmps.getD sa undef ≠ a.tmps.getD sb undef

/-- One operation more: what stays of the frame. -/
theorem two_frame {n : Nat} {vs : List Value} (hok : drawnOk l a0.tmps.size = true) {i : Nat} {o : Oper} (hi : l[i]? = some o) {a : Act} (hsz : a.tmps.size = a0.tmps.size) (hdf : a.defers = a0.defers) (hlk : Like l a0 a.eval) (v : Value) {L L' : Nat → Bool} (hL' : ∀ k, L' k = if k = i then true else L k)
    (hv : ∀ (i : Nat) (o : Oper) (d : Nat), i < n → l[i]? = some o → o.dst = some d → L i = true → a.tmps.getD d undef = (vs[i]?).getD undef) (hnew : i < n → v = (vs[i]?).getD undef) :
    (a.put o.dst v).defers = a0.defers ∧ (a.put o.dst v).tmps.size = a0.tmps.size ∧ Like l a0 (a.put o.dst v).eval ∧ (∀ (i' : Nat) (o' : Oper) (d : Nat), i' < n → l[i']? = some o' → o'.dst = some d → L' i' = true → (a.put o.dst v).tmps.getD d undef = (vs[i']?).getD undef) := by
  obtain ⟨_, h2, _⟩ := drawnOk_at hok hi
  refine ⟨?_, ?_, ⟨fun c => rfl, fun f => rfl, fun k hk => ?_⟩, fun j o' d hjn hj hdj hl => ?_⟩
  · cases o.dst <;> exact hdf
  · cases hdd : o.dst with
    | none => exact hsz
    | some d => simpa [Act.put] using hsz
  · show (a.put o.dst v).tmps.getD k undef = _
    cases hdd : o.dst with
    | none => exact hlk.tmp k hk
    | some d =>
      have hne : k ≠ d := by
        have := List.all_eq_true.1 hk o (List.mem_of_getElem? hi)
        simp [hdd] at this
        exact fun e => this e.symm
      rw [getD_put hne]
      exact hlk.tmp k hk
  · by_cases hji : j = i
    · subst hji
      rw [hi] at hj
      cases hj
      obtain ⟨h3, _⟩ := h2 d hdj
      rw [hdj, getD_put_same (by rw [hsz]; exact h3)]
      exact hnew hjn
    · have hl' : L j = true := by
        rw [hL' j, if_neg hji] at hl
        exact hl
      have hvj := hv j o' d hjn hj hdj hl'
      cases hdo : o.dst with
      | none => exact hvj
      | some d' =>
        have hne : d ≠ d' := by
          intro e
          subst e
          exact (h2 d hdo).2 j o' hj hji hdj
        rw [getD_put hne]
        exact hvj

theorem put_other {L : List Oper} {n : Nat} (hok : drawnOk L n = true) {i j : Nat} {o o' : Oper} {d : Nat} (hi : L[i]? = some o) (hj : L[j]? = some o') (hne : j ≠ i) (hd : o'.dst = some d) (a : Act) (v : Value) : (a.put o.dst v).tmps.getD d undef = a.tmps.getD d undef := by
  obtain ⟨_, h2, _⟩ := drawnOk_at hok hi
  cases hdo : o.dst with
  | none => rfl
  | some d' =>
    have hdd : d ≠ d' := by
      intro e
      subst e
      exact (h2 d hdo).2 j o' hj hne hd
    exact getD_put hdd

theorem wp_region_two (hm : P.follows .mixedOrders = true) (vs : List Value) (Z ya yb : Obj) (sa sb : Nat) (hok : drawnOk (l ++ [za, zb, zc, zd]) a0.tmps.size = true) (hung : (l ++ [za, zb, zc, zd]).all (·.guard.isNone) = true)
    (hsa : za.dst = some sa) (hsb : zb.dst = some sb) (hc0 : zc.dst = none) (hd0 : zd.dst = none)
    (hwc : (zc.after.any fun e => Region.binds .any e && e.on == l.length) = true) (hwd : (zd.after.any fun e => Region.binds .any e && e.on == l.length + 1) = true)
    (hop : AllFrom (TwoRead P (l ++ [za, zb, zc, zd]) l.length vs a0 w0) 0 l) (ha : TwoMade P Z za) (hb : TwoMade P Z zb)
    (hc : TwoStore P (l ++ [za, zb, zc, zd]) l.length vs a0 w0 Z ya sa zc) (hd : TwoStore P (l ++ [za, zb, zc, zd]) l.length vs a0 w0 Z yb sb zd)
    (hend : ∀ a w g h, a.defers = a0.defers → a.tmps.size = a0.tmps.size → Like (l ++ [za, zb, zc, zd]) a0 a.eval → Below w0.heap.size w0 w → (∀ (i : Nat) (o : Oper) (d : Nat), l[i]? = some o → o.dst = some d → a.tmps.getD d undef = (vs[i]?).getD undef) → a.tmps.getD sa undef = ptrTo g → a.tmps.getD sb undef = ptrTo h → w0.heap.size ≤ g → w0.heap.size ≤ h → g ≠ h → w.heap[g]? = some ya → w.heap[h]? = some yb → Q .normal a w) :
    (Code.region id (l ++ [za, zb, zc, zd]).toArray true).wp P Q a0 w0 := by
  have g0 : (l ++ [za, zb, zc, zd])[l.length]? = some za := by rw [List.getElem?_append_right (Nat.le_refl _), Nat.sub_self]; rfl
  have g1 : (l ++ [za, zb, zc, zd])[l.length + 1]? = some zb := by rw [List.getElem?_append_right (by omega), show l.length + 1 - l.length = 1 by omega]; rfl
  have g2 : (l ++ [za, zb, zc, zd])[l.length + 2]? = some zc := by rw [List.getElem?_append_right (by omega), show l.length + 2 - l.length = 2 by omega]; rfl
  have g3 : (l ++ [za, zb, zc, zd])[l.length + 3]? = some zd := by rw [List.getElem?_append_right (by omega), show l.length + 3 - l.length = 3 by omega]; rfl
  have hlen : (l ++ [za, zb, zc, zd]).length = l.length + 4 := by simp
  refine wp_region_inv hm hok hung (TwoInv (l ++ [za, zb, zc, zd]) l.length vs a0 w0 Z ya yb sa sb) (fun L hL => ?_) (fun i o hi L a w hLi hdn hJ => ?_) (fun L a w hL hJ => ?_)
  · have hF : ∀ {i : Nat} {p : Prop}, i < l.length + 4 → L i = true → p := fun hi hl => by rw [hL _ (by omega)] at hl; cases hl
    exact ⟨rfl, rfl, ⟨fun _ => rfl, fun _ => rfl, fun _ _ => rfl⟩, ⟨rfl, rfl, rfl, Nat.le_refl _, fun _ _ => rfl⟩, fun i o d hin _ _ hl => hF (by omega) hl, fun hl => hF (by omega) hl, fun hl => hF (by omega) hl, fun hl => hF (by omega) hl, fun hl => hF (by omega) hl, fun hl => hF (by omega) hl⟩
  · have hho : HoldsN (l ++ [za, zb, zc, zd]) l.length vs o a.eval := by
      intro j hj d hdj
      rw [Bool.and_eq_true, decide_eq_true_eq] at hj
      obtain ⟨oj, hoj, hdst⟩ := Option.bind_eq_some_iff.1 hdj
      exact hJ.vals j oj d hj.1 hoj hdst (hdn j hj.2)
    have hil : i < l.length + 4 := by rw [← hlen]; exact (List.getElem?_eq_some_iff.1 hi).1
    by_cases h0 : i < l.length
    · have hi' : l[i]? = some o := by rw [List.getElem?_append_left h0] at hi; exact hi
      have hg := hop.at i o hi'
      rw [Nat.zero_add] at hg
      refine wp_of_yields (hg a.eval w hJ.like hJ.below hho) fun v w' hv => ?_
      obtain ⟨rfl, rfl⟩ := hv
      intro L' hL'
      obtain ⟨f1, f2, f3, f4⟩ := two_frame (n := l.length) (vs := vs) hok hi hJ.size hJ.defers hJ.like ((vs[i]?).getD undef) hL' hJ.vals (fun _ => rfl)
      have e0 : L' l.length = L l.length := by rw [hL', if_neg (by omega)]
      have e1 : L' (l.length + 1) = L (l.length + 1) := by rw [hL', if_neg (by omega)]
      have e2 : L' (l.length + 2) = L (l.length + 2) := by rw [hL', if_neg (by omega)]
      have e3 : L' (l.length + 3) = L (l.length + 3) := by rw [hL', if_neg (by omega)]
      refine ⟨f1, f2, f3, hJ.below, f4, fun hl => ?_, fun hl => ?_, fun hl => by rw [e0]; exact hJ.cl1 (by rw [← e2]; exact hl), fun hl => by rw [e1]; exact hJ.cl2 (by rw [← e3]; exact hl), fun hl hl2 => ?_⟩
      · rw [put_other hok hi g0 (by omega) hsa, e2]
        exact hJ.one (by rw [← e0]; exact hl)
      · rw [put_other hok hi g1 (by omega) hsb, e3]
        exact hJ.two (by rw [← e1]; exact hl)
      · rw [put_other hok hi g0 (by omega) hsa, put_other hok hi g1 (by omega) hsb]
        exact hJ.apart (by rw [← e0]; exact hl) (by rw [← e1]; exact hl2)
    · have hcase : i = l.length ∨ i = l.length + 1 ∨ i = l.length + 2 ∨ i = l.length + 3 := by omega
      rcases hcase with rfl | rfl | rfl | rfl
      · rw [g0] at hi
        cases hi
        refine wp_of_yields (ha a.eval w) fun v w' hv => ?_
        obtain ⟨rfl, hbw, hnw⟩ := hv
        intro L' hL'
        obtain ⟨f1, f2, f3, f4⟩ := two_frame (n := l.length) (vs := vs) hok g0 hJ.size hJ.defers hJ.like (ptrTo w.heap.size) hL' hJ.vals (fun h => absurd h (by omega))
        have e1 : L' (l.length + 1) = L (l.length + 1) := by rw [hL', if_neg (by omega)]
        have e2 : L' (l.length + 2) = L (l.length + 2) := by rw [hL', if_neg (by omega)]
        have e3 : L' (l.length + 3) = L (l.length + 3) := by rw [hL', if_neg (by omega)]
        have e0 : L' l.length = true := by rw [hL', if_pos rfl]
        have n2 : L (l.length + 2) = false := by
          cases h : L (l.length + 2) with
          | false => rfl
          | true => rw [hJ.cl1 h] at hLi; cases hLi
        have hsz0 : sa < a.tmps.size := by rw [hJ.size]; exact ((drawnOk_at hok g0).2.1 sa hsa).1
        have hx : (a.put za.dst (ptrTo w.heap.size)).tmps.getD sa undef = ptrTo w.heap.size := by rw [hsa]; exact getD_put_same hsz0
        have hy : (a.put za.dst (ptrTo w.heap.size)).tmps.getD sb undef = a.tmps.getD sb undef := put_other hok g0 g1 (by omega) hsb _ _
        have hbs := hJ.below.size
        refine ⟨f1, f2, f3, hJ.below.trans (hbw.mono hbs), f4, fun _ => ⟨_, hx, hbs, by rw [e2, n2, if_neg (by decide)]; exact hnw⟩, fun hl => ?_, fun _ => e0, fun hl => by rw [e1]; exact hJ.cl2 (by rw [← e3]; exact hl), fun _ hl2 => ?_⟩
        · obtain ⟨h, q1, q2, q3⟩ := hJ.two (by rw [← e1]; exact hl)
          exact ⟨h, hy.trans q1, q2, by rw [e3, hbw.block h (Array.getElem?_eq_some_iff.1 q3).1]; exact q3⟩
        · obtain ⟨h, q1, q2, q3⟩ := hJ.two (by rw [← e1]; exact hl2)
          rw [hx, hy, q1]
          intro e
          have := ptrTo_inj e
          have := (Array.getElem?_eq_some_iff.1 q3).1
          omega
      · rw [g1] at hi
        cases hi
        refine wp_of_yields (hb a.eval w) fun v w' hv => ?_
        obtain ⟨rfl, hbw, hnw⟩ := hv
        intro L' hL'
        obtain ⟨f1, f2, f3, f4⟩ := two_frame (n := l.length) (vs := vs) hok g1 hJ.size hJ.defers hJ.like (ptrTo w.heap.size) hL' hJ.vals (fun h => absurd h (by omega))
        have e0 : L' l.length = L l.length := by rw [hL', if_neg (by omega)]
        have e2 : L' (l.length + 2) = L (l.length + 2) := by rw [hL', if_neg (by omega)]
        have e3 : L' (l.length + 3) = L (l.length + 3) := by rw [hL', if_neg (by omega)]
        have e1 : L' (l.length + 1) = true := by rw [hL', if_pos rfl]
        have n3 : L (l.length + 3) = false := by
          cases h : L (l.length + 3) with
          | false => rfl
          | true => rw [hJ.cl2 h] at hLi; cases hLi
        have hsz0 : sb < a.tmps.size := by rw [hJ.size]; exact ((drawnOk_at hok g1).2.1 sb hsb).1
        have hy : (a.put zb.dst (ptrTo w.heap.size)).tmps.getD sb undef = ptrTo w.heap.size := by rw [hsb]; exact getD_put_same hsz0
        have hx : (a.put zb.dst (ptrTo w.heap.size)).tmps.getD sa undef = a.tmps.getD sa undef := put_other hok g1 g0 (by omega) hsa _ _
        have hbs := hJ.below.size
        refine ⟨f1, f2, f3, hJ.below.trans (hbw.mono hbs), f4, fun hl => ?_, fun _ => ⟨_, hy, hbs, by rw [e3, n3, if_neg (by decide)]; exact hnw⟩, fun hl => by rw [e0]; exact hJ.cl1 (by rw [← e2]; exact hl), fun _ => e1, fun hl2 _ => ?_⟩
        · obtain ⟨h, q1, q2, q3⟩ := hJ.one (by rw [← e0]; exact hl)
          exact ⟨h, hx.trans q1, q2, by rw [e2, hbw.block h (Array.getElem?_eq_some_iff.1 q3).1]; exact q3⟩
        · obtain ⟨h, q1, q2, q3⟩ := hJ.one (by rw [← e0]; exact hl2)
          rw [hx, hy, q1]
          intro e
          have := ptrTo_inj e
          have := (Array.getElem?_eq_some_iff.1 q3).1
          omega
      · rw [g2] at hi
        cases hi
        have hl0 : L l.length = true := hdn _ hwc
        obtain ⟨g, q1, q2, q3⟩ := hJ.one hl0
        rw [hLi, if_neg (by decide)] at q3
        refine wp_of_yields (hc a.eval w g hJ.like hJ.below hho q1 q3) fun v w' hv => ?_
        obtain ⟨ht, hnw⟩ := hv
        intro L' hL'
        obtain ⟨f1, f2, f3, f4⟩ := two_frame (n := l.length) (vs := vs) hok g2 hJ.size hJ.defers hJ.like v hL' hJ.vals (fun h => absurd h (by omega))
        have e0 : L' l.length = L l.length := by rw [hL', if_neg (by omega)]
        have e1 : L' (l.length + 1) = L (l.length + 1) := by rw [hL', if_neg (by omega)]
        have e3 : L' (l.length + 3) = L (l.length + 3) := by rw [hL', if_neg (by omega)]
        have e2 : L' (l.length + 2) = true := by rw [hL', if_pos rfl]
        have hp : a.put zc.dst v = a := by rw [hc0]; rfl
        rw [hp] at f1 f2 f3 f4 ⊢
        have hbs := hJ.below.size
        have hbw : Below w0.heap.size w w' := ⟨ht.os, ht.tape, ht.output, ht.size, fun k hk => ht.block k (by omega) (by simp; omega)⟩
        refine ⟨f1, f2, f3, hJ.below.trans hbw, f4, fun _ => ⟨g, q1, q2, by rw [e2, if_pos rfl]; exact hnw⟩, fun hl => ?_, fun _ => by rw [e0]; exact hl0, fun hl => by rw [e1]; exact hJ.cl2 (by rw [← e3]; exact hl), fun _ hl2 => hJ.apart hl0 (by rw [← e1]; exact hl2)⟩
        have hl1 : L (l.length + 1) = true := by rw [← e1]; exact hl
        obtain ⟨h, r1, r2, r3⟩ := hJ.two hl1
        have hne : h ≠ g := fun e => hJ.apart hl0 hl1 (by rw [q1, r1, e])
        exact ⟨h, r1, r2, by rw [e3, ht.block h (Array.getElem?_eq_some_iff.1 r3).1 (by simpa using hne)]; exact r3⟩
      · rw [g3] at hi
        cases hi
        have hl1 : L (l.length + 1) = true := hdn _ hwd
        obtain ⟨g, q1, q2, q3⟩ := hJ.two hl1
        rw [hLi, if_neg (by decide)] at q3
        refine wp_of_yields (hd a.eval w g hJ.like hJ.below hho q1 q3) fun v w' hv => ?_
        obtain ⟨ht, hnw⟩ := hv
        intro L' hL'
        obtain ⟨f1, f2, f3, f4⟩ := two_frame (n := l.length) (vs := vs) hok g3 hJ.size hJ.defers hJ.like v hL' hJ.vals (fun h => absurd h (by omega))
        have e0 : L' l.length = L l.length := by rw [hL', if_neg (by omega)]
        have e1 : L' (l.length + 1) = L (l.length + 1) := by rw [hL', if_neg (by omega)]
        have e2 : L' (l.length + 2) = L (l.length + 2) := by rw [hL', if_neg (by omega)]
        have e3 : L' (l.length + 3) = true := by rw [hL', if_pos rfl]
        have hp : a.put zd.dst v = a := by rw [hd0]; rfl
        rw [hp] at f1 f2 f3 f4 ⊢
        have hbs := hJ.below.size
        have hbw : Below w0.heap.size w w' := ⟨ht.os, ht.tape, ht.output, ht.size, fun k hk => ht.block k (by omega) (by simp; omega)⟩
        refine ⟨f1, f2, f3, hJ.below.trans hbw, f4, fun hl => ?_, fun _ => ⟨g, q1, q2, by rw [e3, if_pos rfl]; exact hnw⟩, fun hl => by rw [e0]; exact hJ.cl1 (by rw [← e2]; exact hl), fun _ => by rw [e1]; exact hl1, fun hl2 _ => hJ.apart (by rw [← e0]; exact hl2) hl1⟩
        have hl0 : L l.length = true := by rw [← e0]; exact hl
        obtain ⟨h, r1, r2, r3⟩ := hJ.one hl0
        have hne : h ≠ g := fun e => hJ.apart hl0 hl1 (by rw [q1, r1, e])
        exact ⟨h, r1, r2, by rw [e2, ht.block h (Array.getElem?_eq_some_iff.1 r3).1 (by simpa using hne)]; exact r3⟩
  · obtain ⟨g, g1, g2, g3⟩ := hJ.one (hL _ (by omega))
    obtain ⟨h, h1, h2, h3⟩ := hJ.two (hL _ (by omega))
    rw [hL _ (by omega), if_pos rfl] at g3 h3
    refine hend a w g h hJ.defers hJ.size hJ.like hJ.below (fun i o d hi hd => ?_) g1 h1 g2 h2 (fun e => hJ.apart (hL _ (by omega)) (hL _ (by omega)) (by rw [g1, h1, e])) g3 h3
    have hil := (List.getElem?_eq_some_iff.1 hi).1
    exact hJ.vals i o d hil (by rw [List.getElem?_append_left hil]; exact hi) hd (hL i (by omega))

theorem t_val {ρ : Operand → Value} {o : Oper} {w : World} {v x : Value} (h : (execOp ρ o).run P w = .ok (.value v) w) (hv : v = x) : YieldsP P ρ o w (fun u w' => u = x ∧ w' = w) := by
  unfold YieldsP
  rw [h]
  exact ⟨hv, rfl⟩

theorem t_made {ρ : Operand → Value} {o : Oper} {w w' : World} {Z : Obj} (h : (execOp ρ o).run P w = .ok (.value (ptrTo w.heap.size)) w') (hb : Below w.heap.size w w') (hz : w'.heap[w.heap.size]? = some Z) : YieldsP P ρ o w (fun v w' => v = ptrTo w.heap.size ∧ Below w.heap.size w w' ∧ w'.heap[w.heap.size]? = some Z) := by
  unfold YieldsP
  rw [h]
  exact ⟨rfl, hb, hz⟩

theorem t_store {ρ : Operand → Value} {o : Oper} {w w' : World} {y : Obj} {g : Nat} (h : (execOp ρ o).run P w = .ok .skip w') (ht : Touch w w' [g]) (hy : w'.heap[g]? = some y) : YieldsP P ρ o w (fun _ w' => Touch w w' [g] ∧ w'.heap[g]? = some y) := by
  unfold YieldsP
  rw [h]
  exact ⟨ht, hy⟩
end
end Go.Proofs.YtopnldebekhelaaDoor
