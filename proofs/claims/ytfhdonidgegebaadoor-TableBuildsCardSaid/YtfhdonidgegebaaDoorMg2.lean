/- What the proof stands on, part 2. -/
import Derived.Test.YtfhdonidgegebaaDoorMg1
import Derived.Orders
/- A region that draws its order, shown by one fact an operation: what each leaves in its slot, in whatever world that has grown. -/
namespace Go.Proofs.YtfhdonidgegebaaDoor
open Go Go.RowKit

/-- The operation o, its operands being ρ's, yields in the world w a value of which R holds, with the world behind it. -/
def YieldsP (P : Program) (ρ : Operand → Value) (o : Oper) (w : World) (R : Value → World → Prop) : Prop :=
  match (execOp ρ o).run P w with
  | .ok (.value v) w' => R v w'
  | .ok .skip w' => R undef w'
  | .ok (.enter f args) w' => Calls P f args w' fun e w'' => ∃ v, e = .returned v ∧ R v w''
  | _ => False

/-- dsts are unlike and lie in the frame; edges lead back. -/
def drawnOk (l : List Oper) (n : Nat) : Bool :=
  (List.range l.length).all fun i =>
    match l[i]? with
    | none => false
    | some o => (o.after.all fun e => !Region.binds .any e || decide (e.on < i)) &&
        (match o.dst with
         | none => true
         | some d => decide (d < n) && (List.range l.length).all fun j => j == i || (match l[j]? with | some o' => o'.dst != some d | none => true)) &&
        (match o.guard with
         | none => true
         | some (j, _) => (o.after.any fun e => Region.binds .any e && e.on == j) && (match l[j]? with | some o' => o'.dst.isSome | none => false))

section
variable {P : Program} {id : Nat} {l : List Oper} {Q : Exit → Act → World → Prop} {a0 : Act} {w0 : World}

/-- what operation o leans on holds of ρ -/
def Leans (l : List Oper) (F : Nat → Value → World → Prop) (o : Oper) (ρ : Operand → Value) (w : World) : Prop :=
  ∀ j, (o.after.any fun e => Region.binds .any e && e.on == j) = true → ∀ d, (l[j]?).bind (·.dst) = some d → F j (ρ (.tmp d)) w

/-- ρ is the frame's, where no operation of the region writes. -/
structure Like (l : List Oper) (a0 : Act) (ρ : Operand → Value) : Prop where
  const : ∀ c, ρ (.const c) = c
  func : ∀ f, ρ (.func f) = .func (.func f) #[] #[]
  tmp : ∀ k, (l.all fun o => o.dst != some k) = true → ρ (.tmp k) = a0.tmps.getD k undef

structure Inv (l : List Oper) (F : Nat → Value → World → Prop) (a0 : Act) (w0 : World) (listed : Array Bool) (a : Act) (w : World) : Prop where
  defers : a.defers = a0.defers
  size : a.tmps.size = a0.tmps.size
  len : listed.size = l.length
  like : Like l a0 a.eval
  below : Below w0.heap.size w0 w
  facts : ∀ i o d, l[i]? = some o → o.dst = some d → listed.getD i true = true → F i (a.tmps.getD d undef) w

theorem drawnOk_at {n : Nat} (h : drawnOk l n = true) {i : Nat} {o : Oper} (hi : l[i]? = some o) :
    (∀ e ∈ o.after, Region.binds .any e = true → e.on < i) ∧ (∀ d, o.dst = some d → d < n ∧ ∀ j o', l[j]? = some o' → j ≠ i → o'.dst ≠ some d) ∧
    (∀ j b, o.guard = some (j, b) → (o.after.any fun e => Region.binds .any e && e.on == j) = true ∧ ∃ d, (l[j]?).bind (·.dst) = some d) := by
  have hlt : i < l.length := (List.getElem?_eq_some_iff.1 hi).1
  have h1 := List.all_eq_true.1 h i (List.mem_range.2 hlt)
  simp only [hi, Bool.and_eq_true] at h1
  obtain ⟨⟨h1, h2⟩, h3⟩ := h1
  refine ⟨fun e he hb => ?_, fun d hd => ?_, fun j b hg => ?_⟩
  · have := Array.all_eq_true_iff_forall_mem.1 h1 e he
    simpa [hb] using this
  · simp only [hd, Bool.and_eq_true, decide_eq_true_eq] at h2
    refine ⟨h2.1, fun j o' hj hne hdst => ?_⟩
    have hjl : j < l.length := (List.getElem?_eq_some_iff.1 hj).1
    have := List.all_eq_true.1 h2.2 j (List.mem_range.2 hjl)
    simp [hne, hj, hdst] at this
  · simp only [hg, Bool.and_eq_true] at h3
    refine ⟨h3.1, ?_⟩
    have h4 := h3.2
    cases hj : l[j]? with
    | none => simp [hj] at h4
    | some o' =>
      simp [hj] at h4
      obtain ⟨d, hd⟩ := Option.isSome_iff_exists.1 h4
      exact ⟨d, by simp [hd]⟩

theorem all_listed (hok : drawnOk l a0.tmps.size = true) {listed : Array Bool} (hl : listed.size = l.length) (hr : Region.ready .any l.toArray listed = []) :
    ∀ i, i < l.length → listed.getD i true = true := by
  intro i
  induction i using Nat.strongRecOn with
  | ind i ih =>
    intro hi
    by_cases hlist : listed.getD i true = true
    · exact hlist
    · exfalso
      have ho : l[i]? = some l[i] := List.getElem?_eq_getElem hi
      have h1 := (drawnOk_at hok ho).1
      have : i ∈ Region.ready .any l.toArray listed := by
        unfold Region.ready
        rw [List.mem_filter]
        refine ⟨List.mem_range.2 (by simpa using hi), ?_⟩
        simp only [Bool.and_eq_true, Bool.not_eq_true', List.getElem?_toArray, ho, Option.map_some, Option.getD_some]
        refine ⟨by simpa using hlist, ?_⟩
        rw [Array.all_eq_true_iff_forall_mem]
        intro e he
        by_cases hb : Region.binds .any e = true
        · have hlt := h1 e he hb
          have := ih e.on hlt (by omega)
          have hsz : e.on < listed.size := by omega
          simp [Array.getD, hsz] at this ⊢
          right
          exact this
        · simp [hb]
      rw [hr] at this
      cases this

theorem getD_put {a : Act} {d k : Nat} {v : Value} (h : k ≠ d) : (a.put (some d) v).tmps.getD k undef = a.tmps.getD k undef := by
  simp [Act.put, Ne.symm h]

theorem getD_put_same {a : Act} {d : Nat} {v : Value} (h : d < a.tmps.size) : (a.put (some d) v).tmps.getD d undef = v := by
  simp [Act.put, h]

theorem Inv.step {F : Nat → Value → World → Prop} (hF : ∀ i v w w', F i v w → Below w.heap.size w w' → F i v w') (hok : drawnOk l a0.tmps.size = true)
    {listed : Array Bool} {a : Act} {w w' : World} (h : Inv l F a0 w0 listed a w) {i : Nat} {o : Oper} (hi : l[i]? = some o) {v : Value} (hv : F i v w') (hb : Below w.heap.size w w') :
    Inv l F a0 w0 (listed.setIfInBounds i true) (a.put o.dst v) w' := by
  obtain ⟨_, h2, _⟩ := drawnOk_at hok hi
  refine ⟨?_, ?_, by simpa using h.len, ⟨fun c => rfl, fun f => rfl, fun k hk => ?_⟩, h.below.trans (hb.mono h.below.size), fun j o' d hj hd hl => ?_⟩
  · cases o.dst <;> exact h.defers
  · cases hd : o.dst with
    | none => exact h.size
    | some d => simpa [Act.put] using h.size
  · show (a.put o.dst v).tmps.getD k undef = _
    cases hd : o.dst with
    | none => exact h.like.tmp k hk
    | some d =>
      have hne : k ≠ d := by
        have := List.all_eq_true.1 hk o (List.mem_of_getElem? hi)
        simp [hd] at this
        exact fun e => this e.symm
      rw [getD_put hne]
      exact h.like.tmp k hk
  · by_cases hji : j = i
    · subst hji
      rw [hi] at hj
      cases hj
      obtain ⟨h3, _⟩ := h2 d hd
      rw [hd, getD_put_same (by rw [h.size]; exact h3)]
      exact hv
    · have hl' : listed.getD j true = true := by
        simp only [Array.getD_eq_getD_getElem?, Array.getElem?_setIfInBounds] at hl ⊢
        rw [if_neg (fun e => hji e.symm)] at hl
        exact hl
      have := hF _ _ _ _ (h.facts j o' d hj hd hl') hb
      cases hdo : o.dst with
      | none => exact this
      | some d' =>
        have hne : d ≠ d' := by
          intro e
          subst e
          exact (h2 d hdo).2 j o' hj hji hd
        rw [getD_put hne]
        exact this

theorem wp_of_yields {o : Oper} {a : Act} {w : World} {K : Act → World → Prop} {R : Value → World → Prop} (hy : YieldsP P a.eval o w R) (hK : ∀ v w', R v w' → K (a.put o.dst v) w') : o.wp P a w K Q := by
  unfold Oper.wp
  unfold YieldsP at hy
  generalize (execOp a.eval o).run P w = r at hy
  cases r with
  | ok n w' =>
    cases n <;> simp only at hy
    case value u => exact hK _ _ hy
    case skip => exact hK _ _ hy
    case enter f args => exact hy.mono fun e w'' ⟨v, he, hr⟩ => by subst he; exact hK _ _ hr
  | halt x w' => simp only at hy

theorem wpAny_of_facts {F : Nat → Value → World → Prop} (hF : ∀ i v w w', F i v w → Below w.heap.size w w' → F i v w') (hok : drawnOk l a0.tmps.size = true) (G : Nat → Bool)
    (hop : ∀ (i : Nat) (o : Oper), l[i]? = some o → ∀ ρ w, Like l a0 ρ → Below w0.heap.size w0 w → Leans l F o ρ w → if G i = true then YieldsP P ρ o w (fun v w' => F i v w' ∧ Below w.heap.size w w') else F i undef w)
    (hguard : ∀ (i : Nat) (o : Oper), l[i]? = some o → match o.guard with | none => G i = true | some (j, b) => ∀ v w, F j v w → ∃ b', v = .bool b' ∧ (b' == b) = G i)
    (hend : ∀ a w, a.defers = a0.defers → a.tmps.size = a0.tmps.size → Like l a0 a.eval → Below w0.heap.size w0 w → (∀ (i : Nat) (o : Oper) (d : Nat), l[i]? = some o → o.dst = some d → F i (a.tmps.getD d undef) w) → Q .normal a w) :
    ∀ (fuel : Nat) (listed : Array Bool) (a : Act) (w : World), (listed.toList.countP (· == false)) ≤ fuel → Inv l F a0 w0 listed a w → wpAny P .any l.toArray Q fuel listed a w := by
  have fin : ∀ (listed : Array Bool) (a : Act) (w : World), Inv l F a0 w0 listed a w → Region.ready .any l.toArray listed = [] → Q .normal a w := by
    intro listed a w h hr
    refine hend a w h.defers h.size h.like h.below fun i o d hi hd => h.facts i o d hi hd ?_
    exact all_listed hok h.len hr i (List.getElem?_eq_some_iff.1 hi).1
  intro fuel
  induction fuel with
  | zero =>
    intro listed a w hc h
    have hr : Region.ready .any l.toArray listed = [] := by
      unfold Region.ready
      rw [List.filter_eq_nil_iff]
      intro i hi
      have hil : i < listed.size := by rw [h.len]; simpa using hi
      have h0 : listed.toList.countP (· == false) = 0 := by omega
      rw [List.countP_eq_zero] at h0
      have := h0 listed[i] (by simp)
      simp [Array.getD, hil] at this ⊢
      simp [this]
    exact ⟨hr, fin listed a w h hr⟩
  | succ fuel ih =>
    intro listed a w hc h
    refine ⟨fin listed a w h, fun i hi => ?_⟩
    unfold Region.ready at hi
    rw [List.mem_filter] at hi
    obtain ⟨hi1, hi2⟩ := hi
    have hil : i < l.length := by simpa using hi1
    have ho : l[i]? = some l[i] := List.getElem?_eq_getElem hil
    simp only [Bool.and_eq_true, Bool.not_eq_true', List.getElem?_toArray, ho, Option.map_some, Option.getD_some] at hi2
    obtain ⟨hnl, haft⟩ := hi2
    rw [Array.all_eq_true_iff_forall_mem] at haft
    have hls : i < listed.size := by rw [h.len]; exact hil
    have hleans : Leans l F l[i] a.eval w := by
      intro j hj d hd
      rw [Array.any_eq_true'] at hj
      obtain ⟨e, he, hej⟩ := hj
      simp only [Bool.and_eq_true, beq_iff_eq] at hej
      obtain ⟨hb, rfl⟩ := hej
      have hle := haft e he
      rw [hb] at hle
      obtain ⟨oj, hoj, hdj⟩ := Option.bind_eq_some_iff.1 hd
      refine h.facts e.on oj d hoj hdj ?_
      have hjl : e.on < listed.size := by rw [h.len]; exact (List.getElem?_eq_some_iff.1 hoj).1
      simp [Array.getD, hjl] at hle ⊢
      exact hle
    have hcount : ((listed.setIfInBounds i true).toList.countP (· == false)) ≤ fuel := by
      have hli : listed.toList[i]'(by simpa using hls) = false := by
        simp [Array.getD, hls] at hnl
        simpa using hnl
      rw [Array.toList_setIfInBounds, List.countP_set (h := by simpa using hls), hli]
      have hpos : 0 < listed.toList.countP (· == false) := List.countP_pos_iff.2 ⟨false, by rw [← hli]; exact List.getElem_mem _, rfl⟩
      rw [if_pos (by decide), if_neg (by decide)]
      omega
    have hstep := fun (v : Value) (w' : World) (hv : F i v w') (hb : Below w.heap.size w w') => ih (listed.setIfInBounds i true) (a.put l[i].dst v) w' hcount (h.step hF hok ho hv hb)
    have hO := hop i l[i] ho a.eval w h.like h.below hleans
    have hGd := hguard i l[i] ho
    unfold wpOp
    simp only [List.getElem?_toArray, ho]
    have hw : Region.wanted l[i] (yielded l.toArray a.tmps) = G i := by
      unfold Region.wanted
      cases hg : l[i].guard with
      | none => simp only [hg] at hGd; exact hGd.symm
      | some jb =>
        obtain ⟨j, b⟩ := jb
        simp only [hg] at hGd
        obtain ⟨hbind, d, hd⟩ := (drawnOk_at hok ho).2.2 j b hg
        obtain ⟨b', hv', hbb⟩ := hGd _ _ (hleans j hbind d hd)
        obtain ⟨oj, hoj, hdj⟩ := Option.bind_eq_some_iff.1 hd
        have hdlt := ((drawnOk_at hok hoj).2.1 d hdj).1
        have hsz : d < a.tmps.size := by rw [h.size]; exact hdlt
        have hval : a.tmps[d]? = some (.bool b') := by
          rw [Array.getElem?_eq_getElem hsz]
          have : a.eval (.tmp d) = a.tmps[d] := by simp [Act.eval, Array.getD, hsz]
          rw [← this, hv']
        simp only [yielded, List.getElem?_toArray, hoj, Option.bind_some, hdj, hval]
        rw [← hbb]
        cases b' <;> cases b <;> rfl
    rw [hw]
    by_cases hG : G i = true
    · rw [if_pos hG] at hO ⊢
      exact .inl (wp_of_yields hO fun v w' hr => hstep v w' hr.1 hr.2)
    · rw [if_neg hG] at hO ⊢
      exact hstep undef w hO (Below.refl _ _)

/-- THE REGION. -/
theorem wp_region_facts (hm : P.follows .mixedOrders = true) {F : Nat → Value → World → Prop} (hF : ∀ i v w w', F i v w → Below w.heap.size w w' → F i v w') (hok : drawnOk l a0.tmps.size = true) (G : Nat → Bool)
    (hop : ∀ (i : Nat) (o : Oper), l[i]? = some o → ∀ ρ w, Like l a0 ρ → Below w0.heap.size w0 w → Leans l F o ρ w → if G i = true then YieldsP P ρ o w (fun v w' => F i v w' ∧ Below w.heap.size w w') else F i undef w)
    (hguard : ∀ (i : Nat) (o : Oper), l[i]? = some o → match o.guard with | none => G i = true | some (j, b) => ∀ v w, F j v w → ∃ b', v = .bool b' ∧ (b' == b) = G i)
    (hend : ∀ a w, a.defers = a0.defers → a.tmps.size = a0.tmps.size → Like l a0 a.eval → Below w0.heap.size w0 w → (∀ (i : Nat) (o : Oper) (d : Nat), l[i]? = some o → o.dst = some d → F i (a.tmps.getD d undef) w) → Q .normal a w) :
    (Code.region id l.toArray true).wp P Q a0 w0 := by
  refine wp_region_any hm ?_
  refine wpAny_of_facts hF hok G hop hguard hend _ _ _ _ ?_ ⟨rfl, rfl, by simp, ⟨fun _ => rfl, fun _ => rfl, fun _ _ => rfl⟩, ⟨rfl, rfl, rfl, Nat.le_refl _, fun _ _ => rfl⟩, fun i o d hi _ hl => ?_⟩
  · exact Nat.le_trans List.countP_le_length (by simp)
  · have := (List.getElem?_eq_some_iff.1 hi).1
    simp [Array.getD, this] at hl

/-- A fact on a slot that goes on holding as the world grows. -/
structure SlotFact where
  p : Value → World → Prop
  stable : ∀ v w w', p v w → Below w.heap.size w w' → p v w'

/-- the slot holds x -/
def eqF (x : Value) : SlotFact := ⟨fun v _ => v = x, fun _ _ _ h _ => h⟩
def anyF : SlotFact := ⟨fun _ _ => True, fun _ _ _ _ _ => trivial⟩
def factsOf (fs : List SlotFact) (i : Nat) : Value → World → Prop := ((fs[i]?).getD anyF).p

theorem factsOf_stable (fs : List SlotFact) : ∀ i v w w', factsOf fs i v w → Below w.heap.size w w' → factsOf fs i v w' := fun _ v w w' h hb => SlotFact.stable _ v w w' h hb

def AllFrom (T : Nat → Oper → Prop) : Nat → List Oper → Prop
  | _, [] => True
  | i, o :: r => T i o ∧ AllFrom T (i + 1) r

theorem AllFrom.at {T : Nat → Oper → Prop} : ∀ {l : List Oper} {k : Nat}, AllFrom T k l → ∀ i o, l[i]? = some o → T (k + i) o
  | [], _, _, _, _, h => by simp at h
  | o :: r, k, h, i, o', hi => by
    cases i with
    | zero => simp at hi; subst hi; exact h.1
    | succ i =>
      have := AllFrom.at h.2 i o' (by simpa using hi)
      rwa [show k + 1 + i = k + (i + 1) by omega] at this

/-- what is to be shown of one operation -/
def OpGoal (P : Program) (l : List Oper) (fs : List SlotFact) (a0 : Act) (w0 : World) (i : Nat) (o : Oper) : Prop :=
  ∀ ρ w, Like l a0 ρ → Below w0.heap.size w0 w → Leans l (factsOf fs) o ρ w → YieldsP P ρ o w (fun v w' => factsOf fs i v w' ∧ Below w.heap.size w w')

def GuardGoal (fs : List SlotFact) (o : Oper) : Prop := match o.guard with | none => True | some (j, b) => ∀ v w, factsOf fs j v w → v = .bool b

/-- THE REGION, ALL OF WHOSE OPERATIONS ARE CARRIED OUT. -/
theorem wp_region_all (hm : P.follows .mixedOrders = true) (fs : List SlotFact) (hok : drawnOk l a0.tmps.size = true)
    (hop : AllFrom (OpGoal P l fs a0 w0) 0 l) (hguard : AllFrom (fun _ o => GuardGoal fs o) 0 l)
    (hend : ∀ a w, a.defers = a0.defers → a.tmps.size = a0.tmps.size → Like l a0 a.eval → Below w0.heap.size w0 w → (∀ (i : Nat) (o : Oper) (d : Nat), l[i]? = some o → o.dst = some d → factsOf fs i (a.tmps.getD d undef) w) → Q .normal a w) :
    (Code.region id l.toArray true).wp P Q a0 w0 := by
  refine wp_region_facts hm (factsOf_stable fs) hok (fun _ => true) (fun i o hi ρ w h1 h2 h3 => ?_) (fun i o hi => ?_) hend
  · rw [if_pos rfl]
    have := hop.at i o hi
    rw [Nat.zero_add] at this
    exact this ρ w h1 h2 h3
  · have := hguard.at i o hi
    unfold GuardGoal at this
    cases hg : o.guard with
    | none => rfl
    | some jb =>
      obtain ⟨j, b⟩ := jb
      simp only [hg] at this ⊢
      intro v w hv
      exact ⟨b, this v w hv, by simp⟩

theorem y_val {ρ : Operand → Value} {o : Oper} {w : World} {v : Value} {p : Value → World → Prop} (h : (execOp ρ o).run P w = .ok (.value v) w) (hp : p v w) : YieldsP P ρ o w (fun u w' => p u w' ∧ Below w.heap.size w w') := by
  unfold YieldsP
  rw [h]
  exact ⟨hp, Below.refl _ _⟩

theorem y_call {ρ : Operand → Value} {o : Oper} {w : World} {f : FuncId} {args : Array Value} {p : Value → World → Prop} (h : (execOp ρ o).run P w = .ok (.enter f args) w) (hc : Calls P f args w fun e w'' => ∃ v, e = .returned v ∧ p v w'' ∧ Below w.heap.size w w'') : YieldsP P ρ o w (fun u w' => p u w' ∧ Below w.heap.size w w') := by
  unfold YieldsP
  rw [h]
  exact hc
end

/-- the slot holds a slice of the bytes l -/
def bytesF (l : List UInt8) : SlotFact := ⟨fun v w => ∃ n, Reads w 1 v n (bcells l), fun _ _ _ ⟨n, h⟩ hb => ⟨n, h.below' hb⟩⟩
end Go.Proofs.YtfhdonidgegebaaDoor

/- A region that draws its order, shown by an invariant over what has been carried out. -/
namespace Go.Proofs.YtfhdonidgegebaaDoor
open Go Go.RowKit

section
variable {P : Program} {id : Nat} {l : List Oper} {Q : Exit → Act → World → Prop} {a0 : Act} {w0 : World}

theorem wpAny_of_inv (hok : drawnOk l a0.tmps.size = true) (hung : l.all (·.guard.isNone) = true) (J : (Nat → Bool) → Act → World → Prop)
    (hstep : ∀ (i : Nat) (o : Oper), l[i]? = some o → ∀ (L : Nat → Bool) (a : Act) (w : World), L i = false → (∀ j, (o.after.any fun e => Region.binds .any e && e.on == j) = true → L j = true) → J L a w → o.wp P a w (fun a' w' => ∀ L' : Nat → Bool, (∀ k, L' k = if k = i then true else L k) → J L' a' w') Q)
    (hend : ∀ (L : Nat → Bool) (a : Act) (w : World), (∀ i, i < l.length → L i = true) → J L a w → Q .normal a w) :
    ∀ (fuel : Nat) (listed : Array Bool) (a : Act) (w : World), listed.size = l.length → (listed.toList.countP (· == false)) ≤ fuel → J (fun i => listed.getD i true) a w → wpAny P .any l.toArray Q fuel listed a w := by
  have fin : ∀ (listed : Array Bool) (a : Act) (w : World), listed.size = l.length → J (fun i => listed.getD i true) a w → Region.ready .any l.toArray listed = [] → Q .normal a w := by
    intro listed a w hl h hr
    exact hend _ a w (fun i hi => all_listed hok hl hr i hi) h
  intro fuel
  induction fuel with
  | zero =>
    intro listed a w hl hc h
    have hr : Region.ready .any l.toArray listed = [] := by
      unfold Region.ready
      rw [List.filter_eq_nil_iff]
      intro i hi
      have hil : i < listed.size := by rw [hl]; simpa using hi
      have h0 : listed.toList.countP (· == false) = 0 := by omega
      rw [List.countP_eq_zero] at h0
      have := h0 listed[i] (by simp)
      simp [Array.getD, hil] at this ⊢
      simp [this]
    exact ⟨hr, fin listed a w hl h hr⟩
  | succ fuel ih =>
    intro listed a w hl hc h
    refine ⟨fin listed a w hl h, fun i hi => ?_⟩
    unfold Region.ready at hi
    rw [List.mem_filter] at hi
    obtain ⟨hi1, hi2⟩ := hi
    have hil : i < l.length := by simpa using hi1
    have ho : l[i]? = some l[i] := List.getElem?_eq_getElem hil
    simp only [Bool.and_eq_true, Bool.not_eq_true', List.getElem?_toArray, ho, Option.map_some, Option.getD_some] at hi2
    obtain ⟨hnl, haft⟩ := hi2
    rw [Array.all_eq_true_iff_forall_mem] at haft
    have hls : i < listed.size := by rw [hl]; exact hil
    have hprev : ∀ j, (l[i].after.any fun e => Region.binds .any e && e.on == j) = true → listed.getD j true = true := by
      intro j hj
      rw [Array.any_eq_true'] at hj
      obtain ⟨e, he, hej⟩ := hj
      simp only [Bool.and_eq_true, beq_iff_eq] at hej
      obtain ⟨hb, rfl⟩ := hej
      have hle := haft e he
      rw [hb] at hle
      by_cases hjl : e.on < listed.size
      · simp [Array.getD, hjl] at hle ⊢
        exact hle
      · simp [Array.getD, hjl]
    have hcount : ((listed.setIfInBounds i true).toList.countP (· == false)) ≤ fuel := by
      have hli : listed.toList[i]'(by simpa using hls) = false := by
        simp [Array.getD, hls] at hnl
        simpa using hnl
      rw [Array.toList_setIfInBounds, List.countP_set (h := by simpa using hls), hli]
      have hpos : 0 < listed.toList.countP (· == false) := List.countP_pos_iff.2 ⟨false, by rw [← hli]; exact List.getElem_mem _, rfl⟩
      rw [if_pos (by decide), if_neg (by decide)]
      omega
    have hLi : listed.getD i true = false := by
      simp [Array.getD, hls] at hnl ⊢
      exact hnl
    have hs := hstep i l[i] ho _ a w hLi hprev h
    have hg : l[i].guard = none := by
      have := List.all_eq_true.1 hung l[i] (List.getElem_mem _)
      simpa using this
    unfold wpOp
    simp only [List.getElem?_toArray, ho]
    rw [if_pos (by unfold Region.wanted; rw [hg])]
    refine .inl (Oper.wp_mono (fun a' w' hJ => ?_) hs)
    refine ih _ a' w' (by simpa using hl) hcount (hJ _ fun k => ?_)
    by_cases hk : k = i
    · subst hk
      simp [Array.getD, hls]
    · simp only [Array.getD_eq_getD_getElem?, Array.getElem?_setIfInBounds]
      rw [if_neg (fun e => hk e.symm), if_neg hk]

theorem wp_region_inv (hm : P.follows .mixedOrders = true) (hok : drawnOk l a0.tmps.size = true) (hung : l.all (·.guard.isNone) = true) (J : (Nat → Bool) → Act → World → Prop)
    (hJ : ∀ L : Nat → Bool, (∀ i, i < l.length → L i = false) → J L a0 w0.drew)
    (hstep : ∀ (i : Nat) (o : Oper), l[i]? = some o → ∀ (L : Nat → Bool) (a : Act) (w : World), L i = false → (∀ j, (o.after.any fun e => Region.binds .any e && e.on == j) = true → L j = true) → J L a w → o.wp P a w (fun a' w' => ∀ L' : Nat → Bool, (∀ k, L' k = if k = i then true else L k) → J L' a' w') Q)
    (hend : ∀ (L : Nat → Bool) (a : Act) (w : World), (∀ i, i < l.length → L i = true) → J L a w → Q .normal a w) :
    (Code.region id l.toArray true).wp P Q a0 w0 := by
  refine wp_region_any hm ?_
  refine wpAny_of_inv hok hung J hstep hend _ _ _ _ (by simp) ?_ (hJ _ fun i hi => ?_)
  · exact Nat.le_trans List.countP_le_length (by simp)
  · simp [Array.getD, hi]
end
end Go.Proofs.YtfhdonidgegebaaDoor

/- Behind a region that draws its order, the frame is the one before it with the region's own slots put. -/
namespace Go.Proofs.YtfhdonidgegebaaDoor
open Go Go.RowKit

theorem act_ext {a b : Act} (hd : a.defers = b.defers) (hs : a.tmps.size = b.tmps.size) (h : ∀ k, k < a.tmps.size → a.tmps.getD k undef = b.tmps.getD k undef) : a = b := by
  cases a with
  | mk ta da =>
    cases b with
    | mk tb db =>
      simp only at hd hs h
      have ht : ta = tb := Array.ext hs fun k h1 h2 => by
        have := h k h1
        simpa [Array.getD, h1, h2] using this
      subst ht
      subst hd
      rfl

theorem size_put (a : Act) (d : Nat) (v : Value) : (a.put (some d) v).tmps.size = a.tmps.size := by simp [Act.put]
theorem defers_put (a : Act) (d : Nat) (v : Value) : (a.put (some d) v).defers = a.defers := rfl

def putAll (aa a : Act) (ds : List Nat) : Act := ds.foldl (fun a d => a.put (some d) (aa.tmps.getD d undef)) a

theorem putAll_spec (aa : Act) : ∀ (ds : List Nat) (a : Act), (putAll aa a ds).defers = a.defers ∧ (putAll aa a ds).tmps.size = a.tmps.size ∧
    ∀ k, k < a.tmps.size → (putAll aa a ds).tmps.getD k undef = if k ∈ ds then aa.tmps.getD k undef else a.tmps.getD k undef
  | [], a => ⟨rfl, rfl, fun k _ => by simp [putAll]⟩
  | d :: ds, a => by
    obtain ⟨h1, h2, h3⟩ := putAll_spec aa ds (a.put (some d) (aa.tmps.getD d undef))
    refine ⟨h1, h2.trans (size_put a d _), fun k hk => ?_⟩
    have := h3 k (by rw [size_put]; exact hk)
    show (putAll aa (a.put (some d) (aa.tmps.getD d undef)) ds).tmps.getD k undef = _
    rw [this]
    by_cases hkd : k = d
    · subst hkd
      rw [getD_put_same hk]
      simp
    · rw [getD_put hkd]
      simp [hkd]

theorem act_of_like {l : List Oper} {a0 aa : Act} (hdef : aa.defers = a0.defers) (hsz : aa.tmps.size = a0.tmps.size) (hlk : Like l a0 aa.eval) (ds : List Nat) (n : Nat) (hn : a0.tmps.size = n)
    (hds : ((List.range n).all fun k => ds.contains k || l.all fun o => o.dst != some k) = true) : aa = putAll aa a0 ds := by
  subst hn
  obtain ⟨h1, h2, h3⟩ := putAll_spec aa ds a0
  refine act_ext (hdef.trans h1.symm) (hsz.trans h2.symm) fun k hk => ?_
  rw [h3 k (by omega)]
  by_cases hkd : k ∈ ds
  · rw [if_pos hkd]
  · rw [if_neg hkd]
    have := List.all_eq_true.1 hds k (by simpa using (by omega : k < a0.tmps.size))
    have h4 := hlk.tmp k (by simpa [hkd] using this)
    exact h4
end Go.Proofs.YtfhdonidgegebaaDoor

/- A region that draws its order and ends in one operation that waits for all others: facts for the others, then that one. -/
namespace Go.Proofs.YtfhdonidgegebaaDoor
open Go Go.RowKit

section
variable {P : Program} {id : Nat} {l : List Oper} {z : Oper} {Q : Exit → Act → World → Prop} {a0 : Act} {w0 : World}

structure InvL (l : List Oper) (F : Nat → Value → World → Prop) (a0 : Act) (w0 : World) (L : Nat → Bool) (a : Act) (w : World) : Prop where
  defers : a.defers = a0.defers
  size : a.tmps.size = a0.tmps.size
  like : Like l a0 a.eval
  below : Below w0.heap.size w0 w
  facts : ∀ i o d, l[i]? = some o → o.dst = some d → L i = true → F i (a.tmps.getD d undef) w

theorem last_at {i : Nat} {o : Oper} (h : (l ++ [z])[i]? = some o) : (i < l.length ∧ l[i]? = some o) ∨ (i = l.length ∧ o = z) := by
  by_cases hi : i < l.length
  · left
    rw [List.getElem?_append_left hi] at h
    exact ⟨hi, h⟩
  · right
    rw [List.getElem?_append_right (by omega)] at h
    have h1 : i - l.length = 0 := by
      have := (List.getElem?_eq_some_iff.1 h).1
      simp at this
      omega
    rw [h1] at h
    simp at h
    exact ⟨by omega, h.symm⟩

theorem in_l {i : Nat} {o : Oper} (h : l[i]? = some o) : (l ++ [z])[i]? = some o := by
  rw [List.getElem?_append_left (List.getElem?_eq_some_iff.1 h).1]
  exact h

theorem InvL.step {F : Nat → Value → World → Prop} (hF : ∀ i v w w', F i v w → Below w.heap.size w w' → F i v w') (hok : drawnOk (l ++ [z]) a0.tmps.size = true)
    {L L' : Nat → Bool} {a : Act} {w w' : World} (h : InvL l F a0 w0 L a w) {i : Nat} {o : Oper} (hi : l[i]? = some o) {v : Value} (hv : F i v w') (hb : Below w.heap.size w w')
    (hL : ∀ k, L' k = if k = i then true else L k) : InvL l F a0 w0 L' (a.put o.dst v) w' := by
  obtain ⟨_, h2, _⟩ := drawnOk_at hok (in_l (z := z) hi)
  refine ⟨?_, ?_, ⟨fun c => rfl, fun f => rfl, fun k hk => ?_⟩, h.below.trans (hb.mono h.below.size), fun j o' d hj hd hl => ?_⟩
  · cases o.dst <;> exact h.defers
  · cases hd : o.dst with
    | none => exact h.size
    | some d => simpa [Act.put] using h.size
  · show (a.put o.dst v).tmps.getD k undef = _
    cases hd : o.dst with
    | none => exact h.like.tmp k hk
    | some d =>
      have hne : k ≠ d := by
        have := List.all_eq_true.1 hk o (List.mem_of_getElem? hi)
        simp [hd] at this
        exact fun e => this e.symm
      rw [getD_put hne]
      exact h.like.tmp k hk
  · by_cases hji : j = i
    · subst hji
      rw [hi] at hj
      cases hj
      obtain ⟨h3, _⟩ := h2 d hd
      rw [hd, getD_put_same (by rw [h.size]; exact h3)]
      exact hv
    · have hl' : L j = true := by
        have := hL j
        rw [if_neg hji] at this
        rw [← this]
        exact hl
      have := hF _ _ _ _ (h.facts j o' d hj hd hl') hb
      cases hdo : o.dst with
      | none => exact this
      | some d' =>
        have hne : d ≠ d' := by
          intro e
          subst e
          exact (h2 d hdo).2 j o' (in_l hj) hji hd
        rw [getD_put hne]
        exact this

def waitsAll (l : List Oper) (z : Oper) : Bool := (List.range l.length).all fun j => z.after.any fun e => Region.binds .any e && e.on == j

theorem wp_region_last (hm : P.follows .mixedOrders = true) (fs : List SlotFact) (hok : drawnOk (l ++ [z]) a0.tmps.size = true) (hung : (l ++ [z]).all (·.guard.isNone) = true) (hz : waitsAll l z = true)
    (hop : AllFrom (OpGoal P l fs a0 w0) 0 l)
    (hend : ∀ a w, a.defers = a0.defers → a.tmps.size = a0.tmps.size → Like l a0 a.eval → Below w0.heap.size w0 w → (∀ (i : Nat) (o : Oper) (d : Nat), l[i]? = some o → o.dst = some d → factsOf fs i (a.tmps.getD d undef) w) → z.wp P a w (fun a' w' => Q .normal a' w') Q) :
    (Code.region id (l ++ [z]).toArray true).wp P Q a0 w0 := by
  refine wp_region_inv hm hok hung (fun L a w => (L l.length = true ∧ (∀ i, i < l.length → L i = true) ∧ Q .normal a w) ∨ (L l.length = false ∧ InvL l (factsOf fs) a0 w0 L a w)) (fun L hL => ?_) (fun i o hi L a w hLi hprev hJ => ?_) (fun L a w hL hJ => ?_)
  · refine .inr ⟨hL _ (by simp), rfl, rfl, ⟨fun _ => rfl, fun _ => rfl, fun _ _ => rfl⟩, ⟨rfl, rfl, rfl, Nat.le_refl _, fun _ _ => rfl⟩, fun i o d hi _ hl => ?_⟩
    rw [hL i (by have := (List.getElem?_eq_some_iff.1 hi).1; simp; omega)] at hl
    cases hl
  · rcases last_at hi with ⟨hlt, hio⟩ | ⟨rfl, rfl⟩
    · rcases hJ with ⟨_, h2, _⟩ | ⟨hn, hinv⟩
      · rw [h2 i hlt] at hLi
        cases hLi
      · have hg := hop.at i o hio
        rw [Nat.zero_add] at hg
        have hleans : Leans l (factsOf fs) o a.eval w := by
          intro j hj d hd
          obtain ⟨oj, hoj, hdj⟩ := Option.bind_eq_some_iff.1 hd
          exact hinv.facts j oj d hoj hdj (hprev j hj)
        refine wp_of_yields (hg a.eval w hinv.like hinv.below hleans) fun v w' hv L' hL' => .inr ⟨?_, hinv.step (factsOf_stable fs) hok hio hv.1 hv.2 hL'⟩
        rw [hL' l.length, if_neg (by omega)]
        exact hn
    · rcases hJ with ⟨h1, _, _⟩ | ⟨hn, hinv⟩
      · rw [h1] at hLi
        cases hLi
      · have hall : ∀ i, i < l.length → L i = true := fun j hj => hprev j (List.all_eq_true.1 hz j (List.mem_range.2 hj))
        refine Oper.wp_mono (fun a' w' hq L' hL' => .inl ⟨?_, fun j hj => ?_, hq⟩) (hend a w hinv.defers hinv.size hinv.like hinv.below fun i o d hi hd => hinv.facts i o d hi hd (hall i (List.getElem?_eq_some_iff.1 hi).1))
        · rw [hL' l.length, if_pos rfl]
        · rw [hL' j, if_neg (by omega)]
          exact hall j hj
  · rcases hJ with ⟨_, _, hq⟩ | ⟨hn, _⟩
    · exact hq
    · rw [hL l.length (by simp)] at hn
      cases hn
end

/-- the slot holds the address of a new row of cells -/
def boxF (B : Nat) (cs : Array Value) (t : TypeId) : SlotFact := ⟨fun v w => ∃ g, v = .pointer (some ⟨g, 0, none⟩) ∧ B ≤ g ∧ w.heap[g]? = some (.cells cs t (0, 0)),
  fun _ _ _ ⟨g, h1, h2, h3⟩ hb => ⟨g, h1, h2, (hb.block g (Array.getElem?_eq_some_iff.1 h3).1).trans h3⟩⟩

/-- the slot holds a slice of a row of its own -/
def rowF (n : Nat) (xs : List Value) : SlotFact := ⟨fun v w => ∃ g, v = .slice (some ⟨g, 0, none⟩) n n ∧ Reads w 1 (.slice (some ⟨g, 0, none⟩) n n) n xs,
  fun _ _ _ ⟨g, h1, h2⟩ hb => ⟨g, h1, h2.below' hb⟩⟩

theorem y_new' {P : Program} {ρ : Operand → Value} {o : Oper} {w w' : World} {v : Value} {p : Value → World → Prop} (h : (execOp ρ o).run P w = .ok (.value v) w') (hp : p v w') (hb : Below w.heap.size w w') : YieldsP P ρ o w (fun u w' => p u w' ∧ Below w.heap.size w w') := by
  unfold YieldsP
  rw [h]
  exact ⟨hp, hb⟩
end Go.Proofs.YtfhdonidgegebaaDoor

/- Rows of the call's own, appended to: they stay the call's own. -/
namespace Go.Proofs.YtfhdonidgegebaaDoor
open Go Go.RowKit

theorem run_append_owns {P : Program} {w : World} (B : Nat) (t tx ty e : TypeId) (i : TypeInfo) (z : Value) (size bytes : Nat) (ht : P.underlying t = some (.slice e)) (hi : P.info? e = some i) (hz : i.zero = some z)
    (hsize : i.size = size) (hby : i.bytes = bytes) (hzs : z.cells.size = size)
    (v : Value) (n : Nat) (xs : List Value) (h0 : w.ownsRow B e size v n xs) (x : Value) (m : Nat) (news : List Value) (hs : Src P size tx x m news w)
    (h63 : n + m ≤ maxLen) (hbytes : (n + m) * bytes ≤ 140737488355328) (hB : B ≤ w.heap.size) :
    ∃ v' w', (Builtin.append_ #[t, tx] ty #[v, x]).run P w = .ok v' w' ∧ w'.ownsRow B e size v' (n + m) (xs ++ news) ∧ w.grownBy w' v.ownBlock ∧ Below B w w' ∧ Moves w v v' := by
  subst hsize
  subst hby
  have h : Fresh B w e i.size v n xs := ⟨ownsRow.reads h0, .inr h0⟩
  have hsmall : n + m ≤ 9223372036854775807 := by simp only [maxLen] at h63; omega
  have hnl := hs.newsLen
  have hxl := h.1.1
  have hlen : (xs ++ news).length = (n + m) * i.size := by rw [List.length_append, hxl, hnl, Nat.add_mul]
  have grow : ∀ (bs : Option Addr) (sc : Nat), v = .slice bs n sc → sc < n + m →
      ∃ v' w', (Builtin.append_ #[t, tx] ty #[v, x]).run P w = .ok v' w' ∧ w'.ownsRow B e i.size v' (n + m) (xs ++ news) ∧ w.grownBy w' v.ownBlock ∧ Below B w w' ∧ Moves w v v' := by
    rintro bs sc hv hg
    have hold := h.1.firstCells (P := P) w.drew rfl
    subst hv
    have hrun := run_append_grow_src (P := P) w t tx ty e i z ht hi hz bs n sc xs hold x m news hs hg (by omega) (growslice_fits hg hbytes)
    have hge := grownCap_ge w (n + m) sc e
    have hcm := grownCap_le_maxLen w (n + m) sc e h63
    have hblk : ∀ k, k < w.heap.size → (w.drew.alloc (.cells ((xs ++ news).toArray ++ Builtin.zeroCells z.cells (grownCap w (n + m) sc e - (n + m))) e)).heap[k]? = w.heap[k]? := fun k hk => Below.heap_alloc w.drew _ k hk
    have hown : (w.drew.alloc (.cells ((xs ++ news).toArray ++ Builtin.zeroCells z.cells (grownCap w (n + m) sc e - (n + m))) e)).ownsRow B e i.size (.slice (some ⟨w.heap.size, 0, none⟩) (n + m) (grownCap w (n + m) sc e)) (n + m) (xs ++ news) := by
      refine ⟨hlen, .inr ⟨w.heap.size, _, _, rfl, hB, heap_alloc_new w.drew _, hge, hcm, ?_, ?_⟩⟩
      · rw [Array.size_append, List.size_toArray, hlen, size_zeroCells, hzs, ← Nat.add_mul]
        congr 1
        omega
      · simp only [Array.toList_append]
        rw [← hlen]
        exact List.take_left
    exact ⟨_, _, hrun, hown, ⟨rfl, rfl, rfl, by simp, fun k hk _ => hblk k hk⟩, ⟨rfl, rfl, rfl, by simp, fun k hk => hblk k (by omega)⟩, fun b hb _ => by simp [Value.ownBlock]; omega⟩
  by_cases hm : m = 0
  · subst hm
    have hn : news = [] := List.eq_nil_of_length_eq_zero (by simpa using hnl)
    subst hn
    obtain ⟨_, a, cap, rfl, h1, h2, h3⟩ := h.1
    exact ⟨_, w, run_append_nothing (P := P) w t tx ty e i ht hi a n cap h1 x hs, by simpa using h0, World.grownBy.refl _ _, Below.refl _ _, fun _ _ h => h⟩
  · have hown := h0
    · rcases hown.2 with ⟨hv, h0⟩ | ⟨g, cap, cur, hv, hbg, hg, hnc, hcm, hcs, htake⟩
      · subst h0
        exact grow none 0 hv (by omega)
      · by_cases hroom : n + m ≤ cap
        · subst hv
          have hfit : n * i.size + news.length ≤ cur.size := by rw [hnl, hcs, ← Nat.add_mul]; exact Nat.mul_le_mul_right _ hroom
          have hc : ∀ j, j < news.length → (w.cell? ⟨g, 0 + n * i.size + j, none⟩).isSome = true := by
            intro j hj
            have hlt : n * i.size + j < cur.size := by omega
            simp [World.cell?, hg, Array.getElem?_eq_getElem hlt]
          have hf : ∀ j, j < news.length → w.frozen? ⟨g, 0 + n * i.size + j, none⟩ = false := by
            intro j hj
            simp [World.frozen?, hg]
          have hrun := run_append_room_src (P := P) w t tx ty e i ht hi g 0 n cap x m news hs hroom hc hf
          have hk := World.keptBut_setCells g (may := fun p => p.block = g) news (0 + n * i.size) w (fun _ _ => rfl)
          have hblk : ∀ k, k < w.heap.size → k ≠ g → (w.setCells g (0 + n * i.size) news).heap[k]? = w.heap[k]? := fun k hk1 hk2 => World.heap_setCells_other w g _ news hk1 hk2
          have hcell : ∀ j u, (xs ++ news)[j]? = some u → (w.setCells g (0 + n * i.size) news).cell? ⟨g, 0 + j, none⟩ = some u := by
            intro j u hj
            by_cases hjx : j < xs.length
            · rw [World.cell?_setCells_out g _ _ _ _ (fun _ _ => Or.inl (by show 0 + j < 0 + n * i.size; omega))]
              rw [List.getElem?_append_left hjx] at hj
              have := hown.cells (g := g) rfl j u hj
              rwa [Addr.add_lit] at this
            · rw [List.getElem?_append_right (by omega)] at hj
              obtain ⟨hjl, hju⟩ := List.getElem?_eq_some_iff.1 hj
              have := World.cell?_setCells_in g news (0 + n * i.size) w hc (j - xs.length) hjl
              rw [show 0 + n * i.size + (j - xs.length) = 0 + j by omega] at this
              rw [this, hju]
          obtain ⟨cur', hc1, hc2⟩ := heap_setCells_same g e (0, 0) news (0 + n * i.size) w cur hg
          have hown' : (w.setCells g (0 + n * i.size) news).ownsRow B e i.size (.slice (some ⟨g, 0, none⟩) (n + m) cap) (n + m) (xs ++ news) := by
            refine ⟨hlen, .inr ⟨g, cap, cur', rfl, hbg, hc1, hroom, hcm, by rw [hc2, hcs], ?_⟩⟩
            have hl1 : (n + m) * i.size ≤ cap * i.size := Nat.mul_le_mul_right _ hroom
            apply List.ext_getElem?
            intro j
            by_cases hj : j < (xs ++ news).length
            · have hr := hcell j _ (List.getElem?_eq_getElem hj)
              rw [List.getElem?_eq_getElem hj, ← hr, List.getElem?_take_of_lt (by omega)]
              unfold World.cell?
              rw [hc1]
              simp
            · rw [List.getElem?_eq_none (by rw [List.length_take]; omega), List.getElem?_eq_none (by omega)]
          exact ⟨_, _, hrun, hown', ⟨World.os_setCells _ _ _ _, tape_setCells _ _ _ _, World.output_setCells _ _ _ _, hk.size, fun k hk1 hk2 => hblk k hk1 (fun e => hk2 (by simp [Value.ownBlock, e]))⟩, ⟨World.os_setCells _ _ _ _, tape_setCells _ _ _ _, World.output_setCells _ _ _ _, hk.size, fun k hk1 => hblk k (by omega) (by omega)⟩, fun _ _ h => h⟩
        · exact grow _ cap hv (by omega)

/-- 'append(s, x...)' for the walk. -/
theorem wpList_append_owns {P : Program} {w : World} {ops : Array Oper} {rest : List Oper} {o : Oper} {a : Act} {Q : Exit → Act → World → Prop} (hgd : o.guard = none) (s x : Operand) (t tx : TypeId)
    (ho : o.op = .call { callee := .builtin .append, args := #[s, x], argTypes := #[t, tx] })
    (B : Nat) (e : TypeId) (i : TypeInfo) (z : Value) (size bytes : Nat) (ht : P.underlying t = some (.slice e)) (hi : P.info? e = some i) (hz : i.zero = some z)
    (hsize : i.size = size) (hby : i.bytes = bytes) (hzs : z.cells.size = size)
    (v : Value) (n : Nat) (xs : List Value) (hs : a.eval s = v) (hown : w.ownsRow B e size v n xs)
    (xv : Value) (m : Nat) (news : List Value) (hx : a.eval x = xv) (hsrc : Src P size tx xv m news w)
    (h63 : n + m ≤ maxLen) (hbytes : (n + m) * bytes ≤ 140737488355328) (hB : B ≤ w.heap.size)
    (h : ∀ v' w', w'.ownsRow B e size v' (n + m) (xs ++ news) → w.grownBy w' v.ownBlock → Below B w w' → Moves w v v' → wpList P ops Q rest (a.put o.dst v') w') : wpList P ops Q (o :: rest) a w := by
  refine wpList_plain hgd fun K hK => ?_
  obtain ⟨v', w', hr, h2, h3, h4, h5⟩ := run_append_owns (P := P) B t tx o.type e i z size bytes ht hi hz hsize hby hzs v n xs hown xv m news hsrc h63 hbytes hB
  unfold Oper.wp execOp
  simp only [ho, resolve, invoke, builtin, Sem.run_bind, Sem.run_pure, Result.andThen_ok, List.map_toArray, List.map_cons, List.map_nil, hs, hx, hr]
  exact hK _ _ (h v' w' h2 h3 h4 h5)

/-- 'append(s, x, ..)' of cells that have just been laid in a block of their own. -/
theorem wpList_append_owns_lits {P : Program} {w0 : World} {ops : Array Oper} {rest : List Oper} {o : Oper} {a : Act} {Q : Exit → Act → World → Prop} (hgd : o.guard = none) (s x : Operand) (t : TypeId)
    (ho : o.op = .call { callee := .builtin .append, args := #[s, x], argTypes := #[t, t] })
    (B : Nat) (e : TypeId) (i : TypeInfo) (z : Value) (bytes : Nat) (ht : P.underlying t = some (.slice e)) (hi : P.info? e = some i) (hz : i.zero = some z)
    (hsize : i.size = 1) (hby : i.bytes = bytes) (hzs : z.cells.size = 1)
    {v : Value} {n : Nat} {xs : List Value} (us : List Value) (m : Nat) (hl : us.length = m) (hown : w0.ownsRow B e 1 v n xs) (hs : a.eval s = v) (hx : a.eval x = .slice (some ⟨w0.heap.size, 0, none⟩) m m) (h1 : ∀ u ∈ us, u.oneCell' = true)
    (h63 : n + m ≤ maxLen) (hbytes : (n + m) * bytes ≤ 140737488355328) (hB : B ≤ w0.heap.size)
    (h : ∀ v' w', w'.ownsRow B e 1 v' (n + m) (xs ++ us) → w0.grownBy w' v.ownBlock → Below B w0 w' → Moves w0 v v' → wpList P ops Q rest (a.put o.dst v') w') : wpList P ops Q (o :: rest) a (w0.alloc (.cells us.toArray e)) := by
  refine wpList_append_owns hgd s x t t ho B e i z 1 bytes ht hi hz hsize hby hzs v n xs hs (hown.alloc _) _ m us hx (Src.ofLits ht w0 m us hl h1) h63 hbytes (by simp; omega) (fun v' w' k1 k2 k3 k4 => h v' w' k1 ((World.grownBy_alloc w0 _ _).trans k2) (((Below.refl _ _).alloc hB _).trans k3) (fun b hb => k4 b (by simp; omega)))

end Go.Proofs.YtfhdonidgegebaaDoor

/- A region that draws its order, some of whose operations write into rows that the region itself made: facts that hold until their row is taken on. -/
namespace Go.Proofs.YtfhdonidgegebaaDoor
open Go Go.RowKit

/-- A fact on a slot; the operation that uses it up, if one does; whether it speaks of the value alone. -/
structure UntilFact where
  fact : SlotFact
  until_ : Option Nat
  alone : Bool
  ok : alone = true → ∀ v w w', fact.p v w → fact.p v w'

def eqU (x : Value) : UntilFact := ⟨eqF x, none, true, fun _ _ _ _ h => h⟩
def anyU : UntilFact := ⟨anyF, none, true, fun _ _ _ _ _ => trivial⟩
def onU (f : SlotFact) (u : Option Nat) : UntilFact := ⟨f, u, false, fun h => by cases h⟩

def uAt (us : List UntilFact) (i : Nat) : UntilFact := (us[i]?).getD anyU

def waitsFor (l : List Oper) (j i : Nat) : Bool := match l[j]? with | some o => o.after.any fun e => Region.binds .any e && e.on == i | none => false

/-- waits for it, or for what waits for it -/
def waitsDeep (l : List Oper) : Nat → Nat → Nat → Bool
  | 0, j, i => waitsFor l j i
  | d + 1, j, i => waitsFor l j i || (List.range l.length).any fun x => waitsFor l j x && waitsDeep l d x i

theorem waits_deep {l : List Oper} {L : Nat → Bool} (hc : ∀ j i, L j = true → waitsFor l j i = true → L i = true) : ∀ (d j i : Nat), L j = true → waitsDeep l d j i = true → L i = true
  | 0, j, i, hj, h => hc j i hj h
  | d + 1, j, i, hj, h => by
    unfold waitsDeep at h
    rw [Bool.or_eq_true] at h
    rcases h with h | h
    · exact hc j i hj h
    · obtain ⟨x, _, hx⟩ := List.any_eq_true.1 h
      rw [Bool.and_eq_true] at hx
      exact waits_deep hc d x i (hc j x hj hx.1) hx.2

/-- An operation that writes leaves alone what is still needed. -/
def wildOk (l : List Oper) (us : List UntilFact) (wild : List Nat) : Bool :=
  wild.all fun i => (List.range l.length).all fun k => k == i || (uAt us k).alone || (uAt us k).until_ == some i || waitsDeep l 3 k i || (match (uAt us k).until_ with | some u => waitsDeep l 3 i u | none => false)

section
variable {P : Program} {id : Nat} {l : List Oper} {Q : Exit → Act → World → Prop} {a0 : Act} {w0 : World}

structure InvU (l : List Oper) (us : List UntilFact) (a0 : Act) (w0 : World) (L : Nat → Bool) (a : Act) (w : World) : Prop where
  defers : a.defers = a0.defers
  size : a.tmps.size = a0.tmps.size
  like : Like l a0 a.eval
  below : Below w0.heap.size w0 w
  closed : ∀ j i, L j = true → waitsFor l j i = true → L i = true
  only : ∀ j, L j = true → j < l.length
  facts : ∀ i o d, l[i]? = some o → o.dst = some d → L i = true → (∀ u, (uAt us i).until_ = some u → L u = false) → (uAt us i).fact.p (a.tmps.getD d undef) w

/-- what is to be shown of one operation -/
def OpGoalU (P : Program) (l : List Oper) (us : List UntilFact) (wild : List Nat) (a0 : Act) (w0 : World) (i : Nat) (o : Oper) : Prop :=
  ∀ ρ w, Like l a0 ρ → Below w0.heap.size w0 w →
    (∀ j, (o.after.any fun e => Region.binds .any e && e.on == j) = true → ((uAt us j).until_ = none ∨ (uAt us j).until_ = some i) → ∀ d, (l[j]?).bind (·.dst) = some d → (uAt us j).fact.p (ρ (.tmp d)) w) →
    YieldsP P ρ o w (fun v w' => (uAt us i).fact.p v w' ∧ Below (if wild.contains i then w0.heap.size else w.heap.size) w w')

theorem wp_region_until (hm : P.follows .mixedOrders = true) (us : List UntilFact) (wild : List Nat) (hok : drawnOk l a0.tmps.size = true) (hung : l.all (·.guard.isNone) = true) (hw : wildOk l us wild = true)
    (hop : AllFrom (OpGoalU P l us wild a0 w0) 0 l)
    (hend : ∀ a w, a.defers = a0.defers → a.tmps.size = a0.tmps.size → Like l a0 a.eval → Below w0.heap.size w0 w → (∀ (i : Nat) (o : Oper) (d : Nat), l[i]? = some o → o.dst = some d → (uAt us i).until_ = none → (uAt us i).fact.p (a.tmps.getD d undef) w) → Q .normal a w) :
    (Code.region id l.toArray true).wp P Q a0 w0 := by
  refine wp_region_inv hm hok hung (fun L a w => ∃ L0 : Nat → Bool, (∀ k, k < l.length → L0 k = L k) ∧ InvU l us a0 w0 L0 a w) (fun L hL => ?_) (fun i o hi L a w hLi hprev hJ => ?_) (fun L a w hL hJ => ?_)
  · exact ⟨fun _ => false, fun k hk => (hL k hk).symm, rfl, rfl, ⟨fun _ => rfl, fun _ => rfl, fun _ _ => rfl⟩, ⟨rfl, rfl, rfl, Nat.le_refl _, fun _ _ => rfl⟩, fun _ _ h => (by cases h), fun _ h => (by cases h), fun _ _ _ _ _ h => (by cases h)⟩
  · obtain ⟨L0, h0, hinv⟩ := hJ
    have hil : i < l.length := (List.getElem?_eq_some_iff.1 hi).1
    have hL0i : L0 i = false := by rw [h0 i hil]; exact hLi
    have hlean0 : ∀ j, waitsFor l i j = true → j < l.length ∧ L0 j = true := by
      intro j hj
      unfold waitsFor at hj
      rw [hi] at hj
      have hjl : j < l.length := by
        obtain ⟨h1, _, _⟩ := drawnOk_at hok hi
        rw [Array.any_eq_true'] at hj
        obtain ⟨e, he, hej⟩ := hj
        simp only [Bool.and_eq_true, beq_iff_eq] at hej
        have := h1 e he hej.1
        omega
      exact ⟨hjl, by rw [h0 j hjl]; exact hprev j hj⟩
    have hg := hop.at i o hi
    rw [Nat.zero_add] at hg
    have hy := hg a.eval w hinv.like hinv.below (fun j hj hu d hd => by
      obtain ⟨oj, hoj, hdj⟩ := Option.bind_eq_some_iff.1 hd
      have hwj : waitsFor l i j = true := by unfold waitsFor; rw [hi]; exact hj
      refine hinv.facts j oj d hoj hdj (hlean0 j hwj).2 (fun u hu' => ?_)
      rcases hu with hu | hu
      · rw [hu] at hu'; cases hu'
      · rw [hu] at hu'
        cases hu'
        exact hL0i)
    obtain ⟨_, h2, _⟩ := drawnOk_at hok hi
    refine wp_of_yields hy fun v w' hv L' hL' => ⟨fun k => if k = i then true else L0 k, fun k hk => ?_, ?_⟩
    · show (if k = i then true else L0 k) = L' k
      rw [hL' k]
      split
      · rfl
      · exact h0 k hk
    obtain ⟨hv, hb⟩ := hv
    have hsz : w.heap.size ≤ w'.heap.size := hb.size
    have hb0 : Below w0.heap.size w w' := by
      split at hb
      · exact hb
      · exact hb.mono hinv.below.size
    refine ⟨?_, ?_, ⟨fun c => rfl, fun f => rfl, fun k hk => ?_⟩, hinv.below.trans hb0, fun j x hj hx => ?_, fun j hj => ?_, fun j o' d hj hd hlj hu => ?_⟩
    · cases o.dst <;> exact hinv.defers
    · cases hd : o.dst with
      | none => exact hinv.size
      | some d => simpa [Act.put] using hinv.size
    · show (a.put o.dst v).tmps.getD k undef = _
      cases hd : o.dst with
      | none => exact hinv.like.tmp k hk
      | some d =>
        have hne : k ≠ d := by
          have := List.all_eq_true.1 hk o (List.mem_of_getElem? hi)
          simp [hd] at this
          exact fun e => this e.symm
        rw [getD_put hne]
        exact hinv.like.tmp k hk
    · show (if x = i then true else L0 x) = true
      split
      · rfl
      · have hj : (if j = i then true else L0 j) = true := hj
        split at hj
        · rename_i hji
          subst hji
          exact (hlean0 x hx).2
        · exact hinv.closed j x hj hx
    · have hj : (if j = i then true else L0 j) = true := hj
      split at hj
      · rename_i hji
        subst hji
        exact hil
      · exact hinv.only j hj
    · by_cases hji : j = i
      · subst hji
        rw [hi] at hj
        cases hj
        obtain ⟨h3, _⟩ := h2 d hd
        rw [hd, getD_put_same (by rw [hinv.size]; exact h3)]
        exact hv
      · have hlj' : L0 j = true := by
          have hlj : (if j = i then true else L0 j) = true := hlj
          rw [if_neg hji] at hlj
          exact hlj
        have hu' : ∀ u, (uAt us j).until_ = some u → u ≠ i ∧ L0 u = false := fun u hu' => by
          have : (if u = i then true else L0 u) = false := hu u hu'
          split at this
          · cases this
          · rename_i hne
            exact ⟨hne, this⟩
        have hold := hinv.facts j o' d hj hd hlj' (fun u hu'' => (hu' u hu'').2)
        have hnew : (uAt us j).fact.p (a.tmps.getD d undef) w' := by
          by_cases hwi : wild.contains i = true
          · have h4 := List.all_eq_true.1 hw i (by simpa using hwi)
            have hjl : j < l.length := (List.getElem?_eq_some_iff.1 hj).1
            have h5 := List.all_eq_true.1 h4 j (List.mem_range.2 hjl)
            simp only [Bool.or_eq_true, beq_iff_eq] at h5
            rcases h5 with (((h5 | h5) | h5) | h5) | h5
            · exact absurd h5 hji
            · exact (uAt us j).ok h5 _ _ _ hold
            · exact absurd rfl (hu' i h5).1
            · have := waits_deep hinv.closed 3 j i hlj' h5
              rw [hL0i] at this
              cases this
            · cases huu : (uAt us j).until_ with
              | none => rw [huu] at h5; cases h5
              | some u =>
                rw [huu] at h5
                have h5 : waitsDeep l 3 i u = true := h5
                have h6 : (if u = i then true else L0 u) = true := waits_deep (L := fun k => if k = i then true else L0 k) (fun x y hx hxy => by
                  show (if y = i then true else L0 y) = true
                  have hx : (if x = i then true else L0 x) = true := hx
                  split
                  · rfl
                  · split at hx
                    · rename_i hxi
                      subst hxi
                      exact (hlean0 y hxy).2
                    · exact hinv.closed x y hx hxy) 3 i u (by show (if i = i then true else L0 i) = true; rw [if_pos rfl]) h5
                rw [if_neg (hu' u huu).1, (hu' u huu).2] at h6
                cases h6
          · rw [if_neg hwi] at hb
            exact (uAt us j).fact.stable _ _ _ hold hb
        cases hdo : o.dst with
        | none => exact hnew
        | some d' =>
          have hne : d ≠ d' := by
            intro e
            subst e
            exact (h2 d hdo).2 j o' hj hji hd
          rw [getD_put hne]
          exact hnew
  · obtain ⟨L0, h0, hinv⟩ := hJ
    refine hend a w hinv.defers hinv.size hinv.like hinv.below fun i o d hi hd hu => hinv.facts i o d hi hd ?_ (fun u hu' => by rw [hu] at hu'; cases hu')
    have hil : i < l.length := (List.getElem?_eq_some_iff.1 hi).1
    rw [h0 i hil]
    exact hL i hil

theorem u_val {ρ : Operand → Value} {o : Oper} {w : World} {v : Value} {p : Value → World → Prop} {B : Nat} (h : (execOp ρ o).run P w = .ok (.value v) w) (hp : p v w) : YieldsP P ρ o w (fun u w' => p u w' ∧ Below B w w') := by
  unfold YieldsP
  rw [h]
  exact ⟨hp, Below.refl _ _⟩

theorem u_new {ρ : Operand → Value} {o : Oper} {w w' : World} {v : Value} {p : Value → World → Prop} {B : Nat} (h : (execOp ρ o).run P w = .ok (.value v) w') (hp : p v w') (hb : Below B w w') : YieldsP P ρ o w (fun u w' => p u w' ∧ Below B w w') := by
  unfold YieldsP
  rw [h]
  exact ⟨hp, hb⟩
end

/-- the slot holds a row of the region's own -/
def ownsF (B : Nat) (e : TypeId) (size n : Nat) (xs : List Value) : SlotFact := ⟨fun v w => w.ownsRow B e size v n xs, fun _ _ _ h hb => by
  refine ⟨h.1, ?_⟩
  rcases h.2 with h0 | ⟨g, cap, cur, hv, hB, hg, h3⟩
  · exact .inl h0
  · exact .inr ⟨g, cap, cur, hv, hB, (hb.block g (Array.getElem?_eq_some_iff.1 hg).1).trans hg, h3⟩⟩

/-- the slot holds an empty row of the region's own -/
def litF (e : TypeId) (cs : Array Value) (n : Nat) : SlotFact := ⟨fun v w => ∃ g, v = .slice (some ⟨g, 0, none⟩) n n ∧ w.heap[g]? = some (.cells cs e (0, 0)),
  fun _ _ _ ⟨g, h1, h2⟩ hb => ⟨g, h1, (hb.block g (Array.getElem?_eq_some_iff.1 h2).1).trans h2⟩⟩

/-- An append to a row without room goes into new memory. -/
theorem run_append_zero {P : Program} {w : World} (B : Nat) (t tx ty e : TypeId) (i : TypeInfo) (z : Value) (bytes : Nat) (ht : P.underlying t = some (.slice e)) (hi : P.info? e = some i) (hz : i.zero = some z)
    (hsize : i.size = 1) (hby : i.bytes = bytes) (hzs : z.cells.size = 1)
    (g : Nat) (h0 : w.ownsRow B e 1 (.slice (some ⟨g, 0, none⟩) 0 0) 0 []) (x : Value) (m : Nat) (news : List Value) (hs : Src P 1 tx x m news w)
    (h63 : m ≤ maxLen) (hbytes : m * bytes ≤ 140737488355328) (hB : B ≤ w.heap.size) :
    ∃ v' w', (Builtin.append_ #[t, tx] ty #[.slice (some ⟨g, 0, none⟩) 0 0, x]).run P w = .ok v' w' ∧ w'.ownsRow B e 1 v' m news ∧ Below w.heap.size w w' := by
  subst hby
  have hnl := hs.newsLen
  by_cases hm : m = 0
  · subst hm
    have hn : news = [] := List.eq_nil_of_length_eq_zero (by simpa using hnl)
    subst hn
    exact ⟨_, w, run_append_nothing (P := P) w t tx ty e i ht hi (some ⟨g, 0, none⟩) 0 0 (Nat.le_refl _) x (by rw [hsize]; exact hs), h0, Below.refl _ _⟩
  · have hold := (ownsRow.reads h0).firstCells (P := P) w.drew rfl
    have hsmall : 0 + m ≤ 9223372036854775807 := by simp only [maxLen] at h63; omega
    have hrun := run_append_grow_src (P := P) w t tx ty e i z ht hi hz (some ⟨g, 0, none⟩) 0 0 [] (by rw [hsize]; exact hold) x m news (by rw [hsize]; exact hs) (by omega) (by omega) (growslice_fits (by omega) (by rw [Nat.zero_add]; exact hbytes))
    have hge := grownCap_ge w (0 + m) 0 e
    have hcm := grownCap_le_maxLen w (0 + m) 0 e (by omega)
    rw [List.nil_append, Nat.zero_add] at hrun
    rw [Nat.zero_add] at hge hcm
    refine ⟨_, _, hrun, ⟨by simpa using hnl, .inr ⟨w.heap.size, _, _, rfl, hB, heap_alloc_new w.drew _, hge, hcm, ?_, ?_⟩⟩, ⟨rfl, rfl, rfl, by simp, fun k hk => Below.heap_alloc w.drew _ k hk⟩⟩
    · rw [Array.size_append, List.size_toArray, size_zeroCells, hzs, hnl]
      omega
    · simp only [Array.toList_append]
      have : m * 1 = news.length := by omega
      rw [this]
      exact List.take_left

theorem owns_less {w : World} {B B' n s : Nat} {e : TypeId} {v : Value} {xs : List Value} (h : w.ownsRow B e s v n xs) (hB : B' ≤ B) : w.ownsRow B' e s v n xs := by
  refine ⟨h.1, ?_⟩
  rcases h.2 with h0 | ⟨g, cap, cur, hv, hg, h3⟩
  · exact .inl h0
  · exact .inr ⟨g, cap, cur, hv, Nat.le_trans hB hg, h3⟩

theorem owns_zero (w : World) (e : TypeId) (size : Nat) : (w.alloc (.cells #[] e)).ownsRow w.heap.size e size (.slice (some ⟨w.heap.size, 0, none⟩) 0 0) 0 [] :=
  ⟨by simp, .inr ⟨w.heap.size, 0, #[], rfl, Nat.le_refl _, heap_alloc_new w _, Nat.le_refl _, Nat.zero_le _, by simp, by simp⟩⟩

/-- the slot holds an empty row without room -/
def zeroF (B : Nat) (e : TypeId) (size : Nat) : SlotFact := ⟨fun v w => ∃ g, v = .slice (some ⟨g, 0, none⟩) 0 0 ∧ (ownsF B e size 0 []).p v w, fun _ _ _ ⟨g, h1, h2⟩ hb => ⟨g, h1, (ownsF B e size 0 []).stable _ _ _ h2 hb⟩⟩

/-- A row that has just been laid may be read. -/
theorem lit_reads {w : World} {g n size : Nat} {e : TypeId} {cs : List Value} (hg : w.heap[g]? = some (.cells cs.toArray e (0, 0))) (hl : cs.length = n * size) (hn : n ≤ maxLen) : Reads w size (.slice (some ⟨g, 0, none⟩) n n) n cs := by
  refine ⟨hl, _, n, rfl, Nat.le_refl _, hn, fun j u hj => ⟨g, 0, rfl, (Array.getElem?_eq_some_iff.1 hg).1, ?_⟩⟩
  unfold World.cell?
  simp [hg, hj]
end Go.Proofs.YtfhdonidgegebaaDoor
