/- A region that draws its order, shown by one fact an operation: what each leaves in its slot, in whatever world that has grown. -/
import Derived.Test.YtbhapbioibhalaaKit
import Derived.Orders
namespace Go.Proofs.Ytbhapbioibhalaa
open Go Go.RowKit

/-- The operation o, its operands being ρ's, yields in the world w a value of which R holds, with the world behind it. -/
def YieldsP (P : Program) (ρ : Operand → Value) (o : Oper) (w : World) (R : Value → World → Prop) : Prop :=
  match (execOp ρ o).run P w with
  | .ok (.value v) w' => R v w'
  | .ok .skip w' => R undef w'
  | .ok (.enter f args) w' => Calls P f args w' fun e w'' => ∃ v, e = .returned v ∧ R v w''
  | _ => False

/-- dsts are unlike and lie in the frame; edges lead back. -/
def drawnOk (l : List Oper) (n : Nat) : Bool :=
  (List.range l.length).all fun i =>
    match l[i]? with
    | none => false
    | some o => (o.after.all fun e => !Region.binds .any e || decide (e.on < i)) &&
        (match o.dst with
         | none => true
         | some d => decide (d < n) && (List.range l.length).all fun j => j == i || (match l[j]? with | some o' => o'.dst != some d | none => true)) &&
        (match o.guard with
         | none => true
         | some (j, _) => (o.after.any fun e => Region.binds .any e && e.on == j) && (match l[j]? with | some o' => o'.dst.isSome | none => false))

section
variable {P : Program} {id : Nat} {l : List Oper} {Q : Exit → Act → World → Prop} {a0 : Act} {w0 : World}

/-- what operation o leans on holds of ρ -/
def Leans (l : List Oper) (F : Nat → Value → World → Prop) (o : Oper) (ρ : Operand → Value) (w : World) : Prop :=
  ∀ j, (o.after.any fun e => Region.binds .any e && e.on == j) = true → ∀ d, (l[j]?).bind (·.dst) = some d → F j (ρ (.tmp d)) w

/-- ρ is the frame's, where no operation of the region writes. -/
structure Like (l : List Oper) (a0 : Act) (ρ : Operand → Value) : Prop where
  const : ∀ c, ρ (.const c) = c
  func : ∀ f, ρ (.func f) = .func (.func f) #[] #[]
  tmp : ∀ k, (l.all fun o => o.dst != some k) = true → ρ (.tmp k) = a0.tmps.getD k undef

structure Inv (l : List Oper) (F : Nat → Value → World → Prop) (a0 : Act) (w0 : World) (listed : Array Bool) (a : Act) (w : World) : Prop where
  defers : a.defers = a0.defers
  size : a.tmps.size = a0.tmps.size
  len : listed.size = l.length
  like : Like l a0 a.eval
  below : Below w0.heap.size w0 w
  facts : ∀ i o d, l[i]? = some o → o.dst = some d → listed.getD i true = true → F i (a.tmps.getD d undef) w

theorem drawnOk_at {n : Nat} (h : drawnOk l n = true) {i : Nat} {o : Oper} (hi : l[i]? = some o) :
    (∀ e ∈ o.after, Region.binds .any e = true → e.on < i) ∧ (∀ d, o.dst = some d → d < n ∧ ∀ j o', l[j]? = some o' → j ≠ i → o'.dst ≠ some d) ∧
    (∀ j b, o.guard = some (j, b) → (o.after.any fun e => Region.binds .any e && e.on == j) = true ∧ ∃ d, (l[j]?).bind (·.dst) = some d) := by
  have hlt : i < l.length := (List.getElem?_eq_some_iff.1 hi).1
  have h1 := List.all_eq_true.1 h i (List.mem_range.2 hlt)
  simp only [hi, Bool.and_eq_true] at h1
  obtain ⟨⟨h1, h2⟩, h3⟩ := h1
  refine ⟨fun e he hb => ?_, fun d hd => ?_, fun j b hg => ?_⟩
  · have := Array.all_eq_true_iff_forall_mem.1 h1 e he
    simpa [hb] using this
  · simp only [hd, Bool.and_eq_true, decide_eq_true_eq] at h2
    refine ⟨h2.1, fun j o' hj hne hdst => ?_⟩
    have hjl : j < l.length := (List.getElem?_eq_some_iff.1 hj).1
    have := List.all_eq_true.1 h2.2 j (List.mem_range.2 hjl)
    simp [hne, hj, hdst] at this
  · simp only [hg, Bool.and_eq_true] at h3
    refine ⟨h3.1, ?_⟩
    have h4 := h3.2
    cases hj : l[j]? with
    | none => simp [hj] at h4
    | some o' =>
      simp [hj] at h4
      obtain ⟨d, hd⟩ := Option.isSome_iff_exists.1 h4
      exact ⟨d, by simp [hd]⟩

theorem all_listed (hok : drawnOk l a0.tmps.size = true) {listed : Array Bool} (hl : listed.size = l.length) (hr : Region.ready .any l.toArray listed = []) :
    ∀ i, i < l.length → listed.getD i true = true := by
  intro i
  induction i using Nat.strongRecOn with
  | ind i ih =>
    intro hi
    by_cases hlist : listed.getD i true = true
    · exact hlist
    · exfalso
      have ho : l[i]? = some l[i] := List.getElem?_eq_getElem hi
      have h1 := (drawnOk_at hok ho).1
      have : i ∈ Region.ready .any l.toArray listed := by
        unfold Region.ready
        rw [List.mem_filter]
        refine ⟨List.mem_range.2 (by simpa using hi), ?_⟩
        simp only [Bool.and_eq_true, Bool.not_eq_true', List.getElem?_toArray, ho, Option.map_some, Option.getD_some]
        refine ⟨by simpa using hlist, ?_⟩
        rw [Array.all_eq_true_iff_forall_mem]
        intro e he
        by_cases hb : Region.binds .any e = true
        · have hlt := h1 e he hb
          have := ih e.on hlt (by omega)
          have hsz : e.on < listed.size := by omega
          simp [Array.getD, hsz] at this ⊢
          right
          exact this
        · simp [hb]
      rw [hr] at this
      cases this

theorem getD_put {a : Act} {d k : Nat} {v : Value} (h : k ≠ d) : (a.put (some d) v).tmps.getD k undef = a.tmps.getD k undef := by
  simp [Act.put, Ne.symm h]

theorem getD_put_same {a : Act} {d : Nat} {v : Value} (h : d < a.tmps.size) : (a.put (some d) v).tmps.getD d undef = v := by
  simp [Act.put, h]

theorem Inv.step {F : Nat → Value → World → Prop} (hF : ∀ i v w w', F i v w → Below w.heap.size w w' → F i v w') (hok : drawnOk l a0.tmps.size = true)
    {listed : Array Bool} {a : Act} {w w' : World} (h : Inv l F a0 w0 listed a w) {i : Nat} {o : Oper} (hi : l[i]? = some o) {v : Value} (hv : F i v w') (hb : Below w.heap.size w w') :
    Inv l F a0 w0 (listed.setIfInBounds i true) (a.put o.dst v) w' := by
  obtain ⟨_, h2, _⟩ := drawnOk_at hok hi
  refine ⟨?_, ?_, by simpa using h.len, ⟨fun c => rfl, fun f => rfl, fun k hk => ?_⟩, h.below.trans (hb.mono h.below.size), fun j o' d hj hd hl => ?_⟩
  · cases o.dst <;> exact h.defers
  · cases hd : o.dst with
    | none => exact h.size
    | some d => simpa [Act.put] using h.size
  · show (a.put o.dst v).tmps.getD k undef = _
    cases hd : o.dst with
    | none => exact h.like.tmp k hk
    | some d =>
      have hne : k ≠ d := by
        have := List.all_eq_true.1 hk o (List.mem_of_getElem? hi)
        simp [hd] at this
        exact fun e => this e.symm
      rw [getD_put hne]
      exact h.like.tmp k hk
  · by_cases hji : j = i
    · subst hji
      rw [hi] at hj
      cases hj
      obtain ⟨h3, _⟩ := h2 d hd
      rw [hd, getD_put_same (by rw [h.size]; exact h3)]
      exact hv
    · have hl' : listed.getD j true = true := by
        simp only [Array.getD_eq_getD_getElem?, Array.getElem?_setIfInBounds] at hl ⊢
        rw [if_neg (fun e => hji e.symm)] at hl
        exact hl
      have := hF _ _ _ _ (h.facts j o' d hj hd hl') hb
      cases hdo : o.dst with
      | none => exact this
      | some d' =>
        have hne : d ≠ d' := by
          intro e
          subst e
          exact (h2 d hdo).2 j o' hj hji hd
        rw [getD_put hne]
        exact this

theorem wp_of_yields {o : Oper} {a : Act} {w : World} {K : Act → World → Prop} {R : Value → World → Prop} (hy : YieldsP P a.eval o w R) (hK : ∀ v w', R v w' → K (a.put o.dst v) w') : o.wp P a w K Q := by
  unfold Oper.wp
  unfold YieldsP at hy
  generalize (execOp a.eval o).run P w = r at hy
  cases r with
  | ok n w' =>
    cases n <;> simp only at hy
    case value u => exact hK _ _ hy
    case skip => exact hK _ _ hy
    case enter f args => exact hy.mono fun e w'' ⟨v, he, hr⟩ => by subst he; exact hK _ _ hr
  | halt x w' => simp only at hy

theorem wpAny_of_facts {F : Nat → Value → World → Prop} (hF : ∀ i v w w', F i v w → Below w.heap.size w w' → F i v w') (hok : drawnOk l a0.tmps.size = true) (G : Nat → Bool)
    (hop : ∀ (i : Nat) (o : Oper), l[i]? = some o → ∀ ρ w, Like l a0 ρ → Below w0.heap.size w0 w → Leans l F o ρ w → if G i = true then YieldsP P ρ o w (fun v w' => F i v w' ∧ Below w.heap.size w w') else F i undef w)
    (hguard : ∀ (i : Nat) (o : Oper), l[i]? = some o → match o.guard with | none => G i = true | some (j, b) => ∀ v w, F j v w → ∃ b', v = .bool b' ∧ (b' == b) = G i)
    (hend : ∀ a w, a.defers = a0.defers → a.tmps.size = a0.tmps.size → Like l a0 a.eval → Below w0.heap.size w0 w → (∀ (i : Nat) (o : Oper) (d : Nat), l[i]? = some o → o.dst = some d → F i (a.tmps.getD d undef) w) → Q .normal a w) :
    ∀ (fuel : Nat) (listed : Array Bool) (a : Act) (w : World), (listed.toList.countP (· == false)) ≤ fuel → Inv l F a0 w0 listed a w → wpAny P .any l.toArray Q fuel listed a w := by
  have fin : ∀ (listed : Array Bool) (a : Act) (w : World), Inv l F a0 w0 listed a w → Region.ready .any l.toArray listed = [] → Q .normal a w := by
    intro listed a w h hr
    refine hend a w h.defers h.size h.like h.below fun i o d hi hd => h.facts i o d hi hd ?_
    exact all_listed hok h.len hr i (List.getElem?_eq_some_iff.1 hi).1
  intro fuel
  induction fuel with
  | zero =>
    intro listed a w hc h
    have hr : Region.ready .any l.toArray listed = [] := by
      unfold Region.ready
      rw [List.filter_eq_nil_iff]
      intro i hi
      have hil : i < listed.size := by rw [h.len]; simpa using hi
      have h0 : listed.toList.countP (· == false) = 0 := by omega
      rw [List.countP_eq_zero] at h0
      have := h0 listed[i] (by simp)
      simp [Array.getD, hil] at this ⊢
      simp [this]
    exact ⟨hr, fin listed a w h hr⟩
  | succ fuel ih =>
    intro listed a w hc h
    refine ⟨fin listed a w h, fun i hi => ?_⟩
    unfold Region.ready at hi
    rw [List.mem_filter] at hi
    obtain ⟨hi1, hi2⟩ := hi
    have hil : i < l.length := by simpa using hi1
    have ho : l[i]? = some l[i] := List.getElem?_eq_getElem hil
    simp only [Bool.and_eq_true, Bool.not_eq_true', List.getElem?_toArray, ho, Option.map_some, Option.getD_some] at hi2
    obtain ⟨hnl, haft⟩ := hi2
    rw [Array.all_eq_true_iff_forall_mem] at haft
    have hls : i < listed.size := by rw [h.len]; exact hil
    have hleans : Leans l F l[i] a.eval w := by
      intro j hj d hd
      rw [Array.any_eq_true'] at hj
      obtain ⟨e, he, hej⟩ := hj
      simp only [Bool.and_eq_true, beq_iff_eq] at hej
      obtain ⟨hb, rfl⟩ := hej
      have hle := haft e he
      rw [hb] at hle
      obtain ⟨oj, hoj, hdj⟩ := Option.bind_eq_some_iff.1 hd
      refine h.facts e.on oj d hoj hdj ?_
      have hjl : e.on < listed.size := by rw [h.len]; exact (List.getElem?_eq_some_iff.1 hoj).1
      simp [Array.getD, hjl] at hle ⊢
      exact hle
    have hcount : ((listed.setIfInBounds i true).toList.countP (· == false)) ≤ fuel := by
      have hli : listed.toList[i]'(by simpa using hls) = false := by
        simp [Array.getD, hls] at hnl
        simpa using hnl
      rw [Array.toList_setIfInBounds, List.countP_set (h := by simpa using hls), hli]
      have hpos : 0 < listed.toList.countP (· == false) := List.countP_pos_iff.2 ⟨false, by rw [← hli]; exact List.getElem_mem _, rfl⟩
      rw [if_pos (by decide), if_neg (by decide)]
      omega
    have hstep := fun (v : Value) (w' : World) (hv : F i v w') (hb : Below w.heap.size w w') => ih (listed.setIfInBounds i true) (a.put l[i].dst v) w' hcount (h.step hF hok ho hv hb)
    have hO := hop i l[i] ho a.eval w h.like h.below hleans
    have hGd := hguard i l[i] ho
    unfold wpOp
    simp only [List.getElem?_toArray, ho]
    have hw : Region.wanted l[i] (yielded l.toArray a.tmps) = G i := by
      unfold Region.wanted
      cases hg : l[i].guard with
      | none => simp only [hg] at hGd; exact hGd.symm
      | some jb =>
        obtain ⟨j, b⟩ := jb
        simp only [hg] at hGd
        obtain ⟨hbind, d, hd⟩ := (drawnOk_at hok ho).2.2 j b hg
        obtain ⟨b', hv', hbb⟩ := hGd _ _ (hleans j hbind d hd)
        obtain ⟨oj, hoj, hdj⟩ := Option.bind_eq_some_iff.1 hd
        have hdlt := ((drawnOk_at hok hoj).2.1 d hdj).1
        have hsz : d < a.tmps.size := by rw [h.size]; exact hdlt
        have hval : a.tmps[d]? = some (.bool b') := by
          rw [Array.getElem?_eq_getElem hsz]
          have : a.eval (.tmp d) = a.tmps[d] := by simp [Act.eval, Array.getD, hsz]
          rw [← this, hv']
        simp only [yielded, List.getElem?_toArray, hoj, Option.bind_some, hdj, hval]
        rw [← hbb]
        cases b' <;> cases b <;> rfl
    rw [hw]
    by_cases hG : G i = true
    · rw [if_pos hG] at hO ⊢
      exact .inl (wp_of_yields hO fun v w' hr => hstep v w' hr.1 hr.2)
    · rw [if_neg hG] at hO ⊢
      exact hstep undef w hO (Below.refl _ _)

/-- THE REGION. -/
theorem wp_region_facts (hm : P.follows .mixedOrders = true) {F : Nat → Value → World → Prop} (hF : ∀ i v w w', F i v w → Below w.heap.size w w' → F i v w') (hok : drawnOk l a0.tmps.size = true) (G : Nat → Bool)
    (hop : ∀ (i : Nat) (o : Oper), l[i]? = some o → ∀ ρ w, Like l a0 ρ → Below w0.heap.size w0 w → Leans l F o ρ w → if G i = true then YieldsP P ρ o w (fun v w' => F i v w' ∧ Below w.heap.size w w') else F i undef w)
    (hguard : ∀ (i : Nat) (o : Oper), l[i]? = some o → match o.guard with | none => G i = true | some (j, b) => ∀ v w, F j v w → ∃ b', v = .bool b' ∧ (b' == b) = G i)
    (hend : ∀ a w, a.defers = a0.defers → a.tmps.size = a0.tmps.size → Like l a0 a.eval → Below w0.heap.size w0 w → (∀ (i : Nat) (o : Oper) (d : Nat), l[i]? = some o → o.dst = some d → F i (a.tmps.getD d undef) w) → Q .normal a w) :
    (Code.region id l.toArray true).wp P Q a0 w0 := by
  refine wp_region_any hm ?_
  refine wpAny_of_facts hF hok G hop hguard hend _ _ _ _ ?_ ⟨rfl, rfl, by simp, ⟨fun _ => rfl, fun _ => rfl, fun _ _ => rfl⟩, ⟨rfl, rfl, rfl, Nat.le_refl _, fun _ _ => rfl⟩, fun i o d hi _ hl => ?_⟩
  · exact Nat.le_trans List.countP_le_length (by simp)
  · have := (List.getElem?_eq_some_iff.1 hi).1
    simp [Array.getD, this] at hl

/-- A fact on a slot that goes on holding as the world grows. -/
structure SlotFact where
  p : Value → World → Prop
  stable : ∀ v w w', p v w → Below w.heap.size w w' → p v w'

/-- the slot holds x -/
def eqF (x : Value) : SlotFact := ⟨fun v _ => v = x, fun _ _ _ h _ => h⟩
def anyF : SlotFact := ⟨fun _ _ => True, fun _ _ _ _ _ => trivial⟩
def factsOf (fs : List SlotFact) (i : Nat) : Value → World → Prop := ((fs[i]?).getD anyF).p

theorem factsOf_stable (fs : List SlotFact) : ∀ i v w w', factsOf fs i v w → Below w.heap.size w w' → factsOf fs i v w' := fun _ v w w' h hb => SlotFact.stable _ v w w' h hb

def AllFrom (T : Nat → Oper → Prop) : Nat → List Oper → Prop
  | _, [] => True
  | i, o :: r => T i o ∧ AllFrom T (i + 1) r

theorem AllFrom.at {T : Nat → Oper → Prop} : ∀ {l : List Oper} {k : Nat}, AllFrom T k l → ∀ i o, l[i]? = some o → T (k + i) o
  | [], _, _, _, _, h => by simp at h
  | o :: r, k, h, i, o', hi => by
    cases i with
    | zero => simp at hi; subst hi; exact h.1
    | succ i =>
      have := AllFrom.at h.2 i o' (by simpa using hi)
      rwa [show k + 1 + i = k + (i + 1) by omega] at this

/-- what is to be shown of one operation -/
def OpGoal (P : Program) (l : List Oper) (fs : List SlotFact) (a0 : Act) (w0 : World) (i : Nat) (o : Oper) : Prop :=
  ∀ ρ w, Like l a0 ρ → Below w0.heap.size w0 w → Leans l (factsOf fs) o ρ w → YieldsP P ρ o w (fun v w' => factsOf fs i v w' ∧ Below w.heap.size w w')

def GuardGoal (fs : List SlotFact) (o : Oper) : Prop := match o.guard with | none => True | some (j, b) => ∀ v w, factsOf fs j v w → v = .bool b

/-- THE REGION, ALL OF WHOSE OPERATIONS ARE CARRIED OUT. -/
theorem wp_region_all (hm : P.follows .mixedOrders = true) (fs : List SlotFact) (hok : drawnOk l a0.tmps.size = true)
    (hop : AllFrom (OpGoal P l fs a0 w0) 0 l) (hguard : AllFrom (fun _ o => GuardGoal fs o) 0 l)
    (hend : ∀ a w, a.defers = a0.defers → a.tmps.size = a0.tmps.size → Like l a0 a.eval → Below w0.heap.size w0 w → (∀ (i : Nat) (o : Oper) (d : Nat), l[i]? = some o → o.dst = some d → factsOf fs i (a.tmps.getD d undef) w) → Q .normal a w) :
    (Code.region id l.toArray true).wp P Q a0 w0 := by
  refine wp_region_facts hm (factsOf_stable fs) hok (fun _ => true) (fun i o hi ρ w h1 h2 h3 => ?_) (fun i o hi => ?_) hend
  · rw [if_pos rfl]
    have := hop.at i o hi
    rw [Nat.zero_add] at this
    exact this ρ w h1 h2 h3
  · have := hguard.at i o hi
    unfold GuardGoal at this
    cases hg : o.guard with
    | none => rfl
    | some jb =>
      obtain ⟨j, b⟩ := jb
      simp only [hg] at this ⊢
      intro v w hv
      exact ⟨b, this v w hv, by simp⟩

theorem y_val {ρ : Operand → Value} {o : Oper} {w : World} {v : Value} {p : Value → World → Prop} (h : (execOp ρ o).run P w = .ok (.value v) w) (hp : p v w) : YieldsP P ρ o w (fun u w' => p u w' ∧ Below w.heap.size w w') := by
  unfold YieldsP
  rw [h]
  exact ⟨hp, Below.refl _ _⟩

theorem y_call {ρ : Operand → Value} {o : Oper} {w : World} {f : FuncId} {args : Array Value} {p : Value → World → Prop} (h : (execOp ρ o).run P w = .ok (.enter f args) w) (hc : Calls P f args w fun e w'' => ∃ v, e = .returned v ∧ p v w'' ∧ Below w.heap.size w w'') : YieldsP P ρ o w (fun u w' => p u w' ∧ Below w.heap.size w w') := by
  unfold YieldsP
  rw [h]
  exact hc
end

/-- the slot holds a slice of the bytes l -/
def bytesF (l : List UInt8) : SlotFact := ⟨fun v w => ∃ n, Reads w 1 v n (bcells l), fun _ _ _ ⟨n, h⟩ hb => ⟨n, h.below' hb⟩⟩
end Go.Proofs.Ytbhapbioibhalaa
