/- A region that draws its order, some of whose operations are guarded, and whose calls write: an invariant over what has been carried out, and each slot's value. -/
import Derived.Test.YtcglkdmfbnpniaaDrawnState
namespace Go.Proofs.Ytcglkdmfbnpniaa
open Go Go.RowKit

section
variable {P : Program} {id : Nat} {l : List Oper} {Q : Exit → Act → World → Prop} {a0 : Act} {w0 : World}

theorem wpAny_of_ginv (hok : drawnOk l a0.tmps.size = true) (G : Nat → Bool) (J : (Nat → Bool) → Act → World → Prop)
    (hgw : ∀ (i : Nat) (o : Oper), l[i]? = some o → ∀ (L : Nat → Bool) (a : Act) (w : World), (∀ j, (o.after.any fun e => Region.binds .any e && e.on == j) = true → L j = true) → J L a w → Region.wanted o (yielded l.toArray a.tmps) = G i)
    (hstep : ∀ (i : Nat) (o : Oper), l[i]? = some o → G i = true → ∀ (L : Nat → Bool) (a : Act) (w : World), L i = false → (∀ j, (o.after.any fun e => Region.binds .any e && e.on == j) = true → L j = true) → J L a w → o.wp P a w (fun a' w' => ∀ L' : Nat → Bool, (∀ k, L' k = if k = i then true else L k) → J L' a' w') Q)
    (hskip : ∀ (i : Nat) (o : Oper), l[i]? = some o → G i = false → ∀ (L : Nat → Bool) (a : Act) (w : World), L i = false → (∀ j, (o.after.any fun e => Region.binds .any e && e.on == j) = true → L j = true) → J L a w → ∀ L' : Nat → Bool, (∀ k, L' k = if k = i then true else L k) → J L' (a.put o.dst undef) w)
    (hend : ∀ (L : Nat → Bool) (a : Act) (w : World), (∀ i, i < l.length → L i = true) → J L a w → Q .normal a w) :
    ∀ (fuel : Nat) (listed : Array Bool) (a : Act) (w : World), listed.size = l.length → (listed.toList.countP (· == false)) ≤ fuel → J (fun i => listed.getD i true) a w → wpAny P .any l.toArray Q fuel listed a w := by
  have fin : ∀ (listed : Array Bool) (a : Act) (w : World), listed.size = l.length → J (fun i => listed.getD i true) a w → Region.ready .any l.toArray listed = [] → Q .normal a w := by
    intro listed a w hl h hr
    exact hend _ a w (fun i hi => all_listed hok hl hr i hi) h
  intro fuel
  induction fuel with
  | zero =>
    intro listed a w hl hc h
    have hr : Region.ready .any l.toArray listed = [] := by
      unfold Region.ready
      rw [List.filter_eq_nil_iff]
      intro i hi
      have hil : i < listed.size := by rw [hl]; simpa using hi
      have h0 : listed.toList.countP (· == false) = 0 := by omega
      rw [List.countP_eq_zero] at h0
      have := h0 listed[i] (by simp)
      simp [Array.getD, hil] at this ⊢
      simp [this]
    exact ⟨hr, fin listed a w hl h hr⟩
  | succ fuel ih =>
    intro listed a w hl hc h
    refine ⟨fin listed a w hl h, fun i hi => ?_⟩
    unfold Region.ready at hi
    rw [List.mem_filter] at hi
    obtain ⟨hi1, hi2⟩ := hi
    have hil : i < l.length := by simpa using hi1
    have ho : l[i]? = some l[i] := List.getElem?_eq_getElem hil
    simp only [Bool.and_eq_true, Bool.not_eq_true', List.getElem?_toArray, ho, Option.map_some, Option.getD_some] at hi2
    obtain ⟨hnl, haft⟩ := hi2
    rw [Array.all_eq_true_iff_forall_mem] at haft
    have hls : i < listed.size := by rw [hl]; exact hil
    have hprev : ∀ j, (l[i].after.any fun e => Region.binds .any e && e.on == j) = true → listed.getD j true = true := by
      intro j hj
      rw [Array.any_eq_true'] at hj
      obtain ⟨e, he, hej⟩ := hj
      simp only [Bool.and_eq_true, beq_iff_eq] at hej
      obtain ⟨hb, rfl⟩ := hej
      have hle := haft e he
      rw [hb] at hle
      by_cases hjl : e.on < listed.size
      · simp [Array.getD, hjl] at hle ⊢
        exact hle
      · simp [Array.getD, hjl]
    have hcount : ((listed.setIfInBounds i true).toList.countP (· == false)) ≤ fuel := by
      have hli : listed.toList[i]'(by simpa using hls) = false := by
        simp [Array.getD, hls] at hnl
        simpa using hnl
      rw [Array.toList_setIfInBounds, List.countP_set (h := by simpa using hls), hli]
      have hpos : 0 < listed.toList.countP (· == false) := List.countP_pos_iff.2 ⟨false, by rw [← hli]; exact List.getElem_mem _, rfl⟩
      rw [if_pos (by decide), if_neg (by decide)]
      omega
    have hLi : listed.getD i true = false := by
      simp [Array.getD, hls] at hnl ⊢
      exact hnl
    have hset : ∀ k, (listed.setIfInBounds i true).getD k true = if k = i then true else listed.getD k true := by
      intro k
      by_cases hk : k = i
      · subst hk
        simp [Array.getD, hls]
      · simp only [Array.getD_eq_getD_getElem?, Array.getElem?_setIfInBounds]
        rw [if_neg (fun e => hk e.symm), if_neg hk]
    unfold wpOp
    simp only [List.getElem?_toArray, ho]
    rw [hgw i l[i] ho _ a w hprev h]
    by_cases hG : G i = true
    · rw [if_pos hG]
      refine .inl (Oper.wp_mono (fun a' w' hJ => ?_) (hstep i l[i] ho hG _ a w hLi hprev h))
      exact ih _ a' w' (by simpa using hl) hcount (hJ _ hset)
    · rw [if_neg hG]
      exact ih _ _ w (by simpa using hl) hcount (hskip i l[i] ho (by simpa using hG) _ a w hLi hprev h _ hset)

/-- What is to be shown of one operation: carried out, or passed over. -/
def GsGoal (P : Program) (l : List Oper) (vs : List Value) (G : Nat → Bool) (a0 : Act) (I : (Nat → Bool) → World → Prop) (i : Nat) (o : Oper) : Prop :=
  (match o.guard with | none => G i = true | some (j, b) => ∃ b', (vs[j]?).getD undef = .bool b' ∧ (b' == b) = G i) ∧
  ∀ ρ w L, Like l a0 ρ → L i = false → Done o L → Holds l vs o ρ → I L w → if G i = true then YieldsP P ρ o w (fun v w' => v = (vs[i]?).getD undef ∧ I (setL L i) w') else (vs[i]?).getD undef = undef ∧ I (setL L i) w

theorem StInv.step {vs : List Value} {I : (Nat → Bool) → World → Prop} (hok : drawnOk l a0.tmps.size = true) {L L' : Nat → Bool} {a : Act} {w w' : World} (h : StInv l vs a0 I L a w) {i : Nat} {o : Oper} (hi : l[i]? = some o) (hI : I L' w') (hL : ∀ k, L' k = if k = i then true else L k) :
    StInv l vs a0 I L' (a.put o.dst ((vs[i]?).getD undef)) w' := by
  obtain ⟨_, h2, _⟩ := drawnOk_at hok hi
  refine ⟨?_, ?_, ⟨fun c => rfl, fun f => rfl, fun k hk => ?_⟩, fun j o' d hj hd hl => ?_, hI⟩
  · cases o.dst <;> exact h.defers
  · cases hd : o.dst with
    | none => exact h.size
    | some d => simpa [Act.put] using h.size
  · show (a.put o.dst _).tmps.getD k undef = _
    cases hd : o.dst with
    | none => exact h.like.tmp k hk
    | some d =>
      have hne : k ≠ d := by
        have := List.all_eq_true.1 hk o (List.mem_of_getElem? hi)
        simp [hd] at this
        exact fun e => this e.symm
      rw [getD_put hne]
      exact h.like.tmp k hk
  · by_cases hji : j = i
    · subst hji
      rw [hi] at hj
      cases hj
      obtain ⟨h3, _⟩ := h2 d hd
      rw [hd, getD_put_same (by rw [h.size]; exact h3)]
    · have hl' : L j = true := by
        have := hL j
        rw [if_neg hji] at this
        rw [← this]
        exact hl
      have := h.vals j o' d hj hd hl'
      cases hdo : o.dst with
      | none => exact this
      | some d' =>
        have hne : d ≠ d' := by
          intro e
          subst e
          exact (h2 d hdo).2 j o' hj hji hd
        rw [getD_put hne]
        exact this

theorem wp_region_gstate (hm : P.follows .mixedOrders = true) (vs : List Value) (G : Nat → Bool) (hok : drawnOk l a0.tmps.size = true) (I : (Nat → Bool) → World → Prop)
    (h0 : ∀ L : Nat → Bool, (∀ i, i < l.length → L i = false) → I L w0.drew) (hop : AllFrom (GsGoal P l vs G a0 I) 0 l)
    (hend : ∀ a w L, a.defers = a0.defers → a.tmps.size = a0.tmps.size → Like l a0 a.eval → (∀ i, i < l.length → L i = true) → I L w → (∀ (i : Nat) (o : Oper) (d : Nat), l[i]? = some o → o.dst = some d → a.tmps.getD d undef = (vs[i]?).getD undef) → Q .normal a w) :
    (Code.region id l.toArray true).wp P Q a0 w0 := by
  refine wp_region_any hm ?_
  have hgoal : ∀ i o, l[i]? = some o → GsGoal P l vs G a0 I i o := fun i o hi => by
    have := hop.at i o hi
    rwa [Nat.zero_add] at this
  have hholds : ∀ (o : Oper) (L : Nat → Bool) (a : Act) (w : World), (∀ j, (o.after.any fun e => Region.binds .any e && e.on == j) = true → L j = true) → StInv l vs a0 I L a w → Holds l vs o a.eval := by
    intro o L a w hd h j hj d hdj
    obtain ⟨oj, hoj, hdst⟩ := Option.bind_eq_some_iff.1 hdj
    exact h.vals j oj d hoj hdst (hd j hj)
  refine wpAny_of_ginv hok G (StInv l vs a0 I) (fun i o hi L a w hd h => ?_) (fun i o hi hG L a w hLi hd h => ?_) (fun i o hi hG L a w hLi hd h => ?_) (fun L a w hL h => ?_) _ _ _ _ (by simp) ?_ ?_
  · have hg := (hgoal i o hi).1
    unfold Region.wanted
    cases hgd : o.guard with
    | none => simp only [hgd] at hg; exact hg.symm
    | some jb =>
      obtain ⟨j, b⟩ := jb
      simp only [hgd] at hg
      obtain ⟨b', hv', hbb⟩ := hg
      obtain ⟨hbind, d, hdd⟩ := (drawnOk_at hok hi).2.2 j b hgd
      obtain ⟨oj, hoj, hdj⟩ := Option.bind_eq_some_iff.1 hdd
      have hval0 := h.vals j oj d hoj hdj (hd j hbind)
      rw [hv'] at hval0
      have hdlt := ((drawnOk_at hok hoj).2.1 d hdj).1
      have hsz : d < a.tmps.size := by rw [h.size]; exact hdlt
      have hval : a.tmps[d]? = some (.bool b') := by
        rw [Array.getElem?_eq_getElem hsz]
        have : a.tmps.getD d undef = a.tmps[d] := by simp [Array.getD, hsz]
        rw [← this, hval0]
      simp only [yielded, List.getElem?_toArray, hoj, Option.bind_some, hdj, hval]
      rw [← hbb]
      cases b' <;> cases b <;> rfl
  · have hg := (hgoal i o hi).2 a.eval w L h.like hLi hd (hholds o L a w hd h) h.inv
    rw [if_pos hG] at hg
    refine wp_of_yields hg fun v w' hv => ?_
    obtain ⟨rfl, hI⟩ := hv
    intro L' hL'
    obtain rfl : L' = setL L i := funext hL'
    exact h.step hok hi hI (fun _ => rfl)
  · have hg := (hgoal i o hi).2 a.eval w L h.like hLi hd (hholds o L a w hd h) h.inv
    rw [if_neg (by rw [hG]; decide)] at hg
    intro L' hL'
    obtain rfl : L' = setL L i := funext hL'
    have := h.step hok hi hg.2 (fun _ => rfl)
    rwa [hg.1] at this
  · exact hend a w L h.defers h.size h.like hL h.inv (fun i o d hi hd => h.vals i o d hi hd (hL i (List.getElem?_eq_some_iff.1 hi).1))
  · exact Nat.le_trans List.countP_le_length (by simp)
  · refine ⟨rfl, rfl, ⟨fun _ => rfl, fun _ => rfl, fun _ _ => rfl⟩, fun i o d hi _ hl => ?_, h0 _ fun i hi => by simp [Array.getD, hi]⟩
    have := (List.getElem?_eq_some_iff.1 hi).1
    simp [Array.getD, this] at hl
end
end Go.Proofs.Ytcglkdmfbnpniaa
