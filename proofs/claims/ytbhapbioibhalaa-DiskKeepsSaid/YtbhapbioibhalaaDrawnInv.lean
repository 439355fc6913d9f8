/- A region that draws its order, shown by an invariant over what has been carried out. -/
import Derived.Test.YtbhapbioibhalaaDrawn
namespace Go.Proofs.Ytbhapbioibhalaa
open Go Go.RowKit

section
variable {P : Program} {id : Nat} {l : List Oper} {Q : Exit → Act → World → Prop} {a0 : Act} {w0 : World}

theorem wpAny_of_inv (hok : drawnOk l a0.tmps.size = true) (hung : l.all (·.guard.isNone) = true) (J : (Nat → Bool) → Act → World → Prop)
    (hstep : ∀ (i : Nat) (o : Oper), l[i]? = some o → ∀ (L : Nat → Bool) (a : Act) (w : World), L i = false → (∀ j, (o.after.any fun e => Region.binds .any e && e.on == j) = true → L j = true) → J L a w → o.wp P a w (fun a' w' => ∀ L' : Nat → Bool, (∀ k, L' k = if k = i then true else L k) → J L' a' w') Q)
    (hend : ∀ (L : Nat → Bool) (a : Act) (w : World), (∀ i, i < l.length → L i = true) → J L a w → Q .normal a w) :
    ∀ (fuel : Nat) (listed : Array Bool) (a : Act) (w : World), listed.size = l.length → (listed.toList.countP (· == false)) ≤ fuel → J (fun i => listed.getD i true) a w → wpAny P .any l.toArray Q fuel listed a w := by
  have fin : ∀ (listed : Array Bool) (a : Act) (w : World), listed.size = l.length → J (fun i => listed.getD i true) a w → Region.ready .any l.toArray listed = [] → Q .normal a w := by
    intro listed a w hl h hr
    exact hend _ a w (fun i hi => all_listed hok hl hr i hi) h
  intro fuel
  induction fuel with
  | zero =>
    intro listed a w hl hc h
    have hr : Region.ready .any l.toArray listed = [] := by
      unfold Region.ready
      rw [List.filter_eq_nil_iff]
      intro i hi
      have hil : i < listed.size := by rw [hl]; simpa using hi
      have h0 : listed.toList.countP (· == false) = 0 := by omega
      rw [List.countP_eq_zero] at h0
      have := h0 listed[i] (by simp)
      simp [Array.getD, hil] at this ⊢
      simp [this]
    exact ⟨hr, fin listed a w hl h hr⟩
  | succ fuel ih =>
    intro listed a w hl hc h
    refine ⟨fin listed a w hl h, fun i hi => ?_⟩
    unfold Region.ready at hi
    rw [List.mem_filter] at hi
    obtain ⟨hi1, hi2⟩ := hi
    have hil : i < l.length := by simpa using hi1
    have ho : l[i]? = some l[i] := List.getElem?_eq_getElem hil
    simp only [Bool.and_eq_true, Bool.not_eq_true', List.getElem?_toArray, ho, Option.map_some, Option.getD_some] at hi2
    obtain ⟨hnl, haft⟩ := hi2
    rw [Array.all_eq_true_iff_forall_mem] at haft
    have hls : i < listed.size := by rw [hl]; exact hil
    have hprev : ∀ j, (l[i].after.any fun e => Region.binds .any e && e.on == j) = true → listed.getD j true = true := by
      intro j hj
      rw [Array.any_eq_true'] at hj
      obtain ⟨e, he, hej⟩ := hj
      simp only [Bool.and_eq_true, beq_iff_eq] at hej
      obtain ⟨hb, rfl⟩ := hej
      have hle := haft e he
      rw [hb] at hle
      by_cases hjl : e.on < listed.size
      · simp [Array.getD, hjl] at hle ⊢
        exact hle
      · simp [Array.getD, hjl]
    have hcount : ((listed.setIfInBounds i true).toList.countP (· == false)) ≤ fuel := by
      have hli : listed.toList[i]'(by simpa using hls) = false := by
        simp [Array.getD, hls] at hnl
        simpa using hnl
      rw [Array.toList_setIfInBounds, List.countP_set (h := by simpa using hls), hli]
      have hpos : 0 < listed.toList.countP (· == false) := List.countP_pos_iff.2 ⟨false, by rw [← hli]; exact List.getElem_mem _, rfl⟩
      rw [if_pos (by decide), if_neg (by decide)]
      omega
    have hLi : listed.getD i true = false := by
      simp [Array.getD, hls] at hnl ⊢
      exact hnl
    have hs := hstep i l[i] ho _ a w hLi hprev h
    have hg : l[i].guard = none := by
      have := List.all_eq_true.1 hung l[i] (List.getElem_mem _)
      simpa using this
    unfold wpOp
    simp only [List.getElem?_toArray, ho]
    rw [if_pos (by unfold Region.wanted; rw [hg])]
    refine .inl (Oper.wp_mono (fun a' w' hJ => ?_) hs)
    refine ih _ a' w' (by simpa using hl) hcount (hJ _ fun k => ?_)
    by_cases hk : k = i
    · subst hk
      simp [Array.getD, hls]
    · simp only [Array.getD_eq_getD_getElem?, Array.getElem?_setIfInBounds]
      rw [if_neg (fun e => hk e.symm), if_neg hk]

theorem wp_region_inv (hm : P.follows .mixedOrders = true) (hok : drawnOk l a0.tmps.size = true) (hung : l.all (·.guard.isNone) = true) (J : (Nat → Bool) → Act → World → Prop)
    (hJ : ∀ L : Nat → Bool, (∀ i, i < l.length → L i = false) → J L a0 w0.drew)
    (hstep : ∀ (i : Nat) (o : Oper), l[i]? = some o → ∀ (L : Nat → Bool) (a : Act) (w : World), L i = false → (∀ j, (o.after.any fun e => Region.binds .any e && e.on == j) = true → L j = true) → J L a w → o.wp P a w (fun a' w' => ∀ L' : Nat → Bool, (∀ k, L' k = if k = i then true else L k) → J L' a' w') Q)
    (hend : ∀ (L : Nat → Bool) (a : Act) (w : World), (∀ i, i < l.length → L i = true) → J L a w → Q .normal a w) :
    (Code.region id l.toArray true).wp P Q a0 w0 := by
  refine wp_region_any hm ?_
  refine wpAny_of_inv hok hung J hstep hend _ _ _ _ (by simp) ?_ (hJ _ fun i hi => ?_)
  · exact Nat.le_trans List.countP_le_length (by simp)
  · simp [Array.getD, hi]
end
end Go.Proofs.Ytbhapbioibhalaa
