/- Behind a region that draws its order, the frame is the one before it with the region's own slots put. -/
import Derived.Test.YtbhapbioibhalaaDrawn
namespace Go.Proofs.Ytbhapbioibhalaa
open Go Go.RowKit

theorem act_ext {a b : Act} (hd : a.defers = b.defers) (hs : a.tmps.size = b.tmps.size) (h : ∀ k, k < a.tmps.size → a.tmps.getD k undef = b.tmps.getD k undef) : a = b := by
  cases a with
  | mk ta da =>
    cases b with
    | mk tb db =>
      simp only at hd hs h
      have ht : ta = tb := Array.ext hs fun k h1 h2 => by
        have := h k h1
        simpa [Array.getD, h1, h2] using this
      subst ht
      subst hd
      rfl

theorem size_put (a : Act) (d : Nat) (v : Value) : (a.put (some d) v).tmps.size = a.tmps.size := by simp [Act.put]
theorem defers_put (a : Act) (d : Nat) (v : Value) : (a.put (some d) v).defers = a.defers := rfl

def putAll (aa a : Act) (ds : List Nat) : Act := ds.foldl (fun a d => a.put (some d) (aa.tmps.getD d undef)) a

theorem putAll_spec (aa : Act) : ∀ (ds : List Nat) (a : Act), (putAll aa a ds).defers = a.defers ∧ (putAll aa a ds).tmps.size = a.tmps.size ∧
    ∀ k, k < a.tmps.size → (putAll aa a ds).tmps.getD k undef = if k ∈ ds then aa.tmps.getD k undef else a.tmps.getD k undef
  | [], a => ⟨rfl, rfl, fun k _ => by simp [putAll]⟩
  | d :: ds, a => by
    obtain ⟨h1, h2, h3⟩ := putAll_spec aa ds (a.put (some d) (aa.tmps.getD d undef))
    refine ⟨h1, h2.trans (size_put a d _), fun k hk => ?_⟩
    have := h3 k (by rw [size_put]; exact hk)
    show (putAll aa (a.put (some d) (aa.tmps.getD d undef)) ds).tmps.getD k undef = _
    rw [this]
    by_cases hkd : k = d
    · subst hkd
      rw [getD_put_same hk]
      simp
    · rw [getD_put hkd]
      simp [hkd]

theorem act_of_like {l : List Oper} {a0 aa : Act} (hdef : aa.defers = a0.defers) (hsz : aa.tmps.size = a0.tmps.size) (hlk : Like l a0 aa.eval) (ds : List Nat) (n : Nat) (hn : a0.tmps.size = n)
    (hds : ((List.range n).all fun k => ds.contains k || l.all fun o => o.dst != some k) = true) : aa = putAll aa a0 ds := by
  subst hn
  obtain ⟨h1, h2, h3⟩ := putAll_spec aa ds a0
  refine act_ext (hdef.trans h1.symm) (hsz.trans h2.symm) fun k hk => ?_
  rw [h3 k (by omega)]
  by_cases hkd : k ∈ ds
  · rw [if_pos hkd]
  · rw [if_neg hkd]
    have := List.all_eq_true.1 hds k (by simpa using (by omega : k < a0.tmps.size))
    have h4 := hlk.tmp k (by simpa [hkd] using this)
    exact h4
end Go.Proofs.Ytbhapbioibhalaa
