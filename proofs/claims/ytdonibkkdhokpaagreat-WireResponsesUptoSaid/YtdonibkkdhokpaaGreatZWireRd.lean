/- The reader: numbers, texts. -/
import Derived.Test.YtdonibkkdhokpaaGreatMga
namespace Go.Proofs.YtdonibkkdhokpaaGreat
open Go Go.RowKit

/-- The reader in block g: what is left, how deep it stands, whether something was wrong. -/
def RAt (B : Nat) (w : World) (g : Nat) (rest : List UInt8) (d : Int) (bad : Bool) : Prop :=
  ∃ rv, w.heap[g]? = some (.cells #[rv, .int .i64 d, .bool bad] 166 (0, 0)) ∧ Sl B w rv rest ∧ B ≤ g

def RPost (B : Nat) (w : World) (g : Nat) (rest : List UInt8) (d : Int) (bad : Bool) (v : Value) (e : Ending) (w' : World) : Prop :=
  e = .returned v ∧ RAt B w' g rest d bad ∧ Touch w w' [g]

def rnum (l : List UInt8) (bad : Bool) : Nat × List UInt8 × Bool := if bad = true then (0, l, true) else ((getGo 0 0 l).1, l.drop (getGo 0 0 l).2.1, decide ((getGo 0 0 l).2.2 ≠ 0))
def rtxt (l : List UInt8) (bad : Bool) : ByteArray × List UInt8 × Bool := if bad = true then (⟨#[]⟩, l, true) else (⟨(getText l).1.toArray⟩, l.drop (getText l).2.1, decide ((getText l).2.2 ≠ 0))

theorem getGo_le' (l : List UInt8) : (getGo 0 0 l).2.1 ≤ l.length := getGo_le l
theorem getText_le' (l : List UInt8) : (getText l).2.1 ≤ l.length := getText_le l

set_option maxRecDepth 100000 in
set_option maxHeartbeats 2000000 in
theorem rnumber_any (B : Nat) (w : World) (g : Nat) (rest : List UInt8) (dp : Int) (bad : Bool) (h : RAt B w g rest dp bad) :
    Calls Tryz.prog 35 #[.pointer (some ⟨g, 0, none⟩)] w (RPost B w g (rnum rest bad).2.1 dp (rnum rest bad).2.2 (.int .u64 ((rnum rest bad).1 : Int))) := by
  cases bad with
  | true =>
    obtain ⟨v, hg, hs, hB⟩ := h
    have hlt : g < w.heap.size := (Array.getElem?_eq_some_iff.1 hg).1
    have c2 := Lib.cell_of_heap hg 2
    simp at c2
    have HR := Lib.hid (show RAt B w g rest dp true from ⟨v, hg, hs, hB⟩)
    clear hg hs
    show Calls _ _ _ _ (RPost B w g rest dp true (.int .u64 0))
    go_enter Tryz.func35, Tryz.ntmps35
    go_wp2
    go_ret
    exact ⟨rfl, HR.out, Touch.refl _ _⟩
  | false =>
    obtain ⟨v, hg, hs, hB⟩ := h
    have hk := getGo_le' rest
    have hget := get_any w v _ rest hs.reads
    have hcut := fun {k : Nat} (hk : k ≤ rest.length) => hs.cut hk
    have hlt : g < w.heap.size := (Array.getElem?_eq_some_iff.1 hg).1
    unfold rnum
    generalize getGo 0 0 rest = r at *
    obtain ⟨sv, k, e⟩ := r
    dsimp only at hk ⊢
    have hst : ((w.setCell ⟨g, 0, none⟩ (cutV v k)).setCell ⟨g, 2, none⟩ (.bool (decide (e ≠ 0)))).heap[g]? = some (.cells #[cutV v k, .int .i64 dp, .bool (decide (e ≠ 0))] 166 (0, 0)) := by
      rw [heap_setCell_same _ _ 2 _ _ _ (heap_setCell_same _ _ 0 _ _ _ hg)]
      rfl
    have c0 := Lib.cell_of_heap hg 0
    have c2 := Lib.cell_of_heap hg 2
    have f0 := Lib.frozen_of_heap hg
    simp at c0 c2
    have hne : ((e : Int) != 0) = decide (e ≠ 0) := by
      by_cases h : e = 0
      · subst h; rfl
      · simp [h]
    have htc : Touch w ((w.setCell ⟨g, 0, none⟩ (cutV v k)).setCell ⟨g, 2, none⟩ (.bool (decide (e ≠ 0)))) [g] := ((Touch.refl w [g]).setCell (p := ⟨g, 0, none⟩) (.inl (by simp)) _).setCell (p := ⟨g, 2, none⟩) (.inl (by simp)) _
    have hfin : RAt B ((w.setCell ⟨g, 0, none⟩ (cutV v k)).setCell ⟨g, 2, none⟩ (.bool (decide (e ≠ 0)))) g (rest.drop k) dp (decide (e ≠ 0)) ∧ Touch w ((w.setCell ⟨g, 0, none⟩ (cutV v k)).setCell ⟨g, 2, none⟩ (.bool (decide (e ≠ 0)))) [g] :=
      ⟨⟨_, hst, htc.sl (hcut hk) hB, hB⟩, htc⟩
    have HF := Lib.hid hfin
    have HGet := Lib.hid hget
    clear hfin htc hst hcut hg hget
    generalize hd : decide (e ≠ 0) = d at *
    have HD := Lib.hid hd
    clear hd
    rw [show (if (false : Bool) = true then ((0 : Nat), rest, true) else (sv, List.drop k rest, d)) = (sv, List.drop k rest, d) from rfl]
    rcases hs with ⟨⟨ax, rfl⟩, rfl⟩ | ⟨b, off, cap, rfl, _, _, hr⟩
    · have hk0 : k = 0 := by simpa using hk
      subst hk0
      rw [cutV_zero] at HF
      rcases ax with _ | ax <;> cases d
      all_goals
        go_enter Tryz.func35, Tryz.ntmps35
        go_wp2_with (go_at_call 96; go_must (refine HGet.out.mono ?_))
        rintro e1 w1 ⟨rfl, rfl⟩
        go_wp2
        go_ret
        exact ⟨rfl, HF.out.1, HF.out.2⟩
    · obtain ⟨_, _, hv, hc1, hc2⟩ := hr.le
      cases hv
      unfold maxLen at hc2
      rw [cutV_some] at HF
      have hkI : (k : Int) ≤ (rest.length : Int) := by omega
      have hle1 : ((rest.length - k : Nat) : Int) = (rest.length : Int) - (k : Int) := by omega
      have hle2 : ((cap - k : Nat) : Int) = (cap : Int) - (k : Int) := by omega
      by_cases hck : cap = k
      · rw [if_pos hck] at HF
        have hz1 : rest.length - k = 0 := by omega
        have hz2 : cap - k = 0 := by omega
        rw [hz1, hz2] at HF
        have hlk : rest.length = k := by omega
        subst hck
        rw [hlk] at c0 HGet
        cases d
        all_goals
          go_enter Tryz.func35, Tryz.ntmps35
          go_wp2_with (go_at_call 96; go_must (refine HGet.out.mono ?_))
          rintro e1 w1 ⟨rfl, rfl⟩
          go_wp2
          go_ret
          exact ⟨rfl, HF.out.1, HF.out.2⟩
      · rw [if_neg hck] at HF
        have hck' : ¬ ((cap : Int) = k) := by omega
        cases d
        all_goals
          go_enter Tryz.func35, Tryz.ntmps35
          go_wp2_with (go_at_call 96; go_must (refine HGet.out.mono ?_))
          rintro e1 w1 ⟨rfl, rfl⟩
          go_wp2
          go_ret
          exact ⟨rfl, HF.out.1, HF.out.2⟩

set_option maxRecDepth 100000 in
set_option maxHeartbeats 2000000 in
theorem rtext_any (B : Nat) (w : World) (g : Nat) (rest : List UInt8) (dp : Int) (bad : Bool) (h : RAt B w g rest dp bad) :
    Calls Tryz.prog 37 #[.pointer (some ⟨g, 0, none⟩)] w (RPost B w g (rtxt rest bad).2.1 dp (rtxt rest bad).2.2 (.string (rtxt rest bad).1)) := by
  cases bad with
  | true =>
    obtain ⟨v, hg, hs, hB⟩ := h
    have hlt : g < w.heap.size := (Array.getElem?_eq_some_iff.1 hg).1
    have c2 := Lib.cell_of_heap hg 2
    simp at c2
    have HR := Lib.hid (show RAt B w g rest dp true from ⟨v, hg, hs, hB⟩)
    clear hg hs
    show Calls _ _ _ _ (RPost B w g rest dp true (.string ⟨#[]⟩))
    go_enter Tryz.func37, Tryz.ntmps37
    go_wp2
    go_ret
    exact ⟨rfl, HR.out, Touch.refl _ _⟩
  | false =>
    obtain ⟨v, hg, hs, hB⟩ := h
    have hk := getText_le' rest
    have hget := gettext_any w v _ rest hs.reads
    have hcut := fun {k : Nat} (hk : k ≤ rest.length) => hs.cut hk
    have hlt : g < w.heap.size := (Array.getElem?_eq_some_iff.1 hg).1
    unfold rtxt
    generalize getText rest = r at *
    obtain ⟨sv, k, e⟩ := r
    dsimp only at hk ⊢
    have hst : ((w.setCell ⟨g, 0, none⟩ (cutV v k)).setCell ⟨g, 2, none⟩ (.bool (decide (e ≠ 0)))).heap[g]? = some (.cells #[cutV v k, .int .i64 dp, .bool (decide (e ≠ 0))] 166 (0, 0)) := by
      rw [heap_setCell_same _ _ 2 _ _ _ (heap_setCell_same _ _ 0 _ _ _ hg)]
      rfl
    have c0 := Lib.cell_of_heap hg 0
    have c2 := Lib.cell_of_heap hg 2
    have f0 := Lib.frozen_of_heap hg
    simp at c0 c2
    have hne : ((e : Int) != 0) = decide (e ≠ 0) := by
      by_cases h : e = 0
      · subst h; rfl
      · simp [h]
    have htc : Touch w ((w.setCell ⟨g, 0, none⟩ (cutV v k)).setCell ⟨g, 2, none⟩ (.bool (decide (e ≠ 0)))) [g] := ((Touch.refl w [g]).setCell (p := ⟨g, 0, none⟩) (.inl (by simp)) _).setCell (p := ⟨g, 2, none⟩) (.inl (by simp)) _
    have hfin : RAt B ((w.setCell ⟨g, 0, none⟩ (cutV v k)).setCell ⟨g, 2, none⟩ (.bool (decide (e ≠ 0)))) g (rest.drop k) dp (decide (e ≠ 0)) ∧ Touch w ((w.setCell ⟨g, 0, none⟩ (cutV v k)).setCell ⟨g, 2, none⟩ (.bool (decide (e ≠ 0)))) [g] :=
      ⟨⟨_, hst, htc.sl (hcut hk) hB, hB⟩, htc⟩
    have HF := Lib.hid hfin
    have HGet := Lib.hid hget
    clear hfin htc hst hcut hg hget
    generalize hd : decide (e ≠ 0) = d at *
    have HD := Lib.hid hd
    clear hd
    rw [show (if (false : Bool) = true then ((⟨#[]⟩ : ByteArray), rest, true) else ((⟨sv.toArray⟩ : ByteArray), List.drop k rest, d)) = ((⟨sv.toArray⟩ : ByteArray), List.drop k rest, d) from rfl]
    rcases hs with ⟨⟨ax, rfl⟩, rfl⟩ | ⟨b, off, cap, rfl, _, _, hr⟩
    · have hk0 : k = 0 := by simpa using hk
      subst hk0
      rw [cutV_zero] at HF
      rcases ax with _ | ax <;> cases d
      all_goals
        go_enter Tryz.func37, Tryz.ntmps37
        go_wp2_with (go_at_call 98; go_must (refine HGet.out.mono ?_))
        rintro e1 w1 ⟨rfl, rfl⟩
        go_wp2
        go_ret
        exact ⟨rfl, HF.out.1, HF.out.2⟩
    · obtain ⟨_, _, hv, hc1, hc2⟩ := hr.le
      cases hv
      unfold maxLen at hc2
      rw [cutV_some] at HF
      have hkI : (k : Int) ≤ (rest.length : Int) := by omega
      have hle1 : ((rest.length - k : Nat) : Int) = (rest.length : Int) - (k : Int) := by omega
      have hle2 : ((cap - k : Nat) : Int) = (cap : Int) - (k : Int) := by omega
      by_cases hck : cap = k
      · rw [if_pos hck] at HF
        have hz1 : rest.length - k = 0 := by omega
        have hz2 : cap - k = 0 := by omega
        rw [hz1, hz2] at HF
        have hlk : rest.length = k := by omega
        subst hck
        rw [hlk] at c0 HGet
        cases d
        all_goals
          go_enter Tryz.func37, Tryz.ntmps37
          go_wp2_with (go_at_call 98; go_must (refine HGet.out.mono ?_))
          rintro e1 w1 ⟨rfl, rfl⟩
          go_wp2
          go_ret
          exact ⟨rfl, HF.out.1, HF.out.2⟩
      · rw [if_neg hck] at HF
        have hck' : ¬ ((cap : Int) = k) := by omega
        cases d
        all_goals
          go_enter Tryz.func37, Tryz.ntmps37
          go_wp2_with (go_at_call 98; go_must (refine HGet.out.mono ?_))
          rintro e1 w1 ⟨rfl, rfl⟩
          go_wp2
          go_ret
          exact ⟨rfl, HF.out.1, HF.out.2⟩

end Go.Proofs.YtdonibkkdhokpaaGreat
