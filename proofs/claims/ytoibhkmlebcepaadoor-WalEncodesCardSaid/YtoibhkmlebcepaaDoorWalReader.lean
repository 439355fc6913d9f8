import Derived.Test.YtoibhkmlebcepaaDoorSl
import Derived.Test.YtoibhkmlebcepaaDoorGetText
namespace Go.Proofs.YtoibhkmlebcepaaDoor
open Go Go.RowKit

/-- The reader in block g has l left. -/
def RdrAt (B : Nat) (w : World) (g : Nat) (l : List UInt8) (bad : Bool) : Prop :=
  ∃ v, w.heap[g]? = some (.cells #[v, .bool bad] 57 (0, 0)) ∧ Sl B w v l ∧ B ≤ g

theorem two_stored {w : World} {g : Nat} {x y : Value} {t : TypeId} (h : w.heap[g]? = some (.cells #[x, y] t (0, 0))) (u v : Value) :
    ((w.setCell ⟨g, 0, none⟩ u).setCell ⟨g, 1, none⟩ v).heap[g]? = some (.cells #[u, v] t (0, 0)) := by
  rw [heap_setCell_same _ _ 1 _ _ _ (heap_setCell_same _ _ 0 _ _ _ h)]
  rfl

theorem getGo_err : ∀ (l : List UInt8) (i V : Nat), ¬ (getGo i V l).2.2 = 0 → (getGo i V l).2.1 ≤ l.length
  | [], i, V, _ => by rw [getGo]; exact Nat.zero_le _
  | c :: r, i, V, h => by
    rw [getGo] at h ⊢
    split
    · exact Nat.zero_le _
    · rename_i h10
      rw [if_neg h10] at h
      split
      · rename_i hc
        rw [if_pos hc] at h
        exact Nat.le_trans (getGo_err r _ _ h) (by simp)
      · rename_i hc
        rw [if_neg hc] at h
        split
        · exact Nat.zero_le _
        · rename_i hb
          rw [if_neg hb] at h
          exact absurd rfl h

theorem getGo_used (l : List UInt8) : (getGo 0 0 l).2.1 ≤ l.length := by
  by_cases h : (getGo 0 0 l).2.2 = 0
  · have he : getGo 0 0 l = ((getGo 0 0 l).1, (getGo 0 0 l).2.1, 0) := Prod.ext rfl (Prod.ext rfl h)
    have := getGo_ok l 0 0 _ _ (by decide) he
    omega
  · exact getGo_err l 0 0 h

theorem getText_used (l : List UInt8) : (getText l).2.1 ≤ l.length := by
  unfold getText
  split
  · rename_i h
    split
    · exact Nat.zero_le _
    · have := getGo_used l
      show (getGo 0 0 l).2.1 + (getGo 0 0 l).1 ≤ l.length
      omega
  · exact Nat.zero_le _

def OverPost (B : Nat) (w : World) (g : Nat) (l : List UInt8) (bad : Bool) (x : Value) (e : Ending) (w' : World) : Prop :=
  e = .returned x ∧ RdrAt B w' g l bad ∧ Touch w w' [g]

set_option maxRecDepth 100000 in
set_option maxHeartbeats 400000 in
theorem over_any (B : Nat) (w : World) (g : Nat) (l : List UInt8) (bad : Bool) (k e : Nat) (h : RdrAt B w g l bad) (hk : k ≤ l.length) (hl : l.length ≤ 1000000000) :
    Calls Tryd.prog 39 #[.pointer (some ⟨g, 0, none⟩), .int .i64 (k : Int), .int .i64 (e : Int)] w (OverPost B w g (l.drop k) (bad || decide (e ≠ 0)) (.tuple #[])) := by
  obtain ⟨v, hg, hs, hB⟩ := h
  have hcut := hs.cut hk
  have hst := two_stored hg (cutV v k) (.bool (bad || decide (e ≠ 0)))
  have c0 := Lib.cell_of_heap hg 0
  have c1 := Lib.cell_of_heap hg 1
  have f0 := Lib.frozen_of_heap hg
  simp at c0 c1
  have hne : ((e : Int) != 0) = decide (e ≠ 0) := by
    by_cases h : e = 0
    · subst h; rfl
    · simp [h]
  have htc : Touch w ((w.setCell ⟨g, 0, none⟩ (cutV v k)).setCell ⟨g, 1, none⟩ (.bool (bad || decide (e ≠ 0)))) [g] := ((Touch.refl w [g]).setCell (p := ⟨g, 0, none⟩) (.inl (by simp)) _).setCell (p := ⟨g, 1, none⟩) (.inl (by simp)) _
  have hfin : OverPost B w g (l.drop k) (bad || decide (e ≠ 0)) (.tuple #[]) (.returned (.tuple #[])) ((w.setCell ⟨g, 0, none⟩ (cutV v k)).setCell ⟨g, 1, none⟩ (.bool (bad || decide (e ≠ 0)))) :=
    ⟨rfl, ⟨_, hst, htc.sl hcut hB, hB⟩, htc⟩
  have HF := Lib.hid hfin
  have hlt : g < w.heap.size := (Array.getElem?_eq_some_iff.1 hg).1
  clear hfin htc hst hcut hg
  generalize hd : decide (e ≠ 0) = d at *
  rcases hs with ⟨⟨ax, rfl⟩, rfl⟩ | ⟨b, off, cap, rfl, _, _, hr⟩
  · have hk0 : k = 0 := by simpa using hk
    subst hk0
    rw [cutV_zero] at HF
    go_enter Tryd.func39, Tryd.ntmps39
    rcases ax with _ | ax <;> cases bad <;> cases d
    all_goals
      go_wp2
      exact bodyPost_end (by simp [results, Tryd.results39]) rfl HF.out
  · obtain ⟨_, _, hv, hc1, hc2⟩ := hr.le
    cases hv
    unfold maxLen at hc2
    rw [cutV_some] at HF
    have hkI : (k : Int) ≤ (l.length : Int) := by omega
    have hle1 : ((l.length - k : Nat) : Int) = (l.length : Int) - (k : Int) := by omega
    have hle2 : ((cap - k : Nat) : Int) = (cap : Int) - (k : Int) := by omega
    by_cases hck : cap = k
    · rw [if_pos hck] at HF
      have hz1 : l.length - k = 0 := by omega
      have hz2 : cap - k = 0 := by omega
      rw [hz1, hz2] at HF
      have hlk : l.length = k := by omega
      subst hck
      rw [hlk] at c0
      go_enter Tryd.func39, Tryd.ntmps39
      cases bad <;> cases d
      all_goals
        go_wp2
        exact bodyPost_end (by simp [results, Tryd.results39]) rfl HF.out
    · rw [if_neg hck] at HF
      have hck' : ¬ ((cap : Int) = k) := by omega
      go_enter Tryd.func39, Tryd.ntmps39
      cases bad <;> cases d
      all_goals
        go_wp2
        exact bodyPost_end (by simp [results, Tryd.results39]) rfl HF.out

set_option maxRecDepth 100000 in
set_option maxHeartbeats 400000 in
theorem rdnumber_any (B : Nat) (w : World) (g : Nat) (l : List UInt8) (bad : Bool) (h : RdrAt B w g l bad) (hl : l.length ≤ 1000000000) :
    Calls Tryd.prog 28 #[.pointer (some ⟨g, 0, none⟩)] w (OverPost B w g (l.drop (getGo 0 0 l).2.1) (bad || decide ((getGo 0 0 l).2.2 ≠ 0)) (.int .u64 ((getGo 0 0 l).1 : Int))) := by
  have hget := fun v (hs : Sl B w v l) => get_any w v _ l hs.reads
  have hk : (getGo 0 0 l).2.1 ≤ l.length := getGo_used l
  have hov := over_any B w g l bad (getGo 0 0 l).2.1 (getGo 0 0 l).2.2 h hk hl
  obtain ⟨v, hg, hs, hB⟩ := h
  have hge := hget v hs
  generalize getGo 0 0 l = r at *
  obtain ⟨N, k, e⟩ := r
  dsimp only at hov hk ⊢
  have HO := Lib.hid hov
  have HG := Lib.hid hge
  have c0 := Lib.cell_of_heap hg 0
  simp at c0
  have hlt : g < w.heap.size := (Array.getElem?_eq_some_iff.1 hg).1
  clear hov hge hget hg
  go_enter Tryd.func28, Tryd.ntmps28
  go_wp2_with (go_at_call 38; go_must (refine HG.out.mono ?_))
  rintro e1 w1 ⟨rfl, rfl⟩
  go_wp2_with (go_at_call 39; go_must (refine HO.out.mono ?_))
  rintro e2 w2 ⟨rfl, r2, t2⟩
  go_wp2
  go_ret
  exact ⟨rfl, r2, t2⟩

set_option maxRecDepth 100000 in
set_option maxHeartbeats 400000 in
theorem text_any (B : Nat) (w : World) (g : Nat) (l : List UInt8) (bad : Bool) (h : RdrAt B w g l bad) (hl : l.length ≤ 1000000000) :
    Calls Tryd.prog 30 #[.pointer (some ⟨g, 0, none⟩)] w (OverPost B w g (l.drop (getText l).2.1) (bad || decide ((getText l).2.2 ≠ 0)) (.string ⟨(getText l).1.toArray⟩)) := by
  have hget := fun v (hs : Sl B w v l) => gettext_any w v _ l hs.reads
  have hk : (getText l).2.1 ≤ l.length := getText_used l
  have hov := over_any B w g l bad (getText l).2.1 (getText l).2.2 h hk hl
  obtain ⟨v, hg, hs, hB⟩ := h
  have hge := hget v hs
  generalize getText l = r at *
  obtain ⟨N, k, e⟩ := r
  dsimp only at hov hk ⊢
  have HO := Lib.hid hov
  have HG := Lib.hid hge
  have c0 := Lib.cell_of_heap hg 0
  simp at c0
  have hlt : g < w.heap.size := (Array.getElem?_eq_some_iff.1 hg).1
  clear hov hge hget hg
  go_enter Tryd.func30, Tryd.ntmps30
  go_wp2_with (go_at_call 40; go_must (refine HG.out.mono ?_))
  rintro e1 w1 ⟨rfl, rfl⟩
  go_wp2_with (go_at_call 39; go_must (refine HO.out.mono ?_))
  rintro e2 w2 ⟨rfl, r2, t2⟩
  go_wp2
  go_ret
  exact ⟨rfl, r2, t2⟩

/-- What truth tells, how many bytes, whether it is wrong. -/
def truthL (l : List UInt8) : Bool × Nat × Bool :=
  match l with
  | [] => (false, 0, true)
  | c :: _ => if 1 < c.toNat then (false, 0, true) else (c == 1, 1, false)

set_option maxRecDepth 100000 in
set_option maxHeartbeats 400000 in
theorem truth_any (B : Nat) (w : World) (g : Nat) (l : List UInt8) (bad : Bool) (h : RdrAt B w g l bad) (hl : l.length ≤ 1000000000) :
    Calls Tryd.prog 29 #[.pointer (some ⟨g, 0, none⟩)] w (OverPost B w g (l.drop (truthL l).2.1) (bad || (truthL l).2.2) (.bool (truthL l).1)) := by
  obtain ⟨v, hg, hs, hB⟩ := h
  have hlt : g < w.heap.size := (Array.getElem?_eq_some_iff.1 hg).1
  have c0 := Lib.cell_of_heap hg 0
  have c1 := Lib.cell_of_heap hg 1
  have f0 := Lib.frozen_of_heap hg
  simp at c0 c1
  have hbad : OverPost B w g l true (.bool false) (.returned (.bool false)) (w.setCell ⟨g, 1, none⟩ (.bool true)) := by
    have htc : Touch w (w.setCell ⟨g, 1, none⟩ (.bool true)) [g] := (Touch.refl w [g]).setCell (p := ⟨g, 1, none⟩) (.inl (by simp)) _
    refine ⟨rfl, ⟨v, ?_, htc.sl hs hB, hB⟩, htc⟩
    rw [heap_setCell_same _ _ 1 _ _ _ hg]
    rfl
  have hgood : ∀ (c : UInt8) (b : Bool), 1 ≤ l.length → OverPost B w g (l.drop 1) bad (.bool b) (.returned (.bool b)) (w.setCell ⟨g, 0, none⟩ (cutV v 1)) := by
    intro c b h1
    have htc : Touch w (w.setCell ⟨g, 0, none⟩ (cutV v 1)) [g] := (Touch.refl w [g]).setCell (p := ⟨g, 0, none⟩) (.inl (by simp)) _
    refine ⟨rfl, ⟨_, ?_, htc.sl (hs.cut h1) hB, hB⟩, htc⟩
    rw [heap_setCell_same _ _ 0 _ _ _ hg]
    rfl
  have HBd := Lib.hid hbad
  have HGd := Lib.hid hgood
  clear hbad hgood hg
  cases l with
  | nil =>
    have hv : ∃ a cap, v = .slice a 0 cap := by
      rcases hs with ⟨⟨ax, rfl⟩, _⟩ | ⟨b, off, cap, rfl, _⟩
      · exact ⟨_, _, rfl⟩
      · exact ⟨_, _, rfl⟩
    obtain ⟨a, cap, rfl⟩ := hv
    go_enter Tryd.func29, Tryd.ntmps29
    go_wp2
    go_ret
    have := HBd.out
    simpa [truthL] using this
  | cons c r =>
    rcases hs with ⟨_, hn⟩ | ⟨b, off, cap, rfl, hbB, hbw, hr⟩
    · cases hn
    · replace hbB := hbB (by simp)
      replace hbw := hbw (by simp)
      have hcc : w.cell? ⟨b, off, none⟩ = some (.int .u8 (c.toNat : Int)) := by
        have := hr.bcell 0 (by simp)
        simpa using this
      obtain ⟨_, _, hv, hc1, hc2⟩ := hr.le
      cases hv
      unfold maxLen at hc2
      have hlen : (c :: r).length = r.length + 1 := rfl
      rw [hlen] at c0 hc1 hl
      have hgb : g ≠ b := by omega
      have HR := Lib.hid hr
      have hbg : b ≠ g := by omega
      have hg1 := fun bb => HGd.out c bb (by simp)
      rw [cutV_some, hlen, Nat.add_sub_cancel] at hg1
      have HG1 := Lib.hid hg1
      clear hr hlen HGd hg1
      by_cases h1 : 1 < c.toNat
      · have h1I : (1 : Int) < c.toNat := by omega
        go_enter Tryd.func29, Tryd.ntmps29
        go_wp2
        go_ret
        have := HBd.out
        simpa [truthL, h1] using this
      · have h1I : ¬ (1 : Int) < c.toNat := by omega
        have hceq : ((c.toNat : Int) == 1) = (c == 1) := by
          by_cases h : c = 1
          · subst h; rfl
          · have h2 : (c == 1) = false := beq_eq_false_iff_ne.2 h
            have h3 : ¬ ((c.toNat : Int) = 1) := fun e => h (UInt8.toNat_inj.1 (by show c.toNat = 1; omega))
            rw [h2]
            simpa using h3
        by_cases hck : cap = 1
        · rw [if_pos hck] at HG1
          have hr0 : r.length = 0 := by omega
          have hcz : cap - 1 = 0 := by omega
          rw [hr0, hcz] at HG1
          rw [hr0] at c0
          subst hck
          clear HR hcz hr0
          go_enter Tryd.func29, Tryd.ntmps29
          go_wp2
          go_ret
          have := HG1.out (c == 1)
          simpa [truthL, h1] using this
        · rw [if_neg hck] at HG1
          have hck' : ¬ ((cap : Int) = 1) := by omega
          have hle2 : ((cap - 1 : Nat) : Int) = (cap : Int) - 1 := by omega
          clear HR
          go_enter Tryd.func29, Tryd.ntmps29
          go_wp2
          go_ret
          have := HG1.out (c == 1)
          simpa [truthL, h1] using this
end Go.Proofs.YtoibhkmlebcepaaDoor
