/- The readers: numbers, texts. -/
import Derived.Test.YthjimldojdhccaaZCodecRefGet
import Derived.Test.YthjimldojdhccaaZGetErr
import Derived.Test.YthjimldojdhccaaMga
namespace Go.Proofs.Ythjimldojdhccaa
open Go Go.RowKit

/-- The reader of type ty in block g: what is left, what was wrong first. -/
def ERAt (ty : TypeId) (B : Nat) (w : World) (g : Nat) (rest : List UInt8) (e : Nat) : Prop :=
  ∃ rv, w.heap[g]? = some (.cells #[rv, .int .i64 (e : Int)] ty (0, 0)) ∧ Sl B w rv rest ∧ B ≤ g

def ERPost (ty : TypeId) (B : Nat) (w : World) (g : Nat) (rest : List UInt8) (e : Nat) (v : Value) (end' : Ending) (w' : World) : Prop :=
  end' = .returned v ∧ ERAt ty B w' g rest e ∧ Touch w w' [g]

def ernum (l : List UInt8) (e : Nat) : Nat × List UInt8 × Nat := if e ≠ 0 then (0, l, e) else ((getGo 0 0 l).1, l.drop (getGo 0 0 l).2.1, (getGo 0 0 l).2.2)
def ertxt (l : List UInt8) (e : Nat) : ByteArray × List UInt8 × Nat := if e ≠ 0 then (⟨#[]⟩, l, e) else (⟨(getText l).1.toArray⟩, l.drop (getText l).2.1, (getText l).2.2)
def erwh (l : List UInt8) (e : Nat) : Int × List UInt8 × Nat := if 4611686018427387904 ≤ (ernum l e).1 then (0, (ernum l e).2.1, 9) else (((ernum l e).1 : Int), (ernum l e).2)

theorem getGo_none : ∀ (l : List UInt8) (i V : Nat), ¬ (getGo i V l).2.2 = 0 → (getGo i V l).1 = 0 ∧ (getGo i V l).2.1 = 0
  | [], i, V, h => by
    unfold getGo
    split <;> simp
  | c :: l, i, V, h => by
    unfold getGo at h ⊢
    split
    · simp
    · rename_i h1
      rw [if_neg h1] at h
      split
      · rename_i h2
        rw [if_pos h2] at h
        exact getGo_none l (i + 1) (V + c.toNat % 128 * 128 ^ i % 18446744073709551616) h
      · rename_i h2
        rw [if_neg h2] at h
        split
        · simp
        · rename_i h3
          rw [if_neg h3] at h
          exact absurd rfl h
theorem getText_none (l : List UInt8) (h : ¬ (getText l).2.2 = 0) : (getText l).1 = [] ∧ (getText l).2.1 = 0 := by
  unfold getText at h ⊢
  split
  · rename_i h1
    rw [if_pos h1] at h
    split
    · simp
    · rename_i h2
      rw [if_neg h2] at h
      exact absurd rfl h
  · simp

set_option maxRecDepth 100000 in
set_option maxHeartbeats 2000000 in
theorem enumber_any (B : Nat) (w : World) (g : Nat) (rest : List UInt8) (e : Nat) (h : ERAt 59 B w g rest e) :
    Calls Try.prog 29 #[.pointer (some ⟨g, 0, none⟩)] w (ERPost 59 B w g (ernum rest e).2.1 (ernum rest e).2.2 (.int .u64 ((ernum rest e).1 : Int))) := by
  obtain ⟨v, hg, hs, hB⟩ := h
  have hlt : g < w.heap.size := (Array.getElem?_eq_some_iff.1 hg).1
  by_cases he : e = 0
  · subst he
    have hk := getGo_le rest
    have hnone := getGo_none rest 0 0
    have hget := get_any w v _ rest hs.reads
    have hcut := fun {k : Nat} (hk : k ≤ rest.length) => hs.cut hk
    unfold ernum
    rw [if_neg (by simp)]
    generalize getGo 0 0 rest = r at *
    obtain ⟨sv, k, e⟩ := r
    dsimp only at hk hnone ⊢
    have hst : ((w.setCell ⟨g, 0, none⟩ (cutV v k)).setCell ⟨g, 1, none⟩ (.int .i64 (e : Int))).heap[g]? = some (.cells #[cutV v k, .int .i64 (e : Int)] 59 (0, 0)) := by
      rw [heap_setCell_same _ _ 1 _ _ _ (heap_setCell_same _ _ 0 _ _ _ hg)]
      rfl
    have c0 := Lib.cell_of_heap hg 0
    have c1 := Lib.cell_of_heap hg 1
    have f0 := Lib.frozen_of_heap hg
    simp at c0 c1
    have htc : Touch w ((w.setCell ⟨g, 0, none⟩ (cutV v k)).setCell ⟨g, 1, none⟩ (.int .i64 (e : Int))) [g] := ((Touch.refl w [g]).setCell (p := ⟨g, 0, none⟩) (.inl (by simp)) _).setCell (p := ⟨g, 1, none⟩) (.inl (by simp)) _
    have hfin : ERAt 59 B ((w.setCell ⟨g, 0, none⟩ (cutV v k)).setCell ⟨g, 1, none⟩ (.int .i64 (e : Int))) g (rest.drop k) e ∧ Touch w ((w.setCell ⟨g, 0, none⟩ (cutV v k)).setCell ⟨g, 1, none⟩ (.int .i64 (e : Int))) [g] := ⟨⟨_, hst, htc.sl (hcut hk) hB, hB⟩, htc⟩
    have HF := Lib.hid hfin
    have HGet := Lib.hid hget
    clear hfin htc hst hcut hg hget hnone
    rcases hs with ⟨⟨ax, rfl⟩, rfl⟩ | ⟨b, off, cap, rfl, _, _, hr⟩
    · have hk0 : k = 0 := by simpa using hk
      subst hk0
      rw [cutV_zero] at HF
      rcases ax with _ | ax
      all_goals
        go_enter Try.func29, Try.ntmps29
        go_wp2_with (go_at_call 43; go_must (refine HGet.out.mono ?_))
        rintro e1 w1 ⟨rfl, rfl⟩
        go_wp2
        go_ret
        exact ⟨rfl, HF.out.1, HF.out.2⟩
    · obtain ⟨_, _, hv, hc1, hc2⟩ := hr.le
      cases hv
      unfold maxLen at hc2
      rw [cutV_some] at HF
      have hkI : (k : Int) ≤ (rest.length : Int) := by omega
      have hle1 : ((rest.length - k : Nat) : Int) = (rest.length : Int) - (k : Int) := by omega
      have hle2 : ((cap - k : Nat) : Int) = (cap : Int) - (k : Int) := by omega
      by_cases hck : cap = k
      · rw [if_pos hck] at HF
        have hz1 : rest.length - k = 0 := by omega
        have hz2 : cap - k = 0 := by omega
        rw [hz1, hz2] at HF
        have hlk : rest.length = k := by omega
        subst hck
        rw [hlk] at c0 HGet
        go_enter Try.func29, Try.ntmps29
        go_wp2_with (go_at_call 43; go_must (refine HGet.out.mono ?_))
        rintro e1 w1 ⟨rfl, rfl⟩
        go_wp2
        go_ret
        exact ⟨rfl, HF.out.1, HF.out.2⟩
      · rw [if_neg hck] at HF
        have hck' : ¬ ((cap : Int) = k) := by omega
        go_enter Try.func29, Try.ntmps29
        go_wp2_with (go_at_call 43; go_must (refine HGet.out.mono ?_))
        rintro e1 w1 ⟨rfl, rfl⟩
        go_wp2
        go_ret
        exact ⟨rfl, HF.out.1, HF.out.2⟩
  · have hr : ernum rest e = (0, rest, e) := by unfold ernum; rw [if_pos he]
    rw [hr]
    have c1 := Lib.cell_of_heap hg 1
    simp at c1
    have HR := Lib.hid (show ERAt 59 B w g rest e from ⟨v, hg, hs, hB⟩)
    clear hg hs hr
    have he3 : ((e : Int) != 0) = true := by simp [he]
    go_enter Try.func29, Try.ntmps29
    go_wp2
    go_ret
    exact ⟨rfl, HR.out, Touch.refl _ _⟩

set_option maxRecDepth 100000 in
set_option maxHeartbeats 2000000 in
theorem etext_any (B : Nat) (w : World) (g : Nat) (rest : List UInt8) (e : Nat) (h : ERAt 59 B w g rest e) :
    Calls Try.prog 42 #[.pointer (some ⟨g, 0, none⟩)] w (ERPost 59 B w g (ertxt rest e).2.1 (ertxt rest e).2.2 (.string (ertxt rest e).1)) := by
  obtain ⟨v, hg, hs, hB⟩ := h
  have hlt : g < w.heap.size := (Array.getElem?_eq_some_iff.1 hg).1
  by_cases he : e = 0
  · subst he
    have hk := getText_le rest
    have hnone := getText_none rest
    have hget := gettext_any w v _ rest hs.reads
    have hcut := fun {k : Nat} (hk : k ≤ rest.length) => hs.cut hk
    unfold ertxt
    rw [if_neg (by simp)]
    generalize getText rest = r at *
    obtain ⟨sv, k, e⟩ := r
    dsimp only at hk hnone ⊢
    have hst : ((w.setCell ⟨g, 0, none⟩ (cutV v k)).setCell ⟨g, 1, none⟩ (.int .i64 (e : Int))).heap[g]? = some (.cells #[cutV v k, .int .i64 (e : Int)] 59 (0, 0)) := by
      rw [heap_setCell_same _ _ 1 _ _ _ (heap_setCell_same _ _ 0 _ _ _ hg)]
      rfl
    have c0 := Lib.cell_of_heap hg 0
    have c1 := Lib.cell_of_heap hg 1
    have f0 := Lib.frozen_of_heap hg
    simp at c0 c1
    have htc : Touch w ((w.setCell ⟨g, 0, none⟩ (cutV v k)).setCell ⟨g, 1, none⟩ (.int .i64 (e : Int))) [g] := ((Touch.refl w [g]).setCell (p := ⟨g, 0, none⟩) (.inl (by simp)) _).setCell (p := ⟨g, 1, none⟩) (.inl (by simp)) _
    have hfin : ERAt 59 B ((w.setCell ⟨g, 0, none⟩ (cutV v k)).setCell ⟨g, 1, none⟩ (.int .i64 (e : Int))) g (rest.drop k) e ∧ Touch w ((w.setCell ⟨g, 0, none⟩ (cutV v k)).setCell ⟨g, 1, none⟩ (.int .i64 (e : Int))) [g] := ⟨⟨_, hst, htc.sl (hcut hk) hB, hB⟩, htc⟩
    have HF := Lib.hid hfin
    have HGet := Lib.hid hget
    clear hfin htc hst hcut hg hget hnone
    rcases hs with ⟨⟨ax, rfl⟩, rfl⟩ | ⟨b, off, cap, rfl, _, _, hr⟩
    · have hk0 : k = 0 := by simpa using hk
      subst hk0
      rw [cutV_zero] at HF
      rcases ax with _ | ax
      all_goals
        go_enter Try.func42, Try.ntmps42
        go_wp2_with (go_at_call 54; go_must (refine HGet.out.mono ?_))
        rintro e1 w1 ⟨rfl, rfl⟩
        go_wp2
        go_ret
        exact ⟨rfl, HF.out.1, HF.out.2⟩
    · obtain ⟨_, _, hv, hc1, hc2⟩ := hr.le
      cases hv
      unfold maxLen at hc2
      rw [cutV_some] at HF
      have hkI : (k : Int) ≤ (rest.length : Int) := by omega
      have hle1 : ((rest.length - k : Nat) : Int) = (rest.length : Int) - (k : Int) := by omega
      have hle2 : ((cap - k : Nat) : Int) = (cap : Int) - (k : Int) := by omega
      by_cases hck : cap = k
      · rw [if_pos hck] at HF
        have hz1 : rest.length - k = 0 := by omega
        have hz2 : cap - k = 0 := by omega
        rw [hz1, hz2] at HF
        have hlk : rest.length = k := by omega
        subst hck
        rw [hlk] at c0 HGet
        go_enter Try.func42, Try.ntmps42
        go_wp2_with (go_at_call 54; go_must (refine HGet.out.mono ?_))
        rintro e1 w1 ⟨rfl, rfl⟩
        go_wp2
        go_ret
        exact ⟨rfl, HF.out.1, HF.out.2⟩
      · rw [if_neg hck] at HF
        have hck' : ¬ ((cap : Int) = k) := by omega
        go_enter Try.func42, Try.ntmps42
        go_wp2_with (go_at_call 54; go_must (refine HGet.out.mono ?_))
        rintro e1 w1 ⟨rfl, rfl⟩
        go_wp2
        go_ret
        exact ⟨rfl, HF.out.1, HF.out.2⟩
  · have hr : ertxt rest e = (⟨#[]⟩, rest, e) := by unfold ertxt; rw [if_pos he]
    rw [hr]
    have c1 := Lib.cell_of_heap hg 1
    simp at c1
    have HR := Lib.hid (show ERAt 59 B w g rest e from ⟨v, hg, hs, hB⟩)
    clear hg hs hr
    have he3 : ((e : Int) != 0) = true := by simp [he]
    go_enter Try.func42, Try.ntmps42
    go_wp2
    go_ret
    exact ⟨rfl, HR.out, Touch.refl _ _⟩

set_option maxRecDepth 100000 in
set_option maxHeartbeats 2000000 in
theorem fnumber_any (B : Nat) (w : World) (g : Nat) (rest : List UInt8) (e : Nat) (h : ERAt 67 B w g rest e) :
    Calls Try.prog 30 #[.pointer (some ⟨g, 0, none⟩)] w (ERPost 67 B w g (ernum rest e).2.1 (ernum rest e).2.2 (.int .u64 ((ernum rest e).1 : Int))) := by
  obtain ⟨v, hg, hs, hB⟩ := h
  have hlt : g < w.heap.size := (Array.getElem?_eq_some_iff.1 hg).1
  by_cases he : e = 0
  · subst he
    have hk := getGo_le rest
    have hnone := getGo_none rest 0 0
    have hget := refget_any w v _ rest hs.reads
    have hcut := fun {k : Nat} (hk : k ≤ rest.length) => hs.cut hk
    unfold ernum
    rw [if_neg (by simp)]
    generalize getGo 0 0 rest = r at *
    obtain ⟨sv, k, e⟩ := r
    dsimp only at hk hnone ⊢
    by_cases he2 : e = 0
    · subst he2
      have hst : (w.setCell ⟨g, 0, none⟩ (cutV v k)).heap[g]? = some (.cells #[cutV v k, .int .i64 0] 67 (0, 0)) := by
        rw [heap_setCell_same _ _ 0 _ _ _ hg]
        rfl
      have c0 := Lib.cell_of_heap hg 0
      have c1 := Lib.cell_of_heap hg 1
      have f0 := Lib.frozen_of_heap hg
      simp at c0 c1
      have htc : Touch w (w.setCell ⟨g, 0, none⟩ (cutV v k)) [g] := (Touch.refl w [g]).setCell (p := ⟨g, 0, none⟩) (.inl (by simp)) _
      have hfin : ERAt 67 B (w.setCell ⟨g, 0, none⟩ (cutV v k)) g (rest.drop k) 0 ∧ Touch w (w.setCell ⟨g, 0, none⟩ (cutV v k)) [g] := ⟨⟨_, hst, htc.sl (hcut hk) hB, hB⟩, htc⟩
      have HF := Lib.hid hfin
      have HGet := Lib.hid hget
      clear hfin htc hst hcut hg hget hnone
      rcases hs with ⟨⟨ax, rfl⟩, rfl⟩ | ⟨b, off, cap, rfl, _, _, hr⟩
      · have hk0 : k = 0 := by simpa using hk
        subst hk0
        rw [cutV_zero] at HF
        rcases ax with _ | ax
        all_goals
          go_enter Try.func30, Try.ntmps30
          go_wp2_with (go_at_call 44; go_must (refine HGet.out.mono ?_))
          rintro e1 w1 ⟨rfl, rfl⟩
          go_wp2
          go_ret
          exact ⟨rfl, HF.out.1, HF.out.2⟩
      · obtain ⟨_, _, hv, hc1, hc2⟩ := hr.le
        cases hv
        unfold maxLen at hc2
        rw [cutV_some] at HF
        have hkI : (k : Int) ≤ (rest.length : Int) := by omega
        have hle1 : ((rest.length - k : Nat) : Int) = (rest.length : Int) - (k : Int) := by omega
        have hle2 : ((cap - k : Nat) : Int) = (cap : Int) - (k : Int) := by omega
        by_cases hck : cap = k
        · rw [if_pos hck] at HF
          have hz1 : rest.length - k = 0 := by omega
          have hz2 : cap - k = 0 := by omega
          rw [hz1, hz2] at HF
          have hlk : rest.length = k := by omega
          subst hck
          rw [hlk] at c0 HGet
          go_enter Try.func30, Try.ntmps30
          go_wp2_with (go_at_call 44; go_must (refine HGet.out.mono ?_))
          rintro e1 w1 ⟨rfl, rfl⟩
          go_wp2
          go_ret
          exact ⟨rfl, HF.out.1, HF.out.2⟩
        · rw [if_neg hck] at HF
          have hck' : ¬ ((cap : Int) = k) := by omega
          go_enter Try.func30, Try.ntmps30
          go_wp2_with (go_at_call 44; go_must (refine HGet.out.mono ?_))
          rintro e1 w1 ⟨rfl, rfl⟩
          go_wp2
          go_ret
          exact ⟨rfl, HF.out.1, HF.out.2⟩
    · obtain ⟨hn1, hn2⟩ := hnone he2
      subst hn1
      subst hn2
      have hst : (w.setCell ⟨g, 1, none⟩ (.int .i64 (e : Int))).heap[g]? = some (.cells #[v, .int .i64 (e : Int)] 67 (0, 0)) := by
        rw [heap_setCell_same _ _ 1 _ _ _ hg]
        rfl
      have c0 := Lib.cell_of_heap hg 0
      have c1 := Lib.cell_of_heap hg 1
      have f0 := Lib.frozen_of_heap hg
      simp at c0 c1
      have htc : Touch w (w.setCell ⟨g, 1, none⟩ (.int .i64 (e : Int))) [g] := (Touch.refl w [g]).setCell (p := ⟨g, 1, none⟩) (.inl (by simp)) _
      have hfin : ERAt 67 B (w.setCell ⟨g, 1, none⟩ (.int .i64 (e : Int))) g (rest.drop 0) e ∧ Touch w (w.setCell ⟨g, 1, none⟩ (.int .i64 (e : Int))) [g] := ⟨⟨_, hst, htc.sl hs hB, hB⟩, htc⟩
      have HF := Lib.hid hfin
      have HGet := Lib.hid hget
      have he3 : ((e : Int) != 0) = true := by simp [he2]
      clear hfin htc hst hcut hg hget hs
      go_enter Try.func30, Try.ntmps30
      go_wp2_with (go_at_call 44; go_must (refine HGet.out.mono ?_))
      rintro e1 w1 ⟨rfl, rfl⟩
      go_wp2
      go_ret
      exact ⟨rfl, HF.out.1, HF.out.2⟩
  · have hr : ernum rest e = (0, rest, e) := by unfold ernum; rw [if_pos he]
    rw [hr]
    have c1 := Lib.cell_of_heap hg 1
    simp at c1
    have HR := Lib.hid (show ERAt 67 B w g rest e from ⟨v, hg, hs, hB⟩)
    clear hg hs hr
    have he3 : ((e : Int) != 0) = true := by simp [he]
    go_enter Try.func30, Try.ntmps30
    go_wp2
    go_ret
    exact ⟨rfl, HR.out, Touch.refl _ _⟩

set_option maxRecDepth 100000 in
set_option maxHeartbeats 2000000 in
theorem ftext_any (B : Nat) (w : World) (g : Nat) (rest : List UInt8) (e : Nat) (h : ERAt 67 B w g rest e) :
    Calls Try.prog 32 #[.pointer (some ⟨g, 0, none⟩)] w (ERPost 67 B w g (ertxt rest e).2.1 (ertxt rest e).2.2 (.string (ertxt rest e).1)) := by
  obtain ⟨v, hg, hs, hB⟩ := h
  have hlt : g < w.heap.size := (Array.getElem?_eq_some_iff.1 hg).1
  by_cases he : e = 0
  · subst he
    have hk := getText_le rest
    have hnone := getText_none rest
    have hget := refgettext_any w v _ rest hs.reads
    have hcut := fun {k : Nat} (hk : k ≤ rest.length) => hs.cut hk
    unfold ertxt
    rw [if_neg (by simp)]
    generalize getText rest = r at *
    obtain ⟨sv, k, e⟩ := r
    dsimp only at hk hnone ⊢
    by_cases he2 : e = 0
    · subst he2
      have hst : (w.setCell ⟨g, 0, none⟩ (cutV v k)).heap[g]? = some (.cells #[cutV v k, .int .i64 0] 67 (0, 0)) := by
        rw [heap_setCell_same _ _ 0 _ _ _ hg]
        rfl
      have c0 := Lib.cell_of_heap hg 0
      have c1 := Lib.cell_of_heap hg 1
      have f0 := Lib.frozen_of_heap hg
      simp at c0 c1
      have htc : Touch w (w.setCell ⟨g, 0, none⟩ (cutV v k)) [g] := (Touch.refl w [g]).setCell (p := ⟨g, 0, none⟩) (.inl (by simp)) _
      have hfin : ERAt 67 B (w.setCell ⟨g, 0, none⟩ (cutV v k)) g (rest.drop k) 0 ∧ Touch w (w.setCell ⟨g, 0, none⟩ (cutV v k)) [g] := ⟨⟨_, hst, htc.sl (hcut hk) hB, hB⟩, htc⟩
      have HF := Lib.hid hfin
      have HGet := Lib.hid hget
      clear hfin htc hst hcut hg hget hnone
      rcases hs with ⟨⟨ax, rfl⟩, rfl⟩ | ⟨b, off, cap, rfl, _, _, hr⟩
      · have hk0 : k = 0 := by simpa using hk
        subst hk0
        rw [cutV_zero] at HF
        rcases ax with _ | ax
        all_goals
          go_enter Try.func32, Try.ntmps32
          go_wp2_with (go_at_call 45; go_must (refine HGet.out.mono ?_))
          rintro e1 w1 ⟨rfl, rfl⟩
          go_wp2
          go_ret
          exact ⟨rfl, HF.out.1, HF.out.2⟩
      · obtain ⟨_, _, hv, hc1, hc2⟩ := hr.le
        cases hv
        unfold maxLen at hc2
        rw [cutV_some] at HF
        have hkI : (k : Int) ≤ (rest.length : Int) := by omega
        have hle1 : ((rest.length - k : Nat) : Int) = (rest.length : Int) - (k : Int) := by omega
        have hle2 : ((cap - k : Nat) : Int) = (cap : Int) - (k : Int) := by omega
        by_cases hck : cap = k
        · rw [if_pos hck] at HF
          have hz1 : rest.length - k = 0 := by omega
          have hz2 : cap - k = 0 := by omega
          rw [hz1, hz2] at HF
          have hlk : rest.length = k := by omega
          subst hck
          rw [hlk] at c0 HGet
          go_enter Try.func32, Try.ntmps32
          go_wp2_with (go_at_call 45; go_must (refine HGet.out.mono ?_))
          rintro e1 w1 ⟨rfl, rfl⟩
          go_wp2
          go_ret
          exact ⟨rfl, HF.out.1, HF.out.2⟩
        · rw [if_neg hck] at HF
          have hck' : ¬ ((cap : Int) = k) := by omega
          go_enter Try.func32, Try.ntmps32
          go_wp2_with (go_at_call 45; go_must (refine HGet.out.mono ?_))
          rintro e1 w1 ⟨rfl, rfl⟩
          go_wp2
          go_ret
          exact ⟨rfl, HF.out.1, HF.out.2⟩
    · obtain ⟨hn1, hn2⟩ := hnone he2
      subst hn1
      subst hn2
      have hst : (w.setCell ⟨g, 1, none⟩ (.int .i64 (e : Int))).heap[g]? = some (.cells #[v, .int .i64 (e : Int)] 67 (0, 0)) := by
        rw [heap_setCell_same _ _ 1 _ _ _ hg]
        rfl
      have c0 := Lib.cell_of_heap hg 0
      have c1 := Lib.cell_of_heap hg 1
      have f0 := Lib.frozen_of_heap hg
      simp at c0 c1
      have htc : Touch w (w.setCell ⟨g, 1, none⟩ (.int .i64 (e : Int))) [g] := (Touch.refl w [g]).setCell (p := ⟨g, 1, none⟩) (.inl (by simp)) _
      have hfin : ERAt 67 B (w.setCell ⟨g, 1, none⟩ (.int .i64 (e : Int))) g (rest.drop 0) e ∧ Touch w (w.setCell ⟨g, 1, none⟩ (.int .i64 (e : Int))) [g] := ⟨⟨_, hst, htc.sl hs hB, hB⟩, htc⟩
      have HF := Lib.hid hfin
      have HGet := Lib.hid hget
      have he3 : ((e : Int) != 0) = true := by simp [he2]
      clear hfin htc hst hcut hg hget hs
      go_enter Try.func32, Try.ntmps32
      go_wp2_with (go_at_call 45; go_must (refine HGet.out.mono ?_))
      rintro e1 w1 ⟨rfl, rfl⟩
      go_wp2
      go_ret
      exact ⟨rfl, HF.out.1, HF.out.2⟩
  · have hr : ertxt rest e = (⟨#[]⟩, rest, e) := by unfold ertxt; rw [if_pos he]
    rw [hr]
    have c1 := Lib.cell_of_heap hg 1
    simp at c1
    have HR := Lib.hid (show ERAt 67 B w g rest e from ⟨v, hg, hs, hB⟩)
    clear hg hs hr
    have he3 : ((e : Int) != 0) = true := by simp [he]
    go_enter Try.func32, Try.ntmps32
    go_wp2
    go_ret
    exact ⟨rfl, HR.out, Touch.refl _ _⟩
end Go.Proofs.Ythjimldojdhccaa
