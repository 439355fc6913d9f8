/- The law MergeOrder's walk. -/
import Derived.Test.YtieaiofdbliblaaMergeFix
import Derived.Test.YtieaiofdbliblaaMergeFew
import Derived.Test.YtieaiofdbliblaaDrawnUntil
import Derived.Deep.Slices
namespace Go.Proofs.Ytieaiofdbliblaa
open Go Go.RowKit

theorem Reads.vtake {w : World} {a : Option Addr} {n cap : Nat} {l : List Value} (h : Reads w 1 (.slice a n cap) n l) (k : Nat) (hk : k ≤ n) : Reads w 1 (.slice a k cap) k (l.take k) := by
  obtain ⟨hl, a', cap', hv, h1, h2, h3⟩ := h
  cases hv
  refine ⟨by rw [List.length_take]; omega, a, cap, rfl, by omega, h2, fun j u hj => h3 j u ?_⟩
  rw [List.getElem?_take] at hj
  split at hj
  · exact hj
  · cases hj

theorem Reads.vdrop {w : World} {a : Option Addr} {n cap : Nat} {l : List Value} (h : Reads w 1 (.slice a n cap) n l) (k : Nat) (hk : k ≤ n) : Reads w 1 (.slice (behind a k cap) (n - k) (cap - k)) (n - k) (l.drop k) := by
  obtain ⟨hl, a', cap', hv, h1, h2, h3⟩ := h
  cases hv
  refine ⟨by rw [List.length_drop]; omega, _, _, rfl, by omega, by omega, fun j u hj => ?_⟩
  have hjl := (List.getElem?_eq_some_iff.1 hj).1
  rw [List.length_drop] at hjl
  rw [List.getElem?_drop] at hj
  obtain ⟨b, off, rfl, hb, hr⟩ := h3 _ _ hj
  unfold behind
  rw [if_neg (by omega)]
  exact ⟨b, off + k, by simp [Addr.add], hb, by rw [Nat.add_assoc]; exact hr⟩

def TextsAt (w : World) (p : Value × Row) : Prop := ∃ sa scap, p.1 = .slice sa p.2.length scap ∧ Reads w 1 (.slice sa p.2.length scap) p.2.length (scells p.2)

theorem TextsAt.below {w w' : World} {p : Value × Row} (h : TextsAt w p) (hb : Below w.heap.size w w') : TextsAt w' p := by
  obtain ⟨sa, scap, h1, h2⟩ := h
  exact ⟨sa, scap, h1, h2.below' hb⟩

theorem rrows_pairs {w : World} {v : Value} {n : Nat} {ls : List Row} (h : RRows w v n ls) : ∃ P : List (Value × Row), P.map (·.2) = ls ∧ Reads w 1 v n (P.map (·.1)) ∧ ∀ p ∈ P, TextsAt w p := by
  obtain ⟨a, cap, rfl, h1, h2, h3, h4⟩ := h
  have : Inhabited Value := ⟨.bool false⟩
  have : Inhabited Row := ⟨[]⟩
  obtain ⟨X, hX⟩ := Go.Deep.choose_lt (α := Value × Row) (n := n) (p := fun i p => ls[i]? = some p.2 ∧ TextsAt w p ∧ ∃ g off, a = some ⟨g, off, none⟩ ∧ g < w.heap.size ∧ w.cell? ⟨g, off + i, none⟩ = some p.1) (fun i hi => by
    have hl : ls[i]? = some (ls[i]'(by omega)) := List.getElem?_eq_getElem _
    obtain ⟨g, off, sa, scap, ha, hg, hc, hr⟩ := h4 i _ hl
    exact ⟨(.slice sa (ls[i]'(by omega)).length scap, ls[i]'(by omega)), hl, ⟨sa, scap, rfl, hr⟩, g, off, ha, hg, hc⟩)
  refine ⟨(List.range n).map X, ?_, ⟨by simp, a, cap, rfl, h1, h2, fun j u hj => ?_⟩, fun p hp => ?_⟩
  · apply List.ext_getElem?
    intro i
    by_cases hi : i < n
    · rw [(hX i hi).1]
      simp [hi]
    · rw [List.getElem?_eq_none (by simp; omega), List.getElem?_eq_none (by omega)]
  · have hjn : j < n := by
      have := (List.getElem?_eq_some_iff.1 hj).1
      simpa using this
    obtain ⟨_, _, g, off, ha, hg, hc⟩ := hX j hjn
    have hu : u = (X j).1 := by
      simp [hjn] at hj
      exact hj.symm
    exact ⟨g, off, ha, hg, by rw [hu]; exact hc⟩
  · obtain ⟨i, hi, rfl⟩ := List.mem_map.1 hp
    exact (hX i (List.mem_range.1 hi)).2.1

theorem pairs_rrows {w : World} {v : Value} {n : Nat} {P : List (Value × Row)} (h : Reads w 1 v n (P.map (·.1))) (hp : ∀ p ∈ P, TextsAt w p) : RRows w v n (P.map (·.2)) := by
  have hl := h.1
  rw [List.length_map, Nat.mul_one] at hl
  obtain ⟨a, cap, rfl, h1, h2⟩ := h.le
  refine ⟨a, cap, rfl, h1, h2, by rw [List.length_map]; exact hl, fun i l hi => ?_⟩
  rw [List.getElem?_map] at hi
  obtain ⟨p, hpi, rfl⟩ := Option.map_eq_some_iff.1 hi
  obtain ⟨sa, scap, h3, h4⟩ := hp p (List.mem_of_getElem? hpi)
  obtain ⟨g, off, ha, hg, hc⟩ := h.at (j := i) (u := p.1) (by rw [List.getElem?_map, hpi]; rfl)
  exact ⟨g, off, sa, scap, ha, hg, by rw [hc, h3], h4⟩

def turn17 {α : Type} (l : List α) (k : Nat) (x : α) : List α := l.drop k ++ l.take k ++ [x]

theorem turn17_mem {α : Type} {l : List α} {k : Nat} {x : α} (h : l[k]? = some x) (y : α) : y ∈ turn17 l k x ↔ y ∈ l := by
  unfold turn17
  rw [List.mem_append, List.mem_append]
  constructor
  · rintro ((h1 | h1) | h1)
    · exact List.mem_of_mem_drop h1
    · exact List.mem_of_mem_take h1
    · simp at h1
      subst h1
      exact List.mem_of_getElem? h
  · intro h1
    rw [← List.take_append_drop k l] at h1
    rcases List.mem_append.1 h1 with h1 | h1
    · exact .inl (.inr h1)
    · exact .inl (.inl h1)

theorem keys17_same {a b : List Row} (h : ∀ l, l ∈ a ↔ l ∈ b) : keys17 a = keys17 b := by
  obtain ⟨a1, a2, _⟩ := keys17_ok a
  obtain ⟨b1, b2, _⟩ := keys17_ok b
  refine rises_uniq a1 b1 fun x => ?_
  rw [a2, b2, List.mem_flatten, List.mem_flatten]
  simp only [h]

theorem sreads0 (w : World) : Reads w 1 (.slice none 0 0) 0 (scells []) := ⟨rfl, none, 0, rfl, Nat.le_refl _, Nat.zero_le _, fun j u hj => by simp [scells] at hj⟩

set_option maxRecDepth 100000 in
set_option maxHeartbeats 4000000 in
theorem mergeOrder_walk (w : World) (a : Option Addr) (n cap : Nat) (ls : List Row) (m : Nat) (h : RRows w (.slice a n cap) n ls) (hsz : ∀ l ∈ ls, l.length ≤ 8796093021952) (hm : m < 256) :
    Calls Try.prog 5 #[.slice a n cap, .int .u8 (m : Int)] w (SaysTrue w) := by
  obtain ⟨j0, hj, hy0, hy1, hy2⟩ := info_parts (show (Try.prog.info? 26).map (fun i => (i.zero, i.size, i.bytes)) = some (some (.slice none 0 0), 1, 24) by kernel_rfl)
  have HF := Lib.hid (fixed17_any w)
  have HE := Lib.hid h
  have HS := Lib.hid hsz
  obtain ⟨_, _, hv0, hc1, hc2, hll, hx0⟩ := h
  cases hv0
  unfold maxLen at hc2
  have HLL := Lib.hid hll
  clear hx0 hsz hll
  go_enter Try.func5, Try.ntmps5
  go_wp2_with (go_at_call 7; go_must (refine HF.out.mono ?_))
  rintro e w1 ⟨rfl, b1⟩
  have HB := Lib.hid b1
  have HFw := Lib.hid (few17_any w1 _ n ls (HE.out.below b1) HS.out)
  clear b1 HF
  go_wp2_with (go_at_call 8; go_must (refine HFw.out.mono ?_))
  rintro e w2 ⟨rfl, b2⟩
  have HB2 := Lib.hid (HB.out.trans (b2.mono HB.out.size))
  clear b2 HFw HB
  cases hfew : few17 ls with
  | false =>
    go_wp2
    go_ret
    exact ⟨rfl, HB2.out⟩
  | true =>
    obtain ⟨hf1, hf2⟩ := few17_low hfew
    have hn30 : n ≤ 30 := by rw [HLL.out] at hf1; exact hf1
    have HF2 := Lib.hid hf2
    clear hfew hf1 hf2
    by_cases hn0 : n = 0
    · subst hn0
      go_wp2
      go_ret
      exact ⟨rfl, HB2.out⟩
    · have hnI : ¬ ((n : Int) = 0) := by omega
      obtain ⟨k, hke⟩ : ∃ k, m % n = k := ⟨_, rfl⟩
      have hkn : k < n := by rw [← hke]; exact Nat.mod_lt _ (by omega)
      have hat : k ≤ n := by omega
      have hrem : ((m : Int).tmod (n : Int)) = (k : Int) := by
        rw [Int.tmod_eq_emod_of_nonneg (by omega), ← hke]
        rfl
      obtain ⟨P, hP2, hR, hT⟩ := rrows_pairs (HE.out.below HB2.out)
      have hPl : P.length = n := by have := hR.1; simpa using this
      have hV : ∀ u ∈ P.map (·.1), u.oneCell' = true := by
        intro u hu
        obtain ⟨p, hp, rfl⟩ := List.mem_map.1 hu
        obtain ⟨sa, scap, h3, _⟩ := hT p hp
        rw [h3]
        rfl
      obtain ⟨V, hVe⟩ : ∃ V, P.map (·.1) = V := ⟨_, rfl⟩
      rw [hVe] at hR hV
      have HR := Lib.hid hR
      have HV := Lib.hid hV
      have HT := Lib.hid hT
      have HP2 := Lib.hid hP2
      have HPl := Lib.hid hPl
      have HVe := Lib.hid hVe
      clear hke hR hV hT hP2 hPl hVe
      go_wp2_with fail
      refine wp_region_until (by kernel_rfl) [onU (zeroF w2.heap.size 26 1) (some 4), eqU (.slice a n cap), eqU (.int .i64 (k : Int)), eqU (.slice (behind a k cap) (n - k) (cap - k)), onU (ownsF w2.heap.size 26 1 (n - k) (V.drop k)) (some 8), eqU (.slice a n cap), eqU (.int .i64 (k : Int)), eqU (.slice a k cap), onU (ownsF w2.heap.size 26 1 n (V.drop k ++ V.take k)) none, onU (ownsF w2.heap.size 26 1 n (V.drop k ++ V.take k)) none] [8] (by kernel_rfl) (by kernel_rfl) (by kernel_rfl) ⟨?_, ?_, ?_, ?_, ?_, ?_, ?_, ?_, ?_, ?_, trivial⟩ ?_
      · intro ρ wx hρ hbx hl
        refine u_new (v := .slice (some ⟨wx.heap.size, 0, none⟩) 0 0) (w' := wx.alloc (.cells #[] 26)) ?_ ⟨_, rfl, owns_less (owns_zero wx _ 1) hbx.size⟩ ((Below.refl _ _).alloc (Nat.le_refl _) _)
        simp [execOp, go_sem]
      · intro ρ wx hρ hbx hl
        have e0 : ρ (.tmp 0) = .slice a n cap := hρ.tmp 0 (by decide +kernel)
        refine u_val (v := .slice a n cap) ?_ rfl
        simp [execOp, go_sem, e0]
      · intro ρ wx hρ hbx hl
        have e5 : ρ (.tmp 5) = .int .i64 (k : Int) := hρ.tmp 5 (by decide +kernel)
        refine u_val (v := .int .i64 (k : Int)) ?_ rfl
        simp [execOp, go_sem, e5]
      · intro ρ wx hρ hbx hl
        have e27 : ρ (.tmp 27) = .slice a n cap := hl 1 (by decide +kernel) (.inl rfl) 27 rfl
        have e28 : ρ (.tmp 28) = .int .i64 (k : Int) := hl 2 (by decide +kernel) (.inl rfl) 28 rfl
        refine u_val (v := .slice (behind a k cap) (n - k) (cap - k)) ?_ rfl
        simp [execOp, go_sem, e27, e28, behind, hat]
      · intro ρ wx hρ hbx hl
        have e26 : (zeroF w2.heap.size 26 1).p (ρ (.tmp 26)) wx := hl 0 (by decide +kernel) (.inr rfl) 26 rfl
        have e29 : ρ (.tmp 29) = .slice (behind a k cap) (n - k) (cap - k) := hl 3 (by decide +kernel) (.inl rfl) 29 rfl
        obtain ⟨g26, e26, o26⟩ := e26
        rw [e26] at o26
        obtain ⟨v', w', hr, ho, hb⟩ := run_append_zero (P := Try.prog) (w := wx) w2.heap.size 22 22 22 26 j0 _ 24 Try.underlying22 hj hy0 hy1 hy2 rfl g26 o26 (.slice (behind a k cap) (n - k) (cap - k)) (n - k) (V.drop k) (((HR.out.below' hbx).vdrop k hat).src Try.underlying22 (fun u hu => HV.out u (List.mem_of_mem_drop hu))) (by unfold maxLen; omega) (by omega) hbx.size
        refine u_new ?_ ho hb
        simp only [execOp, resolve, invoke, builtin, Sem.run_bind, Sem.run_pure, Result.andThen_ok, List.map_toArray, List.map_cons, List.map_nil, e26, e29, hr]
      · intro ρ wx hρ hbx hl
        have e0 : ρ (.tmp 0) = .slice a n cap := hρ.tmp 0 (by decide +kernel)
        refine u_val (v := .slice a n cap) ?_ rfl
        simp [execOp, go_sem, e0]
      · intro ρ wx hρ hbx hl
        have e5 : ρ (.tmp 5) = .int .i64 (k : Int) := hρ.tmp 5 (by decide +kernel)
        refine u_val (v := .int .i64 (k : Int)) ?_ rfl
        simp [execOp, go_sem, e5]
      · intro ρ wx hρ hbx hl
        have e31 : ρ (.tmp 31) = .slice a n cap := hl 5 (by decide +kernel) (.inl rfl) 31 rfl
        have e32 : ρ (.tmp 32) = .int .i64 (k : Int) := hl 6 (by decide +kernel) (.inl rfl) 32 rfl
        refine u_val (v := .slice a k cap) ?_ rfl
        simp [execOp, go_sem, e31, e32]
        first | done | omega
      · intro ρ wx hρ hbx hl
        have e30 : (ownsF w2.heap.size 26 1 (n - k) (V.drop k)).p (ρ (.tmp 30)) wx := hl 4 (by decide +kernel) (.inr rfl) 30 rfl
        have e33 : ρ (.tmp 33) = .slice a k cap := hl 7 (by decide +kernel) (.inl rfl) 33 rfl
        obtain ⟨v', w', hr, ho, hg, hb, _⟩ := run_append_owns (P := Try.prog) (w := wx) w2.heap.size 22 22 22 26 j0 _ 1 24 Try.underlying22 hj hy0 hy1 hy2 rfl _ (n - k) _ e30 (.slice a k cap) k (V.take k) (((HR.out.below' hbx).vtake k hat).src Try.underlying22 (fun u hu => HV.out u (List.mem_of_mem_take hu))) (by unfold maxLen; omega) (by omega) hbx.size
        rw [show n - k + k = n by omega] at ho
        refine u_new ?_ ho hb
        simp only [execOp, resolve, invoke, builtin, Sem.run_bind, Sem.run_pure, Result.andThen_ok, List.map_toArray, List.map_cons, List.map_nil, e33, hr]
      · intro ρ wx hρ hbx hl
        have e34 : (ownsF w2.heap.size 26 1 n (V.drop k ++ V.take k)).p (ρ (.tmp 34)) wx := hl 8 (by decide +kernel) (.inl rfl) 34 rfl
        refine u_val (v := ρ (.tmp 34)) ?_ e34
        simp [execOp, go_sem]
      intro aa wz hdef hsz hlk hbz hf
      have ha := act_of_like hdef hsz hlk [26, 27, 28, 29, 30, 31, 32, 33, 34, 6] 60 rfl (by decide +kernel)
      have e27 : aa.tmps.getD 27 undef = .slice a n cap := hf 1 _ 27 rfl rfl rfl
      have e28 : aa.tmps.getD 28 undef = .int .i64 (k : Int) := hf 2 _ 28 rfl rfl rfl
      have e29 : aa.tmps.getD 29 undef = .slice (behind a k cap) (n - k) (cap - k) := hf 3 _ 29 rfl rfl rfl
      have e31 : aa.tmps.getD 31 undef = .slice a n cap := hf 5 _ 31 rfl rfl rfl
      have e32 : aa.tmps.getD 32 undef = .int .i64 (k : Int) := hf 6 _ 32 rfl rfl rfl
      have e33 : aa.tmps.getD 33 undef = .slice a k cap := hf 7 _ 33 rfl rfl rfl
      have e34 : (ownsF w2.heap.size 26 1 n (V.drop k ++ V.take k)).p (aa.tmps.getD 34 undef) wz := hf 8 _ 34 rfl rfl rfl
      generalize hv34 : aa.tmps.getD 34 undef = v34 at e34
      have e6 : (ownsF w2.heap.size 26 1 n (V.drop k ++ V.take k)).p (aa.tmps.getD 6 undef) wz := hf 9 _ 6 rfl rfl rfl
      generalize hv6 : aa.tmps.getD 6 undef = v6 at e6
      simp only [putAll, List.foldl_cons, List.foldl_nil, e27, e28, e29, e31, e32, e33, hv34, hv6] at ha
      generalize aa.tmps.getD 26 undef = v26 at ha
      generalize aa.tmps.getD 30 undef = v30 at ha
      simp [Act.put] at ha
      subst ha
      clear hdef hsz hlk hf e27 e28 e29 e31 e32 e33 hv34 hv6
      obtain ⟨p, hp⟩ : ∃ p, P[k]? = some p := ⟨P[k]'(by rw [HPl.out]; exact hkn), List.getElem?_eq_getElem _⟩
      have hq : ∀ l, l ∈ (turn17 P k p).map (·.2) ↔ l ∈ ls := fun l => by
        rw [← HP2.out, List.mem_map, List.mem_map]
        simp only [turn17_mem hp]
      have hql : ((turn17 P k p).map (·.2)).length = n + 1 := by
        have := HPl.out
        unfold turn17
        simp
        omega
      obtain ⟨sa, scap, hp1, _⟩ := HT.out p (List.mem_of_getElem? hp)
      obtain ⟨g, off, ha, hg, hc⟩ := (HR.out.below' hbz).at (j := k) (u := p.1) (by rw [← HVe.out, List.getElem?_map, hp]; rfl)
      have hmap : (turn17 P k p).map (·.1) = V.drop k ++ V.take k ++ [p.1] := by
        rw [← HVe.out]
        unfold turn17
        simp [List.map_drop, List.map_take]
      have hT9 : ∀ q ∈ turn17 P k p, TextsAt w2 q := fun q hq => HT.out q ((turn17_mem hp q).1 hq)
      rw [hp1] at hc hmap
      generalize turn17 P k p = T at *
      generalize p.2.length = pl at *
      subst ha
      have HO := Lib.hid e6
      have HZ := Lib.hid hbz
      have HQ := Lib.hid hq
      have HQl := Lib.hid hql
      have HMap := Lib.hid hmap
      have HT9 := Lib.hid hT9
      obtain ⟨oa, ocap, rfl, ho1, ho2⟩ := (ownsRow.reads e6).le
      clear e6 e34 hbz hq hql hmap hT9 hp hp1 HT HPl HVe HP2
      go_wp2_with (at_builtin; go_must (refine wpList_append_rows_at (w0 := wz) rfl _ _ 22 rfl w2.heap.size 26 j0 _ 1 24 Try.underlying22 hj hy0 hy1 hy2 rfl [.slice sa pl scap] 1 rfl rfl HO.out rfl rfl ?_ ?_ ?_ HZ.out.size ?_))
      · intro u hu; simp at hu; subst hu; rfl
      · unfold maxLen; omega
      · omega
      intro v9 w9 o9 g9 b9 _
      have hb29 := HZ.out.trans b9
      have hr9 : RRows w9 v9 (n + 1) (T.map (·.2)) := pairs_rrows (by rw [HMap.out, List.append_assoc]; exact ownsRow.reads o9) (fun q hq => (HT9.out q hq).below hb29)
      obtain ⟨na, ncap, rfl, hn1, hn2⟩ := (ownsRow.reads o9).le
      have hf2 := HF2.out
      have hkl := (keys17_ok ls).2.2
      have HB9 := Lib.hid (HB2.out.trans (hb29.mono HB2.out.size))
      have HA := Lib.hid (all17_any w9 _ n ls (HE.out.below HB9.out) (by omega) (fun l hl => by have := flat17_mem hl; omega) (by omega))
      have HR9 := Lib.hid hr9
      clear o9 g9 b9 hb29 hr9 HO HMap HT9 HZ hc hg
      go_wp2_with (go_at_call 10; go_must (refine HA.out.mono ?_))
      rintro e w10 hp10
      have hb10 : Below w9.heap.size w9 w10 := by rcases hp10 with ⟨_, _, _, _, h⟩ | ⟨_, _, h⟩ <;> exact h
      have hks : keys17 (T.map (·.2)) = keys17 ls := keys17_same HQ.out
      have HA2 := Lib.hid (all17_any w10 _ (n + 1) (T.map (·.2)) (HR9.out.below hb10) (by omega) (fun l hl => by have := flat17_mem ((HQ.out l).1 hl); omega) (by rw [hks]; omega))
      have HKs := Lib.hid hks
      have HB10 := Lib.hid (HB9.out.trans (hb10.mono HB9.out.size))
      clear hks hb10 HA HR9 HB9
      rcases hp10 with ⟨hup, v10, rfl, ho10, _⟩ | ⟨hno, rfl, _⟩
      · obtain ⟨a10, cap10, rfl, _, _⟩ := (ownsRow.reads ho10).le
        have HO10 := Lib.hid (ownsRow.reads ho10)
        have HUp := Lib.hid hup
        clear ho10 hup
        go_wp2_with (go_at_call 10; go_must (refine HA2.out.mono ?_))
        rintro e w11 hp11
        rcases hp11 with ⟨_, v11, rfl, ho11, b11⟩ | ⟨hno, _⟩
        case inr => exact absurd (fun l hl => HUp.out l ((HQ.out l).1 hl)) hno
        rw [HKs.out] at ho11
        obtain ⟨a11, cap11, hv11, _, _⟩ := (ownsRow.reads ho11).le
        rw [HKs.out] at *
        subst hv11
        have hsm := sames_any w11 a10 a11 _ _ cap10 cap11 (keys17 ls) (keys17 ls) (HO10.out.below' b11) (ownsRow.reads ho11)
        rw [decide_eq_true (rfl : keys17 ls = keys17 ls)] at hsm
        have HSm := Lib.hid hsm
        have HB11 := Lib.hid (HB10.out.trans (b11.mono HB10.out.size))
        clear hsm ho11 b11 HA2
        go_wp2_with (go_at_call 11; go_must (refine HSm.out.mono ?_))
        rintro e w12 ⟨rfl, b12⟩
        have HB12 := Lib.hid (HB11.out.trans (b12.mono HB11.out.size))
        clear b12
        go_wp2
        go_ret
        exact ⟨rfl, HB12.out⟩
      · have HNo := Lib.hid hno
        clear hno
        go_wp2_with (go_at_call 10; go_must (refine HA2.out.mono ?_))
        rintro e w11 hp11
        rcases hp11 with ⟨hup, _⟩ | ⟨_, rfl, b11⟩
        case inl => exact absurd (fun l hl => hup l ((HQ.out l).2 hl)) HNo.out
        have hnl : Reads w11 1 (.slice none 0 0) 0 (scells []) := sreads0 w11
        have hsm := sames_any w11 none none 0 0 0 0 [] [] hnl hnl
        rw [decide_eq_true (rfl : ([] : List ByteArray) = [])] at hsm
        have HSm := Lib.hid hsm
        have HB11 := Lib.hid (HB10.out.trans (b11.mono HB10.out.size))
        clear hsm b11 HA2 hnl
        go_wp2_with (go_at_call 11; go_must (refine HSm.out.mono ?_))
        rintro e w12 ⟨rfl, b12⟩
        have HB12 := Lib.hid (HB11.out.trans (b12.mono HB11.out.size))
        clear b12
        go_wp2
        go_ret
        exact ⟨rfl, HB12.out⟩
end Go.Proofs.Ytieaiofdbliblaa
