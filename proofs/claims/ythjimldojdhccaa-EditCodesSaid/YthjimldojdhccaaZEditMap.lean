/- Tables by number: how the map reads; the tables of a map, each at its place. -/
import Derived.Test.YthjimldojdhccaaZEditChk
import Derived.Test.YthjimldojdhccaaZEditSort
import Derived.Maps.RangeWalk
namespace Go.Proofs.Ythjimldojdhccaa
open Go Go.RowKit Go.Lib Go.Sort Go.Maps

theorem tabsU : Try.prog.underlying 70 = some (.map 3 45) := by kernel_rfl
theorem zeroTab (w : World) : (zeroValue 45).run Try.prog w = .ok (tv ⟨0, 0, 0, ⟨#[]⟩, ⟨#[]⟩⟩) w := by kernel_rfl

theorem tv_inj {a b : Tb} (h : tv a = tv b) : a = b := by
  cases a
  cases b
  simp [tv] at h
  obtain ⟨rfl, rfl, rfl, rfl, rfl⟩ := h
  rfl

/-- How a table reads: held as it is. -/
noncomputable def tabR (v : Value) : Option (DataW Tb × List MemPlace) := open Classical in if h : ∃ t, v = tv t then some (.held (Classical.choose h), []) else none

theorem tabR_mk (t : Tb) : tabR (tv t) = some (.held t, []) := by
  unfold tabR
  have h : ∃ u, tv t = tv u := ⟨t, rfl⟩
  rw [dif_pos h]
  have := Classical.choose_spec h
  rw [← tv_inj this]

theorem tabR_inv {v : Value} {y : DataW Tb × List MemPlace} (h : tabR v = some y) : ∃ t, v = tv t ∧ y = (.held t, []) := by
  unfold tabR at h
  split at h
  · rename_i hx
    obtain ⟨t, rfl⟩ := hx
    have h2 : ∃ u, tv t = tv u := ⟨t, rfl⟩
    have h3 := Classical.choose_spec h2
    cases h
    refine ⟨t, rfl, ?_⟩
    rw [← tv_inj h3]
  · cases h

/-- The map has these tables. -/
def LookT (D : DataW Tb) (l : List Tb) : Prop := Apart l ∧ (∀ x : Int, has D (.int .i64 x) = l.any fun u => u.num == x) ∧ (∀ t ∈ l, ∀ z, D.atKey (.int .i64 t.num) z = .held t) ∧ ∀ t ∈ l, (Lit.int .i64 t.num).wf = true

theorem look_nil : LookT (.map []) [] := ⟨List.Pairwise.nil, fun _ => rfl, (fun t h => by cases h), (fun t h => by cases h)⟩

theorem look_put {D : DataW Tb} {l : List Tb} {t : Tb} (hm : IsMap D) (h : LookT D l) (hn : (l.any fun u => u.num == t.num) = false) (hw : (Lit.int .i64 t.num).wf = true) : LookT (D.put (.int .i64 t.num) (.held t)) (l ++ [t]) := by
  obtain ⟨h1, h2, h3, h4⟩ := h
  rw [List.any_eq_false] at hn
  have hne : ∀ u ∈ l, u.num ≠ t.num := fun u hu e => hn u hu (by simp [e])
  refine ⟨?_, fun x => ?_, fun u hu z => ?_, fun u hu => ?_⟩
  · unfold Apart
    rw [List.pairwise_append]
    refine ⟨h1, List.pairwise_singleton _ _, fun a ha b hb => ?_⟩
    rw [List.mem_singleton] at hb
    rw [hb]
    exact hne a ha
  · rw [List.any_append]
    by_cases hx : x = t.num
    · subst hx
      rw [has_put_same hm (by trivial)]
      simp
    · rw [has_put_other (fun e => hx (by cases e; rfl)), h2 x]
      simp [Ne.symm hx]
  · rcases List.mem_append.1 hu with hu | hu
    · rw [atKey_put_other (fun e => hne u hu (by injection e))]
      exact h3 u hu z
    · rw [List.mem_singleton] at hu
      subst hu
      exact atKey_put_same hm (by trivial) _ _
  · rcases List.mem_append.1 hu with hu | hu
    · exact h4 u hu
    · rw [List.mem_singleton] at hu
      rw [hu]
      exact hw

theorem look_del {D : DataW Tb} {l : List Tb} {x : Int} (h : LookT D l) : LookT (D.del (.int .i64 x)) (l.filter fun t => !(t.num == x)) := by
  obtain ⟨h1, h2, h3, h4⟩ := h
  refine ⟨h1.filter _, fun y => ?_, fun u hu z => ?_, fun u hu => h4 u (List.mem_filter.1 hu).1⟩
  · by_cases hy : y = x
    · subst hy
      rw [has_del_same]
      symm
      rw [List.any_eq_false]
      intro u hu
      have := (List.mem_filter.1 hu).2
      simpa using this
    · rw [has_del_other (fun e => hy (by cases e; rfl)), h2 y, Bool.eq_iff_iff, List.any_eq_true, List.any_eq_true]
      refine ⟨fun ⟨u, hu, e⟩ => ⟨u, List.mem_filter.2 ⟨hu, ?_⟩, e⟩, fun ⟨u, hu, e⟩ => ⟨u, (List.mem_filter.1 hu).1, e⟩⟩
      have : u.num = y := by simpa using e
      simp [this, hy]
  · have hm := List.mem_filter.1 hu
    rw [atKey_del_other (fun e => by cases e; simp at hm)]
    exact h3 u hm.1 z

/-- What has come of a map's tables. -/
def Come (l acc : List Tb) (left : Lit → Bool) : Prop := Apart acc ∧ (∀ t ∈ acc, t ∈ l ∧ left (.int .i64 t.num) = false) ∧ ∀ t ∈ l, left (.int .i64 t.num) = true ∨ t ∈ acc

theorem come_step {D : DataW Tb} {l acc : List Tb} {left : Lit → Bool} {x : Int} {t : Tb} (hl : LookT D l) (h : Come l acc left) (hx : left (.int .i64 x) = true) (hat : ∀ zd, D.atKey (.int .i64 x) zd = .held t) : Come l (acc ++ [t]) (fun z => left z && !z.sameKey (.int .i64 x)) := by
  obtain ⟨h1, h2, h3, h4⟩ := hl
  obtain ⟨c1, c2, c3⟩ := h
  have hh := has_true_of_atKey hat
  rw [h2 x, List.any_eq_true] at hh
  obtain ⟨u, hu, e⟩ := hh
  have e : u.num = x := by simpa using e
  subst e
  have := h3 u hu (.held t)
  rw [hat] at this
  cases this
  have hsame : (Lit.int .i64 t.num).sameKey (.int .i64 t.num) = true := by simp [Lit.sameKey]
  refine ⟨?_, fun a ha => ?_, fun a ha => ?_⟩
  · unfold Apart
    rw [List.pairwise_append]
    refine ⟨c1, List.pairwise_singleton _ _, fun a ha b hb e2 => ?_⟩
    have hb2 : b = t := List.mem_singleton.1 hb
    have := (c2 a ha).2
    rw [e2, hb2, hx] at this
    cases this
  · rcases List.mem_append.1 ha with ha | ha
    · exact ⟨(c2 a ha).1, by show (left _ && _) = false; rw [(c2 a ha).2]; rfl⟩
    · rw [List.mem_singleton] at ha
      subst ha
      exact ⟨hu, by show (left _ && _) = false; rw [hsame]; simp⟩
  · by_cases hat2 : a.num = t.num
    · exact .inr (by rw [apart_eq h1 ha hu hat2]; simp)
    · rcases c3 a ha with h | h
      · left
        show (left _ && _) = true
        rw [h, sameKey_ne (fun e => hat2 (by injection e))]
        rfl
      · exact .inr (List.mem_append_left _ h)

theorem apart_len : ∀ {l m : List Tb}, Apart m → (∀ t ∈ m, t ∈ l) → m.length ≤ l.length
  | l, [], _, _ => Nat.zero_le _
  | l, x :: m, h, hs => by
    obtain ⟨hx, hm⟩ := List.pairwise_cons.1 h
    have h1 := apart_len (l := l.erase x) hm (fun t ht => (List.mem_erase_of_ne (fun e => hx t ht (by rw [e]))).2 (hs t (List.mem_cons_of_mem _ ht)))
    have h2 := List.length_erase_of_mem (hs x List.mem_cons_self)
    have h3 := List.length_pos_of_mem (hs x List.mem_cons_self)
    rw [List.length_cons]
    omega

theorem come_end {l acc : List Tb} {left : Lit → Bool} (ha : Apart l) (h : Come l acc left) (hl : ∀ k, left k = false) : acc.Perm l := by
  obtain ⟨c1, c2, c3⟩ := h
  have nd : ∀ {m : List Tb}, Apart m → m.Nodup := fun h => h.imp fun h e => h (by rw [e])
  refine (List.perm_ext_iff_of_nodup (nd c1) (nd ha)).2 fun t => ⟨fun h => (c2 t h).1, fun h => ?_⟩
  rcases c3 t h with h | h
  · rw [hl] at h
    cases h
  · exact h

theorem infoT : (Try.prog.info? 45).map (fun i => (i.zero, i.size, i.bytes)) = some (some (tv ⟨0, 0, 0, ⟨#[]⟩, ⟨#[]⟩⟩), 5, 56) := by kernel_rfl

/-- Rows of one's own are told, nothing old has changed. -/
def GivesTabs (w : World) (l : List Tb) (e : Ending) (w' : World) : Prop := ∃ v, e = .returned v ∧ w'.ownsRow w.heap.size 45 5 v l.length (l.flatMap Tb.cells) ∧ Below w.heap.size w w'

def PlaceRel (w : World) (m n : Nat) (D : DataW Tb) (l : List Tb) (lv : Value) (wr : World) : Prop :=
  ∃ (acc : List Tb) (left : Lit → Bool) (cnt : Nat), wr.ranges Try.prog 3 tabR m w.heap.size n D left cnt ∧ wr.ownsRow (w.heap.size + 1) 45 5 lv acc.length (acc.flatMap Tb.cells) ∧ Come l acc left ∧ acc.length ≤ l.length ∧ Below w.heap.size w wr

set_option maxRecDepth 100000 in
set_option maxHeartbeats 2000000 in
theorem inPlace_any (w : World) (m n : Nat) (D : DataW Tb) (l : List Tb) (hown : w.ownsMap Try.prog 3 tabR m n D) (hl : LookT D l) (hn : l.length ≤ 1000000) :
    Calls Try.prog 34 #[.map (some m)] w (GivesTabs w (srt l)) := by
  obtain ⟨i0, hi, hz0, hz1, hz2⟩ := info_parts infoT
  have HL := Lib.hid hl
  have hml : m < w.heap.size := hown.lt
  clear hl
  go_enter Try.func34, Try.ntmps34
  go_wp2_with (first | (at_range; refine wpList_range_own _ rfl _ 70 rfl 3 45 intKeyed tabsU tabR m n D rfl hown ?_; intro w0 hrg0 hg0 hs0) | fail)
  go_frame
  go_loopw [3] (fun lv wr => PlaceRel w m n D l lv wr) (fun _ wr => wr.rangeLeft m w.heap.size)
  case atStart => exact ⟨[], has D, size D, hrg0, owns_nil _ _ _ _, ⟨List.Pairwise.nil, (fun t h => by cases h), fun t h => .inl (by rw [HL.out.2.1, List.any_eq_true]; exact ⟨t, h, by simp⟩)⟩, Nat.zero_le _, ⟨hg0.os, hg0.tape, hg0.output, hg0.size, fun k hk => hg0.block k hk (by simp)⟩⟩
  case round =>
    obtain ⟨acc, left, cnt, hrg, ho, hc, hlen, hb⟩ := hrel
    have HRg := Lib.hid hrg
    have HO := Lib.hid ho
    have HC := Lib.hid hc
    have HB := Lib.hid hb
    have hbs := hb.size
    have hrl := hrg.lt
    clear ho hc hb hg0 hs0 hrg0
    go_wp2_with (first | (at_next; refine wpList_next_ranges _ rfl _ rfl 3 intKeyed tabR (Value.int .i64) tv (fun key kl h => by obtain ⟨x, rfl, _⟩ := keyOf_int_inv Try.underlying3 h; exact ⟨x, rfl⟩) (fun v y h => by obtain ⟨t, rfl, _⟩ := tabR_inv h; exact ⟨t, rfl⟩) m w.heap.size n D left cnt rfl hrg ?_ ?_) | fail)
    · intro hc0 hl0
      have hp := come_end HL.out.1 HC.out hl0
      have hap : Apart acc := HC.out.1
      have hlen2 : acc.length = l.length := hp.length_eq
      have hse : srt acc = srt l := srt_uniq (hp.symm.trans (srt_perm acc).symm) (srt_up acc) HL.out.1
      have hso := sort_rows wr (w.heap.size + 1) u3 acc HO.out hap (by omega)
      have HSo := Lib.hid hso
      have HSe := Lib.hid hse
      have HL2 := Lib.hid hlen2
      clear hso hse hlen2
      go_wp2_with (go_at_call 46; go_must (refine HSo.out.mono ?_))
      rintro e w6 ⟨rfl, o6, g6⟩
      go_wp2
      go_ret
      rw [HSe.out, HL2.out] at o6
      refine ⟨u3, rfl, ?_, ?_⟩
      · rw [(srt_perm l).length_eq]
        exact ⟨o6.1, o6.2.imp_right fun ⟨g, cap, cur, q1, q2, q3⟩ => ⟨g, cap, cur, q1, Nat.le_of_succ_le q2, q3⟩⟩
      · have hob := HO.out.2
        have hbo : ∀ b, u3.ownBlock = some b → w.heap.size ≤ b := by
          intro b hb
          rcases hob with ⟨rfl, _⟩ | ⟨g, cap, cur, rfl, q2, _⟩
          · simp [Value.ownBlock] at hb
          · simp [Value.ownBlock] at hb
            omega
        exact HB.out.trans ⟨g6.os, g6.tape, g6.output, g6.size, fun k hk => g6.block k (by omega) (fun e => by have := hbo k e.symm; omega)⟩
    · intro x c kl yd yp w1 cnt1 hkl hlk hR hat hrg1 hlt hgr hsz hen
      obtain ⟨x2, hx2, rfl, _⟩ := keyOf_int_inv Try.underlying3 hkl
      cases hx2
      obtain ⟨c2, hc2, hy2⟩ := tabR_inv hR
      cases tv_inj hc2
      cases hy2
      have hst := come_step HL.out HC.out hlk hat
      have HSt := Lib.hid hst
      have HRg1 := Lib.hid hrg1
      have ho1 : w1.ownsRow (w.heap.size + 1) 45 5 u3 acc.length (acc.flatMap Tb.cells) := HO.out.kept hgr (by
        rcases HO.out.2 with ⟨rfl, _⟩ | ⟨g, cap, cur, rfl, q2, _⟩
        · left; rfl
        · right
          intro e
          simp [Value.ownBlock] at e
          omega)
      have HO1 := Lib.hid ho1
      have HB1 := Lib.hid (show Below w.heap.size w w1 from HB.out.trans ⟨hgr.os, hgr.tape, hgr.output, hgr.size, fun k hk => hgr.block k (by omega) (fun e => by cases e; omega)⟩)
      have HLt := Lib.hid hlt
      obtain ⟨cn, cl, cz, cf, ct⟩ := c
      simp only [tv] at hen ⊢
      have ho3 := ho1.alloc (.cells #[.int .i64 cn, .int .i64 cl, .int .i64 cz, .string cf, .string ct] 45)
      have hN3 : (w1.alloc (.cells #[.int .i64 cn, .int .i64 cl, .int .i64 cz, .string cf, .string ct] 45)).heap.size = w1.heap.size + 1 := by simp
      have hb3 : Below w.heap.size w (w1.alloc (.cells #[.int .i64 cn, .int .i64 cl, .int .i64 cz, .string cf, .string ct] 45)) := HB1.out.alloc HB1.out.size _
      have hr3 := hrg1.alloc (.cells #[.int .i64 cn, .int .i64 cl, .int .i64 cz, .string cf, .string ct] 45)
      have hs3 : w.heap.size + 1 ≤ (w1.alloc (.cells #[.int .i64 cn, .int .i64 cl, .int .i64 cz, .string cf, .string ct] 45)).heap.size := by rw [hN3]; omega
      have hlen1 : acc.length + 1 ≤ l.length := by
        have hap := HSt.out.1
        have hsub : ∀ t ∈ acc ++ [⟨cn, cl, cz, cf, ct⟩], t ∈ l := fun t ht => (HSt.out.2.1 t ht).1
        have := apart_len hap hsub
        simpa using this
      have HO3 := Lib.hid ho3
      have HN3 := Lib.hid hN3
      have HB3 := Lib.hid hb3
      have HR3 := Lib.hid hr3
      have HLe := Lib.hid hlen1
      clear hsz hkl hlk hR hat hrg1 hlt hgr hst ho1 hc2 ho3 hN3 hb3 hr3 hlen1 HO HRg HC
      go_wp2_with (at_builtin; go_must (refine wpList_append_rows_at (w0 := w1.alloc (.cells #[.int .i64 cn, .int .i64 cl, .int .i64 cz, .string cf, .string ct] 45)) rfl _ _ 22 rfl (w.heap.size + 1) 45 i0 _ 5 56 Try.underlying22 hi hz0 hz1 hz2 rfl (Tb.cells ⟨cn, cl, cz, cf, ct⟩) 1 rfl HN3.out HO3.out rfl rfl ?_ ?_ ?_ hs3 ?_))
      · exact Tb.cells_one _
      · have := HLe.out; unfold maxLen; omega
      · have := HLe.out; omega
      intro v6 w6 o6 g6 b6 _
      have hr6 := HR3.out.kept g6 (by
        intro e
        rcases HO3.out.2 with ⟨rfl, _⟩ | ⟨g, cap, cur, rfl, q2, _⟩
        · simp [Value.ownBlock] at e
        · simp [Value.ownBlock] at e
          omega) (by
        intro e
        rcases HO3.out.2 with ⟨rfl, _⟩ | ⟨g, cap, cur, rfl, q2, _⟩
        · simp [Value.ownBlock] at e
        · simp [Value.ownBlock] at e
          omega)
      have e6 : (acc ++ [(⟨cn, cl, cz, cf, ct⟩ : Tb)]).flatMap Tb.cells = acc.flatMap Tb.cells ++ Tb.cells ⟨cn, cl, cz, cf, ct⟩ := by simp
      rw [← e6] at o6
      have HO6 := Lib.hid o6
      have HR6 := Lib.hid hr6
      have HB6 := Lib.hid (HB3.out.trans (b6.mono (Nat.le_succ _)))
      clear o6 g6 b6 hr6 e6
      go_wp2
      refine ⟨⟨_, _, _, HR6.out, (by rw [List.length_append]; exact HO6.out), HSt.out, by simpa using HLe.out, HB6.out⟩, ?_⟩
      rw [HR6.out.left_eq, hrg.left_eq]
      have := HLt.out
      omega
end Go.Proofs.Ythjimldojdhccaa
