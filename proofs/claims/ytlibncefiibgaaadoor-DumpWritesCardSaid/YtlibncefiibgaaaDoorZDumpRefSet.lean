/- The reference's set of any tuples. -/
import Derived.Test.YtlibncefiibgaaaDoorZDumpWritesW
import Derived.Test.YtlibncefiibgaaaDoorMga
namespace Go.Proofs.YtlibncefiibgaaaDoor
open Go Go.RowKit

theorem tcells_append (a b : List Six) : tcells (a ++ b) = tcells a ++ tcells b := List.flatMap_append ..

/-- What stands after k tuples. -/
noncomputable def setK (l : List Six) (k : Nat) : List Six := ((l.take k).filter Six.ok).foldl put6 []
theorem setK_off {l : List Six} {k : Nat} {t : Six} (h : l[k]? = some t) (hk : t.ok = false) : setK l (k + 1) = setK l k := by
  unfold setK
  rw [List.take_add_one, h, List.filter_append]
  simp [hk]
theorem setK_on {l : List Six} {k : Nat} {t : Six} (h : l[k]? = some t) (hk : t.ok = true) : setK l (k + 1) = put6 (setK l k) t := by
  unfold setK
  rw [List.take_add_one, h, List.filter_append]
  simp [hk]
theorem setK_all (l : List Six) : setK l l.length = setL l := by unfold setK setL; rw [List.take_length]

theorem put6_len (l : List Six) (t : Six) : (put6 l t).length ≤ l.length + 1 := by
  unfold put6
  split
  · omega
  · simp only [List.length_append, List.length_cons, List.length_take, List.length_drop]
    omega
theorem fold_len : ∀ (xs acc : List Six), (xs.foldl put6 acc).length ≤ acc.length + xs.length := by
  intro xs
  induction xs with
  | nil => intro acc; simp
  | cons x xs ih =>
    intro acc
    have h1 := ih (put6 acc x)
    have h2 := put6_len acc x
    simp only [List.foldl_cons, List.length_cons]
    omega
theorem setK_len (l : List Six) (k : Nat) : (setK l k).length ≤ k := by
  have h1 := fold_len ((l.take k).filter Six.ok) []
  have h2 := List.length_filter_le Six.ok (l.take k)
  have h3 := List.length_take_le k l
  unfold setK
  simp only [List.length_nil] at h1
  omega
theorem tcells_take (l : List Six) (k : Nat) : (tcells l).take (k * 6) = tcells (l.take k) := by
  induction l generalizing k with
  | nil => simp [tcells]
  | cons a r ih =>
    cases k with
    | zero => simp [tcells]
    | succ k =>
      unfold tcells at ih ⊢
      rw [List.flatMap_cons, List.take_succ_cons, List.flatMap_cons, ← ih k, show (k + 1) * 6 = a.cells.length + k * 6 by rw [Six.cells_length]; omega, List.take_length_add_append]
theorem tcells_drop (l : List Six) (k : Nat) : (tcells l).drop (k * 6) = tcells (l.drop k) := by
  induction l generalizing k with
  | nil => simp [tcells]
  | cons a r ih =>
    cases k with
    | zero => simp [tcells]
    | succ k =>
      unfold tcells at ih ⊢
      rw [List.flatMap_cons, List.drop_succ_cons, ← ih k, show (k + 1) * 6 = a.cells.length + k * 6 by rw [Six.cells_length]; omega, List.drop_length_add_append]

/-- The tuples ahead of a place are less; the world has grown. -/
def InRel (w6 : World) (L : List Six) (t : Six) (av : Value) (wi : World) : Prop :=
  ∃ j : Nat, av = .int .i64 (j : Int) ∧ j ≤ L.length ∧ (∀ i x, i < j → L[i]? = some x → slt x t = true) ∧ Below w6.heap.size w6 wi

def SetRel (w : World) (l : List Six) (ov kv : Value) (wr : World) : Prop :=
  ∃ (k : Nat) (a : Option Addr) (m c : Nat), ov = .slice a m c ∧ (setK l k).length = m ∧ kv = .int .i64 (k : Int) ∧ k ≤ l.length ∧ Below w.heap.size w wr ∧ wr.ownsRow w.heap.size 37 6 ov m (tcells (setK l k))

set_option maxRecDepth 100000 in
set_option maxHeartbeats 2000000 in
theorem set_any : SetAny := by
  intro w a n cap l hl h hs hn
  have HR := Lib.hid h
  have HL := Lib.hid hl
  have HS := Lib.hid hs
  obtain ⟨_, _, hv, hc1, hc2⟩ := h.le
  cases hv
  unfold maxLen at hc2
  have HR0 := Lib.hid (show SetRel w l (.slice none 0 0) (.int .i64 0) w from ⟨0, none, 0, 0, rfl, rfl, rfl, Nat.zero_le _, Below.refl _ _, World.ownsRow_nil _ _ _ _⟩)
  clear h hl hs
  go_enter Tryd.func11, Tryd.ntmps11
  go_wp2
  go_loopw [3, 9] (fun ov kv wr => SetRel w l ov kv wr) (fun _ kv _ => n - (intOf kv).toNat)
  case atStart => exact HR0.out
  case round =>
    rename World => wr
    obtain ⟨k, oa, m, oc, rfl, hm, rfl, hk, hb, ho⟩ := hrel
    rw [HL.out] at hk
    have HB := Lib.hid hb
    have HO := Lib.hid ho
    have HM := Lib.hid hm
    clear HR0 hb ho hm
    by_cases hlt : k < n
    · have hltI : (k : Int) < n := by omega
      have hk0 : (0 : Int) ≤ k := by omega
      obtain ⟨t, ht⟩ : ∃ t, l[k]? = some t := ⟨l[k]'(by rw [HL.out]; exact hlt), List.getElem?_eq_getElem _⟩
      obtain ⟨b, off, hv, hbl', k0, k1, k2, k3, k4, k5⟩ := (HR.out.below' HB.out).six ht
      cases hv
      have hsh := HS.out t (List.mem_of_getElem? ht)
      have HC := Lib.hid (fun W => refcheck_any W t ⟨by have := hsh.1; omega, by have := hsh.2.1; omega, by have := hsh.2.2.1; omega, by have := hsh.2.2.2.1; omega, by have := hsh.2.2.2.2.1; omega, by have := hsh.2.2.2.2.2; omega⟩)
      have hvl : t.val = .agg #[.string t.a, .string t.b, .string t.c, .string t.d, .string t.e, .string t.f] := rfl
      rw [hvl] at HC
      cases hok : t.ok with
      | false =>
        rw [hok] at HC
        have HN := Lib.hid (setK_off ht hok)
        clear hsh hvl ht hok
        go_wp2_with (go_at_call 29; go_must (refine (HC.out _).mono ?_))
        rintro e w6 ⟨rfl, b6⟩
        have b7 : Below wr.heap.size wr w6 := ((Below.refl _ _).alloc (Nat.le_refl _) _).trans (b6.mono (by simp))
        have HRn := Lib.hid (show SetRel w l (.slice oa m oc) (.int .i64 ((k + 1 : Nat) : Int)) w6 from ⟨k + 1, oa, m, oc, rfl, by rw [HN.out]; exact HM.out, rfl, by rw [HL.out]; exact hlt, HB.out.trans (b7.mono HB.out.size), by rw [HN.out]; exact owns_below HO.out b7⟩)
        clear b6 b7
        unfold checkV
        go_wp2
        exact ⟨HRn.out, by simp [intOf]; omega⟩
      | true =>
        rw [hok] at HC
        have hkn : (setK l k).length ≤ k := setK_len l k
        obtain ⟨L, hLd⟩ : ∃ L, setK l k = L := ⟨_, rfl⟩
        have hN := setK_on ht hok
        rw [hLd] at HM HO hkn hN
        rw [HM.out] at hkn
        have HN := Lib.hid hN
        have HLd := Lib.hid hLd
        obtain ⟨i0, hi, hz0, hz1, hz2⟩ := info_parts info_six
        have HCm := Lib.hid (fun (W : World) (u : Six) => refcmp_any W u t)
        have hw0 := HB.out.size
        clear hsh hvl ht hok hN hLd
        go_wp2_with (go_at_call 29; go_must (refine (HC.out _).mono ?_))
        rintro e w6 ⟨rfl, b6⟩
        have b7 : Below wr.heap.size wr w6 := ((Below.refl _ _).alloc (Nat.le_refl _) _).trans (b6.mono (by simp))
        have hT : w6.heap[wr.heap.size]? = some (.cells t.cells.toArray 37 (0, 0)) := (b6.block _ (by simp)).trans (heap_alloc_new wr _)
        have hb5 : wr.heap.size < w6.heap.size := (Array.getElem?_eq_some_iff.1 hT).1
        have HT6 := Lib.hid hT
        have HO6 := Lib.hid (owns_below HO.out b7)
        have HB6 := Lib.hid (HB.out.trans (b7.mono HB.out.size))
        obtain ⟨_, _, hve, hmc, hcm⟩ := (ownsRow.reads HO6.out).le
        cases hve
        unfold maxLen at hcm
        clear b6 b7 HO HB hT k0 k1 k2 k3 k4 k5
        unfold checkV
        go_wp2_with fail
        go_loopw [6] (fun av wi => InRel w6 L t av wi) (fun av _ => m - (intOf av).toNat)
        case atStart => exact ⟨0, rfl, Nat.zero_le _, fun i x hi => by omega, Below.refl _ _⟩
        case round =>
          rename World => wi
          obtain ⟨at', rfl, hat, hlo, hbi⟩ := hrel
          rw [HM.out] at hat
          have hb5 : wr.heap.size < wi.heap.size := Nat.lt_of_lt_of_le hb5 hbi.size
          have HT := Lib.hid ((hbi.block _ ‹_›).trans HT6.out)
          have HOi := Lib.hid (owns_below HO6.out hbi)
          have HR2 := Lib.hid (ownsRow.reads HOi.out)
          have HBi := Lib.hid (HB6.out.trans (hbi.mono HB6.out.size))
          have HBj := Lib.hid hbi
          have HLo := Lib.hid hlo
          clear hlo hbi HT6 HO6
          by_cases ham : at' < m
          · obtain ⟨u, hu⟩ : ∃ u, L[at']? = some u := ⟨_, List.getElem?_eq_getElem (by rw [HM.out]; exact ham)⟩
            obtain ⟨gb, goff, hv, hgb, k0, k1, k2, k3, k4, k5⟩ := HR2.out.six hu
            subst hv
            have hatm : (at' : Int) < m := by omega
            have HCm0 := fun W => refcmp_any W u t
            unfold Six.val at HCm0
            obtain ⟨c, hcc⟩ : ∃ c, cmpBs u.list t.list = c := ⟨_, rfl⟩
            rw [hcc] at HCm0
            obtain ⟨bb, hbb⟩ : ∃ bb, decide (c < 0) = bb := ⟨_, rfl⟩
            have hbs : slt u t = bb := by unfold slt cf6; rw [hcc]; exact hbb
            have HCm := Lib.hid HCm0
            have HBs := Lib.hid hbs
            have HU := Lib.hid hu
            clear HCm0 hcc hbs hu HR2
            go_upto_region 7 with fail
            refine wp_region_all (by kernel_rfl) [eqF (.int .i64 (at' : Int)), eqF (.slice (some ⟨gb, goff, none⟩) m oc), eqF (.int .i64 (m : Int)), eqF (.bool true), eqF (.bool true), eqF (.slice (some ⟨gb, goff, none⟩) m oc), eqF (.int .i64 (at' : Int)), eqF (.pointer (some ⟨gb, goff + at' * 6, none⟩)), eqF (.agg #[.string u.a, .string u.b, .string u.c, .string u.d, .string u.e, .string u.f]), eqF (.agg #[.string t.a, .string t.b, .string t.c, .string t.d, .string t.e, .string t.f]), eqF (.int .i64 c), eqF (.bool bb), eqF (.bool bb)] (by kernel_rfl) ⟨?_, ?_, ?_, ?_, ?_, ?_, ?_, ?_, ?_, ?_, ?_, ?_, ?_, trivial⟩ ⟨trivial, trivial, trivial, trivial, trivial, fun _ _ h => h, fun _ _ h => h, fun _ _ h => h, fun _ _ h => h, fun _ _ h => h, fun _ _ h => h, fun _ _ h => h, trivial, trivial⟩ ?_
            · intro ρ wx hρ hbx hl
              have e6 : ρ (.tmp 6) = .int .i64 (at' : Int) := hρ.tmp 6 (by decide +kernel)
              refine y_val (v := .int .i64 (at' : Int)) ?_ rfl
              simp [execOp, go_sem, e6]
            · intro ρ wx hρ hbx hl
              have e3 : ρ (.tmp 3) = .slice (some ⟨gb, goff, none⟩) m oc := hρ.tmp 3 (by decide +kernel)
              refine y_val (v := .slice (some ⟨gb, goff, none⟩) m oc) ?_ rfl
              simp [execOp, go_sem, e3]
            · intro ρ wx hρ hbx hl
              have e17 : ρ (.tmp 17) = .slice (some ⟨gb, goff, none⟩) m oc := hl 1 (by decide +kernel) 17 rfl
              refine y_val (v := .int .i64 (m : Int)) ?_ rfl
              simp [go_sem, e17]
            · intro ρ wx hρ hbx hl
              have e16 : ρ (.tmp 16) = .int .i64 (at' : Int) := hl 0 (by decide +kernel) 16 rfl
              have e18 : ρ (.tmp 18) = .int .i64 (m : Int) := hl 2 (by decide +kernel) 18 rfl
              refine y_val (v := .bool true) ?_ rfl
              simp [execOp, go_sem, e16, e18, hatm]
            · intro ρ wx hρ hbx hl
              have e19 : ρ (.tmp 19) = .bool true := hl 3 (by decide +kernel) 19 rfl
              refine y_val (v := .bool true) ?_ rfl
              simp [execOp, go_sem, e19]
            · intro ρ wx hρ hbx hl
              have e3 : ρ (.tmp 3) = .slice (some ⟨gb, goff, none⟩) m oc := hρ.tmp 3 (by decide +kernel)
              refine y_val (v := .slice (some ⟨gb, goff, none⟩) m oc) ?_ rfl
              simp [execOp, go_sem, e3]
            · intro ρ wx hρ hbx hl
              have e6 : ρ (.tmp 6) = .int .i64 (at' : Int) := hρ.tmp 6 (by decide +kernel)
              refine y_val (v := .int .i64 (at' : Int)) ?_ rfl
              simp [execOp, go_sem, e6]
            · intro ρ wx hρ hbx hl
              have e21 : ρ (.tmp 21) = .slice (some ⟨gb, goff, none⟩) m oc := hl 5 (by decide +kernel) 21 rfl
              have e22 : ρ (.tmp 22) = .int .i64 (at' : Int) := hl 6 (by decide +kernel) 22 rfl
              refine y_val (v := .pointer (some ⟨gb, goff + at' * 6, none⟩)) ?_ rfl
              simp [execOp, go_sem, e21, e22, hatm]
            · intro ρ wx hρ hbx hl
              have e23 : ρ (.tmp 23) = .pointer (some ⟨gb, goff + at' * 6, none⟩) := hl 7 (by decide +kernel) 23 rfl
              have q0 := (hbx.cell (p := ⟨gb, goff + at' * 6, none⟩) hgb).trans k0
              have q1 := (hbx.cell (p := ⟨gb, goff + at' * 6 + 1, none⟩) hgb).trans k1
              have q2 := (hbx.cell (p := ⟨gb, goff + at' * 6 + 2, none⟩) hgb).trans k2
              have q3 := (hbx.cell (p := ⟨gb, goff + at' * 6 + 3, none⟩) hgb).trans k3
              have q4 := (hbx.cell (p := ⟨gb, goff + at' * 6 + 4, none⟩) hgb).trans k4
              have q5 := (hbx.cell (p := ⟨gb, goff + at' * 6 + 5, none⟩) hgb).trans k5
              refine y_val (v := .agg #[.string u.a, .string u.b, .string u.c, .string u.d, .string u.e, .string u.f]) ?_ rfl
              simp [execOp, go_sem, e23, q0, q1, q2, q3, q4, q5]
            · intro ρ wx hρ hbx hl
              have e5 : ρ (.tmp 5) = .pointer (some ⟨wr.heap.size, 0, none⟩) := hρ.tmp 5 (by decide +kernel)
              have q := (hbx.block _ hb5).trans HT.out
              have q0 := Lib.cell_of_heap q 0
              have q1 := Lib.cell_of_heap q 1
              have q2 := Lib.cell_of_heap q 2
              have q3 := Lib.cell_of_heap q 3
              have q4 := Lib.cell_of_heap q 4
              have q5 := Lib.cell_of_heap q 5
              simp [Six.cells, scells, Six.list] at q0 q1 q2 q3 q4 q5
              refine y_val (v := .agg #[.string t.a, .string t.b, .string t.c, .string t.d, .string t.e, .string t.f]) ?_ rfl
              simp [execOp, go_sem, e5, q0, q1, q2, q3, q4, q5]
            · intro ρ wx hρ hbx hl
              have e24 : ρ (.tmp 24) = .agg #[.string u.a, .string u.b, .string u.c, .string u.d, .string u.e, .string u.f] := hl 8 (by decide +kernel) 24 rfl
              have e25 : ρ (.tmp 25) = .agg #[.string t.a, .string t.b, .string t.c, .string t.d, .string t.e, .string t.f] := hl 9 (by decide +kernel) 25 rfl
              refine y_call (f := 30) (args := #[.agg #[.string u.a, .string u.b, .string u.c, .string u.d, .string u.e, .string u.f], .agg #[.string t.a, .string t.b, .string t.c, .string t.d, .string t.e, .string t.f]]) (by simp [execOp, resolve, invoke, hρ.func, go_sem, e24, e25]) ?_
              refine (HCm.out wx).mono ?_
              rintro e w6 ⟨rfl, b7⟩
              exact ⟨_, rfl, rfl, b7⟩
            · intro ρ wx hρ hbx hl
              have e26 : ρ (.tmp 26) = .int .i64 c := hl 10 (by decide +kernel) 26 rfl
              refine y_val (v := .bool bb) ?_ rfl
              simp [execOp, hρ.const, go_sem, e26, hbb]
            · intro ρ wx hρ hbx hl
              have e20 : ρ (.tmp 20) = .bool true := hl 4 (by decide +kernel) 20 rfl
              have e27 : ρ (.tmp 27) = .bool bb := hl 11 (by decide +kernel) 27 rfl
              refine y_val (v := .bool bb) ?_ rfl
              simp [execOp, go_sem, e20, e27]
            intro aa wq hdef hsz hlk hbz hf
            have ha := act_of_like hdef hsz hlk [16, 17, 18, 19, 20, 21, 22, 23, 24, 25, 26, 27, 28] 57 rfl (by decide +kernel)
            have e16 : aa.tmps.getD 16 undef = .int .i64 (at' : Int) := hf 0 _ 16 rfl rfl
            have e17 : aa.tmps.getD 17 undef = .slice (some ⟨gb, goff, none⟩) m oc := hf 1 _ 17 rfl rfl
            have e18 : aa.tmps.getD 18 undef = .int .i64 (m : Int) := hf 2 _ 18 rfl rfl
            have e19 : aa.tmps.getD 19 undef = .bool true := hf 3 _ 19 rfl rfl
            have e20 : aa.tmps.getD 20 undef = .bool true := hf 4 _ 20 rfl rfl
            have e21 : aa.tmps.getD 21 undef = .slice (some ⟨gb, goff, none⟩) m oc := hf 5 _ 21 rfl rfl
            have e22 : aa.tmps.getD 22 undef = .int .i64 (at' : Int) := hf 6 _ 22 rfl rfl
            have e23 : aa.tmps.getD 23 undef = .pointer (some ⟨gb, goff + at' * 6, none⟩) := hf 7 _ 23 rfl rfl
            have e24 : aa.tmps.getD 24 undef = .agg #[.string u.a, .string u.b, .string u.c, .string u.d, .string u.e, .string u.f] := hf 8 _ 24 rfl rfl
            have e25 : aa.tmps.getD 25 undef = .agg #[.string t.a, .string t.b, .string t.c, .string t.d, .string t.e, .string t.f] := hf 9 _ 25 rfl rfl
            have e26 : aa.tmps.getD 26 undef = .int .i64 c := hf 10 _ 26 rfl rfl
            have e27 : aa.tmps.getD 27 undef = .bool bb := hf 11 _ 27 rfl rfl
            have e28 : aa.tmps.getD 28 undef = .bool bb := hf 12 _ 28 rfl rfl
            simp only [putAll, List.foldl_cons, List.foldl_nil, e16, e17, e18, e19, e20, e21, e22, e23, e24, e25, e26, e27, e28] at ha
            simp [Act.put] at ha
            subst ha
            clear hdef hsz hlk hf e16 e17 e18 e19 e20 e21 e22 e23 e24 e25 e26 e27 e28
            clear hbb
            cases bb with
            | true =>
              go_wp2
              exact ⟨⟨at' + 1, by go_num, by rw [HM.out]; omega, fun i x hi hx => by
                by_cases hia : i < at'
                · exact HLo.out i x hia hx
                · obtain rfl : i = at' := by omega
                  rw [HU.out] at hx
                  cases hx
                  exact HBs.out, HBj.out.trans (hbz.mono HBj.out.size)⟩, by simp [intOf]; omega⟩
            | false =>
              have hat6 : at6 L t = at' := at6_eq HLo.out (by rw [HM.out]; exact hat) (fun x hx => by rw [HU.out] at hx; cases hx; exact HBs.out)
              have hb5q : wr.heap.size < wq.heap.size := Nat.lt_of_lt_of_le hb5 hbz.size
              have hTq := (hbz.block _ hb5).trans HT.out
              have u0 := Lib.cell_of_heap hTq 0
              have u1 := Lib.cell_of_heap hTq 1
              have u2 := Lib.cell_of_heap hTq 2
              have u3 := Lib.cell_of_heap hTq 3
              have u4 := Lib.cell_of_heap hTq 4
              have u5 := Lib.cell_of_heap hTq 5
              simp [Six.cells, scells, Six.list] at u0 u1 u2 u3 u4 u5
              have q0 := (hbz.cell (p := ⟨gb, goff + at' * 6, none⟩) hgb).trans k0
              have q1 := (hbz.cell (p := ⟨gb, goff + at' * 6 + 1, none⟩) hgb).trans k1
              have q2 := (hbz.cell (p := ⟨gb, goff + at' * 6 + 2, none⟩) hgb).trans k2
              have q3 := (hbz.cell (p := ⟨gb, goff + at' * 6 + 3, none⟩) hgb).trans k3
              have q4 := (hbz.cell (p := ⟨gb, goff + at' * 6 + 4, none⟩) hgb).trans k4
              have q5 := (hbz.cell (p := ⟨gb, goff + at' * 6 + 5, none⟩) hgb).trans k5
              have HTq := Lib.hid hTq
              have HOq := Lib.hid (owns_below HOi.out hbz)
              have HBq := Lib.hid (HBi.out.trans (hbz.mono HBi.out.size))
              clear k0 k1 k2 k3 k4 k5 hTq hbz hb5 HT HOi HBi HBj HLo HBs hgb
              have hdm : ((at' : Int) == (m : Int)) = false := by rw [beq_eq_false_iff_ne]; omega
              by_cases hut : u = t
              · subst hut
                have hput : put6 L u = L := by unfold put6; rw [hat6, if_pos HU.out]
                have HPut := Lib.hid hput
                clear hput hat6
                go_wp2_with fail
                go_quiet (fail)
                rename_i nq
                have hbd : Below wq.heap.size wq (wq.drewN nq) := below_quietD (Below.refl _ _) nq
                have hS : SetRel w l (.slice (some ⟨gb, goff, none⟩) m oc) (.int .i64 ((k + 1 : Nat) : Int)) (wq.drewN nq) := ⟨k + 1, _, m, oc, rfl, by rw [HN.out, HPut.out]; exact HM.out, rfl, by rw [HL.out]; exact hlt, HBq.out.trans (hbd.mono HBq.out.size), by rw [HN.out, HPut.out]; exact owns_below HOq.out hbd⟩
                have HS2 := Lib.hid hS
                clear hS hbd q0 q1 q2 q3 q4 q5 u0 u1 u2 u3 u4 u5
                generalize wq.drewN nq = wd at HS2 ⊢
                go_wp2
                exact ⟨HS2.out, by simp [intOf]; omega⟩
              · have hnq := fun w : World => six_nq w hut
                have hput : put6 L t = L.take at' ++ t :: L.drop at' := by unfold put6; rw [hat6, if_neg (by rw [HU.out]; exact fun e => hut (Option.some.inj e))]
                have HPut := Lib.hid hput
                have HPutl := Lib.hid (show (L.take at' ++ t :: L.drop at').length = m + 1 by have := HM.out; simp only [List.length_append, List.length_cons, List.length_take, List.length_drop]; omega)
                clear hput hat6 hut
                go_wp2_with fail
                go_quiet (fail)
                clear hnq q0 q1 q2 q3 q4 q5 u0 u1 u2 u3 u4 u5
                generalize (some ({ block := gb, off := goff } : Addr)) = oa at *
                rename_i nq
                have hbd : Below wq.heap.size wq (wq.drewN nq) := below_quietD (Below.refl _ _) nq
                generalize wq.drewN nq = wd at hbd ⊢
                have hb5d : wr.heap.size < wd.heap.size := Nat.lt_of_lt_of_le hb5q hbd.size
                have HTd := Lib.hid ((hbd.block _ hb5q).trans HTq.out)
                have HRd := Lib.hid ((ownsRow.reads HOq.out).below' hbd)
                have HBd := Lib.hid (HBq.out.trans (hbd.mono HBq.out.size))
                clear hbd hb5q HTq HOq HBq
                go_upto_region 10 with fail
                have hb5 := hb5d
                have HT := HTd
                have HR := HRd
                refine wp_region_until_last (l := [_, _, _, _, _, _, _, _, _, _, _, _]) (by kernel_rfl) [onU (zeroF wd.heap.size 37 6) (some 4), eqU (.slice oa m oc), eqU (.int .i64 (at' : Int)), eqU (.slice oa at' oc), onU (ownsF wd.heap.size 37 6 at' (tcells (L.take at'))) (some 7), eqU (t.val), onU (litF 37 t.cells.toArray 1) (some 7), onU (ownsF wd.heap.size 37 6 (at' + 1) (tcells (L.take at' ++ [t]))) (some 11), eqU (.slice oa m oc), eqU (.int .i64 (at' : Int)), eqU (.slice (behindS oa at' oc 6) (m - at') (oc - at')), onU (ownsF wd.heap.size 37 6 (m + 1) (tcells (L.take at' ++ t :: L.drop at'))) none] [7, 11] (by kernel_rfl) (by kernel_rfl) (by kernel_rfl) (by kernel_rfl) (by kernel_rfl) ⟨?_, ?_, ?_, ?_, ?_, ?_, ?_, ?_, ?_, ?_, ?_, ?_, trivial⟩ ?_
                · intro ρ wx hρ hbx hl
                  refine u_new (v := .slice (some ⟨wx.heap.size, 0, none⟩) 0 0) (w' := wx.alloc (.cells #[] 37)) ?_ ⟨_, rfl, owns_less (owns_zero wx _ 6) hbx.size⟩ ((Below.refl _ _).alloc (Nat.le_refl _) _)
                  simp [execOp, go_sem]
                · intro ρ wx hρ hbx hl
                  have e3 : ρ (.tmp 3) = .slice oa m oc := hρ.tmp 3 (by decide +kernel)
                  refine u_val (v := .slice oa m oc) ?_ rfl
                  simp [execOp, go_sem, e3]
                · intro ρ wx hρ hbx hl
                  have e6 : ρ (.tmp 6) = .int .i64 (at' : Int) := hρ.tmp 6 (by decide +kernel)
                  refine u_val (v := .int .i64 (at' : Int)) ?_ rfl
                  simp [execOp, go_sem, e6]
                · intro ρ wx hρ hbx hl
                  have e44 : ρ (.tmp 44) = .slice oa m oc := hl 1 (by decide +kernel) (.inl rfl) 44 rfl
                  have e45 : ρ (.tmp 45) = .int .i64 (at' : Int) := hl 2 (by decide +kernel) (.inl rfl) 45 rfl
                  refine u_val (v := .slice oa at' oc) ?_ rfl
                  simp [execOp, go_sem, e44, e45]
                  first | done | omega
                · intro ρ wx hρ hbx hl
                  have e43 : (zeroF wd.heap.size 37 6).p (ρ (.tmp 43)) wx := hl 0 (by decide +kernel) (.inr rfl) 43 rfl
                  have e46 : ρ (.tmp 46) = .slice oa at' oc := hl 3 (by decide +kernel) (.inl rfl) 46 rfl
                  obtain ⟨g43, e43, o43⟩ := e43
                  rw [e43] at o43
                  obtain ⟨v', w', hr, ho, hb⟩ := run_append_zero_s (P := Tryd.prog) (w := wx) wd.heap.size 22 22 22 37 i0 _ 6 96 Tryd.underlying22 hi hz0 hz1 hz2 rfl g43 o43 (.slice oa at' oc) at' (tcells (L.take at')) (by rw [← tcells_take]; exact ((HR.out.below' hbx).rtake at' hat).src Tryd.underlying22 (by rw [tcells_take]; exact tcells_one _)) (by unfold maxLen; omega) (by omega) hbx.size
                  refine u_new ?_ ho hb
                  simp only [execOp, resolve, invoke, builtin, Sem.run_bind, Sem.run_pure, Result.andThen_ok, List.map_toArray, List.map_cons, List.map_nil, e43, e46, hr]
                · intro ρ wx hρ hbx hl
                  have e5 : ρ (.tmp 5) = .pointer (some ⟨wr.heap.size, 0, none⟩) := hρ.tmp 5 (by decide +kernel)
                  obtain ⟨k0, k1, k2, k3, k4, k5⟩ := six_cells' ((hbx.block _ hb5).trans HT.out)
                  refine u_val (v := t.val) ?_ rfl
                  simp [execOp, go_sem, e5, k0, k1, k2, k3, k4, k5, Six.val]
                · intro ρ wx hρ hbx hl
                  have e48 : ρ (.tmp 48) = t.val := hl 5 (by decide +kernel) (.inl rfl) 48 rfl
                  refine u_new (v := .slice (some ⟨wx.heap.size, 0, none⟩) 1 1) (w' := wx.alloc (.cells t.cells.toArray 37)) ?_ ⟨_, rfl, heap_alloc_new wx _⟩ ((Below.refl _ _).alloc (Nat.le_refl _) _)
                  simp [execOp, go_sem, e48, Six.val, Six.cells, scells, Six.list]
                · intro ρ wx hρ hbx hl
                  have e47 : (ownsF wd.heap.size 37 6 at' (tcells (L.take at'))).p (ρ (.tmp 47)) wx := hl 4 (by decide +kernel) (.inr rfl) 47 rfl
                  have e49 : (litF 37 t.cells.toArray 1).p (ρ (.tmp 49)) wx := hl 6 (by decide +kernel) (.inr rfl) 49 rfl
                  obtain ⟨g49, e49, o49⟩ := e49
                  have hrd := lit_reads (cs := t.cells) (size := 6) o49 rfl (by decide)
                  obtain ⟨v', w', hr, ho, hg, hb, _⟩ := run_append_owns (P := Tryd.prog) (w := wx) wd.heap.size 22 22 22 37 i0 _ 6 96 Tryd.underlying22 hi hz0 hz1 hz2 rfl _ at' _ e47 _ 1 t.cells (hrd.src Tryd.underlying22 (Six.cells_one t)) (by unfold maxLen; omega) (by omega) hbx.size
                  rw [show tcells (L.take at') ++ t.cells = tcells (L.take at' ++ [t]) from (tcells_snoc (L.take at') t).symm] at ho
                  refine u_new ?_ ho hb
                  simp only [execOp, resolve, invoke, builtin, Sem.run_bind, Sem.run_pure, Result.andThen_ok, List.map_toArray, List.map_cons, List.map_nil, e49, hr]
                · intro ρ wx hρ hbx hl
                  have e3 : ρ (.tmp 3) = .slice oa m oc := hρ.tmp 3 (by decide +kernel)
                  refine u_val (v := .slice oa m oc) ?_ rfl
                  simp [execOp, go_sem, e3]
                · intro ρ wx hρ hbx hl
                  have e6 : ρ (.tmp 6) = .int .i64 (at' : Int) := hρ.tmp 6 (by decide +kernel)
                  refine u_val (v := .int .i64 (at' : Int)) ?_ rfl
                  simp [execOp, go_sem, e6]
                · intro ρ wx hρ hbx hl
                  have e51 : ρ (.tmp 51) = .slice oa m oc := hl 8 (by decide +kernel) (.inl rfl) 51 rfl
                  have e52 : ρ (.tmp 52) = .int .i64 (at' : Int) := hl 9 (by decide +kernel) (.inl rfl) 52 rfl
                  refine u_val (v := .slice (behindS oa at' oc 6) (m - at') (oc - at')) ?_ rfl
                  simp [execOp, go_sem, e51, e52, behindS, hat]
                · intro ρ wx hρ hbx hl
                  have e50 : (ownsF wd.heap.size 37 6 (at' + 1) (tcells (L.take at' ++ [t]))).p (ρ (.tmp 50)) wx := hl 7 (by decide +kernel) (.inr rfl) 50 rfl
                  have e53 : ρ (.tmp 53) = .slice (behindS oa at' oc 6) (m - at') (oc - at') := hl 10 (by decide +kernel) (.inl rfl) 53 rfl
                  obtain ⟨v', w', hr, ho, hg, hb, _⟩ := run_append_owns (P := Tryd.prog) (w := wx) wd.heap.size 22 22 22 37 i0 _ 6 96 Tryd.underlying22 hi hz0 hz1 hz2 rfl _ (at' + 1) _ e50 (.slice (behindS oa at' oc 6) (m - at') (oc - at')) (m - at') (tcells (L.drop at')) (by rw [← tcells_drop]; exact ((HR.out.below' hbx).rdrop at' hat).src Tryd.underlying22 (by rw [tcells_drop]; exact tcells_one _)) (by unfold maxLen; omega) (by omega) hbx.size
                  rw [← tcells_append, List.append_assoc, List.singleton_append, show at' + 1 + (m - at') = m + 1 by omega] at ho
                  refine u_new ?_ ho hb
                  simp only [execOp, resolve, invoke, builtin, Sem.run_bind, Sem.run_pure, Result.andThen_ok, List.map_toArray, List.map_cons, List.map_nil, e53, hr]
                intro aa wz hdef hsz hlk hbz hf
                have ha := act_of_like hdef hsz hlk [43, 44, 45, 46, 47, 48, 49, 50, 51, 52, 53, 54] 57 rfl (by decide +kernel)
                have e44 : aa.tmps.getD 44 undef = .slice oa m oc := hf 1 _ 44 rfl rfl rfl
                have e45 : aa.tmps.getD 45 undef = .int .i64 (at' : Int) := hf 2 _ 45 rfl rfl rfl
                have e46 : aa.tmps.getD 46 undef = .slice oa at' oc := hf 3 _ 46 rfl rfl rfl
                have e48 : aa.tmps.getD 48 undef = t.val := hf 5 _ 48 rfl rfl rfl
                have e51 : aa.tmps.getD 51 undef = .slice oa m oc := hf 8 _ 51 rfl rfl rfl
                have e52 : aa.tmps.getD 52 undef = .int .i64 (at' : Int) := hf 9 _ 52 rfl rfl rfl
                have e53 : aa.tmps.getD 53 undef = .slice (behindS oa at' oc 6) (m - at') (oc - at') := hf 10 _ 53 rfl rfl rfl
                have e54 : (ownsF wd.heap.size 37 6 (m + 1) (tcells (L.take at' ++ t :: L.drop at'))).p (aa.tmps.getD 54 undef) wz := hf 11 _ 54 rfl rfl rfl
                generalize hv54 : aa.tmps.getD 54 undef = v54 at e54
                simp only [putAll, List.foldl_cons, List.foldl_nil, e44, e45, e46, e48, e51, e52, e53, hv54] at ha
                generalize aa.tmps.getD 43 undef = v43 at ha
                generalize aa.tmps.getD 47 undef = v47 at ha
                generalize aa.tmps.getD 49 undef = v49 at ha
                generalize aa.tmps.getD 50 undef = v50 at ha
                simp [Act.put] at ha
                subst ha
                clear hdef hsz hlk hf e44 e45 e46 e48 e51 e52 e53 hv54
                have hS : SetRel w l v54 (.int .i64 ((k + 1 : Nat) : Int)) wz := by
                  obtain ⟨a', c', hv, _, _⟩ := (ownsRow.reads e54).le
                  subst hv
                  exact ⟨k + 1, a', m + 1, c', rfl, by rw [HN.out, HPut.out]; exact HPutl.out, rfl, by rw [HL.out]; exact hlt, HBd.out.trans (hbz.mono HBd.out.size), by rw [HN.out, HPut.out]; exact owns_less e54 HBd.out.size⟩
                have HS2 := Lib.hid hS
                clear hS e54
                go_wp2
                exact ⟨HS2.out, by simp [intOf]; omega⟩
          · obtain rfl : at' = m := by omega
            have hat6 : at6 L t = at' := at6_eq HLo.out (by rw [HM.out]; exact hat) (fun x hx => by have := (List.getElem?_eq_some_iff.1 hx).1; rw [HM.out] at this; omega)
            have hput : put6 L t = L.take at' ++ t :: L.drop at' := by unfold put6; rw [hat6, if_neg (by rw [List.getElem?_eq_none (by rw [HM.out]; exact Nat.le_refl _)]; exact fun e => by cases e)]
            have HPut := Lib.hid hput
            have HPutl := Lib.hid (show (L.take at' ++ t :: L.drop at').length = at' + 1 by have := HM.out; simp only [List.length_append, List.length_cons, List.length_take, List.length_drop]; omega)
            clear hput hat6
            go_upto_region 7 with fail
            refine wp_region_some2 (by kernel_rfl) [5, 6, 7, 8, 9, 10, 11] [eqF (.int .i64 (at' : Int)), eqF (.slice oa at' oc), eqF (.int .i64 (at' : Int)), eqF (.bool false), eqF (.bool false), eqF (undef), eqF (undef), eqF (undef), eqF (undef), eqF (undef), eqF (undef), eqF (undef), eqF (.bool false)] (by kernel_rfl) ⟨on_goal (by decide) ?_, on_goal (by decide) ?_, on_goal (by decide) ?_, on_goal (by decide) ?_, on_goal (by decide) ?_, off_goal (by decide) fun _ => rfl, off_goal (by decide) fun _ => rfl, off_goal (by decide) fun _ => rfl, off_goal (by decide) fun _ => rfl, off_goal (by decide) fun _ => rfl, off_goal (by decide) fun _ => rfl, off_goal (by decide) fun _ => rfl, on_goal (by decide) ?_, trivial⟩ ⟨rfl, rfl, rfl, rfl, rfl, fun _ _ h => g_off (.inl h) rfl, fun _ _ h => g_off (.inl h) rfl, fun _ _ h => g_off (.inl h) rfl, fun _ _ h => g_off (.inl h) rfl, fun _ _ h => g_off (.inl h) rfl, fun _ _ h => g_off (.inl h) rfl, fun _ _ h => g_off (.inl h) rfl, rfl, trivial⟩ ?_
            · intro ρ wx hρ hbx hl
              have e6 : ρ (.tmp 6) = .int .i64 (at' : Int) := hρ.tmp 6 (by decide +kernel)
              refine y_val (v := .int .i64 (at' : Int)) ?_ rfl
              simp [execOp, go_sem, e6]
            · intro ρ wx hρ hbx hl
              have e3 : ρ (.tmp 3) = .slice oa at' oc := hρ.tmp 3 (by decide +kernel)
              refine y_val (v := .slice oa at' oc) ?_ rfl
              simp [execOp, go_sem, e3]
            · intro ρ wx hρ hbx hl
              have e17 : ρ (.tmp 17) = .slice oa at' oc := hl 1 (by decide +kernel) 17 rfl
              refine y_val (v := .int .i64 (at' : Int)) ?_ rfl
              simp [go_sem, e17]
            · intro ρ wx hρ hbx hl
              have e16 : ρ (.tmp 16) = .int .i64 (at' : Int) := hl 0 (by decide +kernel) 16 rfl
              have e18 : ρ (.tmp 18) = .int .i64 (at' : Int) := hl 2 (by decide +kernel) 18 rfl
              refine y_val (v := .bool false) ?_ rfl
              simp [execOp, go_sem, e16, e18]
            · intro ρ wx hρ hbx hl
              have e19 : ρ (.tmp 19) = .bool false := hl 3 (by decide +kernel) 19 rfl
              refine y_val (v := .bool false) ?_ rfl
              simp [execOp, go_sem, e19]
            · intro ρ wx hρ hbx hl
              have e20 : ρ (.tmp 20) = .bool false := hl 4 (by decide +kernel) 20 rfl
              have e27 : ρ (.tmp 27) = undef := hl 11 (by decide +kernel) 27 rfl
              refine y_val (v := .bool false) ?_ rfl
              simp [execOp, hρ.const, go_sem, e20]
            intro aa wq hdef hsz hlk hbz hf
            have ha := act_of_like hdef hsz hlk [16, 17, 18, 19, 20, 21, 22, 23, 24, 25, 26, 27, 28] 57 rfl (by decide +kernel)
            have e16 : aa.tmps.getD 16 undef = .int .i64 (at' : Int) := hf 0 _ 16 rfl rfl
            have e17 : aa.tmps.getD 17 undef = .slice oa at' oc := hf 1 _ 17 rfl rfl
            have e18 : aa.tmps.getD 18 undef = .int .i64 (at' : Int) := hf 2 _ 18 rfl rfl
            have e19 : aa.tmps.getD 19 undef = .bool false := hf 3 _ 19 rfl rfl
            have e20 : aa.tmps.getD 20 undef = .bool false := hf 4 _ 20 rfl rfl
            have e21 : aa.tmps.getD 21 undef = undef := hf 5 _ 21 rfl rfl
            have e22 : aa.tmps.getD 22 undef = undef := hf 6 _ 22 rfl rfl
            have e23 : aa.tmps.getD 23 undef = undef := hf 7 _ 23 rfl rfl
            have e24 : aa.tmps.getD 24 undef = undef := hf 8 _ 24 rfl rfl
            have e25 : aa.tmps.getD 25 undef = undef := hf 9 _ 25 rfl rfl
            have e26 : aa.tmps.getD 26 undef = undef := hf 10 _ 26 rfl rfl
            have e27 : aa.tmps.getD 27 undef = undef := hf 11 _ 27 rfl rfl
            have e28 : aa.tmps.getD 28 undef = .bool false := hf 12 _ 28 rfl rfl
            simp only [putAll, List.foldl_cons, List.foldl_nil, e16, e17, e18, e19, e20, e21, e22, e23, e24, e25, e26, e27, e28] at ha
            simp [Act.put] at ha
            subst ha
            clear hdef hsz hlk hf e16 e17 e18 e19 e20 e21 e22 e23 e24 e25 e26 e27 e28
            have hb5q : wr.heap.size < wq.heap.size := Nat.lt_of_lt_of_le hb5 hbz.size
            have HTq := Lib.hid ((hbz.block _ hb5).trans HT.out)
            have HOq := Lib.hid (owns_below HOi.out hbz)
            have HBq := Lib.hid (HBi.out.trans (hbz.mono HBi.out.size))
            clear hbz hb5 HT HOi HBi HBj HLo HR2
            go_wp2_with fail
            go_quiet (fail)
            rename_i nq
            have hbd : Below wq.heap.size wq (wq.drewN nq) := below_quietD (Below.refl _ _) nq
            generalize wq.drewN nq = wd at hbd ⊢
            have hb5d : wr.heap.size < wd.heap.size := Nat.lt_of_lt_of_le hb5q hbd.size
            have HTd := Lib.hid ((hbd.block _ hb5q).trans HTq.out)
            have HRd := Lib.hid ((ownsRow.reads HOq.out).below' hbd)
            have HBd := Lib.hid (HBq.out.trans (hbd.mono HBq.out.size))
            clear hbd hb5q HTq HOq HBq
            go_upto_region 10 with fail
            have hb5 := hb5d
            have HT := HTd
            have HR := HRd
            refine wp_region_until_last (l := [_, _, _, _, _, _, _, _, _, _, _, _]) (by kernel_rfl) [onU (zeroF wd.heap.size 37 6) (some 4), eqU (.slice oa at' oc), eqU (.int .i64 (at' : Int)), eqU (.slice oa at' oc), onU (ownsF wd.heap.size 37 6 at' (tcells (L.take at'))) (some 7), eqU (t.val), onU (litF 37 t.cells.toArray 1) (some 7), onU (ownsF wd.heap.size 37 6 (at' + 1) (tcells (L.take at' ++ [t]))) (some 11), eqU (.slice oa at' oc), eqU (.int .i64 (at' : Int)), eqU (.slice (behindS oa at' oc 6) (at' - at') (oc - at')), onU (ownsF wd.heap.size 37 6 (at' + 1) (tcells (L.take at' ++ t :: L.drop at'))) none] [7, 11] (by kernel_rfl) (by kernel_rfl) (by kernel_rfl) (by kernel_rfl) (by kernel_rfl) ⟨?_, ?_, ?_, ?_, ?_, ?_, ?_, ?_, ?_, ?_, ?_, ?_, trivial⟩ ?_
            · intro ρ wx hρ hbx hl
              refine u_new (v := .slice (some ⟨wx.heap.size, 0, none⟩) 0 0) (w' := wx.alloc (.cells #[] 37)) ?_ ⟨_, rfl, owns_less (owns_zero wx _ 6) hbx.size⟩ ((Below.refl _ _).alloc (Nat.le_refl _) _)
              simp [execOp, go_sem]
            · intro ρ wx hρ hbx hl
              have e3 : ρ (.tmp 3) = .slice oa at' oc := hρ.tmp 3 (by decide +kernel)
              refine u_val (v := .slice oa at' oc) ?_ rfl
              simp [execOp, go_sem, e3]
            · intro ρ wx hρ hbx hl
              have e6 : ρ (.tmp 6) = .int .i64 (at' : Int) := hρ.tmp 6 (by decide +kernel)
              refine u_val (v := .int .i64 (at' : Int)) ?_ rfl
              simp [execOp, go_sem, e6]
            · intro ρ wx hρ hbx hl
              have e44 : ρ (.tmp 44) = .slice oa at' oc := hl 1 (by decide +kernel) (.inl rfl) 44 rfl
              have e45 : ρ (.tmp 45) = .int .i64 (at' : Int) := hl 2 (by decide +kernel) (.inl rfl) 45 rfl
              refine u_val (v := .slice oa at' oc) ?_ rfl
              simp [execOp, go_sem, e44, e45]
              first | done | omega
            · intro ρ wx hρ hbx hl
              have e43 : (zeroF wd.heap.size 37 6).p (ρ (.tmp 43)) wx := hl 0 (by decide +kernel) (.inr rfl) 43 rfl
              have e46 : ρ (.tmp 46) = .slice oa at' oc := hl 3 (by decide +kernel) (.inl rfl) 46 rfl
              obtain ⟨g43, e43, o43⟩ := e43
              rw [e43] at o43
              obtain ⟨v', w', hr, ho, hb⟩ := run_append_zero_s (P := Tryd.prog) (w := wx) wd.heap.size 22 22 22 37 i0 _ 6 96 Tryd.underlying22 hi hz0 hz1 hz2 rfl g43 o43 (.slice oa at' oc) at' (tcells (L.take at')) (by rw [← tcells_take]; exact ((HR.out.below' hbx).rtake at' hat).src Tryd.underlying22 (by rw [tcells_take]; exact tcells_one _)) (by unfold maxLen; omega) (by omega) hbx.size
              refine u_new ?_ ho hb
              simp only [execOp, resolve, invoke, builtin, Sem.run_bind, Sem.run_pure, Result.andThen_ok, List.map_toArray, List.map_cons, List.map_nil, e43, e46, hr]
            · intro ρ wx hρ hbx hl
              have e5 : ρ (.tmp 5) = .pointer (some ⟨wr.heap.size, 0, none⟩) := hρ.tmp 5 (by decide +kernel)
              obtain ⟨k0, k1, k2, k3, k4, k5⟩ := six_cells' ((hbx.block _ hb5).trans HT.out)
              refine u_val (v := t.val) ?_ rfl
              simp [execOp, go_sem, e5, k0, k1, k2, k3, k4, k5, Six.val]
            · intro ρ wx hρ hbx hl
              have e48 : ρ (.tmp 48) = t.val := hl 5 (by decide +kernel) (.inl rfl) 48 rfl
              refine u_new (v := .slice (some ⟨wx.heap.size, 0, none⟩) 1 1) (w' := wx.alloc (.cells t.cells.toArray 37)) ?_ ⟨_, rfl, heap_alloc_new wx _⟩ ((Below.refl _ _).alloc (Nat.le_refl _) _)
              simp [execOp, go_sem, e48, Six.val, Six.cells, scells, Six.list]
            · intro ρ wx hρ hbx hl
              have e47 : (ownsF wd.heap.size 37 6 at' (tcells (L.take at'))).p (ρ (.tmp 47)) wx := hl 4 (by decide +kernel) (.inr rfl) 47 rfl
              have e49 : (litF 37 t.cells.toArray 1).p (ρ (.tmp 49)) wx := hl 6 (by decide +kernel) (.inr rfl) 49 rfl
              obtain ⟨g49, e49, o49⟩ := e49
              have hrd := lit_reads (cs := t.cells) (size := 6) o49 rfl (by decide)
              obtain ⟨v', w', hr, ho, hg, hb, _⟩ := run_append_owns (P := Tryd.prog) (w := wx) wd.heap.size 22 22 22 37 i0 _ 6 96 Tryd.underlying22 hi hz0 hz1 hz2 rfl _ at' _ e47 _ 1 t.cells (hrd.src Tryd.underlying22 (Six.cells_one t)) (by unfold maxLen; omega) (by omega) hbx.size
              rw [show tcells (L.take at') ++ t.cells = tcells (L.take at' ++ [t]) from (tcells_snoc (L.take at') t).symm] at ho
              refine u_new ?_ ho hb
              simp only [execOp, resolve, invoke, builtin, Sem.run_bind, Sem.run_pure, Result.andThen_ok, List.map_toArray, List.map_cons, List.map_nil, e49, hr]
            · intro ρ wx hρ hbx hl
              have e3 : ρ (.tmp 3) = .slice oa at' oc := hρ.tmp 3 (by decide +kernel)
              refine u_val (v := .slice oa at' oc) ?_ rfl
              simp [execOp, go_sem, e3]
            · intro ρ wx hρ hbx hl
              have e6 : ρ (.tmp 6) = .int .i64 (at' : Int) := hρ.tmp 6 (by decide +kernel)
              refine u_val (v := .int .i64 (at' : Int)) ?_ rfl
              simp [execOp, go_sem, e6]
            · intro ρ wx hρ hbx hl
              have e51 : ρ (.tmp 51) = .slice oa at' oc := hl 8 (by decide +kernel) (.inl rfl) 51 rfl
              have e52 : ρ (.tmp 52) = .int .i64 (at' : Int) := hl 9 (by decide +kernel) (.inl rfl) 52 rfl
              refine u_val (v := .slice (behindS oa at' oc 6) (at' - at') (oc - at')) ?_ rfl
              simp [execOp, go_sem, e51, e52, behindS]
            · intro ρ wx hρ hbx hl
              have e50 : (ownsF wd.heap.size 37 6 (at' + 1) (tcells (L.take at' ++ [t]))).p (ρ (.tmp 50)) wx := hl 7 (by decide +kernel) (.inr rfl) 50 rfl
              have e53 : ρ (.tmp 53) = .slice (behindS oa at' oc 6) (at' - at') (oc - at') := hl 10 (by decide +kernel) (.inl rfl) 53 rfl
              obtain ⟨v', w', hr, ho, hg, hb, _⟩ := run_append_owns (P := Tryd.prog) (w := wx) wd.heap.size 22 22 22 37 i0 _ 6 96 Tryd.underlying22 hi hz0 hz1 hz2 rfl _ (at' + 1) _ e50 (.slice (behindS oa at' oc 6) (at' - at') (oc - at')) (at' - at') (tcells (L.drop at')) (by rw [← tcells_drop]; exact ((HR.out.below' hbx).rdrop at' hat).src Tryd.underlying22 (by rw [tcells_drop]; exact tcells_one _)) (by unfold maxLen; omega) (by omega) hbx.size
              rw [← tcells_append, List.append_assoc, List.singleton_append, show at' + 1 + (at' - at') = at' + 1 by omega] at ho
              refine u_new ?_ ho hb
              simp only [execOp, resolve, invoke, builtin, Sem.run_bind, Sem.run_pure, Result.andThen_ok, List.map_toArray, List.map_cons, List.map_nil, e53, hr]
            intro aa wz hdef hsz hlk hbz hf
            have ha := act_of_like hdef hsz hlk [43, 44, 45, 46, 47, 48, 49, 50, 51, 52, 53, 54] 57 rfl (by decide +kernel)
            have e44 : aa.tmps.getD 44 undef = .slice oa at' oc := hf 1 _ 44 rfl rfl rfl
            have e45 : aa.tmps.getD 45 undef = .int .i64 (at' : Int) := hf 2 _ 45 rfl rfl rfl
            have e46 : aa.tmps.getD 46 undef = .slice oa at' oc := hf 3 _ 46 rfl rfl rfl
            have e48 : aa.tmps.getD 48 undef = t.val := hf 5 _ 48 rfl rfl rfl
            have e51 : aa.tmps.getD 51 undef = .slice oa at' oc := hf 8 _ 51 rfl rfl rfl
            have e52 : aa.tmps.getD 52 undef = .int .i64 (at' : Int) := hf 9 _ 52 rfl rfl rfl
            have e53 : aa.tmps.getD 53 undef = .slice (behindS oa at' oc 6) (at' - at') (oc - at') := hf 10 _ 53 rfl rfl rfl
            have e54 : (ownsF wd.heap.size 37 6 (at' + 1) (tcells (L.take at' ++ t :: L.drop at'))).p (aa.tmps.getD 54 undef) wz := hf 11 _ 54 rfl rfl rfl
            generalize hv54 : aa.tmps.getD 54 undef = v54 at e54
            simp only [putAll, List.foldl_cons, List.foldl_nil, e44, e45, e46, e48, e51, e52, e53, hv54] at ha
            generalize aa.tmps.getD 43 undef = v43 at ha
            generalize aa.tmps.getD 47 undef = v47 at ha
            generalize aa.tmps.getD 49 undef = v49 at ha
            generalize aa.tmps.getD 50 undef = v50 at ha
            simp [Act.put] at ha
            subst ha
            clear hdef hsz hlk hf e44 e45 e46 e48 e51 e52 e53 hv54
            have hS : SetRel w l v54 (.int .i64 ((k + 1 : Nat) : Int)) wz := by
              obtain ⟨a', c', hv, _, _⟩ := (ownsRow.reads e54).le
              subst hv
              exact ⟨k + 1, a', at' + 1, c', rfl, by rw [HN.out, HPut.out]; exact HPutl.out, rfl, by rw [HL.out]; exact hlt, HBd.out.trans (hbz.mono HBd.out.size), by rw [HN.out, HPut.out]; exact owns_less e54 HBd.out.size⟩
            have HS2 := Lib.hid hS
            clear hS e54
            go_wp2
            exact ⟨HS2.out, by simp [intOf]; omega⟩
    · have hkl : k = n := by omega
      subst hkl
      have hlI : ¬ (k : Int) < k := by omega
      go_wp2
      go_ret
      have h1 : setK l k = setL l := by rw [← HL.out]; exact setK_all l
      rw [h1] at HO HM
      refine ⟨_, rfl, ?_, HB.out⟩
      rw [HM.out]
      exact HO.out

theorem dumpWrites_walk (w : World) (a : Option Addr) (n cap : Nat) (l : List Six) (hl : l.length = n) (h : Reads w 6 (.slice a n cap) n (tcells l)) (hp : Pow10 w) : Calls Tryd.prog 3 #[.slice a n cap] w (SaysTrue w) :=
  dumpWrites_of set_any w a n cap l hl h hp
end Go.Proofs.YtlibncefiibgaaaDoor
