/- merge.New. -/
import Derived.Test.YtieaiofdbliblaaMergeClone
import Derived.Deep.AppendLies
import Derived.Deep.RegionLaw
import Derived.BigRegion
namespace Go.Proofs.Ytieaiofdbliblaa
open Go Go.RowKit

/-- A slice of rows of texts that can be looked at. -/
def RRows (w : World) (v : Value) (n : Nat) (ls : List Row) : Prop :=
  ∃ a cap, v = .slice a n cap ∧ n ≤ cap ∧ cap ≤ maxLen ∧ ls.length = n ∧ ∀ (i : Nat) (l : Row), ls[i]? = some l →
    ∃ g off sa scap, a = some ⟨g, off, none⟩ ∧ g < w.heap.size ∧ w.cell? ⟨g, off + i, none⟩ = some (.slice sa l.length scap) ∧ Reads w 1 (.slice sa l.length scap) l.length (scells l)

theorem RRows.below {w w' : World} {v : Value} {n : Nat} {ls : List Row} (h : RRows w v n ls) (hb : Below w.heap.size w w') : RRows w' v n ls := by
  obtain ⟨a, cap, hv, h1, h2, h3, h4⟩ := h
  refine ⟨a, cap, hv, h1, h2, h3, fun i l hi => ?_⟩
  obtain ⟨g, off, sa, scap, ha, hg, hc, hr⟩ := h4 i l hi
  exact ⟨g, off, sa, scap, ha, Nat.lt_of_lt_of_le hg hb.size, (hb.cell (p := ⟨g, off + i, none⟩) hg).trans hc, hr.below' hb⟩

def ne17 (l : Row) : Bool := !l.isEmpty
def some17 (ls : List Row) : List Row := ls.filter ne17

def New17Rel (w : World) (ls : List Row) (n : Nat) (iv : Value) (wr : World) : Prop :=
  ∃ (k : Nat) (hv : Value) (svs : List Value), iv = .int .i64 (k : Int) ∧ k ≤ n ∧ (∀ l ∈ ls.take k, rises l) ∧ MS noG wr w.heap.size w.heap.size hv svs (some17 (ls.take k)) ∧ Below w.heap.size w wr

theorem some17_snoc {ls : List Row} {k : Nat} {x : Row} (h : ls[k]? = some x) (hx : 0 < x.length) : some17 (ls.take (k + 1)) = some17 (ls.take k) ++ [x] := by
  unfold some17
  rw [List.take_add_one, h, List.filter_append]
  have : ne17 x = true := by
    unfold ne17
    cases x with
    | nil => simp at hx
    | cons a t => rfl
  simp [this]

theorem some17_nil {ls : List Row} {k : Nat} {x : Row} (h : ls[k]? = some x) (hx : x.length = 0) : some17 (ls.take (k + 1)) = some17 (ls.take k) := by
  unfold some17
  rw [List.take_add_one, h, List.filter_append]
  have : ne17 x = false := by
    unfold ne17
    rw [List.length_eq_zero_iff.1 hx]
    rfl
  simp [this]

theorem up_snoc {ls : List Row} {k : Nat} {x : Row} (h : ls[k]? = some x) (hu : ∀ l ∈ ls.take k, rises l) (hx : rises x) : ∀ l ∈ ls.take (k + 1), rises l := by
  intro l hl
  rw [List.take_add_one, h] at hl
  simp at hl
  rcases hl with hl | rfl
  · exact hu l hl
  · exact hx

def InitPost (w : World) (B m : Nat) (rs : List Row) (e : Ending) (w' : World) : Prop := e = .returned (.tuple #[]) ∧ StatePost noG w B m rs w'

def New17Post (w : World) (ls : List Row) (e : Ending) (w' : World) : Prop :=
  ((∀ l ∈ ls, rises l) ∧ ∃ (m : Nat) (hv : Value) (svs : List Value) (rs : List Row), e = .returned (.tuple #[.pointer (some ⟨m, 0, none⟩), .int .i64 0]) ∧ MS noG w' w.heap.size m hv svs rs ∧ MI rs ∧ rs.Perm (some17 ls) ∧ Below w.heap.size w w') ∨
  ((¬ ∀ l ∈ ls, rises l) ∧ e = .returned (.tuple #[.pointer none, .int .i64 11]) ∧ Below w.heap.size w w')

def New17In (wo : World) (l : Row) (jv : Value) (wi : World) : Prop := ∃ j : Nat, jv = .int .i64 (j : Int) ∧ j ≤ l.length ∧ stepsUp l j ∧ Below wo.heap.size wo wi

theorem new_cells (w2 : World) (v : Value) : ∀ j u, [v][j]? = some u → (w2.alloc (.cells #[v] 46)).cell? ((⟨w2.heap.size, 0, none⟩ : Addr).add j) = some u := by
  intro j u hj
  have : j = 0 := by
    have := (List.getElem?_eq_some_iff.1 hj).1
    simp at this
    omega
  subst this
  simp at hj
  subst hj
  rw [Addr.add_lit, World.cell?_alloc_new w2 _ _ (0 + 0)]
  rfl

set_option maxRecDepth 100000 in
set_option maxHeartbeats 4000000 in
theorem new17_any (w : World) (v : Value) (n : Nat) (ls : List Row) (h : RRows w v n ls) (hn : n ≤ 1000) (hsm : ∀ l ∈ ls, l.length ≤ 1000000) :
    Calls Try.prog 13 #[v] w (New17Post w ls) := by
  obtain ⟨i0, hi, hz0, hz1, hz2⟩ := info_parts info_row
  have HE := Lib.hid h
  obtain ⟨a, cap, rfl, hc1, hc2, hll, hx0⟩ := h
  clear hx0
  unfold maxLen at hc2
  have HLL := Lib.hid hll
  have HSm := Lib.hid hsm
  have hms0 : MS noG (w.alloc (.cells #[.slice none 0 0] 45)) w.heap.size w.heap.size (.slice none 0 0) [] [] :=
    ⟨heap_alloc_new w _, Nat.le_refl _, owns_nil _ _ _ _, ⟨rfl, fun i v l hv => by simp at hv⟩, fun l hl => by simp at hl, by simp⟩
  have HM0 := Lib.hid hms0
  have HB0 := Lib.hid ((Below.refl w.heap.size w).alloc (Nat.le_refl _) (.cells #[.slice none 0 0] 45))
  clear hll hsm hms0
  go_enter Try.func13, Try.ntmps13
  go_wp2
  go_loopw [12] (fun iv wr => New17Rel w ls n iv wr) (fun iv _ => n - (intOf iv).toNat)
  case atStart => exact ⟨0, _, _, rfl, Nat.zero_le _, fun l hl => by simp at hl, HM0.out, HB0.out⟩
  case round =>
    obtain ⟨k, hv, svs, rfl, hk, hup, hms, hb⟩ := hrel
    clear HM0 HB0
    by_cases hlt : k < n
    · have hkI : (k : Int) < n := by omega
      obtain ⟨x, hx⟩ : ∃ x, ls[k]? = some x := ⟨ls[k]'(by rw [HLL.out]; exact hlt), List.getElem?_eq_getElem _⟩
      obtain ⟨_, _, hv', _, _, _, hrow⟩ := HE.out.below hb
      cases hv'
      obtain ⟨g, off, sa, scap, rfl, hg, hcell, hrd⟩ := hrow k x hx
      have hxl := HSm.out x (List.mem_of_getElem? hx)
      have HX := Lib.hid hx
      have HR := Lib.hid hrd
      have HUp := Lib.hid hup
      have HMs := Lib.hid hms
      have HB := Lib.hid hb
      obtain ⟨_, _, hv2, hs1, hs2⟩ := hrd.le
      cases hv2
      unfold maxLen at hs2
      clear hrow hx hrd hup hms hb
      obtain ⟨wo, rfl⟩ : ∃ wo : World, wo = wr := ⟨_, rfl⟩
      go_wp2
      go_loopw [18] (fun jv wi => New17In wo x jv wi) (fun jv _ => x.length - (intOf jv).toNat)
      case atStart => exact ⟨0, rfl, Nat.zero_le _, fun i h0 hi => by omega, Below.refl _ _⟩
      case round =>
        obtain ⟨j, rfl, hj, hst, hbi⟩ := hrel
        by_cases hjl : j < x.length
        · have hjI : (j : Int) < x.length := by omega
          by_cases hj0 : j = 0
          · subst hj0
            have HBi := Lib.hid hbi
            clear hst hbi
            go_wp2
            go_quiet (fail)
            go_wp2
            exact ⟨⟨1, by go_num, by omega, steps_one x, below_quiet HBi.out _⟩, by simp [intOf]; omega⟩
          · obtain ⟨jp, rfl⟩ : ∃ jp, j = jp + 1 := ⟨j - 1, by omega⟩
            have hgI : (0 : Int) < ((jp + 1 : Nat) : Int) := by omega
            obtain ⟨xb, xo, y, hsa, hy, hby, hcy⟩ := (HR.out.below' hbi).scell (jp + 1) hjl
            subst hsa
            obtain ⟨xb', xo', z, hv3, hz, hbz', hcz⟩ := (HR.out.below' hbi).scell jp (by omega)
            cases hv3
            have hw64 : IntKind.i64.wrap (((jp + 1 : Nat) : Int) - 1) = (jp : Int) := by rw [IntKind.wrap_i64]; omega
            have hjI2 : (((jp + 1 : Nat) : Int) - 1) = (jp : Int) := by omega
            have hjn : (jp : Int) < x.length := by omega
            have e1 := bl_spell z y
            have e2 := bl_spell y z
            have e3 := str_eq z y
            have HY := Lib.hid hy
            have HZ := Lib.hid hz
            have HSt := Lib.hid hst
            have HBi := Lib.hid hbi
            have HBt := Lib.hid (HB.out.trans (hbi.mono HB.out.size))
            clear hy hz hst hbi
            rcases bl_cases z y with ⟨k1, k2, k3⟩ | ⟨k1, k2, k3⟩ | ⟨k1, k2, k3⟩
            · rw [k1] at e1
              rw [k2] at e2
              rw [decide_eq_false k3] at e3
              have HK := Lib.hid k1
              clear k1 k2 k3
              go_wp2
              go_quiet (fail)
              go_wp2
              exact ⟨⟨jp + 1 + 1, by go_num, by omega, steps_more HSt.out HZ.out HY.out HK.out, below_quiet HBi.out _⟩, by simp [intOf]; omega⟩
            · subst k3
              rw [k1] at e1 e2
              rw [decide_eq_true rfl] at e3
              have HN := Lib.hid (not_rises (by omega) HZ.out HY.out k1)
              clear k1 k2
              go_wp2
              go_quiet (fail)
              go_wp2
              refine bodyPost_ret (v := .tuple #[.pointer none, .int .i64 11]) (by simp [results, Try.results13, go_sem]) rfl ?_
              exact .inr ⟨fun h => HN.out (h x (List.mem_of_getElem? HX.out)), rfl, below_quiet HBt.out _⟩
            · rw [k1] at e1
              rw [k2] at e2
              rw [decide_eq_false k3] at e3
              have HN := Lib.hid (not_rises (by omega) HZ.out HY.out k1)
              clear k1 k2 k3
              go_wp2
              go_quiet (fail)
              go_wp2
              refine bodyPost_ret (v := .tuple #[.pointer none, .int .i64 11]) (by simp [results, Try.results13, go_sem]) rfl ?_
              exact .inr ⟨fun h => HN.out (h x (List.mem_of_getElem? HX.out)), rfl, below_quiet HBt.out _⟩
        · obtain rfl : j = x.length := by omega
          have hjI : ¬ ((x.length : Int) < x.length) := by omega
          have hri : rises x := rises_of_steps x hst
          have HUp2 := Lib.hid fun (hr : rises x) => up_snoc HX.out HUp.out hr
          by_cases hx0 : 0 < x.length
          · have hx0I : (0 : Int) < x.length := by omega
            obtain ⟨xb, xo, _, hsa, _, _, _⟩ := HR.out.scell 0 hx0
            subst hsa
            have hms2 := HMs.out.below hbi
            have hm0 := hms2.mcell
            have hml := (Array.getElem?_eq_some_iff.1 hms2.cell).1
            have hmf := Lib.frozen_of_heap hms2.cell 0
            have HCl := Lib.hid fun (w' : World) (hb' : Below wr.heap.size wr w') => sclone_any w' _ _ scap x ((HR.out.below' hbi).below' hb') hxl
            obtain ⟨ha, hcap, rfl, _, _⟩ := (ownsRow.reads hms2.own).le
            have HMs2 := Lib.hid hms2
            have HOw := Lib.hid hms2.own
            have hfe := hms2.few
            have hsl : (some17 (ls.take k)).length ≤ 1000 := Nat.le_trans (List.length_filter_le _ _) (by rw [List.length_take]; omega)
            have hsl1 : (some17 (ls.take k)).length + 1 ≤ 100000 := by omega
            have hxne : x ≠ [] := List.length_pos_iff.1 hx0
            have HSn := Lib.hid (show some17 (ls.take (k + 1)) = some17 (ls.take k) ++ [x] from some17_snoc HX.out hx0)
            have HZs := Lib.hid (Nat.le_trans HB.out.size hbi.size)
            clear hms2 hst
            go_wp2
            go_region_law (first
              | (go_simp; go_at_call 17; refine (HCl.out _ (below_quiet (Below.refl _ _) 1)).mono ?_; rintro e w2 ⟨va, vcap, rfl, hst2, b2⟩; have ms2 := HMs2.out.below ((below_quiet (Below.refl wr.heap.size wr) 1).trans (b2.mono (by simp))); have hm2 := ms2.mcell; have hml2 := (Array.getElem?_eq_some_iff.1 ms2.cell).1; have hbz := ms2.bsize; have ba := (Below.refl w2.heap.size w2).alloc (Nat.le_refl _) (.cells #[.slice va x.length vcap] 46); have ms3 := ms2.below ba; have st3 := hst2.mf (MF.of_below (B := 0) ba (Nat.zero_le _)); have HOw2 := ms3.own)
              | (refine step_append_lies _ rfl _ _ 43 rfl w.heap.size 46 i0 (.slice none 0 0) 1 24 Try.underlying43 hi hz0 hz1 hz2 rfl (by decide) _ _ _ rfl HOw2 _ 1 1 [.slice va x.length vcap] rfl rfl (new_cells w2 _) (by intro u hu; simp at hu; subst hu; rfl) (by decide) (by unfold maxLen; omega) (by omega) (Nat.le_trans hbz (by simp)) _ rfl ?_
                 intro g6 cap6 w6 o6 gr6 _ hl6
                 obtain ⟨k1, k2, k3, k4, k5⟩ := push_state (w := w2.alloc (.cells #[.slice va x.length vcap] 46)) (w2 := w6) ms3 st3 hxne hsl1 o6 gr6))
            all_goals
              have HK1 := Lib.hid k1
              have HBf := Lib.hid (((((HB.out.trans (hbi.mono HB.out.size)).trans ((below_quiet (Below.refl wr.heap.size wr) 1).mono HZs.out)).trans (b2.mono (Nat.le_trans HZs.out (by simp)))).trans (ba.mono hbz)).trans k2.below)
              clear k1 k2 k3 k4 k5 o6 gr6 ms2 ms3 st3 hst2 HOw2 b2 ba hm2 hml2 hm0 hml hmf hl6
              go_wp2
              exact ⟨⟨k + 1, _, _, by go_num, by omega, HUp2.out hri, by rw [HSn.out]; exact HK1.out, HBf.out⟩, by simp [intOf]; omega⟩
          · have hx0I : ¬ (0 : Int) < x.length := by omega
            have HSn0 := Lib.hid (show some17 (ls.take (k + 1)) = some17 (ls.take k) from some17_nil HX.out (by omega))
            have HMs2 := Lib.hid (HMs.out.below hbi)
            have HB2 := Lib.hid (HB.out.trans (hbi.mono HB.out.size))
            clear hst hbi
            go_wp2
            exact ⟨⟨k + 1, _, _, by go_num, by omega, HUp2.out hri, by rw [HSn0.out]; exact HMs2.out, HB2.out⟩, by simp [intOf]; omega⟩
    · obtain rfl : k = n := by omega
      have hkI : ¬ ((k : Int) < k) := by omega
      rw [List.take_of_length_le (by rw [HLL.out]; omega)] at hup hms
      have hfi := init_facts (some17 ls).length ((some17 ls).length / 2) (some17 ls) (Nat.le_refl _) (half_heap _ _)
      have HI := Lib.hid ((init_any wr _ _ hv svs _ hms).mono (fun e w' h => show InitPost wr w.heap.size w.heap.size (initL ((some17 ls).length / 2) (some17 ls) (some17 ls).length) e w' from h))
      have hm0 := hms.mcell
      have hml := (Array.getElem?_eq_some_iff.1 hms.cell).1
      have HFi := Lib.hid hfi
      have HUp := Lib.hid hup
      have HB := Lib.hid hb
      have HMs := Lib.hid hms
      clear hfi hup hb hms
      go_wp2_with (go_at_call 18; go_must (refine HI.out.mono ?_))
      rintro e w2 ⟨rfl, ⟨hv2, svs2, ms2⟩, mf2⟩
      have HM2 := Lib.hid ms2
      have HF2 := Lib.hid (HB.out.trans mf2.below)
      clear ms2 mf2 hm0 hml HI
      go_wp2
      refine bodyPost_ret (v := .tuple #[.pointer (some ⟨w.heap.size, 0, none⟩), .int .i64 0]) (by simp [results, Try.results13, go_sem]) rfl ?_
      obtain ⟨q1, q2, q3⟩ := HFi.out
      refine .inl ⟨HUp.out, _, _, _, _, rfl, HM2.out, ⟨by rw [q1]; exact q3, fun l hl => HUp.out l (List.mem_filter.1 (q2.subset hl)).1, fun l hl => HM2.out.full l hl⟩, q2, HF2.out⟩
end Go.Proofs.Ytieaiofdbliblaa
