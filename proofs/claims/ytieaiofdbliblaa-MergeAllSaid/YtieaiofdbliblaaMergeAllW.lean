/- The law MergeAll's walk. -/
import Derived.Test.YtieaiofdbliblaaMergeFix
import Derived.Test.YtieaiofdbliblaaMergeFew
import Derived.Test.YtieaiofdbliblaaDrawn
namespace Go.Proofs.Ytieaiofdbliblaa
open Go Go.RowKit

theorem info_texts : (Try.prog.info? 26).map (fun i => (i.zero, i.size, i.bytes)) = some (some (.slice none 0 0), 1, 24) := by kernel_rfl

def want17 (ls : List Row) : Int := if ∀ l ∈ ls, rises l then 0 else 11

theorem want17_up {ls : List Row} {k : Nat} {x : Row} (h : ls[k]? = some x) (hx : rises x) : want17 (ls.take (k + 1)) = want17 (ls.take k) := by
  have : (∀ l ∈ ls.take (k + 1), rises l) ↔ ∀ l ∈ ls.take k, rises l := by
    rw [List.take_add_one, h]
    constructor
    · exact fun k l hl => k l (List.mem_append_left _ hl)
    · intro k l hl
      rcases List.mem_append.1 hl with hl | hl
      · exact k l hl
      · simp at hl
        subst hl
        exact hx
  unfold want17
  simp only [this]

theorem want17_no {ls : List Row} {k : Nat} {x : Row} (h : ls[k]? = some x) (hx : ¬ rises x) : want17 (ls.take (k + 1)) = 11 := by
  unfold want17
  rw [if_neg]
  intro hh
  exact hx (hh x (by rw [List.take_add_one, h]; simp))

/-- Own rows of texts. -/
def Own17 (w : World) (B : Nat) (v : Value) (ls : List Row) : Prop := ∃ svs, w.ownsRow B 26 1 v ls.length svs ∧ RowsAt noG w svs ls

theorem Own17.nil (w : World) (B : Nat) : Own17 w B (.slice none 0 0) [] := ⟨[], owns_nil _ _ _ _, rfl, fun i v l h => by simp at h⟩

theorem RowsAt.keep {w w' : World} {svs : List Value} {ls : List Row} (h : RowsAt noG w svs ls) (hk : ∀ (g : Nat) (cs : Array Value) (fz : Nat × Nat), w.heap[g]? = some (Obj.cells cs 9 fz) → w'.heap[g]? = some (Obj.cells cs 9 fz)) (hsz : w.heap.size ≤ w'.heap.size) : RowsAt noG w' svs ls :=
  ⟨h.1, fun i v l hv hl => (h.2 i v l hv hl).kept hk hsz⟩

theorem Own17.rrows {w : World} {B : Nat} {v : Value} {ls : List Row} (h : Own17 w B v ls) : RRows w v ls.length ls := by
  obtain ⟨svs, ho, hr⟩ := h
  have hrd := ownsRow.reads ho
  obtain ⟨a, cap, rfl, h1, h2⟩ := hrd.le
  refine ⟨a, cap, rfl, h1, h2, rfl, fun i l hl => ?_⟩
  obtain ⟨u, hu⟩ : ∃ u, svs[i]? = some u := ⟨svs[i]'(by rw [hr.1]; exact (List.getElem?_eq_some_iff.1 hl).1), List.getElem?_eq_getElem _⟩
  obtain ⟨sa, scap, rfl, hs, _⟩ := hr.2 i u l hu hl
  obtain ⟨g, off, ha, hg, hc⟩ := hrd.at hu
  exact ⟨g, off, sa, scap, ha, hg, hc, hs⟩

theorem Own17.below {w w' : World} {B : Nat} {v : Value} {ls : List Row} (h : Own17 w B v ls) (hb : Below w.heap.size w w') : Own17 w' B v ls := by
  obtain ⟨svs, ho, hr⟩ := h
  exact ⟨svs, owns_below ho hb, hr.keep (fun g cs fz hg => (hb.block g (Array.getElem?_eq_some_iff.1 hg).1).trans hg) hb.size⟩

/-- A row more. -/
theorem Own17.push {w w6 : World} {B : Nat} {v v6 : Value} {ls : List Row} {l : Row} {svs : List Value} {u : Value} (ho : w.ownsRow B 26 1 v ls.length svs) (hr : RowsAt noG w svs ls) (hu : StrAt noG w u l) (h6 : w6.ownsRow B 26 1 v6 (ls.length + 1) (svs ++ [u])) (g : w.grownBy w6 v.ownBlock) (hsz : w.heap.size ≤ w6.heap.size) : Own17 w6 B v6 (ls ++ [l]) :=
  ⟨_, by rw [List.length_append]; exact h6, (hr.snoc hu).keep (fun _ _ _ hg => grown_other ho g hg (by decide)) hsz⟩

def All1Rel (w : World) (ls : List Row) (n : Nat) (wv ov iv : Value) (wr : World) : Prop :=
  ∃ k : Nat, iv = .int .i64 (k : Int) ∧ k ≤ n ∧ wv = .int .i64 (want17 (ls.take k)) ∧ Own17 wr w.heap.size ov (ls.take k) ∧ Below w.heap.size w wr

def All2Rel (w : World) (n : Nat) (iv : Value) (wr : World) : Prop := ∃ k : Nat, iv = .int .i64 (k : Int) ∧ k ≤ n ∧ Below w.heap.size w wr

set_option maxRecDepth 100000 in
set_option maxHeartbeats 4000000 in
theorem mergeAll_walk (w : World) (a : Option Addr) (n cap : Nat) (ls : List Row) (h : RRows w (.slice a n cap) n ls) (hsz : ∀ l ∈ ls, l.length ≤ 8796093021952) :
    Calls Try.prog 3 #[.slice a n cap] w (SaysTrue w) := by
  obtain ⟨i0, hi, hz0, hz1, hz2⟩ := info_parts info9
  obtain ⟨j0, hj, hy0, hy1, hy2⟩ := info_parts info_texts
  have HF := Lib.hid (fixed17_any w)
  have HE := Lib.hid h
  have HS := Lib.hid hsz
  obtain ⟨_, _, hv0, hc1, hc2, hll, hx0⟩ := h
  cases hv0
  unfold maxLen at hc2
  have HLL := Lib.hid hll
  clear hx0 hsz hll
  go_enter Try.func3, Try.ntmps3
  go_wp2_with (go_at_call 7; go_must (refine HF.out.mono ?_))
  rintro e w1 ⟨rfl, b1⟩
  have HB := Lib.hid b1
  have HFw := Lib.hid (few17_any w1 _ n ls (HE.out.below b1) HS.out)
  clear b1 HF
  go_wp2_with (go_at_call 8; go_must (refine HFw.out.mono ?_))
  rintro e w2 ⟨rfl, b2⟩
  have HB2 := Lib.hid (HB.out.trans (b2.mono HB.out.size))
  clear b2 HFw HB
  cases hfew : few17 ls with
  | false =>
    go_wp2
    go_ret
    exact ⟨rfl, HB2.out⟩
  | true =>
    obtain ⟨hf1, hf2⟩ := few17_low hfew
    have hn30 : n ≤ 30 := by rw [HLL.out] at hf1; exact hf1
    have HF2 := Lib.hid hf2
    clear hfew hf1 hf2
    go_wp2
    go_loopw [3, 4, 17] (fun wv ov iv wr => All1Rel w2 ls n wv ov iv wr) (fun _ _ iv _ => n - (intOf iv).toNat)
    case atStart => exact ⟨0, rfl, Nat.zero_le _, rfl, Own17.nil _ _, Below.refl _ _⟩
    case round =>
      obtain ⟨k, rfl, hk, rfl, how, hb⟩ := hrel
      have hBr := HB2.out.trans (hb.mono HB2.out.size)
      by_cases hlt : k < n
      · have hkI : (k : Int) < n := by omega
        obtain ⟨x, hx⟩ : ∃ x, ls[k]? = some x := ⟨ls[k]'(by rw [HLL.out]; exact hlt), List.getElem?_eq_getElem _⟩
        obtain ⟨_, _, hv, _, _, _, hrow⟩ := HE.out.below hBr
        cases hv
        obtain ⟨g, off, sa, scap, rfl, hg, hcell, hrd⟩ := hrow k x hx
        have hxl := flat17_mem (List.mem_of_getElem? hx)
        have hf2 := HF2.out
        have HR := Lib.hid (rises17_any wr sa x.length scap x hrd)
        have HTk := Lib.hid (show ls.take (k + 1) = ls.take k ++ [x] by rw [List.take_add_one, hx]; rfl)
        have HWu := Lib.hid (fun h => want17_up hx h)
        have HWn := Lib.hid (fun h => want17_no hx h)
        have hTl : (ls.take k).length = k := by rw [List.length_take, HLL.out]; omega
        obtain ⟨want, hwe⟩ : ∃ want, want17 (ls.take k) = want := ⟨_, rfl⟩
        rw [hwe] at HWu ⊢
        obtain ⟨T, hTe⟩ : ∃ T, ls.take k = T := ⟨_, rfl⟩
        rw [hTe] at how HTk hTl
        have HTl := Lib.hid hTl
        have HOw := Lib.hid how
        have HRd := Lib.hid hrd
        have HB := Lib.hid hb
        obtain ⟨_, _, hv2, hsc1, hsc2⟩ := hrd.le
        cases hv2
        unfold maxLen at hsc2
        clear hrow hx hrd hb hBr how hwe hTe hTl
        go_wp2_with (go_at_call 9; go_must (refine HR.out.mono ?_))
        rintro e w3 ⟨rfl, b3⟩
        by_cases hri : rises x
        · have HW := Lib.hid (HWu.out hri)
          rw [decide_eq_true hri]
          clear hri HWu HWn HR
          have b3x := HB.out.trans (b3.mono HB.out.size)
          have hrd3 := HRd.out.below' b3
          have hsrc := Reads.src (P := Try.prog) (tx := 26) Try.underlying26 (hrd3.alloc (.cells #[] 9)) (scells_one x)
          have hf0 : (w3.alloc (.cells #[] 9)).ownsRow w3.heap.size 9 1 (.slice (some ⟨w3.heap.size, 0, none⟩) 0 0) 0 [] := World.ownsRow_lit w3 #[] 0 (Nat.le_refl _) (Nat.zero_le _) rfl
          have HO3 := Lib.hid (HOw.out.below b3)
          have HB3 := Lib.hid b3x
          clear b3 b3x hrd3 HOw HRd HB
          go_wp2_with (at_builtin; go_must (refine wpList_append_owns rfl _ _ 26 26 rfl w3.heap.size 9 i0 (.string ⟨#[]⟩) 1 16 Try.underlying26 hi hz0 hz1 hz2 rfl _ _ _ rfl hf0 _ _ _ rfl hsrc ?_ ?_ ?_ ?_))
          · unfold maxLen; omega
          · omega
          · simp
          intro v5 w5 f5 g5 b5 m5
          have b35 : Below w3.heap.size w3 w5 := ((Below.refl _ _).alloc (Nat.le_refl _) _).trans b5
          have hf : w5.ownsRow w3.heap.size 9 1 v5 x.length (scells x) := by simpa using f5
          have hst := strAt_owns hf
          obtain ⟨svs, ho, hr⟩ := HO3.out.below b35
          have HB5 := Lib.hid (HB3.out.trans (b35.mono HB3.out.size))
          have HSt := Lib.hid hst
          have HRr := Lib.hid hr
          have HO := Lib.hid ho
          obtain ⟨va, vcap, rfl, _, _⟩ := hst
          clear hsrc hf0 f5 g5 m5 b5 b35 hf hr ho HO3 HB3
          go_wp2_with (at_builtin; go_must (refine wpList_append_rows_at (w0 := w5) rfl _ _ 22 rfl w2.heap.size 26 j0 _ 1 24 Try.underlying22 hj hy0 hy1 hy2 rfl [.slice va x.length vcap] 1 rfl rfl HO.out rfl rfl ?_ ?_ ?_ HB5.out.size ?_))
          · intro u hu; simp at hu; subst hu; rfl
          · have := HTl.out; unfold maxLen; omega
          · have := HTl.out; omega
          intro v6 w6 o6 g6 b6 _
          have HP := Lib.hid (Own17.push HO.out HRr.out HSt.out o6 g6 b6.size)
          have HB6 := Lib.hid (HB5.out.trans b6)
          obtain ⟨na, ncap, rfl, _, _⟩ := (ownsRow.reads o6).le
          clear o6 g6 b6 HO HRr HSt HB5
          go_wp2
          refine ⟨⟨k + 1, by go_num, by omega, ?_, ?_, HB6.out⟩, by simp [intOf]; omega⟩
          · rw [HW.out]
          · rw [HTk.out]; exact HP.out
        · have HW := Lib.hid (HWn.out hri)
          rw [decide_eq_false hri]
          clear hri HWu HWn HR
          have b3x := HB.out.trans (b3.mono HB.out.size)
          have hrd3 := HRd.out.below' b3
          have hsrc := Reads.src (P := Try.prog) (tx := 26) Try.underlying26 (hrd3.alloc (.cells #[] 9)) (scells_one x)
          have hf0 : (w3.alloc (.cells #[] 9)).ownsRow w3.heap.size 9 1 (.slice (some ⟨w3.heap.size, 0, none⟩) 0 0) 0 [] := World.ownsRow_lit w3 #[] 0 (Nat.le_refl _) (Nat.zero_le _) rfl
          have HO3 := Lib.hid (HOw.out.below b3)
          have HB3 := Lib.hid b3x
          clear b3 b3x hrd3 HOw HRd HB
          go_wp2_with (at_builtin; go_must (refine wpList_append_owns rfl _ _ 26 26 rfl w3.heap.size 9 i0 (.string ⟨#[]⟩) 1 16 Try.underlying26 hi hz0 hz1 hz2 rfl _ _ _ rfl hf0 _ _ _ rfl hsrc ?_ ?_ ?_ ?_))
          · unfold maxLen; omega
          · omega
          · simp
          intro v5 w5 f5 g5 b5 m5
          have b35 : Below w3.heap.size w3 w5 := ((Below.refl _ _).alloc (Nat.le_refl _) _).trans b5
          have hf : w5.ownsRow w3.heap.size 9 1 v5 x.length (scells x) := by simpa using f5
          have hst := strAt_owns hf
          obtain ⟨svs, ho, hr⟩ := HO3.out.below b35
          have HB5 := Lib.hid (HB3.out.trans (b35.mono HB3.out.size))
          have HSt := Lib.hid hst
          have HRr := Lib.hid hr
          have HO := Lib.hid ho
          obtain ⟨va, vcap, rfl, _, _⟩ := hst
          clear hsrc hf0 f5 g5 m5 b5 b35 hf hr ho HO3 HB3
          go_wp2_with (at_builtin; go_must (refine wpList_append_rows_at (w0 := w5) rfl _ _ 22 rfl w2.heap.size 26 j0 _ 1 24 Try.underlying22 hj hy0 hy1 hy2 rfl [.slice va x.length vcap] 1 rfl rfl HO.out rfl rfl ?_ ?_ ?_ HB5.out.size ?_))
          · intro u hu; simp at hu; subst hu; rfl
          · have := HTl.out; unfold maxLen; omega
          · have := HTl.out; omega
          intro v6 w6 o6 g6 b6 _
          have HP := Lib.hid (Own17.push HO.out HRr.out HSt.out o6 g6 b6.size)
          have HB6 := Lib.hid (HB5.out.trans b6)
          obtain ⟨na, ncap, rfl, _, _⟩ := (ownsRow.reads o6).le
          clear o6 g6 b6 HO HRr HSt HB5
          go_wp2
          refine ⟨⟨k + 1, by go_num, by omega, ?_, ?_, HB6.out⟩, by simp [intOf]; omega⟩
          · rw [HW.out]
          · rw [HTk.out]; exact HP.out
      · obtain rfl : k = n := by omega
        have hkI : ¬ (k : Int) < k := by omega
        obtain ⟨n, rfl⟩ : ∃ n : Nat, n = k := ⟨_, rfl⟩
        have htk : ls.take n = ls := by rw [← HLL.out]; exact List.take_length
        rw [htk] at how ⊢
        have hf2 := HF2.out
        have hll := HLL.out
        have hrr := how.rrows
        rw [hll] at hrr
        obtain ⟨svs, ho, hra⟩ := how
        rw [hll] at ho
        obtain ⟨oa, ocap, rfl, ho1, ho2⟩ := (ownsRow.reads ho).le
        unfold maxLen at ho2
        have hkl := (keys17_ok ls).2.2
        have HA := Lib.hid (all17_any wr _ n ls hrr (by omega) (fun l hl => by have := flat17_mem hl; omega) (by omega))
        have HOr := Lib.hid hrr
        have HBr := Lib.hid hBr
        obtain ⟨want, hwe⟩ : ∃ want, want17 ls = want := ⟨_, rfl⟩
        rw [hwe]
        have HWe := Lib.hid hwe
        clear hBr hb htk ho hrr hra hll hwe
        go_wp2_with (go_at_call 10; go_must (refine HA.out.mono ?_))
        rintro e w3 hp
        rcases hp with ⟨hup, v3, rfl, ho3, b3⟩ | ⟨hno, rfl, b3⟩
        · obtain rfl : want = 0 := by rw [← HWe.out]; unfold want17; rw [if_pos hup]
          obtain ⟨a3, cap3, rfl, hc31, hc32⟩ := (ownsRow.reads ho3).le
          unfold maxLen at hc32
          have HO3 := Lib.hid ho3
          have HOr3 := Lib.hid (HOr.out.below b3)
          have HEr3 := Lib.hid (HE.out.below (HBr.out.trans (b3.mono HBr.out.size)))
          have HB3 := Lib.hid (HBr.out.trans (b3.mono HBr.out.size))
          clear hup ho3 b3 HA HOr HBr HWe
          go_wp2
          go_loopw [53] (fun iv wx => All2Rel w3 n iv wx) (fun iv _ => n - (intOf iv).toNat)
          case atStart => exact ⟨0, rfl, Nat.zero_le _, Below.refl _ _⟩
          case round =>
            obtain ⟨q, rfl, hq, hbq⟩ := hrel
            have hbqs := hbq.size
            have HBq := Lib.hid hbq
            clear hbq
            by_cases hqt : q < n
            · have hqI : (q : Int) < n := by omega
              obtain ⟨x, hx⟩ : ∃ x, ls[q]? = some x := ⟨ls[q]'(by rw [HLL.out]; exact hqt), List.getElem?_eq_getElem _⟩
              obtain ⟨_, _, hv, _, _, _, hrow⟩ := HOr3.out.below HBq.out
              cases hv
              obtain ⟨g, off, sa, scap, rfl, hgl, hw0, hrr⟩ := hrow q x hx
              obtain ⟨_, _, hv, _, _, _, hrow2⟩ := HEr3.out.below HBq.out
              cases hv
              obtain ⟨g2, off2, sa2, scap2, rfl, hgl2, hw1, hrr2⟩ := hrow2 q x hx
              obtain ⟨m, hm⟩ : ∃ m, x.length = m := ⟨_, rfl⟩
              rw [hm] at hw0 hw1 hrr hrr2
              clear hrow hrow2 hx hm
              go_wp2_with fail
              refine wp_region_all (by kernel_rfl) [eqF (.slice (some ⟨g, off, none⟩) n ocap), eqF (.int .i64 (q : Int)), eqF (.pointer (some ⟨g, off + q, none⟩)), eqF (.slice sa m scap), eqF (.slice (some ⟨g2, off2, none⟩) n cap), eqF (.int .i64 (q : Int)), eqF (.pointer (some ⟨g2, off2 + q, none⟩)), eqF (.slice sa2 m scap2), eqF (.bool true), eqF (.bool false)] (by kernel_rfl) ⟨?_, ?_, ?_, ?_, ?_, ?_, ?_, ?_, ?_, ?_, trivial⟩ ⟨trivial, trivial, trivial, trivial, trivial, trivial, trivial, trivial, trivial, trivial, trivial⟩ ?_
              · intro ρ wx hρ hbx hl
                have e4 : ρ (.tmp 4) = .slice (some ⟨g, off, none⟩) n ocap := hρ.tmp 4 (by decide +kernel)
                refine y_val (v := .slice (some ⟨g, off, none⟩) n ocap) ?_ rfl
                simp [execOp, go_sem, e4]
              · intro ρ wx hρ hbx hl
                have e9 : ρ (.tmp 9) = .int .i64 (q : Int) := hρ.tmp 9 (by decide +kernel)
                refine y_val (v := .int .i64 (q : Int)) ?_ rfl
                simp [execOp, go_sem, e9]
              · intro ρ wx hρ hbx hl
                have e56 : ρ (.tmp 56) = .slice (some ⟨g, off, none⟩) n ocap := hl 0 (by decide +kernel) 56 rfl
                have e57 : ρ (.tmp 57) = .int .i64 (q : Int) := hl 1 (by decide +kernel) 57 rfl
                refine y_val (v := .pointer (some ⟨g, off + q, none⟩)) ?_ rfl
                simp [execOp, go_sem, e56, e57]
                first | done | omega | (intro h; omega)
              · intro ρ wx hρ hbx hl
                have e58 : ρ (.tmp 58) = .pointer (some ⟨g, off + q, none⟩) := hl 2 (by decide +kernel) 58 rfl
                have k0 := (hbx.cell (p := ⟨g, off + q, none⟩) hgl).trans hw0
                refine y_val (v := .slice sa m scap) ?_ rfl
                simp [execOp, go_sem, e58, k0]
              · intro ρ wx hρ hbx hl
                have e0 : ρ (.tmp 0) = .slice (some ⟨g2, off2, none⟩) n cap := hρ.tmp 0 (by decide +kernel)
                refine y_val (v := .slice (some ⟨g2, off2, none⟩) n cap) ?_ rfl
                simp [execOp, go_sem, e0]
              · intro ρ wx hρ hbx hl
                have e9 : ρ (.tmp 9) = .int .i64 (q : Int) := hρ.tmp 9 (by decide +kernel)
                refine y_val (v := .int .i64 (q : Int)) ?_ rfl
                simp [execOp, go_sem, e9]
              · intro ρ wx hρ hbx hl
                have e60 : ρ (.tmp 60) = .slice (some ⟨g2, off2, none⟩) n cap := hl 4 (by decide +kernel) 60 rfl
                have e61 : ρ (.tmp 61) = .int .i64 (q : Int) := hl 5 (by decide +kernel) 61 rfl
                refine y_val (v := .pointer (some ⟨g2, off2 + q, none⟩)) ?_ rfl
                simp [execOp, go_sem, e60, e61]
                first | done | omega | (intro h; omega)
              · intro ρ wx hρ hbx hl
                have e62 : ρ (.tmp 62) = .pointer (some ⟨g2, off2 + q, none⟩) := hl 6 (by decide +kernel) 62 rfl
                have k0 := (hbx.cell (p := ⟨g2, off2 + q, none⟩) hgl2).trans hw1
                refine y_val (v := .slice sa2 m scap2) ?_ rfl
                simp [execOp, go_sem, e62, k0]
              · intro ρ wx hρ hbx hl
                have e59 : ρ (.tmp 59) = .slice sa m scap := hl 3 (by decide +kernel) 59 rfl
                have e63 : ρ (.tmp 63) = .slice sa2 m scap2 := hl 7 (by decide +kernel) 63 rfl
                have hsm := sames_any wx sa sa2 m m scap scap2 x x (hrr.below' hbx) (hrr2.below' hbx)
                rw [decide_eq_true (rfl : x = x)] at hsm
                refine y_call (f := 11) (args := #[.slice sa m scap, .slice sa2 m scap2]) (by simp [execOp, resolve, invoke, hρ.func, go_sem, e59, e63]) ?_
                refine hsm.mono ?_
                rintro e w6 ⟨rfl, b6⟩
                exact ⟨_, rfl, rfl, b6⟩
              · intro ρ wx hρ hbx hl
                have e64 : ρ (.tmp 64) = .bool true := hl 8 (by decide +kernel) 64 rfl
                refine y_val (v := .bool false) ?_ rfl
                simp [execOp, go_sem, e64]
              intro aa wz hdef hsz hlk hbz hf
              have ha := act_of_like hdef hsz hlk [56, 57, 58, 59, 60, 61, 62, 63, 64, 65] 71 rfl (by decide +kernel)
              have e56 : aa.tmps.getD 56 undef = .slice (some ⟨g, off, none⟩) n ocap := hf 0 _ 56 rfl rfl
              have e57 : aa.tmps.getD 57 undef = .int .i64 (q : Int) := hf 1 _ 57 rfl rfl
              have e58 : aa.tmps.getD 58 undef = .pointer (some ⟨g, off + q, none⟩) := hf 2 _ 58 rfl rfl
              have e59 : aa.tmps.getD 59 undef = .slice sa m scap := hf 3 _ 59 rfl rfl
              have e60 : aa.tmps.getD 60 undef = .slice (some ⟨g2, off2, none⟩) n cap := hf 4 _ 60 rfl rfl
              have e61 : aa.tmps.getD 61 undef = .int .i64 (q : Int) := hf 5 _ 61 rfl rfl
              have e62 : aa.tmps.getD 62 undef = .pointer (some ⟨g2, off2 + q, none⟩) := hf 6 _ 62 rfl rfl
              have e63 : aa.tmps.getD 63 undef = .slice sa2 m scap2 := hf 7 _ 63 rfl rfl
              have e64 : aa.tmps.getD 64 undef = .bool true := hf 8 _ 64 rfl rfl
              have e65 : aa.tmps.getD 65 undef = .bool false := hf 9 _ 65 rfl rfl
              simp only [putAll, List.foldl_cons, List.foldl_nil, e56, e57, e58, e59, e60, e61, e62, e63, e64, e65] at ha
              simp [Act.put] at ha
              subst ha
              clear hdef hsz hlk hf e56 e57 e58 e59 e60 e61 e62 e63 e64 e65
              have HBy := Lib.hid (HBq.out.trans (hbz.mono hbqs))
              clear hbz hrr hrr2 hw0 hw1
              go_wp2
              exact ⟨⟨q + 1, by go_num, by omega, HBy.out⟩, by simp [intOf]; omega⟩
            · have hqI : ¬ (q : Int) < n := by omega
              have HRf := Lib.hid (ref17_any wr _ n ls (HEr3.out.below HBq.out) (by omega))
              have HR3 := Lib.hid ((ownsRow.reads HO3.out).below' HBq.out)
              have HBy := Lib.hid (HB3.out.trans (HBq.out.mono HB3.out.size))
              go_wp2_with (go_at_call 12; go_must (refine HRf.out.mono ?_))
              rintro e w5 ⟨v5, rfl, ho5, b5⟩
              obtain ⟨a5, cap5, rfl, _, _⟩ := (ownsRow.reads ho5).le
              have hsm := sames_any w5 a3 a5 _ _ cap3 cap5 (keys17 ls) (keys17 ls) (HR3.out.below' b5) (ownsRow.reads ho5)
              rw [decide_eq_true (rfl : keys17 ls = keys17 ls)] at hsm
              have HSm := Lib.hid hsm
              have HBz := Lib.hid (HBy.out.trans (b5.mono HBy.out.size))
              clear hsm ho5 b5
              go_wp2_with (go_at_call 11; go_must (refine HSm.out.mono ?_))
              rintro e w6 ⟨rfl, b6⟩
              go_wp2
              go_ret
              exact ⟨rfl, HBz.out.trans (b6.mono HBz.out.size)⟩
        · obtain rfl : want = 11 := by rw [← HWe.out]; unfold want17; rw [if_neg hno]
          have HB3 := Lib.hid (HBr.out.trans (b3.mono HBr.out.size))
          clear b3 hno HA HOr HBr HWe
          go_wp2
          go_ret
          exact ⟨rfl, HB3.out⟩
end Go.Proofs.Ytieaiofdbliblaa
