/- sentryref05.rule, one: a rule out of signs (written by gen_schrpone.py). -/
import Derived.Test.YtopnldebekhelaaDoorZSchRpSevA
import Derived.Test.YtopnldebekhelaaDoorZSchRpSevB
import Derived.BigRegion
namespace Go.Proofs.YtopnldebekhelaaDoor
open Go Go.RowKit

theorem Seg.drew {B : Nat} {w : World} {a : Option Addr} {n c : Nat} {l : List ByteArray} (h : Seg B w a n c l) : Seg B w.drew a n c l := ⟨h.len, h.le, h.cap, h.at'⟩
theorem Seg.cutI {B : Nat} {w : World} {b off n c : Nat} {l : List ByteArray} (h : Seg B w (some ⟨b, off, none⟩) n c l) (k : Nat) (hk : k ≤ n) : Seg B w (if c = k then some ⟨b, off, none⟩ else some ⟨b, off + k, none⟩) (n - k) (c - k) (l.drop k) := by
  by_cases hc : c = k
  · rw [if_pos hc]; exact h.cut k hk off (fun e => absurd hc e)
  · rw [if_neg hc]; exact h.cut k hk (off + k) (fun _ => rfl)
theorem sv_drew {B : Nat} {w w' : World} {r : Pr} {e : Ending} (h : SvPost B w r e w') : SvPost B w r e w'.drew := by
  obtain ⟨x, a, n, c, ok, h1, h2, h3, h4, h5⟩ := h
  refine ⟨x, a, n, c, ok, h1, h2.drew, h3, h4, ?_⟩
  rcases h5 with h5 | ⟨h6, U, h7, h8, h9⟩
  · exact .inl h5
  · exact .inr ⟨h6, U, h7, ruE_keep.keep _ w' w'.drew _ ⟨Nat.le_refl _, fun _ _ _ => rfl⟩ h8, h9.drew⟩
theorem ruE_leaf (ok : Nat → Prop) (w : World) (h : RuH) : ruEAt ok w ⟨h, [], none, 0⟩ := ⟨Nat.le_refl _, Nat.zero_le _, by rw [TrsAt]; trivial⟩

def POne (d : Int) (g : List ByteArray → Pr) : Prop := ∀ (W : World) (B : Nat) (a : Option Addr) (m c : Nat) (T : List ByteArray), B ≤ W.heap.size → Seg B W a m c T → wtT T ≤ 600000 → Calls Tryd.prog 63 #[.slice a m c, .int .i64 d] W (SvPost B W (g T))
def PRule (d : Int) (g : List ByteArray → Pr) : Prop := ∀ (W : World) (B : Nat) (a : Option Addr) (m c : Nat) (T : List ByteArray), B ≤ W.heap.size → Seg B W a m c T → wtT T ≤ 600000 → Calls Tryd.prog 22 #[.slice a m c, .int .i64 d] W (SvPost B W (g T))

set_option maxRecDepth 100000 in
set_option maxHeartbeats 4000000 in
theorem refrule_any (n : Nat) (d : Int) (hone : POne d (oneG n)) : PRule d (ruleG n) := by
  intro w B a m c T hBw hseg hT
  have hA : ∀ (W : World) (B : Nat) (a : Option Addr) (m c : Nat) (T : List ByteArray), B ≤ W.heap.size → Seg B W a m c T → wtT T ≤ 600000 → Calls Tryd.prog 46 #[.slice a m c, .int .i64 d, .string ⟨#[38]⟩, .int .i64 5] W (SvPost B W (bothG n T)) :=
    fun W B a m c T h1 h2 h3 => sevA_any (oneG n) (oneG_ok n) (oneG_len n) d (fun W B a m c T h1 h2 h3 => hone W B a m c T h1 h2 h3) W B a m c T h1 h2 h3
  obtain ⟨N, hN⟩ : ∃ N, w.heap.size = N := ⟨_, rfl⟩
  obtain ⟨W0, hW0⟩ : ∃ W, W = w.alloc (.cells #[.int .i64 0, .string ⟨#[]⟩, .string ⟨#[]⟩, .slice none 0 0] 42) := ⟨_, rfl⟩
  have b0 : Below w.heap.size w W0 := by rw [hW0]; exact (Below.refl _ _).alloc (Nat.le_refl _) _
  have n0 : W0.heap[N]? = some (.cells #[.int .i64 0, .string ⟨#[]⟩, .string ⟨#[]⟩, .slice none 0 0] 42 (0, 0)) := by rw [hW0, ← hN]; exact heap_alloc_new w _
  have s0 : N + 1 ≤ W0.heap.size := by rw [hW0, ← hN]; simp
  have hwN : w.heap.size ≤ N := Nat.le_of_eq hN
  have hNw : N ≤ w.heap.size := Nat.le_of_eq hN.symm
  obtain ⟨r, hr⟩ : ∃ r, ruleG n T = r := ⟨_, rfl⟩
  have hC := sevB_any (bothG n) (bothG_ok n) (bothG_len n) d hA W0 B a m c T (by omega) (hseg.keep (b0.mono hBw)) hT
  rw [show sevF (bothG n) cPipe 4 T = r from hr] at hC
  have HC := Lib.hid hC
  have HB0 := Lib.hid b0
  have HN0 := Lib.hid n0
  have HW0 := Lib.hid hW0
  have HN := Lib.hid hN
  clear hC hA hone b0 n0 hW0 hseg hN
  rw [hr]
  go_enter Tryd.func22, Tryd.ntmps22
  go_upto_region 1 with fail
  rw [← HW0.out]
  try rw [HN.out]
  clear HW0
  go_wp2_with (go_at_call 46; go_must (refine HC.out.mono ?_))
  rintro e w2 ⟨x, ra, rm, rc, ok, rfl, hb2, hrc1, hrc2, hres⟩
  have hn2 := (hb2.block N (by omega)).trans HN0.out
  have k0 := Lib.cell_of_heap hn2 0; have k1 := Lib.cell_of_heap hn2 1; have k2 := Lib.cell_of_heap hn2 2; have k3 := Lib.cell_of_heap hn2 3
  have kf := Lib.frozen_of_heap hn2
  simp at k0 k1 k2 k3
  have hN2 : N < w2.heap.size := Nat.lt_of_lt_of_le (by omega) hb2.size
  have HX4 := Lib.hid (set4_at rfl hn2 (.int .i64 x.h.kind) (.string x.h.a) (.string x.h.b) (.slice x.a x.ps.length x.cap))
  have hB4 := set4_below (HB0.out.trans (hb2.mono (by omega))) hwN (.int .i64 x.h.kind) (.string x.h.a) (.string x.h.b) (.slice x.a x.ps.length x.cap)
  have HPost := Lib.hid (show SvPost B w r (.returned (.tuple #[.agg #[.int .i64 x.h.kind, .string x.h.a, .string x.h.b, .slice x.a x.ps.length x.cap], .slice ra rm rc, .bool ok])) (set4 w2 N (.int .i64 x.h.kind) (.string x.h.a) (.string x.h.b) (.slice x.a x.ps.length x.cap)) from by
    rcases hres with ⟨rfl, h⟩ | ⟨rfl, U, h1, h2, h3⟩
    · exact sv_no h hB4 hrc1 hrc2 ⟨rfl, rfl, rfl, rfl, rfl, rfl⟩
    · refine sv_yes h1 hB4 ?_ (h3.keep (set4_below (Below.refl _ _) (by omega) _ _ _ _))
      have hk := ruE_keep.keep _ _ _ _ (set4_keeps w2 N (.int .i64 x.h.kind) (.string x.h.a) (.string x.h.b) (.slice x.a x.ps.length x.cap)) (ruE_keep.mono _ (fun b => N + 1 ≤ b) _ _ (fun b _ hb => Nat.le_trans s0 hb) h2)
      exact ruE_keep.mono _ _ _ _ (fun b _ hb => (by have : N + 1 ≤ b := hb; show w.heap.size ≤ b; omega)) hk)
  clear hb2 hres hn2 hB4
  go_wp2
  exact bodyPost_ret (ret_ru3 Tryd.results22 rfl HX4.out) rfl HPost.out

set_option maxRecDepth 100000 in
set_option maxHeartbeats 8000000 in
theorem refone_step (g : List ByteArray → Pr) (d : Nat) (hd8 : d ≤ 8) (hz : d = 8 → ∀ T, g T = none) (hin : d < 8 → PRule ((d : Int) + 1) g) : POne (d : Int) (oneGf g) := by
  intro w B a m c T hBw hseg hT
  obtain ⟨N, hN⟩ : ∃ N, w.heap.size = N := ⟨_, rfl⟩
  obtain ⟨W0, hW0⟩ : ∃ W, W = w.alloc (.cells #[.int .i64 0, .string ⟨#[]⟩, .string ⟨#[]⟩, .slice none 0 0] 42) := ⟨_, rfl⟩
  have b0 : Below w.heap.size w W0 := by rw [hW0]; exact (Below.refl _ _).alloc (Nat.le_refl _) _
  have n0 : W0.heap[N]? = some (.cells #[.int .i64 0, .string ⟨#[]⟩, .string ⟨#[]⟩, .slice none 0 0] 42 (0, 0)) := by rw [hW0, ← hN]; exact heap_alloc_new w _
  have s0 : N + 1 ≤ W0.heap.size := by rw [hW0, ← hN]; simp
  have hwN : w.heap.size ≤ N := Nat.le_of_eq hN
  have hNw : N ≤ w.heap.size := Nat.le_of_eq hN.symm
  have hNlt : N < W0.heap.size := by omega
  have HSeg := Lib.hid (hseg.keep (b0.mono hBw))
  have hmc := hseg.le
  have hcm := hseg.cap
  have HB0 := Lib.hid b0
  have HN0 := Lib.hid n0
  have HW0 := Lib.hid hW0
  have HN := Lib.hid hN
  have HZ := Lib.hid hz
  have HIn := Lib.hid hin
  have HT := Lib.hid hT
  have k0 := Lib.cell_of_heap n0 0; have k1 := Lib.cell_of_heap n0 1; have k2 := Lib.cell_of_heap n0 2; have k3 := Lib.cell_of_heap n0 3
  have kf := Lib.frozen_of_heap n0
  simp at k0 k1 k2 k3
  have HXz := Lib.hid (set4_at rfl n0 (.int .i64 0) (.string ⟨#[]⟩) (.string ⟨#[]⟩) (.slice none 0 0))
  have HBz := Lib.hid (set4_below b0 hwN (.int .i64 0) (.string ⟨#[]⟩) (.string ⟨#[]⟩) (.slice none 0 0))
  unfold maxLen at hcm
  clear b0 n0 hW0 hseg hN hz hin hT
  go_enter Tryd.func63, Tryd.ntmps63
  go_upto_region 1 with fail
  rw [← HW0.out]
  try rw [HN.out]
  clear HW0
  cases T with
  | nil =>
    have hm : m = 0 := HSeg.out.len
    subst hm
    go_wp2
    exact bodyPost_ret (ret_ru3 Tryd.results63 rfl HXz.out) rfl (sv_none rfl HBz.out hmc (by unfold maxLen; omega))
  | cons s T' =>
    have HM := Lib.hid (show m = T'.length + 1 from HSeg.out.len)
    have hm1 : 1 ≤ m := by rw [HM.out]; omega
    have hm1I : (1 : Int) ≤ m := by omega
    have hm0I : (0 : Int) < m := by omega
    have hmn : ((m : Int) == 0) = false := by simp; omega
    obtain ⟨b, off, rfl, hbB, hbl, kc⟩ := HSeg.out.head
    have HEq := Lib.hid (fun l => streq s l)
    have hsz : s.size ≤ 1000000000 := by
      have h := HT.out
      rw [wtT_cons] at h
      omega
    by_cases hop : s = cOpen
    · have hqe : (s.toList == [40]) = true := by rw [HEq.out]; exact decide_eq_true (show s = tk [40] from hop)
      by_cases hd : d = 8
      · subst hd
        have HNo := Lib.hid (show oneGf g (s :: T') = none by rw [oneGf, if_pos hop, HZ.out rfl])
        clear hop
        go_wp2
        exact bodyPost_ret (ret_ru3 Tryd.results63 rfl HXz.out) rfl (sv_none HNo.out HBz.out hmc (by unfold maxLen; omega))
      · have hdI : ((d : Int) == 8) = false := by simp; omega
        have HR := Lib.hid (show oneGf g (s :: T') = match g T' with | none => none | some (t, U) => if U.headD cNone = cShut then some (t, U.tail) else none by rw [oneGf, if_pos hop]; cases g T' <;> rfl)
        clear hop
        by_cases hc1 : c = 1
        · have hcut := HSeg.out.cut 1 hm1 off (fun h => absurd hc1 h)
          subst hc1
          have hmE : m = 1 := by omega
          subst hmE
          clear hm1I hm0I hmn hm1
          have HCut := Lib.hid hcut
          clear hcut
          have HC := Lib.hid (HIn.out (by omega) W0 B _ _ _ T' (by omega) (HCut.out) (by have h := HT.out; rw [wtT_cons] at h; omega))
          go_wp2_with (go_at_call 22; go_must (refine HC.out.mono ?_))
          rintro e w2 ⟨x, ra, rm, rc, ok, rfl, hb2, hrc1, hrc2, hres⟩
          obtain ⟨w3, hw3⟩ : ∃ W, W = w2.alloc (.cells #[.int .i64 x.h.kind, .string x.h.a, .string x.h.b, .slice x.a x.ps.length x.cap] 42) := ⟨_, rfl⟩
          have hb3 : Below w2.heap.size w2 w3 := by rw [hw3]; exact (Below.refl _ _).alloc (Nat.le_refl _) _
          have hx3 : w3.heap[w2.heap.size]? = some (.cells #[.int .i64 x.h.kind, .string x.h.a, .string x.h.b, .slice x.a x.ps.length x.cap] 42 (0, 0)) := by rw [hw3]; exact heap_alloc_new w2 _
          have hb23 : Below W0.heap.size W0 w3 := hb2.trans (hb3.mono hb2.size)
          have hn3 := (hb23.block N hNlt).trans HN0.out
          have hN3 : N < w3.heap.size := Nat.lt_of_lt_of_le hNlt hb23.size
          have hl3 : w2.heap.size < w3.heap.size := (Array.getElem?_eq_some_iff.1 hx3).1
          have HX3 := Lib.hid hx3
          have HX4 := Lib.hid (set4_at rfl hn3 (.int .i64 x.h.kind) (.string x.h.a) (.string x.h.b) (.slice x.a x.ps.length x.cap))
          have HB4 := Lib.hid (set4_below (HB0.out.trans (hb23.mono HB0.out.size)) hwN (.int .i64 x.h.kind) (.string x.h.a) (.string x.h.b) (.slice x.a x.ps.length x.cap))
          have HNl := Lib.hid hn3
          have HRes := Lib.hid (show (ok = false ∧ g T' = none) ∨ (ok = true ∧ ∃ U, g T' = some (x.tree, U) ∧ ruEAt (fun b => W0.heap.size ≤ b) w3 x ∧ Seg B w3 ra rm rc U) from by
            rcases hres with h | ⟨h1, U, h2, h3, h4⟩
            · exact .inl h
            · exact .inr ⟨h1, U, h2, ruE_keep.keep _ _ _ _ (Keeps.of_below_size hb3) h3, h4.keep (hb3.mono (by have := hb2.size; omega))⟩)
          have HW3 := Lib.hid hw3
          clear hb2 hres hw3 hb3 hx3 hb23 hn3 HC k0 k1 k2 k3 kf
          go_upto_region 7 with fail
          rw [← HW3.out]
          clear HW3
          have x0 := Lib.cell_of_heap HX3.out 0; have x1 := Lib.cell_of_heap HX3.out 1; have x2 := Lib.cell_of_heap HX3.out 2; have x3 := Lib.cell_of_heap HX3.out 3
          have k0 := Lib.cell_of_heap HNl.out 0; have k1 := Lib.cell_of_heap HNl.out 1; have k2 := Lib.cell_of_heap HNl.out 2; have k3 := Lib.cell_of_heap HNl.out 3
          have kf := Lib.frozen_of_heap HNl.out
          simp at x0 x1 x2 x3 k0 k1 k2 k3
          cases ok with
          | false =>
            have HNo := Lib.hid (show oneGf g (s :: T') = none by
              rcases HRes.out with h | h
              · rw [HR.out, h.2]
              · cases h.1)
            go_wp2
            exact bodyPost_ret (ret_ru3 Tryd.results63 rfl HX4.out) rfl (sv_no HNo.out HB4.out hrc1 hrc2 ⟨rfl, rfl, rfl, rfl, rfl, rfl⟩)
          | true =>
            obtain ⟨U, hgU, hat, hseg⟩ : ∃ U, g T' = some (x.tree, U) ∧ ruEAt (fun b => W0.heap.size ≤ b) w3 x ∧ Seg B w3 ra rm rc U := by
              rcases HRes.out with h | h
              · cases h.1
              · exact h.2
            have HAt := Lib.hid hat
            have HSg := Lib.hid hseg
            have hRg := HR.out
            rw [hgU] at hRg
            dsimp only at hRg
            have HRg := Lib.hid hRg
            clear hgU hat hseg hRg HRes HR
            cases U with
            | nil =>
              have hrm : rm = 0 := HSg.out.len
              subst hrm
              have HNo := Lib.hid (show oneGf g (s :: T') = none by rw [HRg.out, if_neg (hd_none (by decide))])
              go_wp2
              exact bodyPost_ret (ret_ru3 Tryd.results63 rfl HX4.out) rfl (sv_no HNo.out HB4.out hrc1 hrc2 ⟨rfl, rfl, rfl, rfl, rfl, rfl⟩)
            | cons u U' =>
              have HRm := Lib.hid (show rm = U'.length + 1 from HSg.out.len)
              have hrm1 : 1 ≤ rm := by rw [HRm.out]; omega
              have hrm1I : (1 : Int) ≤ rm := by omega
              have hrm0I : (0 : Int) < rm := by omega
              have hrmn : ((rm : Int) == 0) = false := by simp; omega
              obtain ⟨rb, roff, rfl, hrbB, hrbl, kr⟩ := HSg.out.head
              have HEq2 := Lib.hid (fun l => streq u l)
              by_cases hsh : u = cShut
              · have hue : (u.toList == [41]) = true := by rw [HEq2.out]; exact decide_eq_true (show u = tk [41] from hsh)
                have hun : (u.toList != [41]) = false := by rw [bne, hue]; rfl
                by_cases hrc : rc = 1
                · have hcu := HSg.out.cut 1 hrm1 roff (fun h => absurd hrc h)
                  subst hrc
                  have hrE : rm = 1 := by omega
                  subst hrE
                  clear hrm1I hrm0I hrmn
                  have HCu2 := Lib.hid hcu
                  clear hcu
                  have hat4 := ruE_keep.keep _ _ _ _ (set4_keeps w3 N (.int .i64 x.h.kind) (.string x.h.a) (.string x.h.b) (.slice x.a x.ps.length x.cap)) (ruE_keep.mono _ (fun b => N + 1 ≤ b) _ _ (fun b _ hb => Nat.le_trans s0 hb) HAt.out)
                  have hsg4 := HCu2.out.keep (set4_below (Below.refl B w3) (show B ≤ N by omega) (.int .i64 x.h.kind) (.string x.h.a) (.string x.h.b) (.slice x.a x.ps.length x.cap))
                  have HPost := Lib.hid (sv_drew (sv_yes (show oneGf g (s :: T') = some (x.tree, U') by rw [HRg.out, if_pos (show (u :: U').headD cNone = cShut from hsh)]; rfl) HB4.out (ruE_keep.mono _ _ _ _ (fun b _ hb => (by have : N + 1 ≤ b := hb; show w.heap.size ≤ b; omega)) hat4) hsg4))
                  clear hat4 hsg4 hsh
                  go_upto_region 9 with fail
                  go_region
                  go_wp2
                  exact bodyPost_ret (ret_ru3 Tryd.results63 rfl HX4.out) rfl HPost.out
                · have hcu := HSg.out.cut 1 hrm1 (roff + 1) (fun _ => rfl)
                  have HCu2 := Lib.hid hcu
                  clear hcu
                  have hat4 := ruE_keep.keep _ _ _ _ (set4_keeps w3 N (.int .i64 x.h.kind) (.string x.h.a) (.string x.h.b) (.slice x.a x.ps.length x.cap)) (ruE_keep.mono _ (fun b => N + 1 ≤ b) _ _ (fun b _ hb => Nat.le_trans s0 hb) HAt.out)
                  have hsg4 := HCu2.out.keep (set4_below (Below.refl B w3) (show B ≤ N by omega) (.int .i64 x.h.kind) (.string x.h.a) (.string x.h.b) (.slice x.a x.ps.length x.cap))
                  have HPost := Lib.hid (sv_drew (sv_yes (show oneGf g (s :: T') = some (x.tree, U') by rw [HRg.out, if_pos (show (u :: U').headD cNone = cShut from hsh)]; rfl) HB4.out (ruE_keep.mono _ _ _ _ (fun b _ hb => (by have : N + 1 ≤ b := hb; show w.heap.size ≤ b; omega)) hat4) hsg4))
                  clear hat4 hsg4 hsh
                  go_upto_region 9 with fail
                  go_region
                  go_wp2
                  exact bodyPost_ret (ret_ru3 Tryd.results63 rfl HX4.out) rfl HPost.out
              · have hue : (u.toList == [41]) = false := by rw [HEq2.out]; exact decide_eq_false (show ¬ u = tk [41] from hsh)
                have hun : (u.toList != [41]) = true := by rw [bne, hue]; rfl
                have HNo := Lib.hid (show oneGf g (s :: T') = none by rw [HRg.out, if_neg (show ¬ (u :: U').headD cNone = cShut from hsh)])
                clear hsh
                go_wp2
                exact bodyPost_ret (ret_ru3 Tryd.results63 rfl HX4.out) rfl (sv_no HNo.out HB4.out hrc1 hrc2 ⟨rfl, rfl, rfl, rfl, rfl, rfl⟩)
        · have hcut := HSeg.out.cut 1 hm1 (off + 1) (fun _ => rfl)
          have HCut := Lib.hid hcut
          clear hcut
          have HC := Lib.hid (HIn.out (by omega) W0 B _ _ _ T' (by omega) (HCut.out) (by have h := HT.out; rw [wtT_cons] at h; omega))
          go_wp2_with (go_at_call 22; go_must (refine HC.out.mono ?_))
          rintro e w2 ⟨x, ra, rm, rc, ok, rfl, hb2, hrc1, hrc2, hres⟩
          obtain ⟨w3, hw3⟩ : ∃ W, W = w2.alloc (.cells #[.int .i64 x.h.kind, .string x.h.a, .string x.h.b, .slice x.a x.ps.length x.cap] 42) := ⟨_, rfl⟩
          have hb3 : Below w2.heap.size w2 w3 := by rw [hw3]; exact (Below.refl _ _).alloc (Nat.le_refl _) _
          have hx3 : w3.heap[w2.heap.size]? = some (.cells #[.int .i64 x.h.kind, .string x.h.a, .string x.h.b, .slice x.a x.ps.length x.cap] 42 (0, 0)) := by rw [hw3]; exact heap_alloc_new w2 _
          have hb23 : Below W0.heap.size W0 w3 := hb2.trans (hb3.mono hb2.size)
          have hn3 := (hb23.block N hNlt).trans HN0.out
          have hN3 : N < w3.heap.size := Nat.lt_of_lt_of_le hNlt hb23.size
          have hl3 : w2.heap.size < w3.heap.size := (Array.getElem?_eq_some_iff.1 hx3).1
          have HX3 := Lib.hid hx3
          have HX4 := Lib.hid (set4_at rfl hn3 (.int .i64 x.h.kind) (.string x.h.a) (.string x.h.b) (.slice x.a x.ps.length x.cap))
          have HB4 := Lib.hid (set4_below (HB0.out.trans (hb23.mono HB0.out.size)) hwN (.int .i64 x.h.kind) (.string x.h.a) (.string x.h.b) (.slice x.a x.ps.length x.cap))
          have HNl := Lib.hid hn3
          have HRes := Lib.hid (show (ok = false ∧ g T' = none) ∨ (ok = true ∧ ∃ U, g T' = some (x.tree, U) ∧ ruEAt (fun b => W0.heap.size ≤ b) w3 x ∧ Seg B w3 ra rm rc U) from by
            rcases hres with h | ⟨h1, U, h2, h3, h4⟩
            · exact .inl h
            · exact .inr ⟨h1, U, h2, ruE_keep.keep _ _ _ _ (Keeps.of_below_size hb3) h3, h4.keep (hb3.mono (by have := hb2.size; omega))⟩)
          have HW3 := Lib.hid hw3
          clear hb2 hres hw3 hb3 hx3 hb23 hn3 HC k0 k1 k2 k3 kf
          go_upto_region 7 with fail
          rw [← HW3.out]
          clear HW3
          have x0 := Lib.cell_of_heap HX3.out 0; have x1 := Lib.cell_of_heap HX3.out 1; have x2 := Lib.cell_of_heap HX3.out 2; have x3 := Lib.cell_of_heap HX3.out 3
          have k0 := Lib.cell_of_heap HNl.out 0; have k1 := Lib.cell_of_heap HNl.out 1; have k2 := Lib.cell_of_heap HNl.out 2; have k3 := Lib.cell_of_heap HNl.out 3
          have kf := Lib.frozen_of_heap HNl.out
          simp at x0 x1 x2 x3 k0 k1 k2 k3
          cases ok with
          | false =>
            have HNo := Lib.hid (show oneGf g (s :: T') = none by
              rcases HRes.out with h | h
              · rw [HR.out, h.2]
              · cases h.1)
            go_wp2
            exact bodyPost_ret (ret_ru3 Tryd.results63 rfl HX4.out) rfl (sv_no HNo.out HB4.out hrc1 hrc2 ⟨rfl, rfl, rfl, rfl, rfl, rfl⟩)
          | true =>
            obtain ⟨U, hgU, hat, hseg⟩ : ∃ U, g T' = some (x.tree, U) ∧ ruEAt (fun b => W0.heap.size ≤ b) w3 x ∧ Seg B w3 ra rm rc U := by
              rcases HRes.out with h | h
              · cases h.1
              · exact h.2
            have HAt := Lib.hid hat
            have HSg := Lib.hid hseg
            have hRg := HR.out
            rw [hgU] at hRg
            dsimp only at hRg
            have HRg := Lib.hid hRg
            clear hgU hat hseg hRg HRes HR
            cases U with
            | nil =>
              have hrm : rm = 0 := HSg.out.len
              subst hrm
              have HNo := Lib.hid (show oneGf g (s :: T') = none by rw [HRg.out, if_neg (hd_none (by decide))])
              go_wp2
              exact bodyPost_ret (ret_ru3 Tryd.results63 rfl HX4.out) rfl (sv_no HNo.out HB4.out hrc1 hrc2 ⟨rfl, rfl, rfl, rfl, rfl, rfl⟩)
            | cons u U' =>
              have HRm := Lib.hid (show rm = U'.length + 1 from HSg.out.len)
              have hrm1 : 1 ≤ rm := by rw [HRm.out]; omega
              have hrm1I : (1 : Int) ≤ rm := by omega
              have hrm0I : (0 : Int) < rm := by omega
              have hrmn : ((rm : Int) == 0) = false := by simp; omega
              obtain ⟨rb, roff, rfl, hrbB, hrbl, kr⟩ := HSg.out.head
              have HEq2 := Lib.hid (fun l => streq u l)
              by_cases hsh : u = cShut
              · have hue : (u.toList == [41]) = true := by rw [HEq2.out]; exact decide_eq_true (show u = tk [41] from hsh)
                have hun : (u.toList != [41]) = false := by rw [bne, hue]; rfl
                by_cases hrc : rc = 1
                · have hcu := HSg.out.cut 1 hrm1 roff (fun h => absurd hrc h)
                  subst hrc
                  have hrE : rm = 1 := by omega
                  subst hrE
                  clear hrm1I hrm0I hrmn
                  have HCu2 := Lib.hid hcu
                  clear hcu
                  have hat4 := ruE_keep.keep _ _ _ _ (set4_keeps w3 N (.int .i64 x.h.kind) (.string x.h.a) (.string x.h.b) (.slice x.a x.ps.length x.cap)) (ruE_keep.mono _ (fun b => N + 1 ≤ b) _ _ (fun b _ hb => Nat.le_trans s0 hb) HAt.out)
                  have hsg4 := HCu2.out.keep (set4_below (Below.refl B w3) (show B ≤ N by omega) (.int .i64 x.h.kind) (.string x.h.a) (.string x.h.b) (.slice x.a x.ps.length x.cap))
                  have HPost := Lib.hid (sv_drew (sv_yes (show oneGf g (s :: T') = some (x.tree, U') by rw [HRg.out, if_pos (show (u :: U').headD cNone = cShut from hsh)]; rfl) HB4.out (ruE_keep.mono _ _ _ _ (fun b _ hb => (by have : N + 1 ≤ b := hb; show w.heap.size ≤ b; omega)) hat4) hsg4))
                  clear hat4 hsg4 hsh
                  go_upto_region 9 with fail
                  go_region
                  go_wp2
                  exact bodyPost_ret (ret_ru3 Tryd.results63 rfl HX4.out) rfl HPost.out
                · have hcu := HSg.out.cut 1 hrm1 (roff + 1) (fun _ => rfl)
                  have HCu2 := Lib.hid hcu
                  clear hcu
                  have hat4 := ruE_keep.keep _ _ _ _ (set4_keeps w3 N (.int .i64 x.h.kind) (.string x.h.a) (.string x.h.b) (.slice x.a x.ps.length x.cap)) (ruE_keep.mono _ (fun b => N + 1 ≤ b) _ _ (fun b _ hb => Nat.le_trans s0 hb) HAt.out)
                  have hsg4 := HCu2.out.keep (set4_below (Below.refl B w3) (show B ≤ N by omega) (.int .i64 x.h.kind) (.string x.h.a) (.string x.h.b) (.slice x.a x.ps.length x.cap))
                  have HPost := Lib.hid (sv_drew (sv_yes (show oneGf g (s :: T') = some (x.tree, U') by rw [HRg.out, if_pos (show (u :: U').headD cNone = cShut from hsh)]; rfl) HB4.out (ruE_keep.mono _ _ _ _ (fun b _ hb => (by have : N + 1 ≤ b := hb; show w.heap.size ≤ b; omega)) hat4) hsg4))
                  clear hat4 hsg4 hsh
                  go_upto_region 9 with fail
                  go_region
                  go_wp2
                  exact bodyPost_ret (ret_ru3 Tryd.results63 rfl HX4.out) rfl HPost.out
              · have hue : (u.toList == [41]) = false := by rw [HEq2.out]; exact decide_eq_false (show ¬ u = tk [41] from hsh)
                have hun : (u.toList != [41]) = true := by rw [bne, hue]; rfl
                have HNo := Lib.hid (show oneGf g (s :: T') = none by rw [HRg.out, if_neg (show ¬ (u :: U').headD cNone = cShut from hsh)])
                clear hsh
                go_wp2
                exact bodyPost_ret (ret_ru3 Tryd.results63 rfl HX4.out) rfl (sv_no HNo.out HB4.out hrc1 hrc2 ⟨rfl, rfl, rfl, rfl, rfl, rfl⟩)
    · have hqe : (s.toList == [40]) = false := by rw [HEq.out]; exact decide_eq_false (show ¬ s = tk [40] from hop)
      have HNm := Lib.hid (refname_any W0 s hsz)
      cases hnm : nameB s with
      | false =>
        have HNo := Lib.hid (show oneGf g (s :: T') = none by rw [oneGf, if_neg hop, if_neg (by rw [hnm]; decide)])
        rw [hnm] at HNm
        clear hop hnm
        go_wp2_with (go_at_call 21; go_must (refine HNm.out.mono ?_))
        rintro e w2 ⟨rfl, rfl⟩
        clear HNm
        go_wp2
        exact bodyPost_ret (ret_ru3 Tryd.results63 rfl HXz.out) rfl (sv_none HNo.out HBz.out hmc (by unfold maxLen; omega))
      | true =>
        have HR := Lib.hid (show oneGf g (s :: T') = (if T'.headD cNone = cArrow ∧ nameB (T'.tail.headD cNone) = true ∧ s ≠ cThis ∧ T'.tail.headD cNone ≠ cThis then some (leafR 3 s (T'.tail.headD cNone), T'.tail.tail)
          else if s = cThis then some (leafR 1 cNone cNone, T') else some (leafR 2 s cNone, T')) by rw [oneGf, if_neg hop, if_pos hnm])
        rw [hnm] at HNm
        clear hop hnm
        go_wp2_with (go_at_call 21; go_must (refine HNm.out.mono ?_))
        rintro e w2 ⟨rfl, rfl⟩
        clear HNm
        cases T' with
        | nil =>
          have h3 : ¬ (3 : Int) ≤ m := by rw [HM.out]; simp
          have h3z : True := trivial
          by_cases hth : s = cThis
          · have hte : (s.toList == [116, 104, 105, 115]) = true := by rw [HEq.out]; exact decide_eq_true (show s = tk [116, 104, 105, 115] from hth)
            have HX4 := Lib.hid (set4_at rfl HN0.out (.int .i64 1) (.string ⟨#[]⟩) (.string ⟨#[]⟩) (.slice none 0 0))
            have HRr := Lib.hid (show oneGf g (s :: []) = some (leafR 1 cNone cNone, []) by rw [HR.out, if_neg (fun h => absurd h.1 (by decide)), if_pos hth])
            clear hth
            by_cases hcK : c = 1
            · have hcut := HSeg.out.cut 1 hm1 off (fun h => absurd hcK h)
              subst hcK
              have hmE : m = 1 := by omega
              subst hmE
              clear hm1I hm0I hmn
              have HCut := Lib.hid hcut
              clear hcut
              have HPost := Lib.hid (sv_drew (sv_yes (x := ⟨⟨1, ⟨#[]⟩, ⟨#[]⟩⟩, [], none, 0⟩) HRr.out (set4_below HB0.out hwN (.int .i64 1) (.string ⟨#[]⟩) (.string ⟨#[]⟩) (.slice none 0 0)) (ruE_leaf _ _ _) (HCut.out.keep (set4_below (Below.refl B _) (show B ≤ N by omega) (.int .i64 1) (.string ⟨#[]⟩) (.string ⟨#[]⟩) (.slice none 0 0)))))
              go_upto_region 15 with fail
              go_region
              go_wp2
              exact bodyPost_ret (ret_ru3 Tryd.results63 rfl HX4.out) rfl HPost.out
            · have hcut := HSeg.out.cut 1 hm1 (off + 1) (fun _ => rfl)
              have HCut := Lib.hid hcut
              clear hcut
              have HPost := Lib.hid (sv_drew (sv_yes (x := ⟨⟨1, ⟨#[]⟩, ⟨#[]⟩⟩, [], none, 0⟩) HRr.out (set4_below HB0.out hwN (.int .i64 1) (.string ⟨#[]⟩) (.string ⟨#[]⟩) (.slice none 0 0)) (ruE_leaf _ _ _) (HCut.out.keep (set4_below (Below.refl B _) (show B ≤ N by omega) (.int .i64 1) (.string ⟨#[]⟩) (.string ⟨#[]⟩) (.slice none 0 0)))))
              go_upto_region 15 with fail
              go_region
              go_wp2
              exact bodyPost_ret (ret_ru3 Tryd.results63 rfl HX4.out) rfl HPost.out
          · have hte : (s.toList == [116, 104, 105, 115]) = false := by rw [HEq.out]; exact decide_eq_false (show ¬ s = tk [116, 104, 105, 115] from hth)
            have HX4 := Lib.hid (set4_at rfl HN0.out (.int .i64 2) (.string s) (.string ⟨#[]⟩) (.slice none 0 0))
            have HRr := Lib.hid (show oneGf g (s :: []) = some (leafR 2 s cNone, []) by rw [HR.out, if_neg (fun h => absurd h.1 (by decide)), if_neg hth])
            clear hth
            by_cases hcK : c = 1
            · have hcut := HSeg.out.cut 1 hm1 off (fun h => absurd hcK h)
              subst hcK
              have hmE : m = 1 := by omega
              subst hmE
              clear hm1I hm0I hmn
              have HCut := Lib.hid hcut
              clear hcut
              have HPost := Lib.hid (sv_drew (sv_yes (x := ⟨⟨2, s, ⟨#[]⟩⟩, [], none, 0⟩) HRr.out (set4_below HB0.out hwN (.int .i64 2) (.string s) (.string ⟨#[]⟩) (.slice none 0 0)) (ruE_leaf _ _ _) (HCut.out.keep (set4_below (Below.refl B _) (show B ≤ N by omega) (.int .i64 2) (.string s) (.string ⟨#[]⟩) (.slice none 0 0)))))
              go_upto_region 16 with fail
              go_region
              go_wp2
              exact bodyPost_ret (ret_ru3 Tryd.results63 rfl HX4.out) rfl HPost.out
            · have hcut := HSeg.out.cut 1 hm1 (off + 1) (fun _ => rfl)
              have HCut := Lib.hid hcut
              clear hcut
              have HPost := Lib.hid (sv_drew (sv_yes (x := ⟨⟨2, s, ⟨#[]⟩⟩, [], none, 0⟩) HRr.out (set4_below HB0.out hwN (.int .i64 2) (.string s) (.string ⟨#[]⟩) (.slice none 0 0)) (ruE_leaf _ _ _) (HCut.out.keep (set4_below (Below.refl B _) (show B ≤ N by omega) (.int .i64 2) (.string s) (.string ⟨#[]⟩) (.slice none 0 0)))))
              go_upto_region 16 with fail
              go_region
              go_wp2
              exact bodyPost_ret (ret_ru3 Tryd.results63 rfl HX4.out) rfl HPost.out
        | cons t1 T1 =>
          cases T1 with
          | nil =>
            have h3 : ¬ (3 : Int) ≤ m := by rw [HM.out]; simp
            have hm2 : 2 ≤ m := by rw [HM.out]; simp
            by_cases hth : s = cThis
            · have hte : (s.toList == [116, 104, 105, 115]) = true := by rw [HEq.out]; exact decide_eq_true (show s = tk [116, 104, 105, 115] from hth)
              have HX4 := Lib.hid (set4_at rfl HN0.out (.int .i64 1) (.string ⟨#[]⟩) (.string ⟨#[]⟩) (.slice none 0 0))
              have HRr := Lib.hid (show oneGf g (s :: [t1]) = some (leafR 1 cNone cNone, [t1]) by rw [HR.out, if_neg (fun h => absurd h.2.1 (by show ¬ nameB cNone = true; decide)), if_pos hth])
              clear hth
              have hcK : c ≠ 1 := by omega
              have hcut := HSeg.out.cut 1 hm1 (off + 1) (fun _ => rfl)
              have HCut := Lib.hid hcut
              clear hcut
              have HPost := Lib.hid (sv_drew (sv_yes (x := ⟨⟨1, ⟨#[]⟩, ⟨#[]⟩⟩, [], none, 0⟩) HRr.out (set4_below HB0.out hwN (.int .i64 1) (.string ⟨#[]⟩) (.string ⟨#[]⟩) (.slice none 0 0)) (ruE_leaf _ _ _) (HCut.out.keep (set4_below (Below.refl B _) (show B ≤ N by omega) (.int .i64 1) (.string ⟨#[]⟩) (.string ⟨#[]⟩) (.slice none 0 0)))))
              go_upto_region 15 with fail
              go_region
              go_wp2
              exact bodyPost_ret (ret_ru3 Tryd.results63 rfl HX4.out) rfl HPost.out
            · have hte : (s.toList == [116, 104, 105, 115]) = false := by rw [HEq.out]; exact decide_eq_false (show ¬ s = tk [116, 104, 105, 115] from hth)
              have HX4 := Lib.hid (set4_at rfl HN0.out (.int .i64 2) (.string s) (.string ⟨#[]⟩) (.slice none 0 0))
              have HRr := Lib.hid (show oneGf g (s :: [t1]) = some (leafR 2 s cNone, [t1]) by rw [HR.out, if_neg (fun h => absurd h.2.1 (by show ¬ nameB cNone = true; decide)), if_neg hth])
              clear hth
              have hcK : c ≠ 1 := by omega
              have hcut := HSeg.out.cut 1 hm1 (off + 1) (fun _ => rfl)
              have HCut := Lib.hid hcut
              clear hcut
              have HPost := Lib.hid (sv_drew (sv_yes (x := ⟨⟨2, s, ⟨#[]⟩⟩, [], none, 0⟩) HRr.out (set4_below HB0.out hwN (.int .i64 2) (.string s) (.string ⟨#[]⟩) (.slice none 0 0)) (ruE_leaf _ _ _) (HCut.out.keep (set4_below (Below.refl B _) (show B ≤ N by omega) (.int .i64 2) (.string s) (.string ⟨#[]⟩) (.slice none 0 0)))))
              go_upto_region 16 with fail
              go_region
              go_wp2
              exact bodyPost_ret (ret_ru3 Tryd.results63 rfl HX4.out) rfl HPost.out
          | cons t2 T2 =>
            have h3 : (3 : Int) ≤ m := by rw [HM.out]; simp; omega
            have h3n : 3 ≤ m := by omega
            have h1l : (1 : Int) < m := by omega
            have h2l : (2 : Int) < m := by omega
            obtain ⟨b', off', e1, _, _, kc1⟩ := HSeg.out.at' 1 t1 rfl
            cases e1
            obtain ⟨b', off', e1, _, _, kc2⟩ := HSeg.out.at' 2 t2 rfl
            cases e1
            have ht2 : t2.size ≤ 1000000000 := by
              have h := HT.out
              rw [wtT_cons, wtT_cons, wtT_cons] at h
              omega
            have HEq1 := Lib.hid (fun l => streq t1 l)
            have HEq2 := Lib.hid (fun l => streq t2 l)
            by_cases har : t1 = cArrow
            · have hae : (t1.toList == [45, 62]) = true := by rw [HEq1.out]; exact decide_eq_true (show t1 = tk [45, 62] from har)
              have HNm := Lib.hid (refname_any W0 t2 ht2)
              by_cases hsT : s = cThis
              · have hse : (s.toList == [116, 104, 105, 115]) = true := by rw [HEq.out]; exact decide_eq_true (show s = tk [116, 104, 105, 115] from hsT)
                have hsn : (s.toList != [116, 104, 105, 115]) = false := by rw [bne, hse]; rfl
                have HNv := Lib.hid (show ¬ ((t1 :: t2 :: T2).headD cNone = cArrow ∧ nameB ((t1 :: t2 :: T2).tail.headD cNone) = true ∧ s ≠ cThis ∧ (t1 :: t2 :: T2).tail.headD cNone ≠ cThis) from fun h => h.2.2.1 hsT)
                cases hn2 : nameB t2 with
                | false =>
                  rw [hn2] at HNm
                  clear hn2 har
                  have hte : (s.toList == [116, 104, 105, 115]) = true := by rw [HEq.out]; exact decide_eq_true (show s = tk [116, 104, 105, 115] from hsT)
                  have HX4 := Lib.hid (set4_at rfl HN0.out (.int .i64 1) (.string ⟨#[]⟩) (.string ⟨#[]⟩) (.slice none 0 0))
                  have HRr := Lib.hid (show oneGf g (s :: t1 :: t2 :: T2) = some (leafR 1 cNone cNone, t1 :: t2 :: T2) by rw [HR.out, if_neg (HNv.out), if_pos hsT])
                  clear hsT
                  have hcK : c ≠ 1 := by omega
                  have hcut := HSeg.out.cut 1 hm1 (off + 1) (fun _ => rfl)
                  have HCut := Lib.hid hcut
                  clear hcut
                  have HPost := Lib.hid (sv_drew (sv_yes (x := ⟨⟨1, ⟨#[]⟩, ⟨#[]⟩⟩, [], none, 0⟩) HRr.out (set4_below HB0.out hwN (.int .i64 1) (.string ⟨#[]⟩) (.string ⟨#[]⟩) (.slice none 0 0)) (ruE_leaf _ _ _) (HCut.out.keep (set4_below (Below.refl B _) (show B ≤ N by omega) (.int .i64 1) (.string ⟨#[]⟩) (.string ⟨#[]⟩) (.slice none 0 0)))))
                  go_wp2_with (go_at_call 21; go_must (refine HNm.out.mono ?_))
                  rintro e w2 ⟨rfl, rfl⟩
                  clear HNm
                  go_upto_region 15 with fail
                  go_region
                  go_wp2
                  exact bodyPost_ret (ret_ru3 Tryd.results63 rfl HX4.out) rfl HPost.out
                | true =>
                  rw [hn2] at HNm
                  clear hn2 har
                  have hte : (s.toList == [116, 104, 105, 115]) = true := by rw [HEq.out]; exact decide_eq_true (show s = tk [116, 104, 105, 115] from hsT)
                  have HX4 := Lib.hid (set4_at rfl HN0.out (.int .i64 1) (.string ⟨#[]⟩) (.string ⟨#[]⟩) (.slice none 0 0))
                  have HRr := Lib.hid (show oneGf g (s :: t1 :: t2 :: T2) = some (leafR 1 cNone cNone, t1 :: t2 :: T2) by rw [HR.out, if_neg (HNv.out), if_pos hsT])
                  clear hsT
                  have hcK : c ≠ 1 := by omega
                  have hcut := HSeg.out.cut 1 hm1 (off + 1) (fun _ => rfl)
                  have HCut := Lib.hid hcut
                  clear hcut
                  have HPost := Lib.hid (sv_drew (sv_yes (x := ⟨⟨1, ⟨#[]⟩, ⟨#[]⟩⟩, [], none, 0⟩) HRr.out (set4_below HB0.out hwN (.int .i64 1) (.string ⟨#[]⟩) (.string ⟨#[]⟩) (.slice none 0 0)) (ruE_leaf _ _ _) (HCut.out.keep (set4_below (Below.refl B _) (show B ≤ N by omega) (.int .i64 1) (.string ⟨#[]⟩) (.string ⟨#[]⟩) (.slice none 0 0)))))
                  go_wp2_with (go_at_call 21; go_must (refine HNm.out.mono ?_))
                  rintro e w2 ⟨rfl, rfl⟩
                  clear HNm
                  go_upto_region 15 with fail
                  go_region
                  go_wp2
                  exact bodyPost_ret (ret_ru3 Tryd.results63 rfl HX4.out) rfl HPost.out
              · have hse : (s.toList == [116, 104, 105, 115]) = false := by rw [HEq.out]; exact decide_eq_false (show ¬ s = tk [116, 104, 105, 115] from hsT)
                have hsn : (s.toList != [116, 104, 105, 115]) = true := by rw [bne, hse]; rfl
                cases hn2 : nameB t2 with
                | false =>
                  have HNv := Lib.hid (show ¬ ((t1 :: t2 :: T2).headD cNone = cArrow ∧ nameB ((t1 :: t2 :: T2).tail.headD cNone) = true ∧ s ≠ cThis ∧ (t1 :: t2 :: T2).tail.headD cNone ≠ cThis) from fun h => by have h2 : nameB t2 = true := h.2.1; rw [hn2] at h2; cases h2)
                  rw [hn2] at HNm
                  clear hn2 har
                  have hte : (s.toList == [116, 104, 105, 115]) = false := by rw [HEq.out]; exact decide_eq_false (show ¬ s = tk [116, 104, 105, 115] from hsT)
                  have HX4 := Lib.hid (set4_at rfl HN0.out (.int .i64 2) (.string s) (.string ⟨#[]⟩) (.slice none 0 0))
                  have HRr := Lib.hid (show oneGf g (s :: t1 :: t2 :: T2) = some (leafR 2 s cNone, t1 :: t2 :: T2) by rw [HR.out, if_neg (HNv.out), if_neg hsT])
                  clear hsT
                  have hcK : c ≠ 1 := by omega
                  have hcut := HSeg.out.cut 1 hm1 (off + 1) (fun _ => rfl)
                  have HCut := Lib.hid hcut
                  clear hcut
                  have HPost := Lib.hid (sv_drew (sv_yes (x := ⟨⟨2, s, ⟨#[]⟩⟩, [], none, 0⟩) HRr.out (set4_below HB0.out hwN (.int .i64 2) (.string s) (.string ⟨#[]⟩) (.slice none 0 0)) (ruE_leaf _ _ _) (HCut.out.keep (set4_below (Below.refl B _) (show B ≤ N by omega) (.int .i64 2) (.string s) (.string ⟨#[]⟩) (.slice none 0 0)))))
                  go_wp2_with (go_at_call 21; go_must (refine HNm.out.mono ?_))
                  rintro e w2 ⟨rfl, rfl⟩
                  clear HNm
                  go_upto_region 16 with fail
                  go_region
                  go_wp2
                  exact bodyPost_ret (ret_ru3 Tryd.results63 rfl HX4.out) rfl HPost.out
                | true =>
                  rw [hn2] at HNm
                  by_cases htT : t2 = cThis
                  · have h2e : (t2.toList == [116, 104, 105, 115]) = true := by rw [HEq2.out]; exact decide_eq_true (show t2 = tk [116, 104, 105, 115] from htT)
                    have h2n : (t2.toList != [116, 104, 105, 115]) = false := by rw [bne, h2e]; rfl
                    have HNv := Lib.hid (show ¬ ((t1 :: t2 :: T2).headD cNone = cArrow ∧ nameB ((t1 :: t2 :: T2).tail.headD cNone) = true ∧ s ≠ cThis ∧ (t1 :: t2 :: T2).tail.headD cNone ≠ cThis) from fun h => h.2.2.2 htT)
                    clear hn2 har htT
                    have hte : (s.toList == [116, 104, 105, 115]) = false := by rw [HEq.out]; exact decide_eq_false (show ¬ s = tk [116, 104, 105, 115] from hsT)
                    have HX4 := Lib.hid (set4_at rfl HN0.out (.int .i64 2) (.string s) (.string ⟨#[]⟩) (.slice none 0 0))
                    have HRr := Lib.hid (show oneGf g (s :: t1 :: t2 :: T2) = some (leafR 2 s cNone, t1 :: t2 :: T2) by rw [HR.out, if_neg (HNv.out), if_neg hsT])
                    clear hsT
                    have hcK : c ≠ 1 := by omega
                    have hcut := HSeg.out.cut 1 hm1 (off + 1) (fun _ => rfl)
                    have HCut := Lib.hid hcut
                    clear hcut
                    have HPost := Lib.hid (sv_drew (sv_yes (x := ⟨⟨2, s, ⟨#[]⟩⟩, [], none, 0⟩) HRr.out (set4_below HB0.out hwN (.int .i64 2) (.string s) (.string ⟨#[]⟩) (.slice none 0 0)) (ruE_leaf _ _ _) (HCut.out.keep (set4_below (Below.refl B _) (show B ≤ N by omega) (.int .i64 2) (.string s) (.string ⟨#[]⟩) (.slice none 0 0)))))
                    go_wp2_with (go_at_call 21; go_must (refine HNm.out.mono ?_))
                    rintro e w2 ⟨rfl, rfl⟩
                    clear HNm
                    go_upto_region 16 with fail
                    go_region
                    go_wp2
                    exact bodyPost_ret (ret_ru3 Tryd.results63 rfl HX4.out) rfl HPost.out
                  · have h2e : (t2.toList == [116, 104, 105, 115]) = false := by rw [HEq2.out]; exact decide_eq_false (show ¬ t2 = tk [116, 104, 105, 115] from htT)
                    have h2n : (t2.toList != [116, 104, 105, 115]) = true := by rw [bne, h2e]; rfl
                    have HX4 := Lib.hid (set4_at rfl HN0.out (.int .i64 3) (.string s) (.string t2) (.slice none 0 0))
                    have HRr := Lib.hid (show oneGf g (s :: t1 :: t2 :: T2) = some (leafR 3 s t2, T2) by rw [HR.out, if_pos ⟨har, hn2, hsT, htT⟩]; rfl)
                    clear har hn2 hsT htT
                    go_wp2_with (go_at_call 21; go_must (refine HNm.out.mono ?_))
                    rintro e w2 ⟨rfl, rfl⟩
                    clear HNm
                    by_cases hcK : c = 3
                    · have hcut := HSeg.out.cut 3 h3n off (fun h => absurd hcK h)
                      subst hcK
                      have hmE : m = 3 := by omega
                      subst hmE
                      clear hm1I hm0I hmn h3 h1l h2l
                      have HCut := Lib.hid hcut
                      clear hcut
                      have HPost := Lib.hid (sv_drew (sv_yes (x := ⟨⟨3, s, t2⟩, [], none, 0⟩) HRr.out (set4_below HB0.out hwN (.int .i64 3) (.string s) (.string t2) (.slice none 0 0)) (ruE_leaf _ _ _) (HCut.out.keep (set4_below (Below.refl B _) (show B ≤ N by omega) (.int .i64 3) (.string s) (.string t2) (.slice none 0 0)))))
                      go_upto_region 13 with fail
                      go_region
                      go_wp2
                      exact bodyPost_ret (ret_ru3 Tryd.results63 rfl HX4.out) rfl HPost.out
                    · have hcut := HSeg.out.cut 3 h3n (off + 3) (fun _ => rfl)
                      have HCut := Lib.hid hcut
                      clear hcut
                      have HPost := Lib.hid (sv_drew (sv_yes (x := ⟨⟨3, s, t2⟩, [], none, 0⟩) HRr.out (set4_below HB0.out hwN (.int .i64 3) (.string s) (.string t2) (.slice none 0 0)) (ruE_leaf _ _ _) (HCut.out.keep (set4_below (Below.refl B _) (show B ≤ N by omega) (.int .i64 3) (.string s) (.string t2) (.slice none 0 0)))))
                      go_upto_region 13 with fail
                      go_region
                      go_wp2
                      exact bodyPost_ret (ret_ru3 Tryd.results63 rfl HX4.out) rfl HPost.out
            · have hae : (t1.toList == [45, 62]) = false := by rw [HEq1.out]; exact decide_eq_false (show ¬ t1 = tk [45, 62] from har)
              by_cases hth : s = cThis
              · have hte : (s.toList == [116, 104, 105, 115]) = true := by rw [HEq.out]; exact decide_eq_true (show s = tk [116, 104, 105, 115] from hth)
                have HX4 := Lib.hid (set4_at rfl HN0.out (.int .i64 1) (.string ⟨#[]⟩) (.string ⟨#[]⟩) (.slice none 0 0))
                have HRr := Lib.hid (show oneGf g (s :: t1 :: t2 :: T2) = some (leafR 1 cNone cNone, t1 :: t2 :: T2) by rw [HR.out, if_neg (fun h => har h.1), if_pos hth])
                clear hth
                have hcK : c ≠ 1 := by omega
                have hcut := HSeg.out.cut 1 hm1 (off + 1) (fun _ => rfl)
                have HCut := Lib.hid hcut
                clear hcut
                have HPost := Lib.hid (sv_drew (sv_yes (x := ⟨⟨1, ⟨#[]⟩, ⟨#[]⟩⟩, [], none, 0⟩) HRr.out (set4_below HB0.out hwN (.int .i64 1) (.string ⟨#[]⟩) (.string ⟨#[]⟩) (.slice none 0 0)) (ruE_leaf _ _ _) (HCut.out.keep (set4_below (Below.refl B _) (show B ≤ N by omega) (.int .i64 1) (.string ⟨#[]⟩) (.string ⟨#[]⟩) (.slice none 0 0)))))
                go_upto_region 15 with fail
                go_region
                go_wp2
                exact bodyPost_ret (ret_ru3 Tryd.results63 rfl HX4.out) rfl HPost.out
              · have hte : (s.toList == [116, 104, 105, 115]) = false := by rw [HEq.out]; exact decide_eq_false (show ¬ s = tk [116, 104, 105, 115] from hth)
                have HX4 := Lib.hid (set4_at rfl HN0.out (.int .i64 2) (.string s) (.string ⟨#[]⟩) (.slice none 0 0))
                have HRr := Lib.hid (show oneGf g (s :: t1 :: t2 :: T2) = some (leafR 2 s cNone, t1 :: t2 :: T2) by rw [HR.out, if_neg (fun h => har h.1), if_neg hth])
                clear hth
                have hcK : c ≠ 1 := by omega
                have hcut := HSeg.out.cut 1 hm1 (off + 1) (fun _ => rfl)
                have HCut := Lib.hid hcut
                clear hcut
                have HPost := Lib.hid (sv_drew (sv_yes (x := ⟨⟨2, s, ⟨#[]⟩⟩, [], none, 0⟩) HRr.out (set4_below HB0.out hwN (.int .i64 2) (.string s) (.string ⟨#[]⟩) (.slice none 0 0)) (ruE_leaf _ _ _) (HCut.out.keep (set4_below (Below.refl B _) (show B ≤ N by omega) (.int .i64 2) (.string s) (.string ⟨#[]⟩) (.slice none 0 0)))))
                go_upto_region 16 with fail
                go_region
                go_wp2
                exact bodyPost_ret (ret_ru3 Tryd.results63 rfl HX4.out) rfl HPost.out

theorem refone_any : ∀ (n d : Nat), d + n = 8 → POne (d : Int) (oneG n)
  | 0, d, h => refone_step _ d (by omega) (fun _ _ => rfl) (fun hlt => by omega)
  | n + 1, d, h => refone_step _ d (by omega) (fun hlt => by omega) (fun _ => by
    have h1 := refrule_any n ((d + 1 : Nat) : Int) (refone_any n (d + 1) (by omega))
    rw [show ((d : Int) + 1) = ((d + 1 : Nat) : Int) by omega]
    exact h1)
theorem refrule_all : PRule 0 (ruleG 8) := refrule_any 8 0 (refone_any 8 0 rfl)
end Go.Proofs.YtopnldebekhelaaDoor
