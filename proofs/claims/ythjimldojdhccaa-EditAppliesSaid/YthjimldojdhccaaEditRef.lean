/- The reference's Less and Check. -/
import Derived.Test.YthjimldojdhccaaEditApply
namespace Go.Proofs.Ythjimldojdhccaa
open Go Go.RowKit Go.Lib

def refFol (u t : Tb) : Bool := tlt u t && !(decide (u.lev = t.lev) && decide (0 < t.lev) && !bl u.last t.first)

theorem fol_ref {u t : Tb} {next : Int} (hn : u.num ≠ t.num) (hu : mayT u next = true) (ht : mayT t next = true) : folT u t = refFol u t := by
  have h1 : leB u.first u.last = true := by
    unfold mayT at hu
    rw [Bool.and_eq_true] at hu
    exact hu.2
  have h2 : 0 ≤ t.lev := by
    unfold mayT at ht
    simp only [Bool.and_eq_true, decide_eq_true_eq] at ht
    exact ht.1.1.1.1.2
  have hp : plc u t = if compareInt u.lev t.lev = 0 then (if u.lev = 0 then compareInt u.num t.num else cmpS u.first t.first) else compareInt u.lev t.lev := rfl
  rw [Bool.eq_iff_iff]
  unfold folT refFol
  simp only [Bool.and_eq_true, Bool.or_eq_true, decide_eq_true_eq, tlt_iff, Bool.not_eq_true', Bool.and_eq_false_iff, decide_eq_false_iff_not, Bool.not_eq_false']
  generalize plc u t = P at *
  have z1 := cmpI_zero u.lev t.lev
  have l1 := cmpI_lt u.lev t.lev
  have z2 := cmpI_zero u.num t.num
  have l2 := cmpI_lt u.num t.num
  have l3 := cmpS_lt u.first t.first
  by_cases hl : u.lev = t.lev
  · rw [if_pos (z1.2 hl)] at hp
    by_cases h0 : u.lev = 0
    · rw [if_pos h0] at hp
      have : ¬ (0 : Int) < t.lev := by omega
      simp [hl, this]
      have h0' : t.lev = 0 := by omega
      simp [h0']
      have : compareInt u.num t.num ≠ 0 := fun e => hn (z2.1 e)
      omega
    · rw [if_neg h0] at hp
      have h3 : (0 : Int) < t.lev := by omega
      have h4 : t.lev ≠ 0 := by omega
      simp [hl, h3, h4]
      intro hb
      have hlt : bl u.first t.first = true := by
        unfold leB at h1
        have h1' : bl u.last u.first = false := by simpa using h1
        by_cases he : u.first = u.last
        · rw [he]; exact hb
        · exact bl_trans (bl_ge h1' (fun e => he e.symm)) hb
      have h5 := l3.2 hlt
      exact ⟨fun _ => .inl hlt, fun _ => by omega⟩
  · rw [if_neg (fun e => hl (z1.1 e))] at hp
    simp [hl]
    have : compareInt u.lev t.lev ≠ 0 := fun e => hl (z1.1 e)
    omega

set_option maxRecDepth 100000 in
set_option maxHeartbeats 1000000 in
theorem less_any (w : World) (a b : Tb) : Calls Try.prog 36 #[tv a, tv b] w (GrowsBool w (tlt a b)) := by
  have ht : tlt a b = if a.lev ≠ b.lev then decide (a.lev < b.lev) else if a.lev = 0 ∨ a.first = b.first then decide (a.num < b.num) else bl a.first b.first := rfl
  have hb : Op.bytesLess a.first.toList b.first.toList = bl a.first b.first := bl_spell _ _
  have he : (a.first.toList == b.first.toList) = decide (a.first = b.first) := by
    by_cases h : a.first = b.first
    · simp [h]
    · have : a.first.toList ≠ b.first.toList := fun h' => h (Go.WideShapes.bytes_inj (by rw [← Go.ByteArray.toList_eq, ← Go.ByteArray.toList_eq]; exact h'))
      simp [h, this]
  obtain ⟨an, al, az, af, at'⟩ := a
  obtain ⟨bn, bl', bz, bf, bt⟩ := b
  simp only [tv] at *
  have HT := Lib.hid ht
  clear ht
  go_enter Try.func36, Try.ntmps36
  by_cases hl : al = bl'
  · subst hl
    by_cases h0 : al = 0
    · subst h0
      have HE := Lib.hid (HT.out.trans (by simp : _ = decide (an < bn)))
      go_wp2
      go_ret
      exact ⟨by rw [HE.out]; rfl, _, grow_two _ _ _⟩
    · have hI : (al == 0) = false := by simp [h0]
      by_cases hf : af = bf
      · subst hf
        have hJ : (af.toList == af.toList) = true := by simp
        have HE := Lib.hid (HT.out.trans (by simp [h0] : _ = decide (an < bn)))
        clear he
        go_wp2
        go_ret
        exact ⟨by rw [HE.out]; rfl, _, grow_two _ _ _⟩
      · have hJ : (af.toList == bf.toList) = false := by rw [he]; simp [hf]
        have HE := Lib.hid (HT.out.trans (by simp [h0, hf] : _ = bl af bf))
        clear he
        go_wp2
        go_ret
        exact ⟨by rw [HE.out]; rfl, _, grow_two _ _ _⟩
  · have hI : (al == bl') = false := by simp [hl]
    have HE := Lib.hid (HT.out.trans (by simp [hl] : _ = decide (al < bl')))
    clear he hb
    go_wp2
    go_ret
    exact ⟨by rw [HE.out]; rfl, _, grow_two _ _ _⟩
end Go.Proofs.Ythjimldojdhccaa
