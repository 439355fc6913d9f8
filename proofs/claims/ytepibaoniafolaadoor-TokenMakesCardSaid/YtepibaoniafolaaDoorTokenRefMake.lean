import Derived.Test.YtepibaoniafolaaDoorTokenFixed
import Derived.Test.YtepibaoniafolaaDoorTokenRefSum
import Derived.Test.YtepibaoniafolaaDoorOwns
namespace Go.Proofs.YtepibaoniafolaaDoor
open Go Go.RowKit

/-- The first j + k bytes stand in b; i counts down. -/
def ByRel (w : World) (T : List UInt8) (j n : Nat) (b i : Value) (wr : World) : Prop :=
  ∃ k : Nat, k ≤ n ∧ i = .int .i64 ((n : Int) - 1 - k) ∧ wr.ownsRow w.heap.size 5 1 b (j + k) (bcells (T.take (j + k))) ∧ Below w.heap.size w wr

theorem take_step (T : List UInt8) (k : Nat) (hk : k < T.length) : bcells (T.take k) ++ [.int .u8 ((T.getD k 0).toNat : Int)] = bcells (T.take (k + 1)) := by
  have e : T.take (k + 1) = T.take k ++ [T.getD k 0] := by
    rw [List.take_add_one, List.getElem?_eq_getElem hk]
    simp [List.getD, hk]
  rw [e]
  simp [bcells]

theorem tmod_mod (N k : Nat) : ((N : Int) / 2 ^ k).tmod 256 % 256 = ((N : Int) / 2 ^ k) % 256 := by
  have e : (N : Int) / 2 ^ k = ((N / 2 ^ k : Nat) : Int) := by simp
  rw [e, Int.tmod_eq_emod_of_nonneg (Int.natCast_nonneg _)]
  omega

theorem be4_down (N m : Nat) (hm : m < 4) : ((N : Int) / 2 ^ (8 * m)).tmod 256 % 256 = (((be4 N).getD (3 - m) 0).toNat : Int) := by
  rw [tmod_mod]
  have := be4_byte N (3 - m) (by omega)
  rwa [show 24 - 8 * (3 - m) = 8 * m by omega] at this

theorem be8_down (N m : Nat) (hm : m < 8) : ((N : Int) / 2 ^ (8 * m)).tmod 256 % 256 = (((be8 N).getD (7 - m) 0).toNat : Int) := by
  rw [tmod_mod]
  have := be8_byte N (7 - m) (by omega)
  rwa [show 56 - 8 * (7 - m) = 8 * m by omega] at this

theorem own_some {w : World} {B n : Nat} {e : TypeId} {v : Value} {l : List UInt8} (h : w.ownsRow B e 1 v n (bcells l)) (hn : 0 < n) : ∃ g cp, v = .slice (some ⟨g, 0, none⟩) n cp := by
  rcases h.2 with ⟨_, h0⟩ | ⟨g, cap, cur, rfl, _⟩
  · exact absurd h0 (Nat.ne_of_gt hn)
  · exact ⟨g, cap, rfl⟩

/-- Sixteen bytes in a row of their own. -/
def GivesOwn16 (w : World) (l : List UInt8) (e : Ending) (w' : World) : Prop :=
  ∃ g cp, e = .returned (.slice (some ⟨g, 0, none⟩) 16 cp) ∧ w'.ownsRow w.heap.size 5 1 (.slice (some ⟨g, 0, none⟩) 16 cp) 16 (bcells l) ∧ Below w.heap.size w w'

set_option maxRecDepth 100000 in
set_option maxHeartbeats 1000000 in
theorem bytes_own (w : World) (id rev : Nat) (hrev : rev ≤ 18446744073709551615) :
    Calls Tryd.prog 14 #[.int .u32 (id : Int), .int .u64 (rev : Int)] w (GivesOwn16 w (tokL id rev)) := by
  obtain ⟨i0, hi, hz0, hz1, hz2⟩ := info_parts info5
  have hP := tokL_length id rev
  have hsl := sumL_lt (tokP id rev)
  have hb1 : ∀ k m, k + m = 3 → ((id : Int) / 2 ^ (8 * m)).tmod 256 % 256 = (((tokL id rev).getD (0 + k) 0).toNat : Int) := fun k m h => by
    rw [be4_down id m (by omega), Nat.zero_add, tokL_id id rev k (by omega), show 3 - m = k by omega]
  have hb2 : ∀ k m, k + m = 7 → ((rev : Int) / 2 ^ (8 * m)).tmod 256 % 256 = (((tokL id rev).getD (4 + k) 0).toNat : Int) := fun k m h => by
    rw [be8_down rev m (by omega), tokL_rev id rev k (by omega), show 7 - m = k by omega]
  have hb3 : ∀ k m, k + m = 3 → ((sumL (tokP id rev) : Int) / 2 ^ (8 * m)).tmod 256 % 256 = (((tokL id rev).getD (12 + k) 0).toNat : Int) := fun k m h => by
    rw [be4_down _ m (by omega), tokL_sum id rev k (by omega), show 3 - m = k by omega]
  have ht12 : (tokL id rev).take 12 = tokP id rev := rfl
  have ht16 : (tokL id rev).take 16 = tokL id rev := rfl
  generalize hTP : tokP id rev = TP at *
  generalize hsm : sumL TP = sm at *
  generalize tokL id rev = T at *
  have HSM := Lib.hid hsm
  have HP := Lib.hid hP
  have HRev := Lib.hid hrev
  have E1 := Lib.hid hb1
  have E2 := Lib.hid hb2
  have E3 := Lib.hid hb3
  have T12 := Lib.hid ht12
  have T16 := Lib.hid ht16
  clear hP hrev hb1 hb2 hb3 ht12 ht16 hTP hsm
  have hf0 : w.ownsRow w.heap.size 5 1 (.slice none 0 0) (0 + 0) (bcells (T.take (0 + 0))) :=
    ⟨by simp [bcells], .inl ⟨rfl, rfl⟩⟩
  have HF0 := Lib.hid hf0
  clear hf0
  go_enter Tryd.func14, Tryd.ntmps14
  go_wp2
  go_loopw [5, 6] (fun b i wr => ByRel w T 0 4 b i wr) (fun _ i _ => (intOf i + 1).toNat)
  case atStart => exact ⟨0, by decide, rfl, HF0.out, Below.refl _ _⟩
  case round =>
    obtain ⟨k, hk, rfl, hf, hb⟩ := hrel
    have hbs := hb.size
    by_cases hlt : k < 4
    · obtain ⟨m, hm⟩ : ∃ m, k + m = 3 := ⟨3 - k, by omega⟩
      have hi4 : ((4 : Nat) : Int) - 1 - k = (m : Int) := by omega
      have hv := E1.out k m hm
      have hst := take_step T (0 + k) (by rw [HP.out]; omega)
      rw [hi4]
      generalize T.getD (0 + k) 0 = c at *
      have HST := Lib.hid hst
      have HI4 := Lib.hid hi4
      clear hst hi4
      go_wp2_with (at_builtin; go_must (refine wpList_append_owns_lits (w0 := wr) rfl _ _ 33 rfl w.heap.size 5 i0 (.int .u8 0) 1 Tryd.underlying33 hi hz0 hz1 hz2 rfl [.int .u8 (c.toNat : Int)] 1 rfl hf rfl rfl (fun u hu => by simp at hu; subst hu; rfl) ?_ ?_ hbs ?_))
      · unfold maxLen; omega
      · omega
      intro v' w1 f1 g1 b1 m1
      first
        | rw [HST.out] at f1
        | (have h := HST.out; simp only [Nat.zero_add] at h; rw [h] at f1)
      have hb1 := hb.trans b1
      have F1 := Lib.hid f1
      have HB1 := Lib.hid hb1
      clear hf hb f1 g1 b1 m1 hv hb1
      go_wp2
      exact ⟨⟨k + 1, by omega, by first | (go_num; done) | (go_num; omega), by first | exact F1.out | (rw [Nat.zero_add]; exact F1.out), HB1.out⟩, by simp [intOf]; try omega⟩
    · obtain rfl : k = 4 := by omega
      have him : ((4 : Nat) : Int) - 1 - ((4 : Nat) : Int) = -1 := by decide
      rw [him]
      clear hlt hk him
      have HF1 := Lib.hid (show wr.ownsRow w.heap.size 5 1 u5 (4 + 0) (bcells (T.take (4 + 0))) from hf)
      have HB1 := Lib.hid hb
      clear hf hb
      go_wp2
      go_loopw [5, 7] (fun b i wr => ByRel w T 4 8 b i wr) (fun _ i _ => (intOf i + 1).toNat)
      case atStart => exact ⟨0, by decide, rfl, HF1.out, HB1.out⟩
      case round =>
        obtain ⟨k, hk, rfl, hf, hb⟩ := hrel
        have hbs := hb.size
        by_cases hlt : k < 8
        · obtain ⟨m, hm⟩ : ∃ m, k + m = 7 := ⟨7 - k, by omega⟩
          have hi4 : ((8 : Nat) : Int) - 1 - k = (m : Int) := by omega
          have hv := E2.out k m hm
          have hst := take_step T (4 + k) (by rw [HP.out]; omega)
          rw [hi4]
          generalize T.getD (4 + k) 0 = c at *
          have HST := Lib.hid hst
          have HI4 := Lib.hid hi4
          clear hst hi4
          go_wp2_with (at_builtin; go_must (refine wpList_append_owns_lits (w0 := wr) rfl _ _ 33 rfl w.heap.size 5 i0 (.int .u8 0) 1 Tryd.underlying33 hi hz0 hz1 hz2 rfl [.int .u8 (c.toNat : Int)] 1 rfl hf rfl rfl (fun u hu => by simp at hu; subst hu; rfl) ?_ ?_ hbs ?_))
          · unfold maxLen; omega
          · omega
          intro v' w1 f1 g1 b1 m1
          first
            | rw [HST.out] at f1
            | (have h := HST.out; simp only [Nat.zero_add] at h; rw [h] at f1)
          have hb1 := hb.trans b1
          have F1 := Lib.hid f1
          have HB1 := Lib.hid hb1
          clear hf hb f1 g1 b1 m1 hv hb1
          go_wp2
          exact ⟨⟨k + 1, by omega, by first | (go_num; done) | (go_num; omega), by first | exact F1.out | (rw [Nat.zero_add]; exact F1.out), HB1.out⟩, by simp [intOf]; try omega⟩
        · obtain rfl : k = 8 := by omega
          have him : ((8 : Nat) : Int) - 1 - ((8 : Nat) : Int) = -1 := by decide
          rw [him]
          clear hlt hk him
          have F2 : wr.ownsRow w.heap.size 5 1 u5 12 (bcells TP) := by
            have := hf
            rwa [show 4 + 8 = 12 from rfl, T12.out] at this
          have hsum := refsum_any wr _ 12 TP (ownsRow.reads F2)
          rw [HSM.out] at hsum
          have HF2 := Lib.hid (show wr.ownsRow w.heap.size 5 1 u5 (12 + 0) (bcells (T.take (12 + 0))) by rw [T12.out]; exact F2)
          have HB2 := Lib.hid hb
          have HSum := Lib.hid hsum
          clear hf hb F2 hsum
          go_wp2_with (go_at_call 21; go_must (refine (HSum.out).mono ?_))
          rintro e w2 ⟨rfl, rfl⟩
          clear HSum
          go_wp2
          go_loopw [5, 9] (fun b i wr => ByRel w T 12 4 b i wr) (fun _ i _ => (intOf i + 1).toNat)
          case atStart => exact ⟨0, by decide, rfl, HF2.out, HB2.out⟩
          case round =>
            obtain ⟨k, hk, rfl, hf, hb⟩ := hrel
            have hbs := hb.size
            by_cases hlt : k < 4
            · obtain ⟨m, hm⟩ : ∃ m, k + m = 3 := ⟨3 - k, by omega⟩
              have hi4 : ((4 : Nat) : Int) - 1 - k = (m : Int) := by omega
              have hv := E3.out k m hm
              have hst := take_step T (12 + k) (by rw [HP.out]; omega)
              rw [hi4]
              generalize T.getD (12 + k) 0 = c at *
              have HST := Lib.hid hst
              have HI4 := Lib.hid hi4
              clear hst hi4
              go_wp2_with (at_builtin; go_must (refine wpList_append_owns_lits (w0 := wr) rfl _ _ 33 rfl w.heap.size 5 i0 (.int .u8 0) 1 Tryd.underlying33 hi hz0 hz1 hz2 rfl [.int .u8 (c.toNat : Int)] 1 rfl hf rfl rfl (fun u hu => by simp at hu; subst hu; rfl) ?_ ?_ hbs ?_))
              · unfold maxLen; omega
              · omega
              intro v' w1 f1 g1 b1 m1
              first
                | rw [HST.out] at f1
                | (have h := HST.out; simp only [Nat.zero_add] at h; rw [h] at f1)
              have hb1 := hb.trans b1
              have F1 := Lib.hid f1
              have HB1 := Lib.hid hb1
              clear hf hb f1 g1 b1 m1 hv hb1
              go_wp2
              exact ⟨⟨k + 1, by omega, by first | (go_num; done) | (go_num; omega), by first | exact F1.out | (rw [Nat.zero_add]; exact F1.out), HB1.out⟩, by simp [intOf]; try omega⟩
            · obtain rfl : k = 4 := by omega
              have him : ((4 : Nat) : Int) - 1 - ((4 : Nat) : Int) = -1 := by decide
              rw [him]
              clear hlt hk him
              have F3 : wr.ownsRow w.heap.size 5 1 u5 16 (bcells T) := by
                have := hf
                rwa [show 12 + 4 = 16 from rfl, T16.out] at this
              have HF3 := Lib.hid F3
              have HB3 := Lib.hid hb
              clear hf hb F3
              go_wp2
              go_ret
              obtain ⟨g, cp, hv⟩ := own_some HF3.out (by decide)
              exact ⟨g, cp, congrArg _ hv, hv ▸ HF3.out, HB3.out⟩

theorem refbytes_any (w : World) (id rev : Nat) (hrev : rev ≤ 18446744073709551615) :
    Calls Tryd.prog 14 #[.int .u32 (id : Int), .int .u64 (rev : Int)] w (GivesBytes w (tokL id rev)) := by
  refine (bytes_own w id rev hrev).mono ?_
  rintro e w1 ⟨g, cp, rfl, hown, hb⟩
  exact ⟨_, rfl, by rw [tokL_length]; exact ⟨ownsRow.reads hown, .inr hown⟩, hb⟩
end Go.Proofs.YtepibaoniafolaaDoor
