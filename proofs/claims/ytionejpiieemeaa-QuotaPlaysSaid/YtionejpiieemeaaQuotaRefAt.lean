/- The reference's place of a client. -/
import Derived.Test.YtionejpiieemeaaQuotaRefM
import Derived.Test.YtionejpiieemeaaRowsUntil
import Derived.Test.YtionejpiieemeaaStrOrd
namespace Go.Proofs.Ytionejpiieemeaa
open Go Go.RowKit

theorem infoC : (Try.prog.info? 40).map (fun i => (i.zero, i.size, i.bytes)) = some (some (.agg #[.string ⟨#[]⟩, .int .u64 0]), 2, 24) := by kernel_rfl

/-- The client's place in the row: it is there, at k. -/
def Has (l : List (ByteArray × Nat)) (c : ByteArray) : Prop := ∃ (k : Nat) (h : Nat), l[k]? = some (c, h)

/-- The first place k whose client isn't less than c. -/
def Lands (l : List (ByteArray × Nat)) (c : ByteArray) (k : Nat) : Prop := k ≤ l.length ∧ (∀ j p, j < k → l[j]? = some p → bl p.1 c = true) ∧ ∀ p, l[k]? = some p → bl p.1 c = false

/-- What 'at' leaves. -/
def AtPost (w : World) (B b : Nat) (R : RQ) (c : ByteArray) (e : Ending) (w' : World) : Prop :=
  ∃ (k : Nat) (h : Nat) (R' : RQ), e = .returned (.int .i64 (k : Int)) ∧ R'.cs[k]? = some (c, h) ∧ RAt w' B b R' ∧ RF B b w w' ∧
    (R' = R ∨ (¬ Has R.cs c ∧ ∃ j, Lands R.cs c j ∧ k = j ∧ R' = { R with cs := R.cs.take j ++ (c, R.most) :: R.cs.drop j }))

def AtRel1 (w : World) (R : RQ) (c : ByteArray) (i : Value) (wr : World) : Prop :=
  ∃ k : Nat, i = .int .i64 (k : Int) ∧ k ≤ R.cs.length ∧ (∀ j p, j < k → R.cs[j]? = some p → p.1 ≠ c) ∧ Below w.heap.size w wr

def AtRel2 (R : RQ) (c : ByteArray) (i : Value) : Prop := ∃ k : Nat, i = .int .i64 (k : Int) ∧ k ≤ R.cs.length ∧ ∀ j p, j < k → R.cs[j]? = some p → bl p.1 c = true

theorem RAt.below {w w' : World} {B b : Nat} {R : RQ} (h : RAt w B b R) (hb : Below w.heap.size w w') : RAt w' B b R := by
  obtain ⟨v, h1, h2, h3⟩ := h
  exact ⟨v, (hb.block b (Array.getElem?_eq_some_iff.1 h1).1).trans h1, h2, owns_below h3 hb⟩

set_option maxRecDepth 100000 in
set_option maxHeartbeats 2000000 in
theorem rat_walk (w0 : World) (B b : Nat) (R : RQ) (c : ByteArray) (hr : RAt w0 B b R) (hfew : R.cs.length ≤ 100000) :
    Calls Try.prog 18 #[.pointer (some ⟨b, 0, none⟩), .string c] w0 (AtPost w0 B b R c) := by
  obtain ⟨i0, hi, hz0, hz1, hz2⟩ := info_parts infoC
  obtain ⟨v, hb, hBb, hown⟩ := hr
  have hB0 : B ≤ w0.heap.size := by have := (Array.getElem?_eq_some_iff.1 hb).1; omega
  obtain ⟨a, cap, hva, hcl, hcm⟩ := (ownsRow.reads hown).le
  subst hva
  have c3 := Lib.cell_of_heap hb 3
  simp at c3
  have hlt : b < w0.heap.size := (Array.getElem?_eq_some_iff.1 hb).1
  have HR0 := Lib.hid (ownsRow.reads hown)
  have HO0 := Lib.hid hown
  have HB0 := Lib.hid hb
  clear hown hb
  generalize hn : R.cs.length = n at *
  have HN := Lib.hid hn
  clear hn
  go_enter Try.func18, Try.ntmps18
  go_wp2
  go_loopw [13] (fun i wr => AtRel1 w0 R c i wr) (fun i _ => n - (intOf i).toNat)
  case atStart => exact ⟨0, rfl, Nat.zero_le _, fun j p hj => by omega, Below.refl _ _⟩
  case round =>
    obtain ⟨k, rfl, hk, hnot, hbl⟩ := hrel
    rw [HN.out] at hk
    have HBL := Lib.hid hbl
    have HNot := Lib.hid hnot
    clear hnot hbl
    by_cases hkn : k < n
    · obtain ⟨p, hp⟩ : ∃ p, R.cs[k]? = some p := ⟨_, List.getElem?_eq_getElem (by rw [HN.out]; exact hkn)⟩
      have hkI : (k : Int) < n := by omega
      have k0 := (HR0.out.below' HBL.out).at (flat_cell ccell 2 ccell_len R.cs k p hp 0 (by decide))
      have k1 := (HR0.out.below' HBL.out).at (flat_cell ccell 2 ccell_len R.cs k p hp 1 (by decide))
      obtain ⟨g, off, rfl, hg, k0⟩ := k0
      obtain ⟨g', off', hge, _, k1⟩ := k1
      cases hge
      obtain ⟨x, h⟩ := p
      simp [← Nat.add_assoc] at k0 k1
      have HP := Lib.hid hp
      clear hp
      by_cases hxc : x = c
      · subst hxc
        go_wp2
        go_ret
        have hra : RAt w0 B b R := ⟨_, HB0.out, hBb, by rw [HN.out]; exact HO0.out⟩
        exact ⟨k, h, R, rfl, HP.out, hra.below (HBL.out.alloc HBL.out.size _), RF.of_below (HBL.out.alloc HBL.out.size _) hB0, .inl rfl⟩
      · have hne : (x.toList == c.toList) = false := by
          rw [beq_eq_false_iff_ne, Go.ByteArray.toList_eq, Go.ByteArray.toList_eq]
          exact fun e => hxc (Go.WideShapes.bytes_inj e)
        go_wp2
        exact ⟨⟨k + 1, by go_num, by rw [HN.out]; omega, fun j p hj hp => by
          by_cases hjk : j < k
          · exact HNot.out j p hjk hp
          · obtain rfl : j = k := by omega
            rw [HP.out] at hp
            cases hp
            exact hxc, HBL.out.alloc HBL.out.size _⟩, by simp [intOf]; omega⟩
    · obtain rfl : k = n := by omega
      have hno : ¬ Has R.cs c := fun ⟨j, h, hj⟩ => HNot.out j _ (by rw [← HN.out]; exact (List.getElem?_eq_some_iff.1 hj).1) hj rfl
      have HNo := Lib.hid hno
      have hb' := (HBL.out.block b hlt).trans HB0.out
      have d1 := Lib.cell_of_heap hb' 1
      have d3 := Lib.cell_of_heap hb' 3
      have f3 := Lib.frozen_of_heap hb'
      simp at d1 d3
      have hblt : b < wr.heap.size := (Array.getElem?_eq_some_iff.1 hb').1
      have HB := Lib.hid hb'
      have HO := Lib.hid (owns_below HO0.out HBL.out)
      have HR := Lib.hid (HR0.out.below' HBL.out)
      clear hkn hno hb' HB0 HO0 HR0 hlt c3 hk HNot
      go_wp2
      go_loop [7] (fun v => AtRel2 R c v) (fun v => k - (intOf v).toNat)
      case atStart => exact ⟨0, rfl, Nat.zero_le _, fun j p hj => by omega⟩
      case round =>
        obtain ⟨at', rfl, hat, hlt⟩ := hrel
        rw [HN.out] at hat
        have HLt := Lib.hid hlt
        clear hlt
        by_cases han : at' < k
        · obtain ⟨p, hp⟩ : ∃ p, R.cs[at']? = some p := ⟨_, List.getElem?_eq_getElem (by rw [HN.out]; exact han)⟩
          have haI : (at' : Int) < k := by omega
          have k0 := HR.out.at (flat_cell ccell 2 ccell_len R.cs at' p hp 0 (by decide))
          obtain ⟨g, off, rfl, hg, k0⟩ := k0
          obtain ⟨x, h⟩ := p
          simp at k0
          have HP := Lib.hid hp
          clear hp
          cases hx : bl x c with
          | true =>
            have hbI : Op.bytesLess x.toList c.toList = true := by rw [bl_spell]; exact hx
            have HX := Lib.hid hx
            clear hx
            go_wp2
            exact ⟨⟨at' + 1, by go_num, by rw [HN.out]; omega, fun j p hj hp => by
              by_cases hjk : j < at'
              · exact HLt.out j p hjk hp
              · obtain rfl : j = at' := by omega
                rw [HP.out] at hp
                cases hp
                exact HX.out⟩, by simp [intOf]; omega⟩
          | false =>
            have hbI : Op.bytesLess x.toList c.toList = false := by rw [bl_spell]; exact hx
            have hland : Lands R.cs c at' := ⟨by rw [HN.out]; exact hat, HLt.out, fun p hp' => by rw [HP.out] at hp'; cases hp'; exact hx⟩
            have HLand := Lib.hid hland
            clear hx hland HLt HP
            go_wp2_with fail
            generalize (some ({ block := g, off := off } : Addr)) = a at *
            clear hg k0
            obtain ⟨n, rfl⟩ : ∃ n, n = k := ⟨_, rfl⟩
            obtain ⟨M, hM⟩ : ∃ M, R.most = M := ⟨_, rfl⟩
            obtain ⟨l, hl⟩ : ∃ l, R.cs = l := ⟨_, rfl⟩
            rw [hM] at d1
            have HM := Lib.hid hM
            have HLs := Lib.hid hl
            rw [hl] at HR
            clear hM hl
            generalize hw1 : wr = w1 at *
            refine wp_region_until_last (l := [_, _, _, _, _, _, _, _, _, _, _, _, _, _, _, _, _, _, _, _, _, _, _, _, _, _]) (by kernel_rfl) [eqU (.pointer (some ⟨b, 0, none⟩)), onU (zeroF w1.heap.size 40 2) (some 8), eqU (.pointer (some ⟨b, 0, none⟩)), eqU (.pointer (some ⟨b, 0, none⟩)), eqU (.pointer (some ⟨b, 3, none⟩)), eqU (.slice a n cap), eqU (.int .i64 (at' : Int)), eqU (.slice a at' cap), onU (ownsF w1.heap.size 40 2 at' (ccells (l.take at'))) (some 16), eqU (.string c), eqU (.pointer (some ⟨b, 0, none⟩)), eqU (.pointer (some ⟨b, 0, none⟩)), eqU (.pointer (some ⟨b, 1, none⟩)), eqU (.int .u64 (M : Int)), eqU (.agg #[.string c, .int .u64 (M : Int)]), onU (litF 40 #[.string c, .int .u64 (M : Int)] 1) (some 16), onU (ownsF w1.heap.size 40 2 (at' + 1) (ccells (l.take at' ++ [(c, M)]))) (some 23), eqU (.pointer (some ⟨b, 0, none⟩)), eqU (.pointer (some ⟨b, 0, none⟩)), eqU (.pointer (some ⟨b, 3, none⟩)), eqU (.slice a n cap), eqU (.int .i64 (at' : Int)), eqU (.slice (behindS a at' cap 2) (n - at') (cap - at')), onU (ownsF w1.heap.size 40 2 (n + 1) (ccells (l.take at' ++ (c, M) :: l.drop at'))) none, eqU (.pointer (some ⟨b, 0, none⟩)), eqU (.pointer (some ⟨b, 3, none⟩))] [16, 23] (by kernel_rfl) (by kernel_rfl) (by kernel_rfl) (by kernel_rfl) (by kernel_rfl) ⟨?_, ?_, ?_, ?_, ?_, ?_, ?_, ?_, ?_, ?_, ?_, ?_, ?_, ?_, ?_, ?_, ?_, ?_, ?_, ?_, ?_, ?_, ?_, ?_, ?_, ?_, trivial⟩ ?_
            · intro ρ wx hρ hbx hl
              have e0 : ρ (.tmp 0) = .pointer (some ⟨b, 0, none⟩) := hρ.tmp 0 (by decide +kernel)
              refine u_val (v := .pointer (some ⟨b, 0, none⟩)) ?_ rfl
              simp [execOp, go_sem, e0]
            · intro ρ wx hρ hbx hl
              refine u_new (v := .slice (some ⟨wx.heap.size, 0, none⟩) 0 0) (w' := wx.alloc (.cells #[] 40)) ?_ ⟨_, rfl, owns_less (owns_zero wx _ 2) hbx.size⟩ ((Below.refl _ _).alloc (Nat.le_refl _) _)
              simp [execOp, go_sem]
            · intro ρ wx hρ hbx hl
              have e0 : ρ (.tmp 0) = .pointer (some ⟨b, 0, none⟩) := hρ.tmp 0 (by decide +kernel)
              refine u_val (v := .pointer (some ⟨b, 0, none⟩)) ?_ rfl
              simp [execOp, go_sem, e0]
            · intro ρ wx hρ hbx hl
              have e47 : ρ (.tmp 47) = .pointer (some ⟨b, 0, none⟩) := hl 2 (by decide +kernel) (.inl rfl) 47 rfl
              refine u_val (v := .pointer (some ⟨b, 0, none⟩)) ?_ rfl
              simp [execOp, go_sem, e47]
            · intro ρ wx hρ hbx hl
              have e48 : ρ (.tmp 48) = .pointer (some ⟨b, 0, none⟩) := hl 3 (by decide +kernel) (.inl rfl) 48 rfl
              refine u_val (v := .pointer (some ⟨b, 3, none⟩)) ?_ rfl
              simp [execOp, go_sem, e48]
            · intro ρ wx hρ hbx hl
              have e49 : ρ (.tmp 49) = .pointer (some ⟨b, 3, none⟩) := hl 4 (by decide +kernel) (.inl rfl) 49 rfl
              have kk := (hbx.cell (hblt)).trans d3
              refine u_val (v := .slice a n cap) ?_ rfl
              simp [execOp, go_sem, e49, kk]
            · intro ρ wx hρ hbx hl
              have e7 : ρ (.tmp 7) = .int .i64 (at' : Int) := hρ.tmp 7 (by decide +kernel)
              refine u_val (v := .int .i64 (at' : Int)) ?_ rfl
              simp [execOp, go_sem, e7]
            · intro ρ wx hρ hbx hl
              have e50 : ρ (.tmp 50) = .slice a n cap := hl 5 (by decide +kernel) (.inl rfl) 50 rfl
              have e51 : ρ (.tmp 51) = .int .i64 (at' : Int) := hl 6 (by decide +kernel) (.inl rfl) 51 rfl
              refine u_val (v := .slice a at' cap) ?_ rfl
              simp [execOp, go_sem, e50, e51]
              first | done | omega
            · intro ρ wx hρ hbx hl
              have e46 : (zeroF w1.heap.size 40 2).p (ρ (.tmp 46)) wx := hl 1 (by decide +kernel) (.inr rfl) 46 rfl
              have e52 : ρ (.tmp 52) = .slice a at' cap := hl 7 (by decide +kernel) (.inl rfl) 52 rfl
              obtain ⟨g46, e46, o46⟩ := e46
              rw [e46] at o46
              obtain ⟨v', w', hr, ho, hb⟩ := run_append_zero_s (P := Try.prog) (w := wx) w1.heap.size 36 36 36 40 i0 _ 2 24 Try.underlying36 hi hz0 hz1 hz2 rfl g46 o46 (.slice a at' cap) at' (ccells (l.take at')) (by rw [← ccells_take]; exact ((HR.out.below' hbx).rtake at' hat).src Try.underlying36 (by rw [ccells_take]; exact ccells_one _)) (by unfold maxLen; omega) (by omega) hbx.size
              refine u_new ?_ ho hb
              simp only [execOp, resolve, invoke, builtin, Sem.run_bind, Sem.run_pure, Result.andThen_ok, List.map_toArray, List.map_cons, List.map_nil, e46, e52, hr]
            · intro ρ wx hρ hbx hl
              have e1 : ρ (.tmp 1) = .string c := hρ.tmp 1 (by decide +kernel)
              refine u_val (v := .string c) ?_ rfl
              simp [execOp, go_sem, e1]
            · intro ρ wx hρ hbx hl
              have e0 : ρ (.tmp 0) = .pointer (some ⟨b, 0, none⟩) := hρ.tmp 0 (by decide +kernel)
              refine u_val (v := .pointer (some ⟨b, 0, none⟩)) ?_ rfl
              simp [execOp, go_sem, e0]
            · intro ρ wx hρ hbx hl
              have e55 : ρ (.tmp 55) = .pointer (some ⟨b, 0, none⟩) := hl 10 (by decide +kernel) (.inl rfl) 55 rfl
              refine u_val (v := .pointer (some ⟨b, 0, none⟩)) ?_ rfl
              simp [execOp, go_sem, e55]
            · intro ρ wx hρ hbx hl
              have e56 : ρ (.tmp 56) = .pointer (some ⟨b, 0, none⟩) := hl 11 (by decide +kernel) (.inl rfl) 56 rfl
              refine u_val (v := .pointer (some ⟨b, 1, none⟩)) ?_ rfl
              simp [execOp, go_sem, e56]
            · intro ρ wx hρ hbx hl
              have e57 : ρ (.tmp 57) = .pointer (some ⟨b, 1, none⟩) := hl 12 (by decide +kernel) (.inl rfl) 57 rfl
              have kk := (hbx.cell (hblt)).trans d1
              refine u_val (v := .int .u64 (M : Int)) ?_ rfl
              simp [execOp, go_sem, e57, kk]
            · intro ρ wx hρ hbx hl
              have e54 : ρ (.tmp 54) = .string c := hl 9 (by decide +kernel) (.inl rfl) 54 rfl
              have e58 : ρ (.tmp 58) = .int .u64 (M : Int) := hl 13 (by decide +kernel) (.inl rfl) 58 rfl
              refine u_val (v := .agg #[.string c, .int .u64 (M : Int)]) ?_ rfl
              simp [execOp, go_sem, e54, e58]
            · intro ρ wx hρ hbx hl
              have e59 : ρ (.tmp 59) = .agg #[.string c, .int .u64 (M : Int)] := hl 14 (by decide +kernel) (.inl rfl) 59 rfl
              refine u_new (v := .slice (some ⟨wx.heap.size, 0, none⟩) 1 1) (w' := wx.alloc (.cells #[.string c, .int .u64 (M : Int)] 40)) ?_ ⟨_, rfl, heap_alloc_new wx _⟩ ((Below.refl _ _).alloc (Nat.le_refl _) _)
              simp [execOp, go_sem, e59]
            · intro ρ wx hρ hbx hl
              have e53 : (ownsF w1.heap.size 40 2 at' (ccells (l.take at'))).p (ρ (.tmp 53)) wx := hl 8 (by decide +kernel) (.inr rfl) 53 rfl
              have e60 : (litF 40 #[.string c, .int .u64 (M : Int)] 1).p (ρ (.tmp 60)) wx := hl 15 (by decide +kernel) (.inr rfl) 60 rfl
              obtain ⟨g60, e60, o60⟩ := e60
              have hrd := lit_reads (cs := [.string c, .int .u64 (M : Int)]) (size := 2) o60 rfl (by decide)
              obtain ⟨v', w', hr, ho, hg, hb, _⟩ := run_append_owns (P := Try.prog) (w := wx) w1.heap.size 36 36 36 40 i0 _ 2 24 Try.underlying36 hi hz0 hz1 hz2 rfl _ at' _ e53 _ 1 [.string c, .int .u64 (M : Int)] (hrd.src Try.underlying36 (by simp [Value.oneCell'])) (by unfold maxLen; omega) (by omega) hbx.size
              rw [show ccells (l.take at') ++ [Value.string c, .int .u64 (M : Int)] = ccells (l.take at' ++ [(c, M)]) from (ccells_append (l.take at') [(c, M)]).symm] at ho
              refine u_new ?_ ho hb
              simp only [execOp, resolve, invoke, builtin, Sem.run_bind, Sem.run_pure, Result.andThen_ok, List.map_toArray, List.map_cons, List.map_nil, e60, hr]
            · intro ρ wx hρ hbx hl
              have e0 : ρ (.tmp 0) = .pointer (some ⟨b, 0, none⟩) := hρ.tmp 0 (by decide +kernel)
              refine u_val (v := .pointer (some ⟨b, 0, none⟩)) ?_ rfl
              simp [execOp, go_sem, e0]
            · intro ρ wx hρ hbx hl
              have e62 : ρ (.tmp 62) = .pointer (some ⟨b, 0, none⟩) := hl 17 (by decide +kernel) (.inl rfl) 62 rfl
              refine u_val (v := .pointer (some ⟨b, 0, none⟩)) ?_ rfl
              simp [execOp, go_sem, e62]
            · intro ρ wx hρ hbx hl
              have e63 : ρ (.tmp 63) = .pointer (some ⟨b, 0, none⟩) := hl 18 (by decide +kernel) (.inl rfl) 63 rfl
              refine u_val (v := .pointer (some ⟨b, 3, none⟩)) ?_ rfl
              simp [execOp, go_sem, e63]
            · intro ρ wx hρ hbx hl
              have e64 : ρ (.tmp 64) = .pointer (some ⟨b, 3, none⟩) := hl 19 (by decide +kernel) (.inl rfl) 64 rfl
              have kk := (hbx.cell (hblt)).trans d3
              refine u_val (v := .slice a n cap) ?_ rfl
              simp [execOp, go_sem, e64, kk]
            · intro ρ wx hρ hbx hl
              have e7 : ρ (.tmp 7) = .int .i64 (at' : Int) := hρ.tmp 7 (by decide +kernel)
              refine u_val (v := .int .i64 (at' : Int)) ?_ rfl
              simp [execOp, go_sem, e7]
            · intro ρ wx hρ hbx hl
              have e65 : ρ (.tmp 65) = .slice a n cap := hl 20 (by decide +kernel) (.inl rfl) 65 rfl
              have e66 : ρ (.tmp 66) = .int .i64 (at' : Int) := hl 21 (by decide +kernel) (.inl rfl) 66 rfl
              refine u_val (v := .slice (behindS a at' cap 2) (n - at') (cap - at')) ?_ rfl
              simp [execOp, go_sem, e65, e66, behindS, hat]
            · intro ρ wx hρ hbx hl
              have e61 : (ownsF w1.heap.size 40 2 (at' + 1) (ccells (l.take at' ++ [(c, M)]))).p (ρ (.tmp 61)) wx := hl 16 (by decide +kernel) (.inr rfl) 61 rfl
              have e67 : ρ (.tmp 67) = .slice (behindS a at' cap 2) (n - at') (cap - at') := hl 22 (by decide +kernel) (.inl rfl) 67 rfl
              obtain ⟨v', w', hr, ho, hg, hb, _⟩ := run_append_owns (P := Try.prog) (w := wx) w1.heap.size 36 36 36 40 i0 _ 2 24 Try.underlying36 hi hz0 hz1 hz2 rfl _ (at' + 1) _ e61 (.slice (behindS a at' cap 2) (n - at') (cap - at')) (n - at') (ccells (l.drop at')) (by rw [← ccells_drop]; exact ((HR.out.below' hbx).rdrop at' hat).src Try.underlying36 (by rw [ccells_drop]; exact ccells_one _)) (by unfold maxLen; omega) (by omega) hbx.size
              rw [← ccells_append, List.append_assoc, List.singleton_append, show at' + 1 + (n - at') = n + 1 by omega] at ho
              refine u_new ?_ ho hb
              simp only [execOp, resolve, invoke, builtin, Sem.run_bind, Sem.run_pure, Result.andThen_ok, List.map_toArray, List.map_cons, List.map_nil, e67, hr]
            · intro ρ wx hρ hbx hl
              have e45 : ρ (.tmp 45) = .pointer (some ⟨b, 0, none⟩) := hl 0 (by decide +kernel) (.inl rfl) 45 rfl
              refine u_val (v := .pointer (some ⟨b, 0, none⟩)) ?_ rfl
              simp [execOp, go_sem, e45]
            · intro ρ wx hρ hbx hl
              have e69 : ρ (.tmp 69) = .pointer (some ⟨b, 0, none⟩) := hl 24 (by decide +kernel) (.inl rfl) 69 rfl
              refine u_val (v := .pointer (some ⟨b, 3, none⟩)) ?_ rfl
              simp [execOp, go_sem, e69]
            intro aa wz hdef hsz hlk hbz hf
            have ha := act_of_like hdef hsz hlk [45, 46, 47, 48, 49, 50, 51, 52, 53, 54, 55, 56, 57, 58, 59, 60, 61, 62, 63, 64, 65, 66, 67, 68, 69, 70] 72 rfl (by decide +kernel)
            have e45 : aa.tmps.getD 45 undef = .pointer (some ⟨b, 0, none⟩) := hf 0 _ 45 rfl rfl rfl
            have e47 : aa.tmps.getD 47 undef = .pointer (some ⟨b, 0, none⟩) := hf 2 _ 47 rfl rfl rfl
            have e48 : aa.tmps.getD 48 undef = .pointer (some ⟨b, 0, none⟩) := hf 3 _ 48 rfl rfl rfl
            have e49 : aa.tmps.getD 49 undef = .pointer (some ⟨b, 3, none⟩) := hf 4 _ 49 rfl rfl rfl
            have e50 : aa.tmps.getD 50 undef = .slice a n cap := hf 5 _ 50 rfl rfl rfl
            have e51 : aa.tmps.getD 51 undef = .int .i64 (at' : Int) := hf 6 _ 51 rfl rfl rfl
            have e52 : aa.tmps.getD 52 undef = .slice a at' cap := hf 7 _ 52 rfl rfl rfl
            have e54 : aa.tmps.getD 54 undef = .string c := hf 9 _ 54 rfl rfl rfl
            have e55 : aa.tmps.getD 55 undef = .pointer (some ⟨b, 0, none⟩) := hf 10 _ 55 rfl rfl rfl
            have e56 : aa.tmps.getD 56 undef = .pointer (some ⟨b, 0, none⟩) := hf 11 _ 56 rfl rfl rfl
            have e57 : aa.tmps.getD 57 undef = .pointer (some ⟨b, 1, none⟩) := hf 12 _ 57 rfl rfl rfl
            have e58 : aa.tmps.getD 58 undef = .int .u64 (M : Int) := hf 13 _ 58 rfl rfl rfl
            have e59 : aa.tmps.getD 59 undef = .agg #[.string c, .int .u64 (M : Int)] := hf 14 _ 59 rfl rfl rfl
            have e62 : aa.tmps.getD 62 undef = .pointer (some ⟨b, 0, none⟩) := hf 17 _ 62 rfl rfl rfl
            have e63 : aa.tmps.getD 63 undef = .pointer (some ⟨b, 0, none⟩) := hf 18 _ 63 rfl rfl rfl
            have e64 : aa.tmps.getD 64 undef = .pointer (some ⟨b, 3, none⟩) := hf 19 _ 64 rfl rfl rfl
            have e65 : aa.tmps.getD 65 undef = .slice a n cap := hf 20 _ 65 rfl rfl rfl
            have e66 : aa.tmps.getD 66 undef = .int .i64 (at' : Int) := hf 21 _ 66 rfl rfl rfl
            have e67 : aa.tmps.getD 67 undef = .slice (behindS a at' cap 2) (n - at') (cap - at') := hf 22 _ 67 rfl rfl rfl
            have e68 : (ownsF w1.heap.size 40 2 (n + 1) (ccells (l.take at' ++ (c, M) :: l.drop at'))).p (aa.tmps.getD 68 undef) wz := hf 23 _ 68 rfl rfl rfl
            generalize hv68 : aa.tmps.getD 68 undef = v68 at e68
            have e69 : aa.tmps.getD 69 undef = .pointer (some ⟨b, 0, none⟩) := hf 24 _ 69 rfl rfl rfl
            have e70 : aa.tmps.getD 70 undef = .pointer (some ⟨b, 3, none⟩) := hf 25 _ 70 rfl rfl rfl
            simp only [putAll, List.foldl_cons, List.foldl_nil, e45, e47, e48, e49, e50, e51, e52, e54, e55, e56, e57, e58, e59, e62, e63, e64, e65, e66, e67, hv68, e69, e70] at ha
            generalize aa.tmps.getD 46 undef = v46 at ha
            generalize aa.tmps.getD 53 undef = v53 at ha
            generalize aa.tmps.getD 60 undef = v60 at ha
            generalize aa.tmps.getD 61 undef = v61 at ha
            simp [Act.put] at ha
            subst ha
            clear hdef hsz hlk hf e45 e47 e48 e49 e50 e51 e52 e54 e55 e56 e57 e58 e59 e62 e63 e64 e65 e66 e67 hv68 e69 e70
            obtain ⟨a9, c9, hv9, _, _⟩ := (ownsRow.reads e68).le
            subst hv9
            have hlen : (l.take at' ++ (c, M) :: l.drop at').length = n + 1 := by
              have := HLs.out
              have h2 := HN.out
              rw [this] at h2
              simp
              omega
            have hlel : at' ≤ l.length := by
              have := HLs.out
              have h2 := HN.out
              rw [this] at h2
              omega
            have hbz' := (hbz.block b hblt).trans HB.out
            have x3 := Lib.cell_of_heap hbz' 3
            have xf := Lib.frozen_of_heap hbz'
            simp at x3
            have hw1s : B ≤ w1.heap.size := by omega
            have hst : RF B b w0 (wz.setCell ⟨b, 3, none⟩ (.slice a9 (n + 1) c9)) := RF.set (b := b) (p := ⟨b, 3, none⟩) (RF.of_below (HBL.out.trans (hbz.mono HBL.out.size)) hB0) hBb (.inl rfl) (.slice a9 (n + 1) c9)
            have hra : RAt (wz.setCell ⟨b, 3, none⟩ (.slice a9 (n + 1) c9)) B b { R with cs := l.take at' ++ (c, M) :: l.drop at' } := by
              refine ⟨.slice a9 (n + 1) c9, ?_, hBb, ?_⟩
              · rw [heap_setCell_same _ b 3 _ _ _ hbz']
                rfl
              · show World.ownsRow _ B _ 2 (.slice a9 (n + 1) c9) (l.take at' ++ (c, M) :: l.drop at').length _
                rw [hlen]
                refine ownsRow_setCell_other (owns_less e68 hw1s) (a := ⟨b, 3, none⟩) ?_ _
                exact owns_other e68 hbz' (by decide)
            have HST := Lib.hid hst
            have HRA := Lib.hid hra
            clear e68 hbz hbz' hst hra hlen
            unfold Oper.wp
            simp [execOp, go_sem, x3, xf]
            clear x3 xf
            generalize wz.setCell ⟨b, 3, none⟩ (.slice a9 (n + 1) c9) = w9 at *
            go_wp2
            go_ret
            refine ⟨at', M, _, rfl, ?_, HRA.out, HST.out, .inr ⟨HNo.out, at', HLand.out, rfl, by rw [HLs.out, HM.out]⟩⟩
            show (l.take at' ++ (c, M) :: l.drop at')[at']? = _
            rw [List.getElem?_append_right (by simp; omega)]
            simp [List.length_take, Nat.min_eq_left hlel]
        · have haI : ¬ ((at' : Int) < k) := by omega
          have hland : Lands R.cs c at' := ⟨by rw [HN.out]; exact hat, HLt.out, fun p hp => by have := (List.getElem?_eq_some_iff.1 hp).1; rw [HN.out] at this; omega⟩
          have HLand := Lib.hid hland
          clear hland HLt han
          go_wp2_with fail
          obtain ⟨n, rfl⟩ : ∃ n, n = k := ⟨_, rfl⟩
          obtain ⟨M, hM⟩ : ∃ M, R.most = M := ⟨_, rfl⟩
          obtain ⟨l, hl⟩ : ∃ l, R.cs = l := ⟨_, rfl⟩
          rw [hM] at d1
          have HM := Lib.hid hM
          have HLs := Lib.hid hl
          rw [hl] at HR
          clear hM hl
          generalize hw1 : wr = w1 at *
          refine wp_region_until_last (l := [_, _, _, _, _, _, _, _, _, _, _, _, _, _, _, _, _, _, _, _, _, _, _, _, _, _]) (by kernel_rfl) [eqU (.pointer (some ⟨b, 0, none⟩)), onU (zeroF w1.heap.size 40 2) (some 8), eqU (.pointer (some ⟨b, 0, none⟩)), eqU (.pointer (some ⟨b, 0, none⟩)), eqU (.pointer (some ⟨b, 3, none⟩)), eqU (.slice a n cap), eqU (.int .i64 (at' : Int)), eqU (.slice a at' cap), onU (ownsF w1.heap.size 40 2 at' (ccells (l.take at'))) (some 16), eqU (.string c), eqU (.pointer (some ⟨b, 0, none⟩)), eqU (.pointer (some ⟨b, 0, none⟩)), eqU (.pointer (some ⟨b, 1, none⟩)), eqU (.int .u64 (M : Int)), eqU (.agg #[.string c, .int .u64 (M : Int)]), onU (litF 40 #[.string c, .int .u64 (M : Int)] 1) (some 16), onU (ownsF w1.heap.size 40 2 (at' + 1) (ccells (l.take at' ++ [(c, M)]))) (some 23), eqU (.pointer (some ⟨b, 0, none⟩)), eqU (.pointer (some ⟨b, 0, none⟩)), eqU (.pointer (some ⟨b, 3, none⟩)), eqU (.slice a n cap), eqU (.int .i64 (at' : Int)), eqU (.slice (behindS a at' cap 2) (n - at') (cap - at')), onU (ownsF w1.heap.size 40 2 (n + 1) (ccells (l.take at' ++ (c, M) :: l.drop at'))) none, eqU (.pointer (some ⟨b, 0, none⟩)), eqU (.pointer (some ⟨b, 3, none⟩))] [16, 23] (by kernel_rfl) (by kernel_rfl) (by kernel_rfl) (by kernel_rfl) (by kernel_rfl) ⟨?_, ?_, ?_, ?_, ?_, ?_, ?_, ?_, ?_, ?_, ?_, ?_, ?_, ?_, ?_, ?_, ?_, ?_, ?_, ?_, ?_, ?_, ?_, ?_, ?_, ?_, trivial⟩ ?_
          · intro ρ wx hρ hbx hl
            have e0 : ρ (.tmp 0) = .pointer (some ⟨b, 0, none⟩) := hρ.tmp 0 (by decide +kernel)
            refine u_val (v := .pointer (some ⟨b, 0, none⟩)) ?_ rfl
            simp [execOp, go_sem, e0]
          · intro ρ wx hρ hbx hl
            refine u_new (v := .slice (some ⟨wx.heap.size, 0, none⟩) 0 0) (w' := wx.alloc (.cells #[] 40)) ?_ ⟨_, rfl, owns_less (owns_zero wx _ 2) hbx.size⟩ ((Below.refl _ _).alloc (Nat.le_refl _) _)
            simp [execOp, go_sem]
          · intro ρ wx hρ hbx hl
            have e0 : ρ (.tmp 0) = .pointer (some ⟨b, 0, none⟩) := hρ.tmp 0 (by decide +kernel)
            refine u_val (v := .pointer (some ⟨b, 0, none⟩)) ?_ rfl
            simp [execOp, go_sem, e0]
          · intro ρ wx hρ hbx hl
            have e47 : ρ (.tmp 47) = .pointer (some ⟨b, 0, none⟩) := hl 2 (by decide +kernel) (.inl rfl) 47 rfl
            refine u_val (v := .pointer (some ⟨b, 0, none⟩)) ?_ rfl
            simp [execOp, go_sem, e47]
          · intro ρ wx hρ hbx hl
            have e48 : ρ (.tmp 48) = .pointer (some ⟨b, 0, none⟩) := hl 3 (by decide +kernel) (.inl rfl) 48 rfl
            refine u_val (v := .pointer (some ⟨b, 3, none⟩)) ?_ rfl
            simp [execOp, go_sem, e48]
          · intro ρ wx hρ hbx hl
            have e49 : ρ (.tmp 49) = .pointer (some ⟨b, 3, none⟩) := hl 4 (by decide +kernel) (.inl rfl) 49 rfl
            have kk := (hbx.cell (hblt)).trans d3
            refine u_val (v := .slice a n cap) ?_ rfl
            simp [execOp, go_sem, e49, kk]
          · intro ρ wx hρ hbx hl
            have e7 : ρ (.tmp 7) = .int .i64 (at' : Int) := hρ.tmp 7 (by decide +kernel)
            refine u_val (v := .int .i64 (at' : Int)) ?_ rfl
            simp [execOp, go_sem, e7]
          · intro ρ wx hρ hbx hl
            have e50 : ρ (.tmp 50) = .slice a n cap := hl 5 (by decide +kernel) (.inl rfl) 50 rfl
            have e51 : ρ (.tmp 51) = .int .i64 (at' : Int) := hl 6 (by decide +kernel) (.inl rfl) 51 rfl
            refine u_val (v := .slice a at' cap) ?_ rfl
            simp [execOp, go_sem, e50, e51]
            first | done | omega
          · intro ρ wx hρ hbx hl
            have e46 : (zeroF w1.heap.size 40 2).p (ρ (.tmp 46)) wx := hl 1 (by decide +kernel) (.inr rfl) 46 rfl
            have e52 : ρ (.tmp 52) = .slice a at' cap := hl 7 (by decide +kernel) (.inl rfl) 52 rfl
            obtain ⟨g46, e46, o46⟩ := e46
            rw [e46] at o46
            obtain ⟨v', w', hr, ho, hb⟩ := run_append_zero_s (P := Try.prog) (w := wx) w1.heap.size 36 36 36 40 i0 _ 2 24 Try.underlying36 hi hz0 hz1 hz2 rfl g46 o46 (.slice a at' cap) at' (ccells (l.take at')) (by rw [← ccells_take]; exact ((HR.out.below' hbx).rtake at' hat).src Try.underlying36 (by rw [ccells_take]; exact ccells_one _)) (by unfold maxLen; omega) (by omega) hbx.size
            refine u_new ?_ ho hb
            simp only [execOp, resolve, invoke, builtin, Sem.run_bind, Sem.run_pure, Result.andThen_ok, List.map_toArray, List.map_cons, List.map_nil, e46, e52, hr]
          · intro ρ wx hρ hbx hl
            have e1 : ρ (.tmp 1) = .string c := hρ.tmp 1 (by decide +kernel)
            refine u_val (v := .string c) ?_ rfl
            simp [execOp, go_sem, e1]
          · intro ρ wx hρ hbx hl
            have e0 : ρ (.tmp 0) = .pointer (some ⟨b, 0, none⟩) := hρ.tmp 0 (by decide +kernel)
            refine u_val (v := .pointer (some ⟨b, 0, none⟩)) ?_ rfl
            simp [execOp, go_sem, e0]
          · intro ρ wx hρ hbx hl
            have e55 : ρ (.tmp 55) = .pointer (some ⟨b, 0, none⟩) := hl 10 (by decide +kernel) (.inl rfl) 55 rfl
            refine u_val (v := .pointer (some ⟨b, 0, none⟩)) ?_ rfl
            simp [execOp, go_sem, e55]
          · intro ρ wx hρ hbx hl
            have e56 : ρ (.tmp 56) = .pointer (some ⟨b, 0, none⟩) := hl 11 (by decide +kernel) (.inl rfl) 56 rfl
            refine u_val (v := .pointer (some ⟨b, 1, none⟩)) ?_ rfl
            simp [execOp, go_sem, e56]
          · intro ρ wx hρ hbx hl
            have e57 : ρ (.tmp 57) = .pointer (some ⟨b, 1, none⟩) := hl 12 (by decide +kernel) (.inl rfl) 57 rfl
            have kk := (hbx.cell (hblt)).trans d1
            refine u_val (v := .int .u64 (M : Int)) ?_ rfl
            simp [execOp, go_sem, e57, kk]
          · intro ρ wx hρ hbx hl
            have e54 : ρ (.tmp 54) = .string c := hl 9 (by decide +kernel) (.inl rfl) 54 rfl
            have e58 : ρ (.tmp 58) = .int .u64 (M : Int) := hl 13 (by decide +kernel) (.inl rfl) 58 rfl
            refine u_val (v := .agg #[.string c, .int .u64 (M : Int)]) ?_ rfl
            simp [execOp, go_sem, e54, e58]
          · intro ρ wx hρ hbx hl
            have e59 : ρ (.tmp 59) = .agg #[.string c, .int .u64 (M : Int)] := hl 14 (by decide +kernel) (.inl rfl) 59 rfl
            refine u_new (v := .slice (some ⟨wx.heap.size, 0, none⟩) 1 1) (w' := wx.alloc (.cells #[.string c, .int .u64 (M : Int)] 40)) ?_ ⟨_, rfl, heap_alloc_new wx _⟩ ((Below.refl _ _).alloc (Nat.le_refl _) _)
            simp [execOp, go_sem, e59]
          · intro ρ wx hρ hbx hl
            have e53 : (ownsF w1.heap.size 40 2 at' (ccells (l.take at'))).p (ρ (.tmp 53)) wx := hl 8 (by decide +kernel) (.inr rfl) 53 rfl
            have e60 : (litF 40 #[.string c, .int .u64 (M : Int)] 1).p (ρ (.tmp 60)) wx := hl 15 (by decide +kernel) (.inr rfl) 60 rfl
            obtain ⟨g60, e60, o60⟩ := e60
            have hrd := lit_reads (cs := [.string c, .int .u64 (M : Int)]) (size := 2) o60 rfl (by decide)
            obtain ⟨v', w', hr, ho, hg, hb, _⟩ := run_append_owns (P := Try.prog) (w := wx) w1.heap.size 36 36 36 40 i0 _ 2 24 Try.underlying36 hi hz0 hz1 hz2 rfl _ at' _ e53 _ 1 [.string c, .int .u64 (M : Int)] (hrd.src Try.underlying36 (by simp [Value.oneCell'])) (by unfold maxLen; omega) (by omega) hbx.size
            rw [show ccells (l.take at') ++ [Value.string c, .int .u64 (M : Int)] = ccells (l.take at' ++ [(c, M)]) from (ccells_append (l.take at') [(c, M)]).symm] at ho
            refine u_new ?_ ho hb
            simp only [execOp, resolve, invoke, builtin, Sem.run_bind, Sem.run_pure, Result.andThen_ok, List.map_toArray, List.map_cons, List.map_nil, e60, hr]
          · intro ρ wx hρ hbx hl
            have e0 : ρ (.tmp 0) = .pointer (some ⟨b, 0, none⟩) := hρ.tmp 0 (by decide +kernel)
            refine u_val (v := .pointer (some ⟨b, 0, none⟩)) ?_ rfl
            simp [execOp, go_sem, e0]
          · intro ρ wx hρ hbx hl
            have e62 : ρ (.tmp 62) = .pointer (some ⟨b, 0, none⟩) := hl 17 (by decide +kernel) (.inl rfl) 62 rfl
            refine u_val (v := .pointer (some ⟨b, 0, none⟩)) ?_ rfl
            simp [execOp, go_sem, e62]
          · intro ρ wx hρ hbx hl
            have e63 : ρ (.tmp 63) = .pointer (some ⟨b, 0, none⟩) := hl 18 (by decide +kernel) (.inl rfl) 63 rfl
            refine u_val (v := .pointer (some ⟨b, 3, none⟩)) ?_ rfl
            simp [execOp, go_sem, e63]
          · intro ρ wx hρ hbx hl
            have e64 : ρ (.tmp 64) = .pointer (some ⟨b, 3, none⟩) := hl 19 (by decide +kernel) (.inl rfl) 64 rfl
            have kk := (hbx.cell (hblt)).trans d3
            refine u_val (v := .slice a n cap) ?_ rfl
            simp [execOp, go_sem, e64, kk]
          · intro ρ wx hρ hbx hl
            have e7 : ρ (.tmp 7) = .int .i64 (at' : Int) := hρ.tmp 7 (by decide +kernel)
            refine u_val (v := .int .i64 (at' : Int)) ?_ rfl
            simp [execOp, go_sem, e7]
          · intro ρ wx hρ hbx hl
            have e65 : ρ (.tmp 65) = .slice a n cap := hl 20 (by decide +kernel) (.inl rfl) 65 rfl
            have e66 : ρ (.tmp 66) = .int .i64 (at' : Int) := hl 21 (by decide +kernel) (.inl rfl) 66 rfl
            refine u_val (v := .slice (behindS a at' cap 2) (n - at') (cap - at')) ?_ rfl
            simp [execOp, go_sem, e65, e66, behindS, hat]
          · intro ρ wx hρ hbx hl
            have e61 : (ownsF w1.heap.size 40 2 (at' + 1) (ccells (l.take at' ++ [(c, M)]))).p (ρ (.tmp 61)) wx := hl 16 (by decide +kernel) (.inr rfl) 61 rfl
            have e67 : ρ (.tmp 67) = .slice (behindS a at' cap 2) (n - at') (cap - at') := hl 22 (by decide +kernel) (.inl rfl) 67 rfl
            obtain ⟨v', w', hr, ho, hg, hb, _⟩ := run_append_owns (P := Try.prog) (w := wx) w1.heap.size 36 36 36 40 i0 _ 2 24 Try.underlying36 hi hz0 hz1 hz2 rfl _ (at' + 1) _ e61 (.slice (behindS a at' cap 2) (n - at') (cap - at')) (n - at') (ccells (l.drop at')) (by rw [← ccells_drop]; exact ((HR.out.below' hbx).rdrop at' hat).src Try.underlying36 (by rw [ccells_drop]; exact ccells_one _)) (by unfold maxLen; omega) (by omega) hbx.size
            rw [← ccells_append, List.append_assoc, List.singleton_append, show at' + 1 + (n - at') = n + 1 by omega] at ho
            refine u_new ?_ ho hb
            simp only [execOp, resolve, invoke, builtin, Sem.run_bind, Sem.run_pure, Result.andThen_ok, List.map_toArray, List.map_cons, List.map_nil, e67, hr]
          · intro ρ wx hρ hbx hl
            have e45 : ρ (.tmp 45) = .pointer (some ⟨b, 0, none⟩) := hl 0 (by decide +kernel) (.inl rfl) 45 rfl
            refine u_val (v := .pointer (some ⟨b, 0, none⟩)) ?_ rfl
            simp [execOp, go_sem, e45]
          · intro ρ wx hρ hbx hl
            have e69 : ρ (.tmp 69) = .pointer (some ⟨b, 0, none⟩) := hl 24 (by decide +kernel) (.inl rfl) 69 rfl
            refine u_val (v := .pointer (some ⟨b, 3, none⟩)) ?_ rfl
            simp [execOp, go_sem, e69]
          intro aa wz hdef hsz hlk hbz hf
          have ha := act_of_like hdef hsz hlk [45, 46, 47, 48, 49, 50, 51, 52, 53, 54, 55, 56, 57, 58, 59, 60, 61, 62, 63, 64, 65, 66, 67, 68, 69, 70] 72 rfl (by decide +kernel)
          have e45 : aa.tmps.getD 45 undef = .pointer (some ⟨b, 0, none⟩) := hf 0 _ 45 rfl rfl rfl
          have e47 : aa.tmps.getD 47 undef = .pointer (some ⟨b, 0, none⟩) := hf 2 _ 47 rfl rfl rfl
          have e48 : aa.tmps.getD 48 undef = .pointer (some ⟨b, 0, none⟩) := hf 3 _ 48 rfl rfl rfl
          have e49 : aa.tmps.getD 49 undef = .pointer (some ⟨b, 3, none⟩) := hf 4 _ 49 rfl rfl rfl
          have e50 : aa.tmps.getD 50 undef = .slice a n cap := hf 5 _ 50 rfl rfl rfl
          have e51 : aa.tmps.getD 51 undef = .int .i64 (at' : Int) := hf 6 _ 51 rfl rfl rfl
          have e52 : aa.tmps.getD 52 undef = .slice a at' cap := hf 7 _ 52 rfl rfl rfl
          have e54 : aa.tmps.getD 54 undef = .string c := hf 9 _ 54 rfl rfl rfl
          have e55 : aa.tmps.getD 55 undef = .pointer (some ⟨b, 0, none⟩) := hf 10 _ 55 rfl rfl rfl
          have e56 : aa.tmps.getD 56 undef = .pointer (some ⟨b, 0, none⟩) := hf 11 _ 56 rfl rfl rfl
          have e57 : aa.tmps.getD 57 undef = .pointer (some ⟨b, 1, none⟩) := hf 12 _ 57 rfl rfl rfl
          have e58 : aa.tmps.getD 58 undef = .int .u64 (M : Int) := hf 13 _ 58 rfl rfl rfl
          have e59 : aa.tmps.getD 59 undef = .agg #[.string c, .int .u64 (M : Int)] := hf 14 _ 59 rfl rfl rfl
          have e62 : aa.tmps.getD 62 undef = .pointer (some ⟨b, 0, none⟩) := hf 17 _ 62 rfl rfl rfl
          have e63 : aa.tmps.getD 63 undef = .pointer (some ⟨b, 0, none⟩) := hf 18 _ 63 rfl rfl rfl
          have e64 : aa.tmps.getD 64 undef = .pointer (some ⟨b, 3, none⟩) := hf 19 _ 64 rfl rfl rfl
          have e65 : aa.tmps.getD 65 undef = .slice a n cap := hf 20 _ 65 rfl rfl rfl
          have e66 : aa.tmps.getD 66 undef = .int .i64 (at' : Int) := hf 21 _ 66 rfl rfl rfl
          have e67 : aa.tmps.getD 67 undef = .slice (behindS a at' cap 2) (n - at') (cap - at') := hf 22 _ 67 rfl rfl rfl
          have e68 : (ownsF w1.heap.size 40 2 (n + 1) (ccells (l.take at' ++ (c, M) :: l.drop at'))).p (aa.tmps.getD 68 undef) wz := hf 23 _ 68 rfl rfl rfl
          generalize hv68 : aa.tmps.getD 68 undef = v68 at e68
          have e69 : aa.tmps.getD 69 undef = .pointer (some ⟨b, 0, none⟩) := hf 24 _ 69 rfl rfl rfl
          have e70 : aa.tmps.getD 70 undef = .pointer (some ⟨b, 3, none⟩) := hf 25 _ 70 rfl rfl rfl
          simp only [putAll, List.foldl_cons, List.foldl_nil, e45, e47, e48, e49, e50, e51, e52, e54, e55, e56, e57, e58, e59, e62, e63, e64, e65, e66, e67, hv68, e69, e70] at ha
          generalize aa.tmps.getD 46 undef = v46 at ha
          generalize aa.tmps.getD 53 undef = v53 at ha
          generalize aa.tmps.getD 60 undef = v60 at ha
          generalize aa.tmps.getD 61 undef = v61 at ha
          simp [Act.put] at ha
          subst ha
          clear hdef hsz hlk hf e45 e47 e48 e49 e50 e51 e52 e54 e55 e56 e57 e58 e59 e62 e63 e64 e65 e66 e67 hv68 e69 e70
          obtain ⟨a9, c9, hv9, _, _⟩ := (ownsRow.reads e68).le
          subst hv9
          have hlen : (l.take at' ++ (c, M) :: l.drop at').length = n + 1 := by
            have := HLs.out
            have h2 := HN.out
            rw [this] at h2
            simp
            omega
          have hlel : at' ≤ l.length := by
            have := HLs.out
            have h2 := HN.out
            rw [this] at h2
            omega
          have hbz' := (hbz.block b hblt).trans HB.out
          have x3 := Lib.cell_of_heap hbz' 3
          have xf := Lib.frozen_of_heap hbz'
          simp at x3
          have hw1s : B ≤ w1.heap.size := by omega
          have hst : RF B b w0 (wz.setCell ⟨b, 3, none⟩ (.slice a9 (n + 1) c9)) := RF.set (b := b) (p := ⟨b, 3, none⟩) (RF.of_below (HBL.out.trans (hbz.mono HBL.out.size)) hB0) hBb (.inl rfl) (.slice a9 (n + 1) c9)
          have hra : RAt (wz.setCell ⟨b, 3, none⟩ (.slice a9 (n + 1) c9)) B b { R with cs := l.take at' ++ (c, M) :: l.drop at' } := by
            refine ⟨.slice a9 (n + 1) c9, ?_, hBb, ?_⟩
            · rw [heap_setCell_same _ b 3 _ _ _ hbz']
              rfl
            · show World.ownsRow _ B _ 2 (.slice a9 (n + 1) c9) (l.take at' ++ (c, M) :: l.drop at').length _
              rw [hlen]
              refine ownsRow_setCell_other (owns_less e68 hw1s) (a := ⟨b, 3, none⟩) ?_ _
              exact owns_other e68 hbz' (by decide)
          have HST := Lib.hid hst
          have HRA := Lib.hid hra
          clear e68 hbz hbz' hst hra hlen
          unfold Oper.wp
          simp [execOp, go_sem, x3, xf]
          clear x3 xf
          generalize wz.setCell ⟨b, 3, none⟩ (.slice a9 (n + 1) c9) = w9 at *
          go_wp2
          go_ret
          refine ⟨at', M, _, rfl, ?_, HRA.out, HST.out, .inr ⟨HNo.out, at', HLand.out, rfl, by rw [HLs.out, HM.out]⟩⟩
          show (l.take at' ++ (c, M) :: l.drop at')[at']? = _
          rw [List.getElem?_append_right (by simp; omega)]
          simp [List.length_take, Nat.min_eq_left hlel]
end Go.Proofs.Ytionejpiieemeaa
