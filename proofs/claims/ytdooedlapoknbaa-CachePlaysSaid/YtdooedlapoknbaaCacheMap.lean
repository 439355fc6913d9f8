/- The cache's map: from places to items. -/
import Derived.Test.YtdooedlapoknbaaCacheRing
import Derived.Maps.OwnSet
namespace Go.Proofs.Ytdooedlapoknbaa
open Go Go.RowKit Go.Maps

theorem cacheLaid : laidOutB Try.prog = true := by kernel_rfl
theorem placeRow : (47 : TypeId) < Try.prog.types.size := of_decide_eq_true (by kernel_rfl)
theorem placeWide : (match Try.prog.underlying 47 with | some (.array _ _) | some (.struct _) => true | _ => false) = true := by kernel_rfl
theorem placeLaw : Keyed Try.prog 47 := Keyed.of_law (deep_law_laid cacheLaid (m := 2) (by omega) placeRow (by kernel_rfl) placeWide)
theorem cmapU : Try.prog.underlying 52 = some (.map 47 45) := by kernel_rfl
theorem zeroItem (w : World) : (zeroValue 45).run Try.prog w = .ok (.pointer none) w := by kernel_rfl

def plc (f b : Int) : Value := .agg #[.int .i64 f, .int .i64 b]

def InI (z : Int) : Prop := -9223372036854775808 ≤ z ∧ z ≤ 9223372036854775807

theorem placeFormed (f b : Int) : (plc f b).formed Try.prog 47 = true := by
  have h1 : Try.prog.underlying 47 = _ := Try.underlying47
  have h2 : Try.prog.cellsOf 47 = 2 := by kernel_rfl
  simp [plc, Value.formed, h1, h2]

theorem placeKey (f b : Int) (hf : InI f) (hb : InI b) : ∃ kl, keyOf Try.prog 47 (plc f b) = some kl := by
  have h1 : Try.prog.underlying 47 = _ := Try.underlying47
  have h2 : Try.prog.cellsOf 47 = 2 := by kernel_rfl
  have h3 : Try.prog.cellsOf 3 = 1 := by kernel_rfl
  have h4 : Try.prog.underlying 3 = some (.int .i64) := Try.underlying3
  have h5 : Try.prog.keyType 47 = true := by kernel_rfl
  have hw1 : (Lit.int .i64 f).wf = true := by simp [Lit.wf, IntKind.min, IntKind.max, IntKind.signed, IntKind.bits]; exact hf
  have hw2 : (Lit.int .i64 b).wf = true := by simp [Lit.wf, IntKind.min, IntKind.max, IntKind.signed, IntKind.bits]; exact hb
  obtain ⟨n, hn⟩ : ∃ n, Try.prog.types.size = n + 1 := ⟨Try.prog.types.size - 1, by have h : (47 : Nat) < Try.prog.types.size := placeRow; omega⟩
  unfold keyOf
  rw [h1]
  simp only [h5, placeFormed f b, Bool.and_self, if_true]
  rw [hn]
  simp [plc, Program.keyLits, h1, h2, h3, h4, hw1, hw2, Value.cells]

/-- A place's key. -/
noncomputable def keyL (f b : Int) : Lit := (keyOf Try.prog 47 (plc f b)).getD (.bool false)

theorem keyL_of {f b : Int} (hf : InI f) (hb : InI b) : keyOf Try.prog 47 (plc f b) = some (keyL f b) := by
  obtain ⟨kl, h⟩ := placeKey f b hf hb
  unfold keyL
  rw [h]
  rfl

theorem keyL_inj {f b f' b' : Int} (hf : InI f) (hb : InI b) (hf' : InI f') (hb' : InI b') (h : keyL f b = keyL f' b') : f = f' ∧ b = b' := by
  have h1 := keyL_of hf hb
  have h2 := keyL_of hf' hb'
  rw [h] at h1
  have := placeLaw.inj h1 h2
  simpa [plc] using this

theorem keyL_lit {f b : Int} (hf : InI f) (hb : InI b) : WideAt.IsKeyLit (keyL f b) := placeLaw.key (keyL_of hf hb)

/-- How an item's address reads. -/
def nodeR : Value → Option (DataW Unit × List MemPlace)
  | .pointer none => some (.lit (.bool false), [])
  | .pointer (some ⟨x, 0, none⟩) => some (.lit (.int .u64 (x : Int)), [])
  | _ => none

def nodeD (x : Nat) : DataW Unit := .lit (.int .u64 (x : Int))

theorem nodeR_inv {v : Value} {x : Nat} {ps : List MemPlace} (h : nodeR v = some (nodeD x, ps)) : v = .pointer (some ⟨x, 0, none⟩) := by
  unfold nodeR nodeD at h
  split at h
  · simp at h
  · rename_i y
    simp at h
    have : y = x := by omega
    rw [this]
  · cases h

theorem nodeR_none {v : Value} {ps : List MemPlace} (h : nodeR v = some (.lit (.bool false), ps)) : v = .pointer none := by
  unfold nodeR at h
  split at h
  · rfl
  · simp at h
  · cases h

/-- The map D leads from the places of xs to xs. -/
def LookN (D : DataW Unit) (it : Nat → It) (xs : List Nat) : Prop :=
  ∀ f b, InI f → InI b → (∀ x ∈ xs, (it x).f = f → (it x).b = b → has D (keyL f b) = true ∧ ∀ z, D.atKey (keyL f b) z = nodeD x) ∧ ((∀ x ∈ xs, ¬ ((it x).f = f ∧ (it x).b = b)) → has D (keyL f b) = false)

theorem LookN.put {D : DataW Unit} {it : Nat → It} {xs : List Nat} (h : LookN D it xs) (hD : IsMap D) {n : Nat} (hf : InI (it n).f) (hb : InI (it n).b) (hno : ∀ x ∈ xs, ¬ ((it x).f = (it n).f ∧ (it x).b = (it n).b)) :
    LookN (D.put (keyL (it n).f (it n).b) (nodeD n)) it (xs ++ [n]) := by
  intro f b hf' hb'
  by_cases he : f = (it n).f ∧ b = (it n).b
  · obtain ⟨rfl, rfl⟩ := he
    refine ⟨fun x hx e1 e2 => ?_, fun hall => absurd ⟨rfl, rfl⟩ (hall n (by simp))⟩
    rcases List.mem_append.1 hx with hx | hx
    · exact absurd ⟨e1, e2⟩ (hno x hx)
    · simp at hx
      subst hx
      exact ⟨has_put_same hD (keyL_lit hf hb) _, fun z => atKey_put_same hD (keyL_lit hf hb) _ _⟩
  · have hne : keyL f b ≠ keyL (it n).f (it n).b := fun e => he (keyL_inj hf' hb' hf hb e)
    refine ⟨fun x hx e1 e2 => ?_, fun hall => ?_⟩
    · rcases List.mem_append.1 hx with hx | hx
      · obtain ⟨g1, g2⟩ := (h f b hf' hb').1 x hx e1 e2
        exact ⟨by rw [has_put_other hne]; exact g1, fun z => by rw [atKey_put_other hne]; exact g2 z⟩
      · simp at hx
        subst hx
        exact absurd ⟨e1.symm, e2.symm⟩ he
    · rw [has_put_other hne]
      exact (h f b hf' hb').2 fun x hx => hall x (by simp [hx])

theorem LookN.del {D : DataW Unit} {it : Nat → It} {A B : List Nat} {n : Nat} (h : LookN D it (A ++ n :: B)) (hf : InI (it n).f) (hb : InI (it n).b) (hno : ∀ x ∈ A ++ B, ¬ ((it x).f = (it n).f ∧ (it x).b = (it n).b)) :
    LookN (D.del (keyL (it n).f (it n).b)) it (A ++ B) := by
  intro f b hf' hb'
  by_cases he : f = (it n).f ∧ b = (it n).b
  · obtain ⟨rfl, rfl⟩ := he
    exact ⟨fun x hx e1 e2 => absurd ⟨e1, e2⟩ (hno x hx), fun _ => has_del_same⟩
  · have hne : keyL f b ≠ keyL (it n).f (it n).b := fun e => he (keyL_inj hf' hb' hf hb e)
    refine ⟨fun x hx e1 e2 => ?_, fun hall => ?_⟩
    · obtain ⟨g1, g2⟩ := (h f b hf' hb').1 x (by simp at hx ⊢; rcases hx with hx | hx <;> simp [hx]) e1 e2
      exact ⟨by rw [has_del_other hne]; exact g1, fun z => by rw [atKey_del_other hne]; exact g2 z⟩
    · rw [has_del_other hne]
      refine (h f b hf' hb').2 fun x hx => ?_
      simp at hx
      rcases hx with hx | rfl | hx
      · exact hall x (by simp [hx])
      · exact fun e => he ⟨e.1.symm, e.2.symm⟩
      · exact hall x (by simp [hx])

theorem own_tight {w : World} {b n : Nat} {D : DataW Unit} (h : w.ownsMap Try.prog 47 nodeR b n D) : w.ownsMap Try.prog 47 nodeR b (size D) D := by
  obtain ⟨es, clock, hb, F, _, rfl⟩ := h
  refine ⟨es, clock, hb, F, ?_, rfl⟩
  have := length_read (P := Try.prog) (k := 47) (R0 := nodeR) es
  simp only [size]
  omega

/-- What the map tells of a place. -/
theorem lookN_run {w : World} {m n : Nat} {D : DataW Unit} {it : Nat → It} {xs : List Nat} (h : w.ownsMap Try.prog 47 nodeR m n D) (hl : LookN D it xs) {f b : Int} (hf : InI f) (hb : InI b) :
    (∀ x ∈ xs, (it x).f = f → (it x).b = b → (Instr.lookup 52 (.map (some m)) (plc f b) true).run Try.prog w = .ok (.tuple #[.pointer (some ⟨x, 0, none⟩), .bool true]) w) ∧
    ((∀ x ∈ xs, ¬ ((it x).f = f ∧ (it x).b = b)) → (Instr.lookup 52 (.map (some m)) (plc f b) true).run Try.prog w = .ok (.tuple #[.pointer none, .bool false]) w) := by
  obtain ⟨v, ps, hrun, hv⟩ := h.look_ok placeLaw cmapU (zeroItem w) (show nodeR (.pointer none) = some (.lit (.bool false), []) from rfl) (keyL_of hf hb)
  obtain ⟨h1, h2⟩ := hl f b hf hb
  refine ⟨fun x hx e1 e2 => ?_, fun hall => ?_⟩
  · obtain ⟨g1, g2⟩ := h1 x hx e1 e2
    rw [g2] at hv
    rw [hrun, nodeR_inv hv, g1]
  · have g := h2 hall
    rw [atKey_of_not_has g] at hv
    rw [hrun, nodeR_none hv, g]
end Go.Proofs.Ytdooedlapoknbaa
