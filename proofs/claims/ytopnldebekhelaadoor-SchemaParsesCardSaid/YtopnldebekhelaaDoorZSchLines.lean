/- A text's lines. -/
import Derived.Test.YtopnldebekhelaaDoorZSchAdd
namespace Go.Proofs.YtopnldebekhelaaDoor
open Go Go.RowKit

def linesL : List UInt8 → List (List UInt8)
  | [] => [[]]
  | c :: r => if c = 10 then [] :: linesL r else match linesL r with
    | [] => [[c]]
    | l :: ls => (c :: l) :: ls

theorem linesL_ne : ∀ l, linesL l ≠ []
  | [] => by simp [linesL]
  | c :: r => by
    rw [linesL]
    split
    · simp
    · split <;> simp

theorem index_cons_ne {c : UInt8} (r : List UInt8) (h : c ≠ 10) : Lib.index (c :: r) [10] = if Lib.index r [10] == -1 then -1 else Lib.index r [10] + 1 := by
  conv => lhs; unfold Lib.index
  have : ([10] : List UInt8).isPrefixOf (c :: r) = false := by
    simp [List.isPrefixOf]
    exact fun e => h e.symm
  simp [this]

theorem splitK_lines : ∀ s : List UInt8, Lib.splitK [10] 0 (s.count 10) s = linesL s
  | [] => rfl
  | c :: r => by
    have ih := splitK_lines r
    by_cases h : c = 10
    · subst h
      rw [List.count_cons_self, Lib.splitK]
      have : Lib.index (10 :: r) [10] = 0 := by unfold Lib.index; simp [List.isPrefixOf]
      rw [this, if_neg (by decide)]
      simp only [linesL, if_pos]
      rw [show ((0 : Int).toNat + 0) = 0 from rfl, show ((0 : Int).toNat + ([10] : List UInt8).length) = 1 from rfl]
      rw [List.take_zero, List.drop_succ_cons, List.drop_zero, ih]
    · rw [List.count_cons_of_ne h, linesL, if_neg h, ← ih]
      cases hk : r.count 10 with
      | zero => rfl
      | succ k =>
        rw [Lib.splitK, Lib.splitK, index_cons_ne r h]
        have hge := Lib.index_ge r [10]
        by_cases hm : (Lib.index r [10] == -1) = true
        · have hm2 : Lib.index r [10] = -1 := by simpa using hm
          rw [hm2]
          simp
        · have hm2 : ¬ Lib.index r [10] = -1 := fun e => hm (by rw [e]; rfl)
          obtain ⟨i, hi⟩ : ∃ i : Nat, Lib.index r [10] = i := ⟨(Lib.index r [10]).toNat, by omega⟩
          rw [hi] at hm ⊢
          rw [if_neg hm, if_neg (show ¬ ((i : Int) + 1 == -1) = true by simp; omega), if_neg hm]
          have e1 : ((i : Int) + 1).toNat = i + 1 := by omega
          have e2 : (i : Int).toNat = i := by omega
          rw [e1, e2]
          simp [List.take_succ_cons]

def linesB (s : ByteArray) : List ByteArray := Lib.splitB ⟨#[10]⟩ 0 (Lib.countB s ⟨#[10]⟩) s
theorem linesB_data (s : ByteArray) : (linesB s).map (·.data.toList) = linesL s.data.toList := by
  unfold linesB
  rw [Lib.splitB_data, ← splitK_lines]
  congr 1
  exact Lib.count_one 10 _
theorem linesB_len (s : ByteArray) : (linesB s).length = Lib.countB s ⟨#[10]⟩ + 1 := Lib.splitB_all _ (by decide) _ _ _ rfl
theorem linesB_le (s : ByteArray) : (linesB s).length ≤ s.size + 1 := by
  rw [linesB_len]
  have := Lib.countB_le ⟨#[10]⟩ (by decide) s.size s (Nat.le_refl _)
  omega

theorem linesL_le : ∀ (s : List UInt8), ∀ l ∈ linesL s, l.length ≤ s.length
  | [], l, h => by simp [linesL] at h; subst h; simp
  | c :: r, l, h => by
    rw [linesL] at h
    have ih := linesL_le r
    split at h
    · rcases List.mem_cons.1 h with rfl | h
      · simp
      · have := ih l h; simp; omega
    · split at h
      · simp at h; subst h; simp
      · rename_i l0 ls he
        rw [he] at ih
        rcases List.mem_cons.1 h with rfl | h
        · have := ih l0 (by simp); simp; omega
        · have := ih l (by simp [h]); simp; omega

theorem cntS_line {S S' : List Ty} {T : List ByteArray} (h : lineF S T = some S') : cntS S' ≤ cntS S + 1 := by
  unfold lineF at h
  split at h
  · split at h
    · cases h; rw [cntS_append]; simp [cntS]
    · cases h
  · split at h
    · rename_i hc
      split at h
      · split at h
        · cases h
          rcases List.eq_nil_or_concat S with hS | ⟨S0, t, hS⟩
          · exact absurd hS hc.2.2
          · rw [List.concat_eq_append] at hS
            subst hS
            rw [addRl_snoc, cntS_append, cntS_append]
            simp [cntS]; omega
        · cases h
      · cases h
    · cases h

def parseR : Option (List Ty) × Nat → List Ty × Nat × Nat
  | (some S, _) => (S, 0, 0)
  | (none, i) => ([], i, 9)

/-- What a text says: its schema, the line that is wrong, the error. -/
def parseS (text : ByteArray) : List Ty × Nat × Nat :=
  if text.size > 65536 then ([], 0, 10) else parseR (parseL 0 [] (linesL text.data.toList))

/-- A schema in memory. -/
def SchAt (ok : Nat → Prop) (w : World) (v : Value) (S : List Ty) : Prop :=
  ∃ es : List TyE, es.map TyE.ty = S ∧ RowsAt ok w v S.length (es.flatMap TyE.cells) ∧ ∀ e ∈ es, tyEAt ok w e

theorem SchAt.nil (ok : Nat → Prop) (w : World) : SchAt ok w (.slice none 0 0) [] := ⟨[], rfl, ⟨none, 0, rfl, Nat.le_refl _, Nat.zero_le _, (fun j u h => by simp at h)⟩, (fun e h => by cases h)⟩
theorem SchAt.keep {ok : Nat → Prop} {w w' : World} {v : Value} {S : List Ty} (h : SchAt ok w v S) (k : Keeps ok w w') : SchAt ok w' v S := by
  obtain ⟨es, h1, h2, h3⟩ := h
  exact ⟨es, h1, h2.keep k, fun e he => tyE_keep.keep _ _ _ _ k (h3 e he)⟩
theorem SchAt.mono {ok ok' : Nat → Prop} {w : World} {v : Value} {S : List Ty} (h : SchAt ok w v S) (k : ∀ x, x < w.heap.size → ok x → ok' x) : SchAt ok' w v S := by
  obtain ⟨es, h1, h2, h3⟩ := h
  exact ⟨es, h1, h2.mono k, fun e he => tyE_keep.mono _ _ _ _ k (h3 e he)⟩

theorem TysAt.sch {w : World} {B : Nat} {X : Nat → Prop} {tv : Value} {es : List TyE} {rs : List RlE} (h : TysAt w B X tv es rs) : SchAt (fun b => B ≤ b) w tv (es.map TyE.ty) :=
  ⟨es, rfl, by rw [List.length_map]; exact own_rowsAt h.own, fun e he => tyE_keep.mono _ _ _ _ (fun b _ hb => hb.1.1) (h.all e he)⟩

def MaxInt (w : World) : Prop := ∃ m, w.cell? ⟨0, 0, none⟩ = some (.int .i64 m)

theorem split_any (w : World) (s : ByteArray) (hm : MaxInt w) (hs : s.size < 4294967281) : Calls Tryd.prog 14 #[.string s, .string ⟨#[10]⟩] w (fun e w' => e = .returned (.slice (some ⟨w.heap.size, 0, none⟩) (linesB s).length (linesB s).length) ∧ w' = w.alloc (.cells ((linesB s).map Value.string).toArray 9)) := by
  obtain ⟨m, hm⟩ := hm
  refine (Tryd.strings_Split s ⟨#[10]⟩ m w hs hm (by decide)).mono fun e w' h => ?_
  rw [linesB_len]
  exact h
end Go.Proofs.YtopnldebekhelaaDoor
