/- A directory: names, each with its file, in order; what acts make of it; how a map holds it. -/
import Derived.Test.YtbhapbioibhalaaStrOrd
import Derived.Test.YtbhapbioibhalaaTouch
import Derived.Maps.RangeWalk
namespace Go.Proofs.Ytbhapbioibhalaa
open Go Go.RowKit Go.Maps

abbrev Dir := List (ByteArray × Nat)

/-- The file of a name. -/
def fileOf : Dir → ByteArray → Option Nat
  | [], _ => none
  | (t, h) :: l, s => if t = s then some h else fileOf l s
/-- A name stands for a file. -/
def putD : Dir → ByteArray → Nat → Dir
  | [], s, g => [(s, g)]
  | (t, h) :: l, s, g => if bl s t then (s, g) :: (t, h) :: l else if t = s then (s, g) :: l else (t, h) :: putD l s g
/-- A name stands for nothing. -/
def delD (l : Dir) (s : ByteArray) : Dir := l.filter fun p => !decide (p.1 = s)
/-- The names are in order, each once. -/
def UpD (l : Dir) : Prop := l.Pairwise fun p q => bl p.1 q.1 = true

theorem UpD.del {l : Dir} (h : UpD l) (s : ByteArray) : UpD (delD l s) := h.filter _
theorem mem_delD {l : Dir} {s : ByteArray} {p : ByteArray × Nat} : p ∈ delD l s ↔ p ∈ l ∧ p.1 ≠ s := by
  unfold delD
  rw [List.mem_filter]
  simp

theorem fileOf_mem : ∀ {l : Dir} {s : ByteArray} {g : Nat}, fileOf l s = some g → (s, g) ∈ l
  | (t, h) :: l, s, g, e => by
    unfold fileOf at e
    split at e
    · rename_i hts
      cases e
      subst hts
      exact List.mem_cons_self
    · exact List.mem_cons_of_mem _ (fileOf_mem e)
theorem fileOf_none : ∀ {l : Dir} {s : ByteArray}, fileOf l s = none → ∀ g, (s, g) ∉ l
  | [], _, _, _ => by simp
  | (t, h) :: l, s, e, g => by
    unfold fileOf at e
    split at e
    · cases e
    · rename_i hts
      intro hm
      rcases List.mem_cons.1 hm with hm | hm
      · cases hm
        exact hts rfl
      · exact fileOf_none e g hm
theorem UpD.one {l : Dir} (h : UpD l) {s : ByteArray} {g g' : Nat} (h1 : (s, g) ∈ l) (h2 : (s, g') ∈ l) : g = g' := by
  induction l with
  | nil => cases h1
  | cons p l ih =>
    obtain ⟨hp, hl⟩ := List.pairwise_cons.1 h
    rcases List.mem_cons.1 h1 with e1 | e1
    · rcases List.mem_cons.1 h2 with e2 | e2
      · rw [← e1] at e2
        cases e2
        rfl
      · have := hp _ e2
        rw [← e1, bl_irrefl] at this
        cases this
    · rcases List.mem_cons.1 h2 with e2 | e2
      · have := hp _ e1
        rw [← e2, bl_irrefl] at this
        cases this
      · exact ih hl e1 e2
theorem UpD.fileOf {l : Dir} (h : UpD l) {s : ByteArray} {g : Nat} (hm : (s, g) ∈ l) : fileOf l s = some g := by
  cases e : Go.Proofs.Ytbhapbioibhalaa.fileOf l s with
  | none => exact absurd hm (fileOf_none e g)
  | some g' => rw [h.one hm (fileOf_mem e)]

theorem mem_putD : ∀ {l : Dir} (_ : UpD l) {s : ByteArray} {g : Nat} {p : ByteArray × Nat}, p ∈ putD l s g ↔ p = (s, g) ∨ (p ∈ l ∧ p.1 ≠ s)
  | [], _, s, g, p => by simp [putD]
  | (t, h) :: l, hu, s, g, p => by
    obtain ⟨hp, hl⟩ := List.pairwise_cons.1 hu
    unfold putD
    split
    · rename_i hst
      have hne : ∀ q ∈ (t, h) :: l, q.1 ≠ s := fun q hq e => by
        rcases List.mem_cons.1 hq with e1 | e1
        · subst e1
          exact bl_ne hst e.symm
        · have := bl_trans hst (hp q e1)
          rw [e, bl_irrefl] at this
          cases this
      rw [List.mem_cons]
      exact ⟨fun e => e.imp id fun e => ⟨e, hne p e⟩, fun e => e.imp id fun e => e.1⟩
    · rename_i hst
      split
      · rename_i hts
        subst hts
        have hne : ∀ q ∈ l, q.1 ≠ t := fun q hq e => bl_ne (hp q hq) e.symm
        rw [List.mem_cons, List.mem_cons]
        exact ⟨fun e => e.imp id fun e => ⟨.inr e, hne p e⟩, fun e => e.elim .inl fun ⟨e1, e2⟩ => e1.elim (fun e => absurd (by rw [e]) e2) .inr⟩
      · rename_i hts
        rw [List.mem_cons, mem_putD hl, List.mem_cons]
        constructor
        · rintro (e | e | e)
          · exact .inr ⟨.inl e, by rw [e]; exact hts⟩
          · exact .inl e
          · exact .inr ⟨.inr e.1, e.2⟩
        · rintro (e | ⟨e | e, e2⟩)
          · exact .inr (.inl e)
          · exact .inl e
          · exact .inr (.inr ⟨e, e2⟩)

theorem UpD.put : ∀ {l : Dir} (_ : UpD l) (s : ByteArray) (g : Nat), UpD (putD l s g)
  | [], _, s, g => List.pairwise_singleton _ _
  | (t, h) :: l, hu, s, g => by
    obtain ⟨hp, hl⟩ := List.pairwise_cons.1 hu
    unfold putD
    split
    · rename_i hst
      refine List.pairwise_cons.2 ⟨fun q hq => ?_, hu⟩
      rcases List.mem_cons.1 hq with e | e
      · subst e
        exact hst
      · exact bl_trans hst (hp q e)
    · rename_i hst
      have hst : bl s t = false := by simpa using hst
      split
      · rename_i hts
        subst hts
        exact List.pairwise_cons.2 ⟨hp, hl⟩
      · rename_i hts
        refine List.pairwise_cons.2 ⟨fun q hq => ?_, UpD.put hl s g⟩
        rcases (mem_putD hl).1 hq with e | e
        · subst e
          exact bl_ge hst (fun e => hts e.symm)
        · exact hp q e.1

theorem putD_len : ∀ {l : Dir} (_ : UpD l) (s : ByteArray) (g : Nat), (putD l s g).length = if (fileOf l s).isSome then l.length else l.length + 1
  | [], _, s, g => rfl
  | (t, h) :: l, hu, s, g => by
    obtain ⟨hp, hl⟩ := List.pairwise_cons.1 hu
    unfold putD
    split
    · rename_i hst
      have hn : fileOf ((t, h) :: l) s = none := by
        cases e : fileOf ((t, h) :: l) s with
        | none => rfl
        | some g' =>
          have hm := fileOf_mem e
          rcases List.mem_cons.1 hm with e1 | e1
          · cases e1
            rw [bl_irrefl] at hst
            cases hst
          · have := bl_trans hst (hp _ e1)
            rw [bl_irrefl] at this
            cases this
      rw [hn]
      simp
    · split
      · rename_i hts
        subst hts
        simp [fileOf]
      · rename_i hts
        rw [List.length_cons, putD_len hl s g]
        have e : fileOf ((t, h) :: l) s = fileOf l s := by simp [fileOf, hts]
        rw [e]
        split <;> simp

theorem delD_len : ∀ {l : Dir} (_ : UpD l) (s : ByteArray), (delD l s).length + (if (fileOf l s).isSome then 1 else 0) = l.length
  | [], _, s => rfl
  | (t, h) :: l, hu, s => by
    obtain ⟨hp, hl⟩ := List.pairwise_cons.1 hu
    have ih := delD_len hl s
    unfold delD at ih ⊢
    unfold fileOf
    by_cases hts : t = s
    · subst hts
      have hn : fileOf l t = none := by
        cases e : fileOf l t with
        | none => rfl
        | some g' =>
          have := hp _ (fileOf_mem e)
          rw [bl_irrefl] at this
          cases this
      rw [hn] at ih
      rw [List.filter_cons_of_neg (by simp), if_pos rfl, List.length_cons]
      simp at ih ⊢
      exact ih
    · rw [List.filter_cons_of_pos (by simp [hts]), if_neg hts, List.length_cons, List.length_cons]
      omega

/-- What is done to a directory. -/
inductive DAct where
  | add (t : ByteArray) (g : Nat)
  | mv (f t : ByteArray)
  | rm (f : ByteArray)

def DAct.cells : DAct → List Value
  | .add t g => [.string ⟨#[]⟩, .string t, .pointer (some ⟨g, 0, none⟩)]
  | .mv f t => [.string f, .string t, .pointer none]
  | .rm f => [.string f, .string ⟨#[]⟩, .pointer none]
def stepA (l : Dir) : DAct → Dir
  | .add t g => putD l t g
  | .mv f t => match fileOf l f with
    | some g => putD (delD l f) t g
    | none => delD l f
  | .rm f => delD l f
/-- A name that may be. -/
def nameB (c : UInt8) : Bool := decide (97 ≤ c.toNat ∧ c.toNat ≤ 122) || decide (48 ≤ c.toNat ∧ c.toNat ≤ 57) || decide (c.toNat = 46) || decide (c.toNat = 45)
def nameOk (s : ByteArray) : Bool := s.data.toList.all nameB && decide (1 ≤ s.size) && decide (s.size ≤ 32)
/-- May it be done? -/
def okA (l : Dir) : DAct → Prop
  | .add t g => nameOk t = true ∧ ∀ s, (s, g) ∉ l
  | .mv f t => nameOk f = true ∧ nameOk t = true ∧ ∃ g, fileOf l f = some g
  | .rm f => nameOk f = true
def runA (l : Dir) (xs : List DAct) : Dir := xs.foldl stepA l
def okAs : Dir → List DAct → Prop
  | _, [] => True
  | l, a :: xs => okA l a ∧ okAs (stepA l a) xs

/-- Each file has one name, each name is a name. -/
def Lone (l : Dir) : Prop := UpD l ∧ (∀ s t g, (s, g) ∈ l → (t, g) ∈ l → s = t) ∧ ∀ p ∈ l, nameOk p.1 = true

theorem Lone.step {l : Dir} (h : Lone l) {a : DAct} (ha : okA l a) : Lone (stepA l a) := by
  obtain ⟨hu, h1, h2⟩ := h
  cases a with
  | add t g =>
    refine ⟨hu.put t g, fun s s' g' k1 k2 => ?_, fun p hp => ?_⟩
    · rcases (mem_putD hu).1 k1 with e1 | e1 <;> rcases (mem_putD hu).1 k2 with e2 | e2
      · cases e1
        cases e2
        rfl
      · cases e1
        exact absurd e2.1 (ha.2 _)
      · cases e2
        exact absurd e1.1 (ha.2 _)
      · exact h1 _ _ _ e1.1 e2.1
    · rcases (mem_putD hu).1 hp with e | e
      · subst e
        exact ha.1
      · exact h2 p e.1
  | mv f t =>
    obtain ⟨_, ht, g, hg⟩ := ha
    show Lone (match fileOf l f with | some g => putD (delD l f) t g | none => delD l f)
    rw [hg]
    have hd := hu.del f
    refine ⟨hd.put t g, fun s s' g' k1 k2 => ?_, fun p hp => ?_⟩
    · have hno : ∀ s, (s, g) ∉ delD l f := fun s hs => by
        have hm := mem_delD.1 hs
        exact hm.2 (h1 _ _ _ hm.1 (fileOf_mem hg))
      rcases (mem_putD hd).1 k1 with e1 | e1 <;> rcases (mem_putD hd).1 k2 with e2 | e2
      · cases e1
        cases e2
        rfl
      · cases e1
        exact absurd e2.1 (hno _)
      · cases e2
        exact absurd e1.1 (hno _)
      · exact h1 _ _ _ (mem_delD.1 e1.1).1 (mem_delD.1 e2.1).1
    · rcases (mem_putD hd).1 hp with e | e
      · subst e
        exact ht
      · exact h2 p (mem_delD.1 e.1).1
  | rm f =>
    exact ⟨hu.del f, fun s t g k1 k2 => h1 _ _ _ (mem_delD.1 k1).1 (mem_delD.1 k2).1, fun p hp => h2 p (mem_delD.1 hp).1⟩

theorem okAs_snoc : ∀ {xs : List DAct} {l : Dir} {a : DAct}, okAs l xs → okA (runA l xs) a → okAs l (xs ++ [a])
  | [], _, _, _, h => ⟨h, trivial⟩
  | _ :: _, _, _, h, k => ⟨h.1, okAs_snoc h.2 k⟩
theorem runA_snoc (l : Dir) (xs : List DAct) (a : DAct) : runA l (xs ++ [a]) = stepA (runA l xs) a := by unfold runA; rw [List.foldl_append]; rfl
theorem okAs_take : ∀ {xs : List DAct} {l : Dir} (k : Nat), okAs l xs → okAs l (xs.take k)
  | [], _, k, _ => by rw [List.take_nil]; trivial
  | _ :: _, _, 0, _ => trivial
  | _ :: _, _, k + 1, h => by rw [List.take_succ_cons]; exact ⟨h.1, okAs_take k h.2⟩
theorem okAs_at : ∀ {xs : List DAct} {l : Dir} {k : Nat} {a : DAct}, okAs l xs → xs[k]? = some a → okA (runA l (xs.take k)) a
  | _ :: _, _, 0, _, h, e => by cases e; exact h.1
  | b :: r, l, k + 1, a, h, e => by rw [List.take_succ_cons]; exact okAs_at (xs := r) (l := stepA l b) h.2 (by simpa using e)
theorem runA_next {xs : List DAct} {l : Dir} {k : Nat} {a : DAct} (e : xs[k]? = some a) : runA l (xs.take (k + 1)) = stepA (runA l (xs.take k)) a := by
  rw [List.take_add_one, e, ← runA_snoc]
  rfl
theorem Lone.run : ∀ {xs : List DAct} {l : Dir}, Lone l → okAs l xs → Lone (runA l xs)
  | [], _, h, _ => h
  | b :: r, l, h, k => Lone.run (xs := r) (l := stepA l b) (Lone.step h k.1) k.2

/-- How a name is a key. -/
def sL (s : ByteArray) : Lit := .string s.data.toList
theorem sL_inj {s t : ByteArray} (h : sL s = sL t) : s = t := by
  unfold sL at h
  injection h with h
  exact Go.WideShapes.bytes_inj h
/-- How a file's address reads. -/
def fileR : Value → Option (DataW Unit × List MemPlace)
  | .pointer none => some (.lit (.bool false), [])
  | .pointer (some ⟨x, 0, none⟩) => some (.lit (.int .u64 (x : Int)), [])
  | _ => none
def fileD (x : Nat) : DataW Unit := .lit (.int .u64 (x : Int))
theorem fileR_inv {v : Value} {x : Nat} {ps : List MemPlace} (h : fileR v = some (fileD x, ps)) : v = .pointer (some ⟨x, 0, none⟩) := by
  unfold fileR fileD at h
  split at h
  · simp at h
  · rename_i y
    simp at h
    have : y = x := by omega
    rw [this]
  · cases h
theorem fileR_none {v : Value} {ps : List MemPlace} (h : fileR v = some (.lit (.bool false), ps)) : v = .pointer none := by
  unfold fileR at h
  split at h
  · rfl
  · simp at h
  · cases h

/-- The map D is the directory l. -/
def IsDir (D : DataW Unit) (l : Dir) : Prop := UpD l ∧ (∀ s : ByteArray, has D (sL s) = (fileOf l s).isSome) ∧ (∀ s g, fileOf l s = some g → ∀ z, D.atKey (sL s) z = fileD g) ∧ size D = l.length

theorem isDir_nil : IsDir (.map []) [] := ⟨List.Pairwise.nil, fun _ => rfl, (fun _ _ h => by cases h), rfl⟩

theorem fileOf_put {l : Dir} (h : UpD l) (s t : ByteArray) (g : Nat) : fileOf (putD l s g) t = if t = s then some g else fileOf l t := by
  by_cases hts : t = s
  · subst hts
    rw [if_pos rfl]
    exact (h.put t g).fileOf ((mem_putD h).2 (.inl rfl))
  · rw [if_neg hts]
    cases e : fileOf l t with
    | some g' => exact (h.put s g).fileOf ((mem_putD h).2 (.inr ⟨fileOf_mem e, hts⟩))
    | none =>
      cases e2 : fileOf (putD l s g) t with
      | none => rfl
      | some g' =>
        rcases (mem_putD h).1 (fileOf_mem e2) with e3 | e3
        · cases e3
          exact absurd rfl hts
        · exact absurd e3.1 (fileOf_none e g')
theorem fileOf_del {l : Dir} (h : UpD l) (s t : ByteArray) : fileOf (delD l s) t = if t = s then none else fileOf l t := by
  cases e2 : fileOf (delD l s) t with
  | some g' =>
    have hm := mem_delD.1 (fileOf_mem e2)
    rw [if_neg hm.2, h.fileOf hm.1]
  | none =>
    split
    · rfl
    · rename_i hts
      cases e : fileOf l t with
      | none => rfl
      | some g' => exact absurd (mem_delD.2 ⟨fileOf_mem e, hts⟩) (fileOf_none e2 g')

theorem IsDir.put {D : DataW Unit} {l : Dir} (h : IsDir D l) (ht : Tidy D) (s : ByteArray) (g : Nat) : IsDir (D.put (sL s) (fileD g)) (putD l s g) := by
  obtain ⟨h1, h2, h3, h4⟩ := h
  have hm : IsMap D := by obtain ⟨es, rfl, _⟩ := ht; exact ⟨es, rfl⟩
  refine ⟨h1.put s g, fun t => ?_, fun t g' ht => ?_, ?_⟩
  · rw [fileOf_put h1]
    by_cases hts : t = s
    · subst hts
      rw [has_put_same hm (by trivial), if_pos rfl]
      rfl
    · rw [has_put_other (fun e => hts (sL_inj e)), if_neg hts, h2]
  · rw [fileOf_put h1] at ht
    intro z
    split at ht
    · rename_i hts
      subst hts
      cases ht
      exact atKey_put_same hm (by trivial) _ _
    · rename_i hts
      rw [atKey_put_other (fun e => hts (sL_inj e))]
      exact h3 t g' ht z
  · rw [size_put ht, putD_len h1, h2, h4]

theorem IsDir.del {D : DataW Unit} {l : Dir} (h : IsDir D l) (ht : Tidy D) (s : ByteArray) : IsDir (D.del (sL s)) (delD l s) := by
  obtain ⟨h1, h2, h3, h4⟩ := h
  refine ⟨h1.del s, fun t => ?_, fun t g' ht => ?_, ?_⟩
  · rw [fileOf_del h1]
    by_cases hts : t = s
    · subst hts
      rw [has_del_same, if_pos rfl]
      rfl
    · rw [has_del_other (fun e => hts (sL_inj e)), if_neg hts, h2]
  · rw [fileOf_del h1] at ht
    intro z
    split at ht
    · cases ht
    · rename_i hts
      rw [atKey_del_other (fun e => hts (sL_inj e))]
      exact h3 t g' ht z
  · have k1 := size_del ht (k := sL s)
    have k2 := delD_len h1 s
    rw [h2, h4] at k1
    omega
end Go.Proofs.Ytbhapbioibhalaa
