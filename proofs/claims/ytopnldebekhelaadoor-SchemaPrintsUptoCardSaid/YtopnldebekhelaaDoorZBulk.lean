/- What came in is of small bulk: slices of rows and structs opened, with what bulk says of their parts. -/
import Derived.Test.YtopnldebekhelaaDoorMga
import Derived.Test.YtopnldebekhelaaDoorRows
namespace Go.Proofs.YtopnldebekhelaaDoor
open Go Go.RowKit Go.ChangeShapes Go.WideShapes Go.Deep

section
variable {H : Type} {enc : TypeId × Value → H} {w : World} {base : Nat} {spare : Nat → Bool} {held : Bool}

abbrev bulk (d : DataW H) : Nat := Rows.uptoBulk d

theorem bulk_pos (d : DataW H) : 1 ≤ bulk d := by
  unfold bulk
  cases d with
  | lit l => cases l <;> simp [Rows.uptoBulk]
  | _ => simp [Rows.uptoBulk]

theorem bulkAll_append (l m : List (DataW H)) : Rows.uptoBulkAll (l ++ m) = Rows.uptoBulkAll l + Rows.uptoBulkAll m := by
  induction l with
  | nil => simp [Rows.uptoBulkAll]
  | cons a r ih => simp [Rows.uptoBulkAll, ih, Nat.add_assoc]

theorem bulk_mem {d : DataW H} : ∀ {l : List (DataW H)}, d ∈ l → bulk d ≤ Rows.uptoBulkAll l
  | [], h => by cases h
  | x :: r, h => by
    rw [Rows.uptoBulkAll]
    rcases List.mem_cons.1 h with rfl | h
    · exact Nat.le_add_right _ _
    · exact Nat.le_trans (bulk_mem h) (Nat.le_add_left _ _)

theorem bulkAll_len : ∀ l : List (DataW H), l.length ≤ Rows.uptoBulkAll l
  | [] => Nat.zero_le _
  | x :: r => by
    rw [Rows.uptoBulkAll, List.length_cons]
    have := bulk_pos x
    have := bulkAll_len r
    unfold bulk at *
    omega

theorem bulk_agg (l : List (DataW H)) : bulk (.agg l) = Rows.uptoBulkAll l + 1 := by simp [bulk, Rows.uptoBulk]
theorem bulk_slice (l m : List (DataW H)) : bulk (.slice l m) = Rows.uptoBulkAll l + Rows.uptoBulkAll m + 1 := by simp [bulk, Rows.uptoBulk]

theorem sum_bulk {D : Nat → DataW H} {g : Nat → Nat} : ∀ l : List Nat, (∀ i ∈ l, g i ≤ 10 * bulk (D i)) → (l.map g).sum ≤ 10 * Rows.uptoBulkAll (l.map D)
  | [], _ => by simp
  | i :: r, h => by
    have h1 := h i (by simp)
    have h2 := sum_bulk r fun j hj => h j (by simp [hj])
    simp only [List.map_cons, List.sum_cons, Rows.uptoBulkAll]
    unfold bulk at h1
    omega

theorem slice_rows_bulk {α : Type} [Inhabited α] {t e : TypeId} {s fuel : Nat} {v : Value} {Y : DataW H × List MemPlace} (f : α → List Value) (Q : α → Prop) (g : α → Nat) (ht : Tryd.prog.underlying t = some (.slice e)) (hC : Tryd.prog.cellsOf e = s) (hs : 0 < s) (hf : ∀ x, (f x).length = s)
    (hopen : ∀ n cs y, cs.length = s → DataW.trod enc Tryd.prog w base spare held n e cs = some y → bulk y.1 < bulk Y.1 → ∃ x, cs = f x ∧ Q x ∧ g x ≤ 10 * bulk y.1)
    (hfu : DataW.trod enc Tryd.prog w base spare held fuel t [v] = some Y) :
    ∃ a len cap, ∃ l : List α, v = .slice a len cap ∧ len ≤ cap ∧ cap ≤ maxLen ∧ l.length = len ∧ (∀ x ∈ l, Q x) ∧ Reads w s (.slice a len cap) len (l.flatMap f) ∧ (l.map g).sum + 10 ≤ 10 * bulk Y.1 ∧ len < bulk Y.1 := by
  rcases open_slice ht hfu with ⟨hcs, hy⟩ | ⟨x, len, cap, m, n, D, Pl, hcs, _, hl, hm, hmm, hy, hx⟩
  · simp at hcs
    subst hcs
    refine ⟨none, 0, 0, [], rfl, Nat.le_refl _, Nat.zero_le _, rfl, fun x hx => (by simp at hx), ⟨by simp, none, 0, rfl, Nat.le_refl _, Nat.zero_le _, fun j u hj => by simp at hj⟩, ?_, ?_⟩
    · have := bulk_pos Y.1
      simp
      omega
    · have := bulk_pos Y.1
      omega
  · simp at hcs
    subst hcs
    have hbY : bulk Y.1 = Rows.uptoBulkAll ((List.range len).map D) + Rows.uptoBulkAll ((List.range (m - len)).map fun j => D (len + j)) + 1 := by rw [hy, bulk_slice]
    have hlm : len ≤ m := by
      rw [hmm]
      split <;> omega
    have hgs : 0 < len → x.spot = none := by
      intro h0
      obtain ⟨cs0, hc0, _⟩ := hx 0 (by omega)
      rw [hC] at hc0
      obtain ⟨_, hl0, ha0⟩ := World.cells?_some hc0
      have h1 := ha0 0 hs
      rw [List.getElem?_eq_getElem (by omega)] at h1
      have h2 : w.cell? x = some (cs0[0]'(by omega)) := by simpa [Addr.add] using h1
      exact World.cell?_spot h2
    have hall : ∀ i, i < len → ∃ y : α, Q y ∧ g y ≤ 10 * bulk (D i) ∧ ∀ j u, (f y)[j]? = some u → w.cell? (x.add (i * s + j)) = some u := by
      intro i hi
      obtain ⟨cs, hc, htr⟩ := hx i (by omega)
      rw [hC] at hc
      obtain ⟨_, hlen, hat⟩ := World.cells?_some hc
      have hbi : bulk (D i) ≤ Rows.uptoBulkAll ((List.range len).map D) := bulk_mem (List.mem_map.2 ⟨i, List.mem_range.2 hi, rfl⟩)
      obtain ⟨y, rfl, hq, hg⟩ := hopen _ _ _ hlen htr (by show bulk (D i) < _; omega)
      refine ⟨y, hq, hg, fun j u hj => ?_⟩
      have hjs : j < s := by
        have := (List.getElem?_eq_some_iff.1 hj).1
        rw [hf] at this
        exact this
      have h1 := hat j hjs
      rw [hj] at h1
      rw [← h1]
      have hsp := hgs (by omega)
      obtain ⟨b, off, sp⟩ := x
      simp at hsp
      subst hsp
      rw [Addr.add_lit, Addr.add_lit, Addr.add_lit, Nat.add_assoc]
    obtain ⟨X, hX⟩ := choose_lt (α := α) (p := fun i y => Q y ∧ g y ≤ 10 * bulk (D i) ∧ ∀ j u, (f y)[j]? = some u → w.cell? (x.add (i * s + j)) = some u) hall
    refine ⟨some x, len, cap, (List.range len).map X, rfl, hl, hm, by simp, fun y hy => ?_, ?_, ?_, ?_⟩
    · obtain ⟨i, hi, rfl⟩ := List.mem_map.1 hy
      exact (hX i (List.mem_range.1 hi)).1
    · refine ⟨by rw [flat_length f s hf]; simp, some x, cap, rfl, hl, hm, fun j u hj => ?_⟩
      have hjl := (List.getElem?_eq_some_iff.1 hj).1
      rw [flat_length f s hf, List.length_map, List.length_range] at hjl
      have hi : j / s < len := Nat.div_lt_of_lt_mul (by rw [Nat.mul_comm]; exact hjl)
      have hr : j % s < s := Nat.mod_lt _ hs
      have hjj : j / s * s + j % s = j := by rw [Nat.mul_comm]; exact Nat.div_add_mod j s
      have hg : ((List.range len).map X)[j / s]? = some (X (j / s)) := by simp [hi]
      have h1 := flat_cell f s hf _ _ _ hg (j % s) hr
      rw [hjj, hj] at h1
      have h2 := (hX _ hi).2.2 (j % s) u h1.symm
      rw [hjj] at h2
      have hspot := hgs (Nat.lt_of_le_of_lt (Nat.zero_le _) hi)
      obtain ⟨b, off, sp⟩ := x
      simp at hspot
      subst hspot
      rw [Addr.add_lit] at h2
      exact ⟨b, off, rfl, World.block_lt_of_cell? _ _ h2, h2⟩
    · have h1 := sum_bulk (D := D) (g := fun i => g (X i)) (List.range len) fun i hi => (hX i (List.mem_range.1 hi)).2.1
      rw [List.map_map, hbY]
      have h2 : ((List.range len).map (g ∘ X)).sum ≤ 10 * Rows.uptoBulkAll ((List.range len).map D) := h1
      omega
    · have h1 := bulkAll_len ((List.range len).map D)
      simp only [List.length_map, List.length_range] at h1
      omega

/-- A struct's parts. -/
theorem open_parts {t : TypeId} {fs : Array Field} {fuel : Nat} {cs : List Value} {x : DataW H × List MemPlace} (ht : Tryd.prog.underlying t = some (.struct fs)) (h : DataW.trod enc Tryd.prog w base spare held fuel t cs = some x) :
    ∃ ys : List (DataW H × List MemPlace), ys.length = fs.size ∧ bulk x.1 = Rows.uptoBulkAll (ys.map (·.1)) + 1 ∧
      ∀ (i : Nat) (ty : TypeId) (off k : Nat), fs[i]?.map (fun f => (f.type, f.offset)) = some (ty, off) → Tryd.prog.cellsOf ty = k → ∃ n y, ys[i]? = some y ∧ DataW.trod enc Tryd.prog w base spare held n ty ((cs.drop off).take k) = some y := by
  obtain ⟨xs, n, _, rfl, _, hlen, hf⟩ := DataW.trod_struct ht h
  refine ⟨xs, hlen, bulk_agg _, fun i ty off k hi hk => ?_⟩
  obtain ⟨f, hfi, he⟩ := Option.map_eq_some_iff.1 hi
  obtain ⟨rfl, rfl⟩ : f.type = ty ∧ f.offset = off := ⟨congrArg Prod.fst he, congrArg Prod.snd he⟩
  have hil : i < xs.length := by
    rw [hlen]
    exact (Array.getElem?_eq_some_iff.1 hfi).1
  have h1 := hf i f hfi
  rw [List.getElem?_eq_getElem hil, hk] at h1
  exact ⟨n, xs[i], List.getElem?_eq_getElem hil, h1⟩

theorem bulk_text {n : Nat} {c : Value} {y : DataW H × List MemPlace} (h : DataW.trod enc Tryd.prog w base spare held n 9 [c] = some y) : ∃ s : ByteArray, c = .string s ∧ s.size + 1 = bulk y.1 := by
  obtain ⟨s, e, hd, hs⟩ := DataW.trod_string Tryd.underlying9 h
  simp only [List.cons.injEq, and_true] at e
  refine ⟨s, e, ?_⟩
  have h1 : s.data.toList.length = s.size := Array.length_toList
  subst hd
  unfold bulk
  rw [Rows.uptoBulk, h1]
end
end Go.Proofs.YtopnldebekhelaaDoor
