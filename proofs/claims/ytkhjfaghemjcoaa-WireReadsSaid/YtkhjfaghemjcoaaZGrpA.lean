/- What the proof stands on, texts of one kind. -/
import Derived.Test.YtkhjfaghemjcoaaMga
import Derived.Deep.Slices
import Derived.Deep.Fields
import Derived.OpenShut
import Derived.ProofKit
import Derived.ShutString
import Derived.ChangeOld
import Derived.Lib.SmallJoins
import Derived.Deep.Strs
import Derived.Test.YtkhjfaghemjcoaaZWirePut
import Derived.HandedShaped
/- A slice that came in, whatever its elements: each is opened by its own theorem. -/
namespace Go.Proofs.Ytkhjfaghemjcoaa
open Go Go.RowKit Go.ChangeShapes Go.WideShapes Go.Deep

section
variable {H : Type} {enc : TypeId × Value → H} {w : World} {base : Nat} {spare : Nat → Bool} {held : Bool}

theorem slice_rows_of {α : Type} [Inhabited α] {t e : TypeId} {s fuel : Nat} {v : Value} {y : DataW H × List MemPlace} (f : α → List Value) (Q : α → Prop) (ht : Try.prog.underlying t = some (.slice e)) (hC : Try.prog.cellsOf e = s) (hs : 0 < s) (hf : ∀ x, (f x).length = s)
    (hopen : ∀ n cs y, cs.length = s → DataW.trod enc Try.prog w base spare held n e cs = some y → ∃ x, cs = f x ∧ Q x)
    (hfu : DataW.trod enc Try.prog w base spare held fuel t [v] = some y) :
    ∃ a len cap, ∃ l : List α, v = .slice a len cap ∧ len ≤ cap ∧ cap ≤ maxLen ∧ l.length = len ∧ (∀ x ∈ l, Q x) ∧ Reads w s (.slice a len cap) len (l.flatMap f) := by
  rcases open_slice ht hfu with ⟨hcs, _⟩ | ⟨x, len, cap, m, n, D, Pl, hcs, _, hl, hm, hmm, _, hx⟩
  · simp at hcs
    subst hcs
    exact ⟨none, 0, 0, [], rfl, Nat.le_refl _, Nat.zero_le _, rfl, fun x hx => (by simp at hx), ⟨by simp, none, 0, rfl, Nat.le_refl _, Nat.zero_le _, fun j u hj => by simp at hj⟩⟩
  · simp at hcs
    subst hcs
    have hlm : len ≤ m := by
      rw [hmm]
      split <;> omega
    have hgs : 0 < len → x.spot = none := by
      intro h0
      obtain ⟨cs0, hc0, _⟩ := hx 0 (by omega)
      rw [hC] at hc0
      obtain ⟨_, hl0, ha0⟩ := World.cells?_some hc0
      have h1 := ha0 0 hs
      rw [List.getElem?_eq_getElem (by omega)] at h1
      have h2 : w.cell? x = some (cs0[0]'(by omega)) := by simpa [Addr.add] using h1
      exact World.cell?_spot h2
    have hall : ∀ i, i < len → ∃ y : α, Q y ∧ ∀ j u, (f y)[j]? = some u → w.cell? (x.add (i * s + j)) = some u := by
      intro i hi
      obtain ⟨cs, hc, htr⟩ := hx i (by omega)
      rw [hC] at hc
      obtain ⟨_, hlen, hat⟩ := World.cells?_some hc
      obtain ⟨y, rfl, hq⟩ := hopen _ _ _ hlen htr
      refine ⟨y, hq, fun j u hj => ?_⟩
      have hjs : j < s := by
        have := (List.getElem?_eq_some_iff.1 hj).1
        rw [hf] at this
        exact this
      have h1 := hat j hjs
      rw [hj] at h1
      rw [← h1]
      have hsp := hgs (by omega)
      obtain ⟨b, off, sp⟩ := x
      simp at hsp
      subst hsp
      rw [Addr.add_lit, Addr.add_lit, Addr.add_lit, Nat.add_assoc]
    obtain ⟨X, hX⟩ := choose_lt (α := α) (p := fun i y => Q y ∧ ∀ j u, (f y)[j]? = some u → w.cell? (x.add (i * s + j)) = some u) hall
    refine ⟨some x, len, cap, (List.range len).map X, rfl, hl, hm, by simp, fun y hy => ?_, ?_⟩
    · obtain ⟨i, hi, rfl⟩ := List.mem_map.1 hy
      exact (hX i (List.mem_range.1 hi)).1
    · refine ⟨by rw [flat_length f s hf]; simp, some x, cap, rfl, hl, hm, fun j u hj => ?_⟩
      have hjl := (List.getElem?_eq_some_iff.1 hj).1
      rw [flat_length f s hf, List.length_map, List.length_range] at hjl
      have hi : j / s < len := Nat.div_lt_of_lt_mul (by rw [Nat.mul_comm]; exact hjl)
      have hr : j % s < s := Nat.mod_lt _ hs
      have hjj : j / s * s + j % s = j := by rw [Nat.mul_comm]; exact Nat.div_add_mod j s
      have hg : ((List.range len).map X)[j / s]? = some (X (j / s)) := by simp [hi]
      have h1 := flat_cell f s hf _ _ _ hg (j % s) hr
      rw [hjj, hj] at h1
      have h2 := (hX _ hi).2 (j % s) u h1.symm
      rw [hjj] at h2
      have hspot := hgs (Nat.lt_of_le_of_lt (Nat.zero_le _) hi)
      obtain ⟨b, off, sp⟩ := x
      simp at hspot
      subst hspot
      rw [Addr.add_lit] at h2
      exact ⟨b, off, rfl, World.block_lt_of_cell? _ _ h2, h2⟩

set_option maxRecDepth 100000 in
theorem slice_rows {α : Type} [Inhabited α] {t e : TypeId} {r : Reach} {b0 s : Nat} {v : Value} {d : DataW H} {p : List MemPlace} (f : α → List Value) (Q : α → Prop) (ht : Try.prog.underlying t = some (.slice e)) (hC : Try.prog.cellsOf e = s) (hs : 0 < s) (hf : ∀ x, (f x).length = s)
    (hopen : ∀ n cs y, cs.length = s → DataW.trod enc Try.prog w base spare held n e cs = some y → ∃ x, cs = f x ∧ Q x)
    (hv : Value.okWide Try.prog w r b0 t v) (h : DataW.Trod enc Try.prog w base spare held t v d p) :
    ∃ a len cap, ∃ l : List α, v = .slice a len cap ∧ len ≤ cap ∧ cap ≤ maxLen ∧ l.length = len ∧ (∀ x ∈ l, Q x) ∧ Reads w s (.slice a len cap) len (l.flatMap f) := by
  obtain ⟨a, len, cap, rfl⟩ := okWide_slice ht hv
  obtain ⟨fuel, hfu⟩ := h
  exact slice_rows_of f Q ht hC hs hf hopen hfu
end
end Go.Proofs.Ytkhjfaghemjcoaa

/- A slice that came in, with what the form's reach says of its elements' sizes. -/
namespace Go.Proofs.Ytkhjfaghemjcoaa
open Go Go.RowKit Go.ChangeShapes Go.WideShapes Go.Deep

section
variable {H : Type} {enc : TypeId × Value → H} {w : World} {base : Nat} {spare : Nat → Bool} {held : Bool}

/-- No weight of a datum is beyond the reach. -/
def WOk (t : TypeId) (d : DataW H) : Prop := (d.weights Try.prog t).all (· ≤ reachBytes) = true

theorem wok_all {e : TypeId} : ∀ (l : List (DataW H)), (DataW.weightsAll Try.prog e l).all (· ≤ reachBytes) = true → ∀ d ∈ l, WOk e d
  | [], _, d, hd => by cases hd
  | x :: r, h, d, hd => by
    rw [DataW.weightsAll, List.all_append, Bool.and_eq_true] at h
    rcases List.mem_cons.1 hd with rfl | hd
    · exact h.1
    · exact wok_all r h.2 d hd

theorem wok_slice {t e : TypeId} {elems rest : List (DataW H)} (ht : Try.prog.underlying t = some (.slice e)) (h : WOk t (DataW.slice elems rest)) :
    (elems.length + rest.length) * Try.prog.bytesOf e ≤ reachBytes ∧ ∀ d ∈ elems, WOk e d := by
  unfold WOk at h
  rw [DataW.weights, ht] at h
  simp only [List.all_cons, List.all_append, Bool.and_eq_true, decide_eq_true_eq] at h
  exact ⟨h.1, wok_all _ h.2.1⟩

theorem wok_arg : ∀ (ts : List TypeId) (ds : List (DataW H)) (j : Nat) (t : TypeId) (d : DataW H), (DataW.weightsEach Try.prog ts ds).all (· ≤ reachBytes) = true → ts[j]? = some t → ds[j]? = some d → WOk t d
  | [], _, j, _, _, _, h, _ => by simp at h
  | _ :: _, [], j, _, _, _, _, h => by simp at h
  | t0 :: ts, d0 :: ds, 0, t, d, h, ht, hd => by
    rw [DataW.weightsEach, List.all_append, Bool.and_eq_true] at h
    simp at ht hd
    subst ht
    subst hd
    exact h.1
  | t0 :: ts, d0 :: ds, j + 1, t, d, h, ht, hd => by
    rw [DataW.weightsEach, List.all_append, Bool.and_eq_true] at h
    exact wok_arg ts ds j t d h.2 (by simpa using ht) (by simpa using hd)

theorem slice_rows_sized {α : Type} [Inhabited α] {t e : TypeId} {s fuel : Nat} {v : Value} {y : DataW H × List MemPlace} (f : α → List Value) (Q : α → Prop) (ht : Try.prog.underlying t = some (.slice e)) (hC : Try.prog.cellsOf e = s) (hs : 0 < s) (hf : ∀ x, (f x).length = s)
    (hopen : ∀ n cs y, cs.length = s → DataW.trod enc Try.prog w base spare held n e cs = some y → WOk e y.1 → ∃ x, cs = f x ∧ Q x)
    (hfu : DataW.trod enc Try.prog w base spare held fuel t [v] = some y) (hz : WOk t y.1) :
    ∃ a len cap, ∃ l : List α, v = .slice a len cap ∧ len ≤ cap ∧ cap ≤ maxLen ∧ l.length = len ∧ (∀ x ∈ l, Q x) ∧ Reads w s (.slice a len cap) len (l.flatMap f) ∧ len * Try.prog.bytesOf e ≤ reachBytes := by
  rcases open_slice ht hfu with ⟨hcs, _⟩ | ⟨x, len, cap, m, n, D, Pl, hcs, _, hl, hm, hmm, hy, hx⟩
  · simp at hcs
    subst hcs
    exact ⟨none, 0, 0, [], rfl, Nat.le_refl _, Nat.zero_le _, rfl, fun x hx => (by simp at hx), ⟨by simp, none, 0, rfl, Nat.le_refl _, Nat.zero_le _, fun j u hj => by simp at hj⟩, by simp⟩
  · simp at hcs
    subst hcs
    rw [hy] at hz
    obtain ⟨hz1, hz2⟩ := wok_slice ht hz
    have hlm : len ≤ m := by
      rw [hmm]
      split <;> omega
    have hgs : 0 < len → x.spot = none := by
      intro h0
      obtain ⟨cs0, hc0, _⟩ := hx 0 (by omega)
      rw [hC] at hc0
      obtain ⟨_, hl0, ha0⟩ := World.cells?_some hc0
      have h1 := ha0 0 hs
      rw [List.getElem?_eq_getElem (by omega)] at h1
      have h2 : w.cell? x = some (cs0[0]'(by omega)) := by simpa [Addr.add] using h1
      exact World.cell?_spot h2
    have hall : ∀ i, i < len → ∃ y : α, Q y ∧ ∀ j u, (f y)[j]? = some u → w.cell? (x.add (i * s + j)) = some u := by
      intro i hi
      obtain ⟨cs, hc, htr⟩ := hx i (by omega)
      rw [hC] at hc
      obtain ⟨_, hlen, hat⟩ := World.cells?_some hc
      obtain ⟨y, rfl, hq⟩ := hopen _ _ _ hlen htr (hz2 _ (List.mem_map.2 ⟨i, List.mem_range.2 hi, rfl⟩))
      refine ⟨y, hq, fun j u hj => ?_⟩
      have hjs : j < s := by
        have := (List.getElem?_eq_some_iff.1 hj).1
        rw [hf] at this
        exact this
      have h1 := hat j hjs
      rw [hj] at h1
      rw [← h1]
      have hsp := hgs (by omega)
      obtain ⟨b, off, sp⟩ := x
      simp at hsp
      subst hsp
      rw [Addr.add_lit, Addr.add_lit, Addr.add_lit, Nat.add_assoc]
    obtain ⟨X, hX⟩ := choose_lt (α := α) (p := fun i y => Q y ∧ ∀ j u, (f y)[j]? = some u → w.cell? (x.add (i * s + j)) = some u) hall
    refine ⟨some x, len, cap, (List.range len).map X, rfl, hl, hm, by simp, fun y hy => ?_, ?_, ?_⟩
    · obtain ⟨i, hi, rfl⟩ := List.mem_map.1 hy
      exact (hX i (List.mem_range.1 hi)).1
    · refine ⟨by rw [flat_length f s hf]; simp, some x, cap, rfl, hl, hm, fun j u hj => ?_⟩
      have hjl := (List.getElem?_eq_some_iff.1 hj).1
      rw [flat_length f s hf, List.length_map, List.length_range] at hjl
      have hi : j / s < len := Nat.div_lt_of_lt_mul (by rw [Nat.mul_comm]; exact hjl)
      have hr : j % s < s := Nat.mod_lt _ hs
      have hjj : j / s * s + j % s = j := by rw [Nat.mul_comm]; exact Nat.div_add_mod j s
      have hg : ((List.range len).map X)[j / s]? = some (X (j / s)) := by simp [hi]
      have h1 := flat_cell f s hf _ _ _ hg (j % s) hr
      rw [hjj, hj] at h1
      have h2 := (hX _ hi).2 (j % s) u h1.symm
      rw [hjj] at h2
      have hspot := hgs (Nat.lt_of_le_of_lt (Nat.zero_le _) hi)
      obtain ⟨b, off, sp⟩ := x
      simp at hspot
      subst hspot
      rw [Addr.add_lit] at h2
      exact ⟨b, off, rfl, World.block_lt_of_cell? _ _ h2, h2⟩
    · simp only [List.length_map, List.length_range] at hz1
      exact Nat.le_trans (Nat.mul_le_mul_right _ (Nat.le_add_right _ _)) hz1
end
end Go.Proofs.Ytkhjfaghemjcoaa

/- A text that came in: its size is within the reach. -/
namespace Go.Proofs.Ytkhjfaghemjcoaa
open Go Go.RowKit Go.ChangeShapes Go.WideShapes Go.Deep

theorem wok_text {H : Type} {t : TypeId} {s : ByteArray} (h : WOk t (DataW.lit (H := H) (.string s.data.toList))) : s.size ≤ 140737488351232 := by
  unfold WOk at h
  rw [DataW.weights] at h
  simp only [List.all_cons, List.all_nil, Bool.and_true, decide_eq_true_eq] at h
  have : s.data.toList.length = s.size := Array.length_toList
  unfold reachBytes at h
  omega
end Go.Proofs.Ytkhjfaghemjcoaa

/- Single cells that came in. -/
namespace Go.Proofs.Ytkhjfaghemjcoaa
open Go Go.RowKit Go.Joins Go.WideShapes Go.ChangeShapes Go.ChangeAt Go.Deep

section
variable {H : Type} {enc : TypeId × Value → H} {w : World} {base : Nat} {spare : Nat → Bool} {held : Bool}

theorem one_string {n : Nat} {c : Value} {y : DataW H × List MemPlace} (h : DataW.trod enc Try.prog w base spare held n 9 [c] = some y) : ∃ s : ByteArray, c = .string s ∧ s.size ≤ maxLen := by
  obtain ⟨s, e, _, hs⟩ := DataW.trod_string Try.underlying9 h
  simp only [List.cons.injEq, and_true] at e
  exact ⟨s, e, hs⟩

theorem one_bool {n : Nat} {c : Value} {y : DataW H × List MemPlace} (h : DataW.trod enc Try.prog w base spare held n 4 [c] = some y) : ∃ b : Bool, c = .bool b := by
  obtain ⟨b, e, _⟩ := DataW.trod_bool Try.underlying4 h
  simp only [List.cons.injEq, and_true] at e
  exact ⟨b, e⟩

theorem one_u64 {n : Nat} {c : Value} {y : DataW H × List MemPlace} (h : DataW.trod enc Try.prog w base spare held n 22 [c] = some y) : ∃ m : Nat, c = .int .u64 (m : Int) ∧ m < 18446744073709551616 := by
  obtain ⟨k, e, _, hw⟩ := DataW.trod_int Try.underlying22 h
  simp only [List.cons.injEq, and_true] at e
  have bd : 0 ≤ k ∧ k ≤ 18446744073709551615 := by simpa [Lit.wf, IntKind.min, IntKind.max, IntKind.signed, IntKind.bits] using hw
  obtain ⟨m, rfl⟩ := Int.eq_ofNat_of_zero_le bd.1
  exact ⟨m, e, by omega⟩
end
end Go.Proofs.Ytkhjfaghemjcoaa

/- A struct's fields that came in, one at a time, with their sizes. -/
namespace Go.Proofs.Ytkhjfaghemjcoaa
open Go Go.RowKit Go.Joins Go.WideShapes Go.ChangeShapes Go.ChangeAt Go.Deep

section
variable {H : Type} {enc : TypeId × Value → H} {w : World} {base : Nat} {spare : Nat → Bool} {held : Bool}

theorem open_field {t : TypeId} {fs : Array Field} {fuel : Nat} {cs : List Value} {x : DataW H × List MemPlace} (ht : Try.prog.underlying t = some (.struct fs)) (h : DataW.trod enc Try.prog w base spare held fuel t cs = some x) (hz : WOk t x.1) (i : Nat) (ty : TypeId) (off k : Nat) (hi : fs[i]?.map (fun f => (f.type, f.offset)) = some (ty, off)) (hk : Try.prog.cellsOf ty = k) :
    ∃ y n, DataW.trod enc Try.prog w base spare held n ty ((cs.drop off).take k) = some y ∧ WOk ty y.1 := by
  obtain ⟨xs, n, _, rfl, _, hlen, hf⟩ := DataW.trod_struct ht h
  obtain ⟨f, hfi, he⟩ := Option.map_eq_some_iff.1 hi
  obtain ⟨rfl, rfl⟩ : f.type = ty ∧ f.offset = off := ⟨congrArg Prod.fst he, congrArg Prod.snd he⟩
  have hil : i < xs.length := by
    rw [hlen]
    exact (Array.getElem?_eq_some_iff.1 hfi).1
  have h1 := hf i f hfi
  rw [List.getElem?_eq_getElem hil, hk] at h1
  refine ⟨xs[i], n, h1, ?_⟩
  unfold WOk at hz
  rw [DataW.weights, ht] at hz
  refine wok_arg _ _ i _ _ hz ?_ (by rw [List.getElem?_map, List.getElem?_eq_getElem hil]; rfl)
  rw [List.getElem?_map, Array.getElem?_toList, hfi]
  rfl

theorem sized_string {n : Nat} {c : Value} {y : DataW H × List MemPlace} (h : DataW.trod enc Try.prog w base spare held n 9 [c] = some y) (hz : WOk 9 y.1) : ∃ s : ByteArray, c = .string s ∧ s.size ≤ 140737488351232 := by
  obtain ⟨s, e, hd, hs⟩ := DataW.trod_string Try.underlying9 h
  simp only [List.cons.injEq, and_true] at e
  subst hd
  exact ⟨s, e, wok_text hz⟩

theorem one_i64 {n : Nat} {t : TypeId} (ht : Try.prog.underlying t = some (.int .i64)) {c : Value} {y : DataW H × List MemPlace} (h : DataW.trod enc Try.prog w base spare held n t [c] = some y) : ∃ m : Int, c = .int .i64 m ∧ -9223372036854775808 ≤ m ∧ m ≤ 9223372036854775807 := by
  obtain ⟨k, e, _, hw⟩ := DataW.trod_int ht h
  simp only [List.cons.injEq, and_true] at e
  have bd : -9223372036854775808 ≤ k ∧ k ≤ 9223372036854775807 := by simpa [Lit.wf, IntKind.min, IntKind.max, IntKind.signed, IntKind.bits] using hw
  exact ⟨k, e, bd⟩
end
end Go.Proofs.Ytkhjfaghemjcoaa

/- A request that came in. -/
namespace Go.Proofs.Ytkhjfaghemjcoaa
open Go Go.RowKit Go.Joins Go.WideShapes Go.ChangeShapes Go.ChangeAt Go.Deep

section
variable {H : Type} {enc : TypeId × Value → H} {w : World} {base : Nat} {spare : Nat → Bool} {held : Bool}

theorem obj_cells {n : Nat} {c0 c1 : Value} {y : DataW H × List MemPlace} (h : DataW.trod enc Try.prog w base spare held n 48 [c0, c1] = some y) (hz : WOk 48 y.1) : ∃ s0 s1 : ByteArray, c0 = .string s0 ∧ c1 = .string s1 := by
  have k1 : Try.prog.cellsOf 9 = 1 := by kernel_rfl
  obtain ⟨_, _, h0, z0⟩ := open_field Try.underlying48 h hz 0 9 0 1 rfl k1
  obtain ⟨_, _, h1, z1⟩ := open_field Try.underlying48 h hz 1 9 1 1 rfl k1
  simp at h0 h1
  obtain ⟨s0, rfl, _⟩ := sized_string h0 z0
  obtain ⟨s1, rfl, _⟩ := sized_string h1 z1
  exact ⟨s0, s1, rfl, rfl⟩

theorem three_cells {t : TypeId} (ht : Try.prog.underlying t = Try.prog.underlying 64) {n : Nat} {c0 c1 c2 : Value} {y : DataW H × List MemPlace} (h : DataW.trod enc Try.prog w base spare held n t [c0, c1, c2] = some y) (hz : WOk t y.1) : ∃ s0 s1 s2 : ByteArray, c0 = .string s0 ∧ c1 = .string s1 ∧ c2 = .string s2 := by
  have k1 : Try.prog.cellsOf 9 = 1 := by kernel_rfl
  have k2 : Try.prog.cellsOf 48 = 2 := by kernel_rfl
  obtain ⟨_, _, h0, z0⟩ := open_field (ht.trans Try.underlying64) h hz 0 48 0 2 rfl k2
  obtain ⟨_, _, h1, z1⟩ := open_field (ht.trans Try.underlying64) h hz 1 9 2 1 rfl k1
  simp at h0 h1
  obtain ⟨s0, s1, rfl, rfl⟩ := obj_cells h0 z0
  obtain ⟨s2, rfl, _⟩ := sized_string h1 z1
  exact ⟨s0, s1, s2, rfl, rfl, rfl⟩

theorem tuple_cells {n : Nat} {c0 c1 c2 c3 c4 c5 : Value} {y : DataW H × List MemPlace} (h : DataW.trod enc Try.prog w base spare held n 71 [c0, c1, c2, c3, c4, c5] = some y) (hz : WOk 71 y.1) : ∃ x : T6, [c0, c1, c2, c3, c4, c5] = x.cells := by
  have k1 : Try.prog.cellsOf 9 = 1 := by kernel_rfl
  have k2 : Try.prog.cellsOf 48 = 2 := by kernel_rfl
  have k3 : Try.prog.cellsOf 64 = 3 := by kernel_rfl
  obtain ⟨_, _, h0, z0⟩ := open_field Try.underlying71 h hz 0 48 0 2 rfl k2
  obtain ⟨_, _, h1, z1⟩ := open_field Try.underlying71 h hz 1 9 2 1 rfl k1
  obtain ⟨_, _, h2, z2⟩ := open_field Try.underlying71 h hz 2 64 3 3 rfl k3
  simp at h0 h1 h2
  obtain ⟨s0, s1, rfl, rfl⟩ := obj_cells h0 z0
  obtain ⟨s2, rfl, _⟩ := sized_string h1 z1
  obtain ⟨s3, s4, s5, rfl, rfl, rfl⟩ := three_cells rfl h2 z2
  exact ⟨⟨s0, s1, s2, s3, s4, s5⟩, rfl⟩

theorem write_one {t : TypeId} {fs : Array Field} (ht : Try.prog.underlying t = some (.struct fs)) (q0 : fs[0]?.map (fun f => (f.type, f.offset)) = some (4, 0)) (q1 : fs[1]?.map (fun f => (f.type, f.offset)) = some (71, 1)) {n : Nat} {cs : List Value} {y : DataW H × List MemPlace} (hl : cs.length = 7) (h : DataW.trod enc Try.prog w base spare held n t cs = some y) (hz : WOk t y.1) : ∃ x : Wri, cs = x.cells := by
  have k1 : Try.prog.cellsOf 4 = 1 := by kernel_rfl
  have k6 : Try.prog.cellsOf 71 = 6 := by kernel_rfl
  obtain ⟨_, _, h0, z0⟩ := open_field ht h hz 0 4 0 1 q0 k1
  obtain ⟨_, _, h1, z1⟩ := open_field ht h hz 1 71 1 6 q1 k6
  match cs, hl with
  | [c0, c1, c2, c3, c4, c5, c6], _ =>
    simp at h0 h1
    obtain ⟨b, rfl⟩ := one_bool h0
    obtain ⟨x, hx⟩ := tuple_cells h1 z1
    rw [hx]
    exact ⟨⟨b, x⟩, rfl⟩

theorem ask_one {n : Nat} {cs : List Value} {y : DataW H × List MemPlace} (hl : cs.length = 6) (h : DataW.trod enc Try.prog w base spare held n 78 cs = some y) (hz : WOk 78 y.1) : ∃ x : T6, cs = x.cells := by
  have k3 : Try.prog.cellsOf 63 = 3 := by kernel_rfl
  have k4 : Try.prog.cellsOf 64 = 3 := by kernel_rfl
  obtain ⟨_, _, h0, z0⟩ := open_field Try.underlying78 h hz 0 63 0 3 rfl k3
  obtain ⟨_, _, h1, z1⟩ := open_field Try.underlying78 h hz 1 64 3 3 rfl k4
  match cs, hl with
  | [c0, c1, c2, c3, c4, c5], _ =>
    simp at h0 h1
    obtain ⟨s0, s1, s2, rfl, rfl, rfl⟩ := three_cells (by rw [Try.underlying63, Try.underlying64]) h0 z0
    obtain ⟨s3, s4, s5, rfl, rfl, rfl⟩ := three_cells rfl h1 z1
    exact ⟨⟨s0, s1, s2, s3, s4, s5⟩, rfl⟩

def Arg4.ok (x : Arg4) : Prop := in64 x.kind ∧ in64 x.n ∧ x.name.size ≤ 140737488351232 ∧ x.s.size ≤ 140737488351232

theorem arg_one {n : Nat} {cs : List Value} {y : DataW H × List MemPlace} (hl : cs.length = 4) (h : DataW.trod enc Try.prog w base spare held n 82 cs = some y) (hz : WOk 82 y.1) : ∃ x : Arg4, cs = x.cells ∧ x.ok := by
  have k1 : Try.prog.cellsOf 9 = 1 := by kernel_rfl
  have ki : Try.prog.cellsOf 3 = 1 := by kernel_rfl
  have kj : Try.prog.cellsOf 2 = 1 := by kernel_rfl
  have k3 : Try.prog.cellsOf 80 = 3 := by kernel_rfl
  obtain ⟨_, _, h0, z0⟩ := open_field Try.underlying82 h hz 0 9 0 1 rfl k1
  obtain ⟨_, _, h1, z1⟩ := open_field Try.underlying82 h hz 1 80 1 3 rfl k3
  obtain ⟨_, _, h2, z2⟩ := open_field Try.underlying80 h1 z1 0 3 0 1 rfl ki
  obtain ⟨_, _, h3, z3⟩ := open_field Try.underlying80 h1 z1 1 2 1 1 rfl kj
  obtain ⟨_, _, h4, z4⟩ := open_field Try.underlying80 h1 z1 2 9 2 1 rfl k1
  match cs, hl with
  | [c0, c1, c2, c3], _ =>
    simp at h0 h2 h3 h4
    obtain ⟨s0, rfl, hs0⟩ := sized_string h0 z0
    obtain ⟨m, rfl, hm⟩ := one_i64 Try.underlying3 h2
    obtain ⟨m2, rfl, hm2⟩ := one_i64 Try.underlying2 h3
    obtain ⟨s1, rfl, hs1⟩ := sized_string h4 z4
    exact ⟨⟨s0, m, m2, s1⟩, rfl, hm, hm2, hs0, hs1⟩

/-- What a request that came in tells. -/
structure ReqCame (w : World) (q : Req) (a1 a2 a3 a4 : Option Addr) (n1 n2 n3 n4 c1 c2 c3 c4 : Nat) : Prop where
  r1 : Reads w 7 (.slice a1 n1 c1) n1 (q.writes.flatMap Wri.cells)
  r2 : Reads w 7 (.slice a2 n2 c2) n2 (q.pres.flatMap Wri.cells)
  r3 : Reads w 6 (.slice a3 n3 c3) n3 (q.asks.flatMap T6.cells)
  r4 : Reads w 4 (.slice a4 n4 c4) n4 (q.args.flatMap Arg4.cells)
  k1 : q.writes.length = n1
  k2 : q.pres.length = n2
  k3 : q.asks.length = n3
  k4 : q.args.length = n4
  b1 : n1 ≤ 5000000000000
  b2 : n2 ≤ 5000000000000
  b3 : n3 ≤ 5000000000000
  b4 : n4 ≤ 5000000000000
  ok : ReqIn q
  args : ∀ x ∈ q.args, x.ok
  s1 : q.client.size ≤ 140737488351232
  s2 : q.token.size ≤ 140737488351232
  s3 : q.typ.size ≤ 140737488351232
  s4 : q.f1.size ≤ 140737488351232
  s5 : q.f2.size ≤ 140737488351232
  s6 : q.f3.size ≤ 140737488351232

theorem array14 {α : Type} {cs : Array α} (h : cs.size = 14) : ∃ c0 c1 c2 c3 c4 c5 c6 c7 c8 c9 c10 c11 c12 c13, cs = #[c0, c1, c2, c3, c4, c5, c6, c7, c8, c9, c10, c11, c12, c13] := by
  obtain ⟨l⟩ := cs
  match l, h with
  | [c0, c1, c2, c3, c4, c5, c6, c7, c8, c9, c10, c11, c12, c13], _ => exact ⟨c0, c1, c2, c3, c4, c5, c6, c7, c8, c9, c10, c11, c12, c13, rfl⟩

set_option maxRecDepth 100000 in
theorem request_open {r : Reach} {b0 : Nat} {v : Value} {d : DataW H} {p : List MemPlace} (hv : Value.okWide Try.prog w r b0 30 v) (h : DataW.Trod enc Try.prog w base spare held 30 v d p) (hz : WOk 30 d) :
    ∃ q a1 a2 a3 a4 n1 n2 n3 n4 c1 c2 c3 c4, v = .agg #[.string q.client, .int .u64 (q.id : Int), .int .i64 q.kind, .int .i64 q.how, .string q.token, .int .u64 (q.n : Int), .string q.typ, .string q.f1, .string q.f2, .string q.f3, .slice a1 n1 c1, .slice a2 n2 c2, .slice a3 n3 c3, .slice a4 n4 c4] ∧ ReqCame w q a1 a2 a3 a4 n1 n2 n3 n4 c1 c2 c3 c4 := by
  have : Inhabited T6 := ⟨⟨⟨#[]⟩, ⟨#[]⟩, ⟨#[]⟩, ⟨#[]⟩, ⟨#[]⟩, ⟨#[]⟩⟩⟩
  have : Inhabited Wri := ⟨⟨false, default⟩⟩
  have : Inhabited Arg4 := ⟨⟨⟨#[]⟩, 0, 0, ⟨#[]⟩⟩⟩
  have k14 : Try.prog.cellsOf 30 = 14 := by kernel_rfl
  have kt : Try.prog.cellsOf 9 = 1 := by kernel_rfl
  have ki : Try.prog.cellsOf 3 = 1 := by kernel_rfl
  have ku : Try.prog.cellsOf 22 = 1 := by kernel_rfl
  have kf : Try.prog.cellsOf 24 = 3 := by kernel_rfl
  have l1 : Try.prog.cellsOf 25 = 1 := by kernel_rfl
  have l2 : Try.prog.cellsOf 26 = 1 := by kernel_rfl
  have l3 : Try.prog.cellsOf 27 = 1 := by kernel_rfl
  have l4 : Try.prog.cellsOf 28 = 1 := by kernel_rfl
  have e1 : Try.prog.bytesOf 73 = 104 := by kernel_rfl
  have e2 : Try.prog.bytesOf 76 = 104 := by kernel_rfl
  have e3 : Try.prog.bytesOf 78 = 96 := by kernel_rfl
  have e4 : Try.prog.bytesOf 82 = 48 := by kernel_rfl
  obtain ⟨cs, rfl, hsz⟩ := okWide_struct Try.underlying30 hv
  obtain ⟨d0, d1, d2, d3, d4, d5, d6, d7, d8, d9, d10, d11, d12, d13, rfl⟩ := array14 (hsz.trans k14)
  obtain ⟨fuel, hf⟩ := h
  have hf' := hf
  have U := Try.underlying30
  obtain ⟨_, _, h0, z0⟩ := open_field U hf hz 0 9 0 1 rfl kt
  obtain ⟨_, _, h1, z1⟩ := open_field U hf hz 1 22 1 1 rfl ku
  obtain ⟨_, _, h2, z2⟩ := open_field U hf hz 2 3 2 1 rfl ki
  obtain ⟨_, _, h3, z3⟩ := open_field U hf hz 3 3 3 1 rfl ki
  obtain ⟨_, _, h4, z4⟩ := open_field U hf hz 4 9 4 1 rfl kt
  obtain ⟨_, _, h5, z5⟩ := open_field U hf hz 5 22 5 1 rfl ku
  obtain ⟨_, _, h6, z6⟩ := open_field U hf hz 6 9 6 1 rfl kt
  obtain ⟨_, _, h7, z7⟩ := open_field U hf hz 7 24 7 3 rfl kf
  obtain ⟨_, _, h10, z10⟩ := open_field U hf hz 8 25 10 1 rfl l1
  obtain ⟨_, _, h11, z11⟩ := open_field U hf hz 9 26 11 1 rfl l2
  obtain ⟨_, _, h12, z12⟩ := open_field U hf hz 10 27 12 1 rfl l3
  obtain ⟨_, _, h13, z13⟩ := open_field U hf hz 11 28 13 1 rfl l4
  obtain ⟨_, _, f0, y0⟩ := open_field Try.underlying24 h7 z7 0 9 0 1 rfl kt
  obtain ⟨_, _, f1, y1⟩ := open_field Try.underlying24 h7 z7 1 9 1 1 rfl kt
  obtain ⟨_, _, f2, y2⟩ := open_field Try.underlying24 h7 z7 2 9 2 1 rfl kt
  simp [Value.cells] at h0 h1 h2 h3 h4 h5 h6 f0 f1 f2 h10 h11 h12 h13
  obtain ⟨s0, rfl, b0⟩ := sized_string h0 z0
  obtain ⟨m1, rfl, b1⟩ := one_u64 h1
  obtain ⟨m2, rfl, b2⟩ := one_i64 Try.underlying3 h2
  obtain ⟨m3, rfl, b3⟩ := one_i64 Try.underlying3 h3
  obtain ⟨s4, rfl, b4⟩ := sized_string h4 z4
  obtain ⟨m5, rfl, b5⟩ := one_u64 h5
  obtain ⟨s6, rfl, b6⟩ := sized_string h6 z6
  obtain ⟨s7, rfl, b7⟩ := sized_string f0 y0
  obtain ⟨s8, rfl, b8⟩ := sized_string f1 y1
  obtain ⟨s9, rfl, b9⟩ := sized_string f2 y2
  obtain ⟨a1, n1, c1, w1, rfl, _, _, hn1, _, r1, hb1⟩ := slice_rows_sized Wri.cells (fun _ => True) Try.underlying25 (by kernel_rfl) (by decide) (fun _ => rfl) (fun n cs y hl ht hw => (write_one Try.underlying73 rfl rfl hl ht hw).imp fun _ h => ⟨h, trivial⟩) h10 z10
  obtain ⟨a2, n2, c2, w2, rfl, _, _, hn2, _, r2, hb2⟩ := slice_rows_sized Wri.cells (fun _ => True) Try.underlying26 (by kernel_rfl) (by decide) (fun _ => rfl) (fun n cs y hl ht hw => (write_one Try.underlying76 rfl rfl hl ht hw).imp fun _ h => ⟨h, trivial⟩) h11 z11
  obtain ⟨a3, n3, c3, w3, rfl, _, _, hn3, _, r3, hb3⟩ := slice_rows_sized T6.cells (fun _ => True) Try.underlying27 (by kernel_rfl) (by decide) (fun _ => rfl) (fun n cs y hl ht hw => (ask_one hl ht hw).imp fun _ h => ⟨h, trivial⟩) h12 z12
  obtain ⟨a4, n4, c4, w4, rfl, _, _, hn4, hq4, r4, hb4⟩ := slice_rows_sized Arg4.cells Arg4.ok Try.underlying28 (by kernel_rfl) (by decide) (fun _ => rfl) (fun n cs y hl ht hw => arg_one hl ht hw) h13 z13
  rw [e1] at hb1
  rw [e2] at hb2
  rw [e3] at hb3
  rw [e4] at hb4
  have e : reachBytes = 140737488351232 := rfl
  rw [e] at hb1 hb2 hb3 hb4
  exact ⟨⟨s0, m1, m2, m3, s4, m5, s6, s7, s8, s9, w1, w2, w3, w4⟩, a1, a2, a3, a4, n1, n2, n3, n4, c1, c2, c3, c4, rfl,
    ⟨r1, r2, r3, r4, hn1, hn2, hn3, hn4, by omega, by omega, by omega, by omega, ⟨⟨b2, b3⟩, b1, b5, fun x hx => ⟨(hq4 x hx).1, (hq4 x hx).2.1⟩⟩, hq4, b0, b4, b6, b7, b8, b9⟩⟩
end
end Go.Proofs.Ytkhjfaghemjcoaa

/- A row whose walk needs the sizes of what came in. -/
namespace Go.Proofs.Ytkhjfaghemjcoaa
open Go Go.RowKit

section
variable {H : Type} {enc : TypeId × Value → H}
theorem handed_sized {a : Assume} {C : Checked} {os : Os} {f : FuncId} {fn : Func} {s : ChangeSpec} {conds : List PathCond} {apart fresh handsOn again : Bool}
    (own : ownKnob C.prog.godebug = none) (started : os.Started) (noInit : C.prog.inits.idxOf? f = none) (hfn : C.prog.funcs[f]? = some fn)
    (witness : ∃ (w : World) (tape : Tape) (i : Input), w.os = os ∧ (w.forCall tape i).Shaped C.prog ∧ i.vars = [] ∧ Input.okWide C.prog (w.forCall tape i) .any w.heap.size f i ∧
      s.pre6 enc C.prog fn conds apart (w.forCall tape i).memory i.args ∧ a.holds C.prog (lone (Frame.enter C.prog f i.args .normal) [] (w.forCall tape i)))
    (walk : ∀ (W : World) (base : Nat) (args : Array Value) (ds gs : List (DataW H)) (before : List MemPlace),
      (∀ (j : Nat) t v, fn.params[j]? = some t → args[j]? = some v → Value.okWide C.prog W .any base t v) →
      DataW.Whole enc C.prog fn.params.toList s.vars apart W args.toList ds gs before →
      (DataW.weightsEach C.prog (fn.params.toList ++ s.plain.varTypes C.prog) (ds ++ gs)).all (· ≤ reachBytes) = true →
      Calls C.prog f args W fun e W' => ∃ v, e = .returned v ∧ s.post enc C.prog fn apart fresh handsOn again W args v W') :
    ReturnsInHanded a C os f .any (s.pre6 enc C.prog fn conds apart) (s.post enc C.prog fn apart fresh handsOn again) := by
  refine returnsInHanded_of_calls own started noInit witness ?_
  intro w tape i _ _ _ hok hpre _
  obtain ⟨_, _, _, fn', hfn', _, _, _, _, hval⟩ := hok
  obtain rfl : fn' = fn := Option.some.inj (hfn'.symm.trans hfn)
  obtain ⟨⟨ds, gs, before, hw, _⟩, hz⟩ := hpre
  refine (walk (w.forCall tape i) w.heap.size i.args ds gs before hval (DataW.Whole.of_heap (w' := w.forCall tape i) (by rfl) hw) (hz.weights hw)).mono fun e W' ⟨v, he, hp⟩ => ?_
  subst he
  exact ChangeSpec.post_blind hp
end
end Go.Proofs.Ytkhjfaghemjcoaa
