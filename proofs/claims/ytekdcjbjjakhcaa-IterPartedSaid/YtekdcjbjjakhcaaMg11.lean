/- What the proof stands on, part 11. -/
import Derived.Test.YtekdcjbjjakhcaaMg10
import Derived.ProofKit
import Derived.ShutString
import Derived.ChangeOld
import Derived.Lib.SmallJoins
import Derived.Deep.Strs
import Derived.HandedShaped
/- A slice that came in, with what the form's reach says of its elements' sizes. -/
namespace Go.Proofs.Ytekdcjbjjakhcaa
open Go Go.RowKit Go.ChangeShapes Go.WideShapes Go.Deep

section
variable {H : Type} {enc : TypeId × Value → H} {w : World} {base : Nat} {spare : Nat → Bool} {held : Bool}

/-- No weight of a datum is beyond the reach. -/
def WOk (t : TypeId) (d : DataW H) : Prop := (d.weights Try.prog t).all (· ≤ reachBytes) = true

theorem wok_all {e : TypeId} : ∀ (l : List (DataW H)), (DataW.weightsAll Try.prog e l).all (· ≤ reachBytes) = true → ∀ d ∈ l, WOk e d
  | [], _, d, hd => by cases hd
  | x :: r, h, d, hd => by
    rw [DataW.weightsAll, List.all_append, Bool.and_eq_true] at h
    rcases List.mem_cons.1 hd with rfl | hd
    · exact h.1
    · exact wok_all r h.2 d hd

theorem wok_slice {t e : TypeId} {elems rest : List (DataW H)} (ht : Try.prog.underlying t = some (.slice e)) (h : WOk t (DataW.slice elems rest)) :
    (elems.length + rest.length) * Try.prog.bytesOf e ≤ reachBytes ∧ ∀ d ∈ elems, WOk e d := by
  unfold WOk at h
  rw [DataW.weights, ht] at h
  simp only [List.all_cons, List.all_append, Bool.and_eq_true, decide_eq_true_eq] at h
  exact ⟨h.1, wok_all _ h.2.1⟩

theorem wok_arg : ∀ (ts : List TypeId) (ds : List (DataW H)) (j : Nat) (t : TypeId) (d : DataW H), (DataW.weightsEach Try.prog ts ds).all (· ≤ reachBytes) = true → ts[j]? = some t → ds[j]? = some d → WOk t d
  | [], _, j, _, _, _, h, _ => by simp at h
  | _ :: _, [], j, _, _, _, _, h => by simp at h
  | t0 :: ts, d0 :: ds, 0, t, d, h, ht, hd => by
    rw [DataW.weightsEach, List.all_append, Bool.and_eq_true] at h
    simp at ht hd
    subst ht
    subst hd
    exact h.1
  | t0 :: ts, d0 :: ds, j + 1, t, d, h, ht, hd => by
    rw [DataW.weightsEach, List.all_append, Bool.and_eq_true] at h
    exact wok_arg ts ds j t d h.2 (by simpa using ht) (by simpa using hd)

theorem slice_rows_sized {α : Type} [Inhabited α] {t e : TypeId} {s fuel : Nat} {v : Value} {y : DataW H × List MemPlace} (f : α → List Value) (Q : α → Prop) (ht : Try.prog.underlying t = some (.slice e)) (hC : Try.prog.cellsOf e = s) (hs : 0 < s) (hf : ∀ x, (f x).length = s)
    (hopen : ∀ n cs y, cs.length = s → DataW.trod enc Try.prog w base spare held n e cs = some y → WOk e y.1 → ∃ x, cs = f x ∧ Q x)
    (hfu : DataW.trod enc Try.prog w base spare held fuel t [v] = some y) (hz : WOk t y.1) :
    ∃ a len cap, ∃ l : List α, v = .slice a len cap ∧ len ≤ cap ∧ cap ≤ maxLen ∧ l.length = len ∧ (∀ x ∈ l, Q x) ∧ Reads w s (.slice a len cap) len (l.flatMap f) ∧ len * Try.prog.bytesOf e ≤ reachBytes := by
  rcases open_slice ht hfu with ⟨hcs, _⟩ | ⟨x, len, cap, m, n, D, Pl, hcs, _, hl, hm, hmm, hy, hx⟩
  · simp at hcs
    subst hcs
    exact ⟨none, 0, 0, [], rfl, Nat.le_refl _, Nat.zero_le _, rfl, fun x hx => (by simp at hx), ⟨by simp, none, 0, rfl, Nat.le_refl _, Nat.zero_le _, fun j u hj => by simp at hj⟩, by simp⟩
  · simp at hcs
    subst hcs
    rw [hy] at hz
    obtain ⟨hz1, hz2⟩ := wok_slice ht hz
    have hlm : len ≤ m := by
      rw [hmm]
      split <;> omega
    have hgs : 0 < len → x.spot = none := by
      intro h0
      obtain ⟨cs0, hc0, _⟩ := hx 0 (by omega)
      rw [hC] at hc0
      obtain ⟨_, hl0, ha0⟩ := World.cells?_some hc0
      have h1 := ha0 0 hs
      rw [List.getElem?_eq_getElem (by omega)] at h1
      have h2 : w.cell? x = some (cs0[0]'(by omega)) := by simpa [Addr.add] using h1
      exact World.cell?_spot h2
    have hall : ∀ i, i < len → ∃ y : α, Q y ∧ ∀ j u, (f y)[j]? = some u → w.cell? (x.add (i * s + j)) = some u := by
      intro i hi
      obtain ⟨cs, hc, htr⟩ := hx i (by omega)
      rw [hC] at hc
      obtain ⟨_, hlen, hat⟩ := World.cells?_some hc
      obtain ⟨y, rfl, hq⟩ := hopen _ _ _ hlen htr (hz2 _ (List.mem_map.2 ⟨i, List.mem_range.2 hi, rfl⟩))
      refine ⟨y, hq, fun j u hj => ?_⟩
      have hjs : j < s := by
        have := (List.getElem?_eq_some_iff.1 hj).1
        rw [hf] at this
        exact this
      have h1 := hat j hjs
      rw [hj] at h1
      rw [← h1]
      have hsp := hgs (by omega)
      obtain ⟨b, off, sp⟩ := x
      simp at hsp
      subst hsp
      rw [Addr.add_lit, Addr.add_lit, Addr.add_lit, Nat.add_assoc]
    obtain ⟨X, hX⟩ := choose_lt (α := α) (p := fun i y => Q y ∧ ∀ j u, (f y)[j]? = some u → w.cell? (x.add (i * s + j)) = some u) hall
    refine ⟨some x, len, cap, (List.range len).map X, rfl, hl, hm, by simp, fun y hy => ?_, ?_, ?_⟩
    · obtain ⟨i, hi, rfl⟩ := List.mem_map.1 hy
      exact (hX i (List.mem_range.1 hi)).1
    · refine ⟨by rw [flat_length f s hf]; simp, some x, cap, rfl, hl, hm, fun j u hj => ?_⟩
      have hjl := (List.getElem?_eq_some_iff.1 hj).1
      rw [flat_length f s hf, List.length_map, List.length_range] at hjl
      have hi : j / s < len := Nat.div_lt_of_lt_mul (by rw [Nat.mul_comm]; exact hjl)
      have hr : j % s < s := Nat.mod_lt _ hs
      have hjj : j / s * s + j % s = j := by rw [Nat.mul_comm]; exact Nat.div_add_mod j s
      have hg : ((List.range len).map X)[j / s]? = some (X (j / s)) := by simp [hi]
      have h1 := flat_cell f s hf _ _ _ hg (j % s) hr
      rw [hjj, hj] at h1
      have h2 := (hX _ hi).2 (j % s) u h1.symm
      rw [hjj] at h2
      have hspot := hgs (Nat.lt_of_le_of_lt (Nat.zero_le _) hi)
      obtain ⟨b, off, sp⟩ := x
      simp at hspot
      subst hspot
      rw [Addr.add_lit] at h2
      exact ⟨b, off, rfl, World.block_lt_of_cell? _ _ h2, h2⟩
    · simp only [List.length_map, List.length_range] at hz1
      exact Nat.le_trans (Nat.mul_le_mul_right _ (Nat.le_add_right _ _)) hz1
end
end Go.Proofs.Ytekdcjbjjakhcaa

/- Single cells that came in. -/
namespace Go.Proofs.Ytekdcjbjjakhcaa
open Go Go.RowKit Go.Joins Go.WideShapes Go.ChangeShapes Go.ChangeAt Go.Deep

section
variable {H : Type} {enc : TypeId × Value → H} {w : World} {base : Nat} {spare : Nat → Bool} {held : Bool}

theorem one_string {n : Nat} {c : Value} {y : DataW H × List MemPlace} (h : DataW.trod enc Try.prog w base spare held n 9 [c] = some y) : ∃ s : ByteArray, c = .string s ∧ s.size ≤ maxLen := by
  obtain ⟨s, e, _, hs⟩ := DataW.trod_string Try.underlying9 h
  simp only [List.cons.injEq, and_true] at e
  exact ⟨s, e, hs⟩

theorem one_bool {n : Nat} {c : Value} {y : DataW H × List MemPlace} (h : DataW.trod enc Try.prog w base spare held n 4 [c] = some y) : ∃ b : Bool, c = .bool b := by
  obtain ⟨b, e, _⟩ := DataW.trod_bool Try.underlying4 h
  simp only [List.cons.injEq, and_true] at e
  exact ⟨b, e⟩

theorem one_u64 {n : Nat} {c : Value} {y : DataW H × List MemPlace} (h : DataW.trod enc Try.prog w base spare held n 23 [c] = some y) : ∃ m : Nat, c = .int .u64 (m : Int) ∧ m < 18446744073709551616 := by
  obtain ⟨k, e, _, hw⟩ := DataW.trod_int Try.underlying23 h
  simp only [List.cons.injEq, and_true] at e
  have bd : 0 ≤ k ∧ k ≤ 18446744073709551615 := by simpa [Lit.wf, IntKind.min, IntKind.max, IntKind.signed, IntKind.bits] using hw
  obtain ⟨m, rfl⟩ := Int.eq_ofNat_of_zero_le bd.1
  exact ⟨m, e, by omega⟩
end
end Go.Proofs.Ytekdcjbjjakhcaa

/- Entries that came in. -/
namespace Go.Proofs.Ytekdcjbjjakhcaa
open Go Go.RowKit Go.Joins Go.WideShapes Go.ChangeShapes Go.ChangeAt Go.Deep

section
variable {H : Type} {enc : TypeId × Value → H} {w : World} {base : Nat} {spare : Nat → Bool} {held : Bool}

theorem ent_one {n : Nat} {cs : List Value} {y : DataW H × List MemPlace} (hl : cs.length = 3) (ht : DataW.trod enc Try.prog w base spare held n 48 cs = some y) : ∃ x : Ent, cs = ecell x ∧ x.key.size ≤ maxLen ∧ x.rev < 18446744073709551616 := by
  have k1 : Try.prog.cellsOf 23 = 1 := by kernel_rfl
  have kt : Try.prog.cellsOf 9 = 1 := by kernel_rfl
  have kb : Try.prog.cellsOf 4 = 1 := by kernel_rfl
  obtain ⟨y0, y1, y2, m, _, _, h0, h1, h2⟩ := trod_struct3 Try.underlying48 ht
  match cs, hl with
  | [d0, d1, d2], _ =>
    rw [kt] at h0
    rw [k1] at h1
    rw [kb] at h2
    simp at h0 h1 h2
    obtain ⟨s, rfl, hs⟩ := one_string h0
    obtain ⟨m, rfl, hm⟩ := one_u64 h1
    obtain ⟨b, rfl⟩ := one_bool h2
    exact ⟨⟨s, m, b⟩, rfl, hs, hm⟩

theorem ents_open {r : Reach} {b0 : Nat} {v : Value} {d : DataW H} {p : List MemPlace} (hv : Value.okWide Try.prog w r b0 22 v) (h : DataW.Trod enc Try.prog w base spare held 22 v d p) :
    ∃ a len cap, ∃ l : List Ent, v = .slice a len cap ∧ len ≤ cap ∧ cap ≤ maxLen ∧ l.length = len ∧ (∀ x ∈ l, x.key.size ≤ maxLen ∧ x.rev < 18446744073709551616) ∧ Reads w 3 (.slice a len cap) len (ecells l) := by
  have : Inhabited Ent := ⟨⟨⟨#[]⟩, 0, false⟩⟩
  exact slice_rows ecell (fun x => x.key.size ≤ maxLen ∧ x.rev < 18446744073709551616) Try.underlying22 (by kernel_rfl) (by decide) ecell_length (fun n cs y hl ht => ent_one hl ht) hv h
end
end Go.Proofs.Ytekdcjbjjakhcaa

/- A slice of slices of entries that came in, with revisions. -/
namespace Go.Proofs.Ytekdcjbjjakhcaa
open Go Go.RowKit Go.Joins Go.WideShapes Go.ChangeShapes Go.ChangeAt Go.Deep

section
variable {H : Type} {enc : TypeId × Value → H} {w : World} {base : Nat} {spare : Nat → Bool} {held : Bool}

theorem erevs_open {v : Value} {r : Reach} {b0 : Nat} {d : DataW H} {p : List MemPlace} (hv : Value.okWide Try.prog w r b0 43 v) (h : DataW.Trod enc Try.prog w base spare held 43 v d p) (hz : WOk 43 d) :
    ∃ a n cap ls, v = .slice a n cap ∧ ERows w (.slice a n cap) n ls ∧ ∀ l ∈ ls, ∀ x ∈ l, x.rev < 18446744073709551616 := by
  have : Inhabited Ent := ⟨⟨⟨#[]⟩, 0, false⟩⟩
  have : Inhabited (Option Addr × Nat × List Ent) := ⟨(none, 0, [])⟩
  obtain ⟨a, n, cap, rfl⟩ := okWide_slice Try.underlying43 hv
  obtain ⟨fuel, hf⟩ := h
  have kb : Try.prog.bytesOf 48 = 32 := by kernel_rfl
  obtain ⟨a', n', cap', l, hv', h1, h2, h3, h4, h5, _⟩ := slice_rows_sized (α := Option Addr × Nat × List Ent) (fun x => [.slice x.1 x.2.2.length x.2.1])
    (fun x => x.2.2.length * 32 ≤ 140737488351232 ∧ (∀ y ∈ x.2.2, y.key.size ≤ maxLen ∧ y.rev < 18446744073709551616) ∧ Reads w 3 (.slice x.1 x.2.2.length x.2.1) x.2.2.length (ecells x.2.2))
    Try.underlying43 (by kernel_rfl) (by decide) (fun _ => rfl) (fun m cs y hl ht hz => by
      obtain ⟨c, rfl⟩ : ∃ c, cs = [c] := by
        match cs, hl with
        | [c], _ => exact ⟨c, rfl⟩
      obtain ⟨a, len, cap, l, rfl, _, _, hn, hq, hr, hb⟩ := slice_rows_sized ecell (fun x => x.key.size ≤ maxLen ∧ x.rev < 18446744073709551616) Try.underlying22 (by kernel_rfl) (by decide) ecell_length (fun n cs y hl ht _ => ent_one hl ht) ht hz
      subst hn
      rw [kb] at hb
      exact ⟨(a, cap, l), rfl, hb, hq, hr⟩) hf hz
  cases hv'
  refine ⟨a, n, cap, l.map (·.2.2), rfl, ⟨a, cap, rfl, h1, h2, by rw [List.length_map]; exact h3, fun i x hx => ?_⟩, fun x hx => ?_⟩
  · rw [List.getElem?_map] at hx
    obtain ⟨y, hy, rfl⟩ := Option.map_eq_some_iff.1 hx
    obtain ⟨k1, k2, k3⟩ := h4 y (List.mem_of_getElem? hy)
    obtain ⟨g, off, ha, hg, hc⟩ := h5.at (j := i) (u := .slice y.1 y.2.2.length y.2.1) (by
      have := flat_cell (fun x : Option Addr × Nat × List Ent => [Value.slice x.1 x.2.2.length x.2.1]) 1 (fun _ => rfl) l i y hy 0 (by decide)
      simpa using this)
    exact ⟨k1, fun z hz => (k2 z hz).1, g, off, y.1, y.2.1, ha, hg, hc, k3⟩
  · obtain ⟨y, hy, rfl⟩ := List.mem_map.1 hx
    exact fun z hz => ((h4 y hy).2.1 z hz).2
end
end Go.Proofs.Ytekdcjbjjakhcaa

/- A text that came in: its size is within the reach. -/
namespace Go.Proofs.Ytekdcjbjjakhcaa
open Go Go.RowKit Go.ChangeShapes Go.WideShapes Go.Deep

theorem wok_text {H : Type} {t : TypeId} {s : ByteArray} (h : WOk t (DataW.lit (H := H) (.string s.data.toList))) : s.size ≤ 140737488351232 := by
  unfold WOk at h
  rw [DataW.weights] at h
  simp only [List.all_cons, List.all_nil, Bool.and_true, decide_eq_true_eq] at h
  have : s.data.toList.length = s.size := Array.length_toList
  unfold reachBytes at h
  omega
end Go.Proofs.Ytekdcjbjjakhcaa

/- A row whose walk needs the sizes of what came in. -/
namespace Go.Proofs.Ytekdcjbjjakhcaa
open Go Go.RowKit

section
variable {H : Type} {enc : TypeId × Value → H}
theorem handed_sized {a : Assume} {C : Checked} {os : Os} {f : FuncId} {fn : Func} {s : ChangeSpec} {conds : List PathCond} {apart fresh handsOn again : Bool}
    (own : ownKnob C.prog.godebug = none) (started : os.Started) (noInit : C.prog.inits.idxOf? f = none) (hfn : C.prog.funcs[f]? = some fn)
    (witness : ∃ (w : World) (tape : Tape) (i : Input), w.os = os ∧ (w.forCall tape i).Shaped C.prog ∧ i.vars = [] ∧ Input.okWide C.prog (w.forCall tape i) .any w.heap.size f i ∧
      s.pre6 enc C.prog fn conds apart (w.forCall tape i).memory i.args ∧ a.holds C.prog (lone (Frame.enter C.prog f i.args .normal) [] (w.forCall tape i)))
    (walk : ∀ (W : World) (base : Nat) (args : Array Value) (ds gs : List (DataW H)) (before : List MemPlace),
      (∀ (j : Nat) t v, fn.params[j]? = some t → args[j]? = some v → Value.okWide C.prog W .any base t v) →
      DataW.Whole enc C.prog fn.params.toList s.vars apart W args.toList ds gs before →
      (DataW.weightsEach C.prog (fn.params.toList ++ s.plain.varTypes C.prog) (ds ++ gs)).all (· ≤ reachBytes) = true →
      Calls C.prog f args W fun e W' => ∃ v, e = .returned v ∧ s.post enc C.prog fn apart fresh handsOn again W args v W') :
    ReturnsInHanded a C os f .any (s.pre6 enc C.prog fn conds apart) (s.post enc C.prog fn apart fresh handsOn again) := by
  refine returnsInHanded_of_calls own started noInit witness ?_
  intro w tape i _ _ _ hok hpre _
  obtain ⟨_, _, _, fn', hfn', _, _, _, _, hval⟩ := hok
  obtain rfl : fn' = fn := Option.some.inj (hfn'.symm.trans hfn)
  obtain ⟨⟨ds, gs, before, hw, _⟩, hz⟩ := hpre
  refine (walk (w.forCall tape i) w.heap.size i.args ds gs before hval (DataW.Whole.of_heap (w' := w.forCall tape i) (by rfl) hw) (hz.weights hw)).mono fun e W' ⟨v, he, hp⟩ => ?_
  subst he
  exact ChangeSpec.post_blind hp
end
end Go.Proofs.Ytekdcjbjjakhcaa
