/- The laws SkipNil and SkipWalks. -/
import Derived.Test.YthficboolhellaaSkipAll
namespace Go.Proofs.Ythficboolhellaa
open Go Go.RowKit

def NilPost (w : World) (v : Value) (e : Ending) (w' : World) : Prop := e = .returned v ∧ Below w.heap.size w w'

theorem seek_nil (w : World) (key : ByteArray) : Calls Try.prog 14 #[.pointer none, .string key] w (NilPost w (sk11V none)) := by
  have hb : Below w.heap.size w (w.alloc (.cells #[.string key] 9)) := (Below.refl _ _).alloc (Nat.le_refl _) _
  go_enter Try.func14, Try.ntmps14
  go_wp2
  refine bodyPost_ret (v := .tuple #[.string ⟨#[]⟩, .bool false]) (by simp [results, Try.results14, go_sem]) rfl ?_
  exact ⟨rfl, hb⟩

theorem after_nil (w : World) (key : ByteArray) : Calls Try.prog 16 #[.pointer none, .string key] w (NilPost w (sk11V none)) := by
  have hb : Below w.heap.size w (w.alloc (.cells #[.string key] 9)) := (Below.refl _ _).alloc (Nat.le_refl _) _
  go_enter Try.func16, Try.ntmps16
  go_wp2
  refine bodyPost_ret (v := .tuple #[.string ⟨#[]⟩, .bool false]) (by simp [results, Try.results16, go_sem]) rfl ?_
  exact ⟨rfl, hb⟩

theorem len_nil (w : World) : Calls Try.prog 12 #[.pointer none] w (NilPost w (.int .i64 0)) := by
  go_enter Try.func12, Try.ntmps12
  go_wp2
  go_ret
  exact ⟨rfl, Below.refl _ _⟩

theorem size_nil (w : World) : Calls Try.prog 13 #[.pointer none] w (NilPost w (.int .i64 0)) := by
  go_enter Try.func13, Try.ntmps13
  go_wp2
  go_ret
  exact ⟨rfl, Below.refl _ _⟩

theorem all_nil (w : World) : Calls Try.prog 20 #[.pointer none] w (NilPost w (.slice none 0 0)) := by
  go_enter Try.func20, Try.ntmps20
  go_wp2
  go_ret
  exact ⟨rfl, Below.refl _ _⟩

theorem last_nil (w : World) : Calls Try.prog 18 #[.pointer none] w (NilPost w (sk11V none)) := by
  have HL := Lib.hid (len_nil w)
  go_enter Try.func18, Try.ntmps18
  go_wp2_with (go_at_call 12; go_must (refine HL.out.mono ?_))
  rintro e w1 ⟨rfl, b1⟩
  go_wp2
  refine bodyPost_ret (v := .tuple #[.string ⟨#[]⟩, .bool false]) (by simp [results, Try.results18, go_sem]) rfl ?_
  exact ⟨rfl, b1⟩

theorem put_nil (w : World) (key : ByteArray) : Calls Try.prog 11 #[.pointer none, .string key] w (NilPost w (.bool false)) := by
  have hb : Below w.heap.size w (w.alloc (.cells #[.string key] 9)) := (Below.refl _ _).alloc (Nat.le_refl _) _
  go_enter Try.func11, Try.ntmps11
  go_wp2
  go_ret
  exact ⟨rfl, hb⟩

theorem has_nil (w : World) (key : ByteArray) : Calls Try.prog 17 #[.pointer none, .string key] w (NilPost w (.bool false)) := by
  have HL := Lib.hid (seek_nil w key)
  go_enter Try.func17, Try.ntmps17
  go_wp2_with (go_at_call 14; go_must (refine HL.out.mono ?_))
  rintro e w1 ⟨rfl, b1⟩
  unfold sk11V
  go_wp2
  go_ret
  exact ⟨rfl, b1⟩

set_option maxRecDepth 100000 in
set_option maxHeartbeats 4000000 in
theorem skipNil_walk (w : World) (key : ByteArray) : Calls Try.prog 6 #[.string key] w (SaysTrue w) := by
  have HF := Lib.hid (fixed11_any w)
  go_enter Try.func6, Try.ntmps6
  go_wp2_with (go_at_call 7; go_must (refine HF.out.mono ?_))
  rintro e w1 ⟨rfl, b1⟩
  have HB1 := Lib.hid b1
  clear b1 HF
  have HS := Lib.hid (seek_nil w1 key)
  go_wp2_with (go_at_call 14; go_must (refine HS.out.mono ?_))
  rintro e w2 ⟨rfl, b2⟩
  have HB2 := Lib.hid (HB1.out.trans (b2.mono HB1.out.size))
  clear b2 HS
  have HS := Lib.hid (after_nil w2 key)
  unfold sk11V
  go_wp2_with (go_at_call 16; go_must (refine HS.out.mono ?_))
  rintro e w3 ⟨rfl, b3⟩
  have HB3 := Lib.hid (HB2.out.trans (b3.mono HB2.out.size))
  clear b3 HS
  have HS := Lib.hid (last_nil w3)
  unfold sk11V
  go_wp2_with (go_at_call 18; go_must (refine HS.out.mono ?_))
  rintro e w4 ⟨rfl, b4⟩
  have HB4 := Lib.hid (HB3.out.trans (b4.mono HB3.out.size))
  clear b4 HS
  have HS := Lib.hid (put_nil w4 key)
  unfold sk11V
  go_wp2_with (go_at_call 11; go_must (refine HS.out.mono ?_))
  rintro e w5 ⟨rfl, b5⟩
  have HB5 := Lib.hid (HB4.out.trans (b5.mono HB4.out.size))
  clear b5 HS
  have HS := Lib.hid (has_nil w5 key)
  go_wp2_with (go_at_call 17; go_must (refine HS.out.mono ?_))
  rintro e w6 ⟨rfl, b6⟩
  have HB6 := Lib.hid (HB5.out.trans (b6.mono HB5.out.size))
  clear b6 HS
  have HS := Lib.hid (all_nil w6)
  go_wp2_with (go_at_call 20; go_must (refine HS.out.mono ?_))
  rintro e w7 ⟨rfl, b7⟩
  have HB7 := Lib.hid (HB6.out.trans (b7.mono HB6.out.size))
  clear b7 HS
  have HS := Lib.hid (len_nil w7)
  go_wp2_with (go_at_call 12; go_must (refine HS.out.mono ?_))
  rintro e w8 ⟨rfl, b8⟩
  have HB8 := Lib.hid (HB7.out.trans (b8.mono HB7.out.size))
  clear b8 HS
  have HS := Lib.hid (size_nil w8)
  go_wp2_with (go_at_call 13; go_must (refine HS.out.mono ?_))
  rintro e w9 ⟨rfl, b9⟩
  have HB9 := Lib.hid (HB8.out.trans (b9.mono HB8.out.size))
  go_wp2
  go_ret
  exact ⟨rfl, HB9.out⟩

/-- The keys put so far. -/
def putsOf (ks : List ByteArray) : List ByteArray := ks.foldl putK []

theorem putsOf_snoc {ks : List ByteArray} {k : Nat} {x : ByteArray} (h : ks[k]? = some x) : putsOf (ks.take (k + 1)) = putK (putsOf (ks.take k)) x := by
  unfold putsOf
  rw [List.take_add_one, h]
  simp

theorem sum_putK (K : List ByteArray) (x : ByteArray) : sumSz (putK K x) ≤ sumSz K + x.size := by
  unfold putK
  split
  · omega
  · have h2 : sumSz K = sumSz (K.take (putAt K x)) + sumSz (K.drop (putAt K x)) := by
      unfold sumSz
      rw [← List.sum_append, ← List.map_append, List.take_append_drop]
    unfold sumSz at h2 ⊢
    rw [h2]
    simp
    omega

theorem putsOf_small (ks : List ByteArray) (hs : ∀ x ∈ ks, x.size ≤ 200) : ∀ k, (putsOf (ks.take k)).length ≤ k ∧ sumSz (putsOf (ks.take k)) ≤ 200 * k
  | 0 => by simp [putsOf, sumSz]
  | k + 1 => by
    have ih := putsOf_small ks hs k
    cases hx : ks[k]? with
    | none =>
      have : ks.take (k + 1) = ks.take k := by rw [List.take_add_one, hx]; simp
      rw [this]
      omega
    | some x =>
      rw [putsOf_snoc hx]
      have h1 := putK_length (putsOf (ks.take k)) x
      have h2 := sum_putK (putsOf (ks.take k)) x
      have h3 := hs x (List.mem_of_getElem? hx)
      omega

theorem few11_low {l : List ByteArray} (h : few11 l = true) : (∀ x ∈ l, x.size ≤ 200) ∧ l.length ≤ 200 := by
  unfold few11 low11 at h
  simpa [List.all_eq_true] using h

/-- A list of one's own, above B. -/
def LOwn (B : Nat) (w0 : World) (L : Nat) (K : List ByteArray) (wr : World) : Prop :=
  ∃ (ns : List Nat) (kf : Nat → ByteArray) (ht : Nat → Nat), SkL wr L ns kf ht K ∧ (∀ x ∈ L :: ns, B ≤ x) ∧ Below B w0 wr

theorem LOwn.put {B : Nat} {w0 w w' : World} {L : Nat} {K : List ByteArray} {key : ByteArray} {e : Ending} {ns : List Nat} (hge : ∀ x ∈ L :: ns, B ≤ x) (hb : Below B w0 w) (hB : B ≤ w.heap.size) (h : PutSPost w L ns K key e w') : e = .returned (.bool (!isIn K key)) ∧ LOwn B w0 L (putK K key) w' := by
  obtain ⟨ns', kf', ht', he, hs, ht, hm⟩ := h
  refine ⟨he, ns', kf', ht', hs, fun x hx => ?_, hb.trans (ht.below hB hge)⟩
  rcases List.mem_cons.1 hx with rfl | hx
  · exact hge x (by simp)
  · rcases hm x hx with h | h
    · exact hge x (List.mem_cons_of_mem _ h)
    · omega

theorem LOwn.below {B : Nat} {w0 w w' : World} {L : Nat} {K : List ByteArray} (h : LOwn B w0 L K w) (hb : Below w.heap.size w w') (hB : B ≤ w.heap.size) : LOwn B w0 L K w' := by
  obtain ⟨ns, kf, ht, hs, hg, hw⟩ := h
  exact ⟨ns, kf, ht, hs.below hb, hg, hw.trans (hb.mono hB)⟩

theorem after_at {K : List ByteArray} (hr : rises K) {i : Nat} {x : ByteArray} (hx : K[i]? = some x) : sk11 K x true = K[i + 1]? := by
  obtain ⟨hi, he⟩ := List.getElem?_eq_some_iff.1 hx
  have hq : (fun y => bl x y || (decide (y = x) && !true)) = fun y => bl x y := by
    funext y
    simp
  unfold sk11
  rw [hq]
  conv => lhs; rw [← List.take_append_drop (i + 1) K]
  rw [List.find?_append]
  have h1 : (K.take (i + 1)).find? (fun y => bl x y) = none := by
    rw [List.find?_eq_none]
    intro y hy
    obtain ⟨j, hj⟩ := List.getElem?_of_mem hy
    have hjl := (List.getElem?_eq_some_iff.1 hj).1
    rw [List.length_take] at hjl
    rw [List.getElem?_take_of_lt (by omega)] at hj
    obtain ⟨hj1, hj2⟩ := List.getElem?_eq_some_iff.1 hj
    by_cases hji : j = i
    · subst hji
      rw [he] at hj2
      subst hj2
      rw [bl_irrefl]
      decide
    · have := List.pairwise_iff_getElem.1 hr j i hj1 hi (by omega)
      rw [hj2, he] at this
      rw [bl_asymm this]
      decide
  rw [h1, Option.none_or]
  cases hn : K[i + 1]? with
  | none =>
    rw [List.drop_of_length_le (by have := List.getElem?_eq_none_iff.1 hn; omega)]
    rfl
  | some y =>
    obtain ⟨hj1, hj2⟩ := List.getElem?_eq_some_iff.1 hn
    rw [List.drop_eq_getElem_cons hj1, List.find?_cons, hj2]
    have := List.pairwise_iff_getElem.1 hr i (i + 1) hi hj1 (by omega)
    rw [he, hj2] at this
    rw [this]

theorem seek_first (K : List ByteArray) : sk11 K ⟨#[]⟩ false = K[0]? := by
  unfold sk11
  cases K with
  | nil => rfl
  | cons a t =>
    rw [List.find?_cons]
    have : (bl ⟨#[]⟩ a || (decide (a = ⟨#[]⟩) && !false)) = true := by
      rcases bl_cases ⟨#[]⟩ a with ⟨k1, _, _⟩ | ⟨_, _, k3⟩ | ⟨_, k2, _⟩
      · rw [k1]; rfl
      · rw [decide_eq_true k3.symm]; simp
      · exfalso
        unfold bl at k2
        cases h : a.data.toList with
        | nil => rw [h] at k2; cases k2
        | cons c r => rw [h] at k2; cases k2
    rw [this]
    rfl
end Go.Proofs.Ythficboolhellaa
