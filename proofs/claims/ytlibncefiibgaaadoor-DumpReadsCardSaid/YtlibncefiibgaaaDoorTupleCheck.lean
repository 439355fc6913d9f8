import Derived.Test.YtlibncefiibgaaaDoorTupleName
namespace Go.Proofs.YtlibncefiibgaaaDoor
open Go Go.RowKit

/-- A value is told; nothing old is changed. -/
def GivesVal (w : World) (v : Value) (e : Ending) (w' : World) : Prop := e = .returned v ∧ Below w.heap.size w w'

set_option maxRecDepth 100000 in
set_option maxHeartbeats 1000000 in
theorem parts_any (w : World) (t : Six) : Calls Tryd.prog 34 #[t.val] w (GivesVal w t.val) := by
  obtain ⟨a, b, c, d, e, f⟩ := t
  unfold Six.val
  go_enter Tryd.func34, Tryd.ntmps34
  go_wp2
  refine bodyPost_ret (v := .agg #[.string a, .string b, .string c, .string d, .string e, .string f]) ?_ rfl ⟨rfl, ?_⟩
  · simp [results, Tryd.results34, go_sem]
  · exact (Below.refl _ _).alloc (Nat.le_refl _) _ |>.alloc (by simp) _

set_option maxRecDepth 100000 in
set_option maxHeartbeats 1000000 in
theorem whole_any (w : World) (t : Six) : Calls Tryd.prog 51 #[t.val] w (GivesVal w t.val) := by
  obtain ⟨a, b, c, d, e, f⟩ := t
  unfold Six.val
  go_enter Tryd.func51, Tryd.ntmps51
  go_wp2
  refine bodyPost_ret (v := .agg #[.string a, .string b, .string c, .string d, .string e, .string f]) ?_ rfl ⟨rfl, ?_⟩
  · simp [results, Tryd.results51, go_sem]
  · exact (Below.refl _ _).alloc (Nat.le_refl _) _ |>.alloc (by simp) _

def Six.five (t : Six) : List ByteArray := [t.a, t.b, t.c, t.d, t.e]

theorem Six.five_ok (t : Six) : t.ok = (t.five.all nameB && (decide (t.f.size = 0) || nameB t.f)) := by
  simp [Six.ok, Six.five, Bool.and_assoc]

/-- Are all parts short? -/
def Six.short (t : Six) (n : Nat) : Prop := t.a.size ≤ n ∧ t.b.size ≤ n ∧ t.c.size ≤ n ∧ t.d.size ≤ n ∧ t.e.size ≤ n ∧ t.f.size ≤ n

def checkV (b : Bool) : Value := .int .i64 (if b then 0 else 2)

theorem not_empty {f : ByteArray} (h : f ≠ ⟨#[]⟩) : f.toList.isEmpty = false := by
  rw [Go.ByteArray.toList_eq]
  cases f with
  | mk d =>
    cases hd : d.toList with
    | cons x r => rfl
    | nil => exact absurd (congrArg ByteArray.mk (Array.toList_eq_nil_iff.1 hd)) h

theorem size_empty {f : ByteArray} : f.size = 0 ↔ f = ⟨#[]⟩ := by
  constructor
  · intro h
    cases f with
    | mk d => have : d = #[] := Array.eq_empty_of_size_eq_zero h; rw [this]
  · rintro rfl; rfl

def CheckRel (w : World) (g : Nat) (t : Six) (i : Value) (wr : World) : Prop :=
  ∃ k : Nat, i = .int .i64 (k : Int) ∧ k ≤ 5 ∧ (t.five.take k).all nameB = true ∧ Below w.heap.size w wr ∧
    wr.heap[g]? = some (.cells #[.string t.a, .string t.b, .string t.c, .string t.d, .string t.e, .string t.f] 70 (0, 0))

theorem below_block {B : Nat} {w w' : World} (h : Below B w w') {g : Nat} {o : Obj} (hg : w.heap[g]? = some o) (hB : g < B) : w'.heap[g]? = some o := (h.block g hB).trans hg

set_option maxRecDepth 100000 in
set_option maxHeartbeats 1000000 in
theorem check_any (w : World) (t : Six) (hs : t.short 1000000000) : Calls Tryd.prog 19 #[t.val] w (GivesVal w (checkV t.ok)) := by
  have hparts := fun w => parts_any w t
  have hfive := t.five_ok
  have H5 : ∀ x ∈ t.five, x.size ≤ 1000000000 := by
    obtain ⟨h1, h2, h3, h4, h5, h6⟩ := hs
    intro x hx
    simp [Six.five] at hx
    rcases hx with rfl | rfl | rfl | rfl | rfl <;> assumption
  have hf6 := hs.2.2.2.2.2
  have HP := Lib.hid hparts
  have HF := Lib.hid hfive
  have HS := Lib.hid H5
  clear hparts hfive hs H5
  have hv : t.val = .agg #[.string t.a, .string t.b, .string t.c, .string t.d, .string t.e, .string t.f] := rfl
  rw [hv]
  clear hv
  go_enter Tryd.func19, Tryd.ntmps19
  go_wp2_with (go_at_call 34; go_must (refine (HP.out _).mono ?_))
  rintro e w1 ⟨rfl, b1⟩
  have b0 : Below w.heap.size w w1 := ((Below.refl _ w).alloc (Nat.le_refl _) _).trans (b1.mono (by simp))
  have B0 := Lib.hid b0
  clear b1 b0
  unfold Six.val
  go_wp2
  go_loopw [10] (fun c wr => CheckRel w w1.heap.size t c wr) (fun c _ => 5 - (intOf c).toNat)
  case atStart =>
    refine ⟨0, rfl, by decide, rfl, B0.out.alloc B0.out.size _, ?_⟩
    exact heap_alloc_new w1 _
  case round =>
    obtain ⟨k, rfl, hk, hall, hb, hg⟩ := hrel
    have HB := Lib.hid hb
    clear hb
    by_cases hlt : k < 5
    · have hlt' : (k : Int) < 5 := by omega
      have hcell : ∀ (x : ByteArray), t.five[k]? = some x → wr.cell? ⟨w1.heap.size, k, none⟩ = some (.string x) := by
        intro x hx
        rw [Lib.cell_of_heap hg k]
        have : k = 0 ∨ k = 1 ∨ k = 2 ∨ k = 3 ∨ k = 4 := by omega
        rcases this with rfl | rfl | rfl | rfl | rfl <;> (simp [Six.five] at hx; subst hx; rfl)
      obtain ⟨x, hx⟩ : ∃ x, t.five[k]? = some x := ⟨t.five[k]'(by simpa [Six.five] using hlt), List.getElem?_eq_getElem _⟩
      have c1 := hcell x hx
      have hxm := HS.out x (List.mem_of_getElem? hx)
      have hsucc : (t.five.take (k + 1)).all nameB = ((t.five.take k).all nameB && nameB x) := by
        rw [List.take_add_one, List.all_append, hx]; simp
      rw [hall] at hsucc
      have hfalse : nameB x = false → t.ok = false := by
        intro h
        rw [HF.out]
        have : t.five.all nameB = false := by
          rw [List.all_eq_false]
          exact ⟨x, List.mem_of_getElem? hx, by rw [h]; decide⟩
        rw [this]; rfl
      have HSu := Lib.hid hsucc
      have HFa := Lib.hid hfalse
      have HG := Lib.hid hg
      clear hsucc hfalse hall hcell hx hg
      go_wp2_with (go_at_call 35; go_must (refine (name_any _ x hxm).mono ?_))
      rintro e w2 ⟨rfl, b2⟩
      have hg2 : w2.heap[w1.heap.size]? = _ := below_block b2 HG.out (Array.getElem?_eq_some_iff.1 HG.out).1
      have hb2 := HB.out.trans (b2.mono HB.out.size)
      have HG2 := Lib.hid hg2
      clear b2 hg2 c1
      cases hn : nameB x with
      | true =>
        have Hn := Lib.hid hn
        clear hn
        go_wp2
        refine ⟨⟨k + 1, by go_num, by omega, ?_, hb2, HG2.out⟩, by simp [intOf]; omega⟩
        rw [HSu.out, Hn.out]; rfl
      | false =>
        have Hn := Lib.hid hn
        clear hn
        go_wp2
        go_ret
        rw [HFa.out Hn.out]
        exact ⟨rfl, hb2⟩
    · obtain rfl : k = 5 := by omega
      have hok : t.ok = (decide (t.f.size = 0) || nameB t.f) := by
        rw [HF.out]
        have : t.five.all nameB = true := by simpa [Six.five] using hall
        rw [this]; rfl
      have c5 : wr.cell? ⟨w1.heap.size, 5, none⟩ = some (.string t.f) := by rw [Lib.cell_of_heap hg 5]; rfl
      have HO := Lib.hid hok
      clear hok hall hg
      generalize t.f = f at *
      by_cases h0 : f = ⟨#[]⟩
      · subst h0
        go_wp2
        go_ret
        rw [HO.out]
        exact ⟨rfl, HB.out⟩
      · have hok : t.ok = nameB f := by
          rw [HO.out, decide_eq_false (fun h => h0 (size_empty.1 h))]; rfl
        have HO' := Lib.hid hok
        have h00 := not_empty h0
        clear hok HO h0
        go_wp2_with (go_at_call 35; go_must (refine (name_any _ f hf6).mono ?_))
        rintro e w2 ⟨rfl, b2⟩
        have hb2 := HB.out.trans (b2.mono HB.out.size)
        cases hn : nameB f with
        | true =>
          rw [hn] at HO'
          go_wp2
          go_ret
          rw [HO'.out]
          exact ⟨rfl, hb2⟩
        | false =>
          rw [hn] at HO'
          go_wp2
          go_ret
          rw [HO'.out]
          exact ⟨rfl, hb2⟩
end Go.Proofs.YtlibncefiibgaaaDoor
