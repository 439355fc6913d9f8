/- slices.Clone, IndexFunc, DeleteFunc at rows of tuples: what may be stays. -/
import Derived.Test.YtlibncefiibgaaaDoorZDumpM
import Derived.Test.YtlibncefiibgaaaDoorMga
namespace Go.Proofs.YtlibncefiibgaaaDoor
open Go Go.RowKit

set_option maxRecDepth 100000 in
theorem delclo_any (w : World) (t : Six) (hs : t.short 1000000000) : Calls Tryd.prog 18 #[t.val] w (GivesVal w (.bool (!t.ok))) := by
  have hC := fun w => check_any w t hs
  obtain ⟨a, b, c, d, e, f⟩ := t
  unfold Six.val at *
  have HC := Lib.hid hC
  have HB := Lib.hid (show Below w.heap.size w (w.alloc (.cells #[.string a, .string b, .string c, .string d, .string e, .string f] 37)) from (Below.refl _ _).alloc (Nat.le_refl _) _)
  clear hC
  generalize Six.ok ⟨a, b, c, d, e, f⟩ = ok at *
  go_enter Tryd.func18, Tryd.ntmps18
  go_wp2_with (go_at_call 19; go_must (refine (HC.out _).mono ?_))
  rintro e w1 ⟨rfl, b1⟩
  have HB1 := Lib.hid (HB.out.trans (b1.mono HB.out.size))
  clear b1 HC
  unfold checkV
  cases ok with
  | true =>
    go_wp2
    go_ret
    exact ⟨rfl, HB1.out⟩
  | false =>
    go_wp2
    go_ret
    exact ⟨rfl, HB1.out⟩

def IxPost (w : World) (l : List Six) (e : Ending) (w' : World) : Prop :=
  Below w.heap.size w w' ∧ ((l.all Six.ok = true ∧ e = .returned (.int .i64 (-1))) ∨ ∃ i t, l[i]? = some t ∧ t.ok = false ∧ (l.take i).all Six.ok = true ∧ e = .returned (.int .i64 (i : Int)))
def IxRel (w : World) (l : List Six) (iv : Value) (wr : World) : Prop := ∃ i : Nat, iv = .int .i64 (i : Int) ∧ i ≤ l.length ∧ (l.take i).all Six.ok = true ∧ Below w.heap.size w wr

set_option maxRecDepth 100000 in
set_option maxHeartbeats 1000000 in
theorem index_any (w : World) (a : Option Addr) (n cap : Nat) (l : List Six) (hl : l.length = n) (h : Reads w 6 (.slice a n cap) n (tcells l)) (hs : ∀ t ∈ l, t.short 1000000000) :
    Calls Tryd.prog 33 #[.slice a n cap, .func (.func 18) #[] #[]] w (IxPost w l) := by
  have hen : ∀ (args : Array Value) (w : World), (callFunc 18 args).run Tryd.prog w = .ok (.enter 18 args) w := fun _ _ => by kernel_rfl
  obtain ⟨_, _, hv, hc1, hc2⟩ := h.le
  cases hv
  unfold maxLen at hc2
  have HR := Lib.hid h
  have HL := Lib.hid hl
  have HS := Lib.hid hs
  clear h hl hs
  go_enter Tryd.func33, Tryd.ntmps33
  go_wp2
  go_loopw [8] (fun iv wr => IxRel w l iv wr) (fun iv _ => n - (intOf iv).toNat)
  case atStart => exact ⟨0, rfl, Nat.zero_le _, rfl, Below.refl _ _⟩
  case round =>
    obtain ⟨i, rfl, hin, hal, hb⟩ := hrel
    rw [HL.out] at hin
    by_cases hlt : i < n
    · have hltI : (i : Int) < n := by omega
      obtain ⟨t, ht⟩ : ∃ t, l[i]? = some t := ⟨l[i]'(by rw [HL.out]; exact hlt), List.getElem?_eq_getElem _⟩
      obtain ⟨b, off, rfl, hbl, k0, k1, k2, k3, k4, k5⟩ := (HR.out.below' hb).six ht
      have hC := delclo_any wr t (HS.out t (List.mem_of_getElem? ht))
      unfold Six.val at hC
      have HC := Lib.hid hC
      have HB := Lib.hid hb
      have HT := Lib.hid ht
      have HA := Lib.hid hal
      clear hC hb ht hal
      go_wp2_with (go_at_call 18; go_must (refine HC.out.mono ?_))
      rintro e w1 ⟨rfl, b1⟩
      have HB1 := Lib.hid (HB.out.trans (b1.mono HB.out.size))
      clear b1 HC k0 k1 k2 k3 k4 k5
      cases hok : t.ok with
      | true =>
        have HA1 := Lib.hid (show (l.take (i + 1)).all Six.ok = true by rw [List.take_add_one, HT.out, List.all_append, HA.out]; simp [hok])
        go_wp2
        exact ⟨⟨i + 1, by go_num, by rw [HL.out]; omega, HA1.out, HB1.out⟩, by simp [intOf]; omega⟩
      | false =>
        have HK := Lib.hid hok
        clear hok
        go_wp2
        go_ret
        exact ⟨HB1.out, .inr ⟨i, t, HT.out, HK.out, HA.out, rfl⟩⟩
    · obtain rfl : i = n := by omega
      have hltI : ¬ (i : Int) < i := by omega
      rw [List.take_of_length_le (by rw [HL.out]; exact Nat.le_refl _)] at hal
      have HA := Lib.hid hal
      have HB := Lib.hid hb
      clear hal hb
      go_wp2
      go_ret
      exact ⟨HB.out, .inl ⟨HA.out, rfl⟩⟩

def RowPost (w : World) (l : List Six) (e : Ending) (w' : World) : Prop :=
  ∃ v, e = .returned v ∧ w'.ownsRow w.heap.size 37 6 v l.length (tcells l) ∧ Below w.heap.size w w'

set_option maxRecDepth 100000 in
set_option maxHeartbeats 1000000 in
theorem clone_any (w : World) (a : Option Addr) (n cap : Nat) (l : List Six) (hl : l.length = n) (h : Reads w 6 (.slice a n cap) n (tcells l)) (hn : n ≤ 1000000) :
    Calls Tryd.prog 17 #[.slice a n cap] w (RowPost w l) := by
  obtain ⟨j0, hj, hy0, hy1, hy2⟩ := info_parts info_six
  have hq := fun w : World => Lib.run_eql_slice_nil (P := Tryd.prog) w 22 37 a n cap 0 0 Tryd.underlying22
  cases a with
  | none =>
    have h0 : n = 0 := by
      rcases Nat.eq_zero_or_pos n with h0 | h0
      · exact h0
      · obtain ⟨t, ht⟩ : ∃ t, l[0]? = some t := ⟨l[0]'(by omega), List.getElem?_eq_getElem _⟩
        obtain ⟨b, off, hv, _⟩ := h.six ht
        cases hv
    subst h0
    have hl0 : l = [] := List.length_eq_zero_iff.1 hl
    subst hl0
    simp only [Option.isNone_none] at hq
    clear h hl hn
    go_enter Tryd.func17, Tryd.ntmps17
    go_wp2
    go_ret
    exact ⟨_, rfl, owns_nil _ _ _ _, Below.refl _ _⟩
  | some x =>
    simp only [Option.isNone_some] at hq
    have hsrc := Reads.src (P := Tryd.prog) (tx := 22) Tryd.underlying22 (h.alloc (.cells #[] 37)) (tcells_one l)
    have hb0 : Below w.heap.size w (w.alloc (.cells #[] 37)) := (Below.refl _ _).alloc (Nat.le_refl _) _
    have hf0 : (w.alloc (.cells #[] 37)).ownsRow w.heap.size 37 6 (.slice (some ⟨w.heap.size, 0, none⟩) 0 0) 0 [] := World.ownsRow_lit w #[] 0 (Nat.le_refl _) (Nat.zero_le _) rfl
    have HL := Lib.hid hl
    clear h hl
    go_enter Tryd.func17, Tryd.ntmps17
    go_wp2_with (at_builtin; go_must (refine wpList_append_owns rfl _ _ 22 22 rfl w.heap.size 37 j0 _ 6 96 Tryd.underlying22 hj hy0 hy1 hy2 rfl _ _ _ rfl hf0 _ _ _ rfl hsrc ?_ ?_ ?_ ?_))
    · unfold maxLen; omega
    · omega
    · simp
    intro v1 w1 f1 _ b1 _
    have HB := Lib.hid (hb0.trans b1)
    have HO := Lib.hid f1
    clear hsrc hf0 hb0 b1 f1
    go_wp2
    go_ret
    refine ⟨_, rfl, ?_, HB.out⟩
    have h9 := HO.out
    rw [← HL.out] at h9
    exact h9
end Go.Proofs.YtlibncefiibgaaaDoor
