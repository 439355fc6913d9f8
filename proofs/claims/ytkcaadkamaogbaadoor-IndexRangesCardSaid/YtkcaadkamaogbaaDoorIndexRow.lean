import Derived.Test.YtkcaadkamaogbaaDoorIndexJoin
import Derived.Test.YtkcaadkamaogbaaDoorTupleKeyM
import Derived.Laws.Tables
import Derived.BigQuiet
import Derived.Deep.QuietTactic
namespace Go.Proofs.YtkcaadkamaogbaaDoor
open Go Go.RowKit

theorem joinL_length (ls : List ByteArray) (h : ∀ s ∈ ls, s.size ≤ 1000000000) (hl : ls.length ≤ 9) : (joinL ls).length ≤ 20000000000 := by
  cases ls with
  | nil => exact Nat.zero_le _
  | cons x r =>
    have h1 := sumS_le r (fun s hs => h s (List.mem_cons_of_mem _ hs))
    have h2 := h x (List.mem_cons_self ..)
    simp only [List.length_cons] at hl
    have h3 := Nat.mul_le_mul_right 1000000000 (show r.length ≤ 8 by omega)
    have h4 : x.data.toList.length = x.size := Array.length_toList
    rw [joinL, List.length_append, joinT_length, h4]
    omega

/-- A kind, the texts, each with its end. -/
def rowB (kind : ByteArray) (ls : List ByteArray) : ByteArray := kind ++ ⟨(joinL ls).toArray⟩ ++ ⟨#[0]⟩

/-- Behind all keys that begin so. -/
def withB (r : ByteArray) : ByteArray := r.extract 0 (r.size - 1) ++ ⟨#[1]⟩

theorem rowB_size (kind : ByteArray) (ls : List ByteArray) : (rowB kind ls).size = kind.size + (joinL ls).length + 1 := by
  unfold rowB
  rw [ByteArray.size_append, ByteArray.size_append]
  rfl

set_option maxRecDepth 100000 in
set_option maxHeartbeats 1000000 in
theorem row_any (w : World) (kind : ByteArray) (v : Value) (n : Nat) (ls : List ByteArray) (hk : kind.size ≤ 100) (h : Reads w 1 v n (scells ls)) (hn : 1 ≤ n ∧ n ≤ 9) (hs : ∀ s ∈ ls, s.size ≤ 1000000000) :
    Calls Tryd.prog 23 #[.string kind, v] w (GivesVal w (.string (rowB kind ls))) := by
  have hl : ls.length = n := by have := h.1; simpa [scells] using this
  have hj := join_any w v n ls h hn hs
  have hlen := joinL_length ls hs (by omega)
  have hr : rowB kind ls = kind ++ ⟨(joinL ls).toArray⟩ ++ ⟨#[0]⟩ := rfl
  have hsz : (⟨(joinL ls).toArray⟩ : ByteArray).size = (joinL ls).length := rfl
  generalize joinL ls = J at *
  generalize (⟨J.toArray⟩ : ByteArray) = T at *
  generalize rowB kind ls = V at *
  have HJ := Lib.hid hj
  have HR := Lib.hid hr
  clear hj hr hs h hl hn
  go_enter Tryd.func23, Tryd.ntmps23
  go_wp2_with (go_at_call 35; go_must (refine HJ.out.mono ?_))
  rintro e w1 ⟨rfl, b1⟩
  have HB := Lib.hid b1
  clear b1
  go_wp2
  go_ret
  rw [HR.out]
  exact ⟨rfl, HB.out⟩

set_option maxRecDepth 100000 in
set_option maxHeartbeats 1000000 in
theorem within_any (w : World) (r : ByteArray) (h1 : 1 ≤ r.size) (h2 : r.size ≤ 100000000000) :
    Calls Tryd.prog 32 #[.string r] w (GivesVal w (.tuple #[.string r, .string (withB r)])) := by
  have hw : withB r = r.extract 0 (r.size - 1) ++ ⟨#[1]⟩ := rfl
  obtain ⟨m, hm⟩ : ∃ m, r.size = m + 1 := ⟨r.size - 1, by omega⟩
  have hmi : (r.size : Int) = (m : Int) + 1 := by omega
  have HW := Lib.hid hw
  clear hw
  go_enter Tryd.func32, Tryd.ntmps32
  go_wp2
  go_quiet (fail)
  go_wp2
  go_ret2
  rw [HW.out, hm, Nat.add_sub_cancel]
  exact ⟨rfl, rfl, rfl, rfl, Nat.le_refl _, fun _ _ => rfl⟩

set_option maxRecDepth 100000 in
set_option maxHeartbeats 1000000 in
theorem type_any (w : World) (s : ByteArray) (hs : s.size ≤ 1000000000) :
    Calls Tryd.prog 16 #[.string s] w (GivesVal w (.tuple #[.string (rowB ⟨#[102]⟩ [s]), .string (withB (rowB ⟨#[102]⟩ [s]))])) := by
  have hrd : Reads (w.alloc (.cells #[.string s] 9)) 1 (.slice (some ⟨w.heap.size, 0, none⟩) 1 1) 1 (scells [s]) := reads_new rfl (heap_alloc_new w (.cells #[.string s] 9)) (by decide)
  have hrow := row_any _ ⟨#[102]⟩ _ 1 [s] (by decide) hrd (by omega) (fun x hx => by simp at hx; subst hx; exact hs)
  have hsz := rowB_size ⟨#[102]⟩ [s]
  have hjl := joinL_length [s] (fun x hx => by simp at hx; subst hx; exact hs) (by simp)
  have hk1 : (⟨#[102]⟩ : ByteArray).size = 1 := rfl
  generalize rowB ⟨#[102]⟩ [s] = R at *
  have hwi := fun w => within_any w R (by omega) (by omega)
  have HR := Lib.hid hrow
  have HW := Lib.hid hwi
  clear hrd hrow hsz hjl hwi hk1
  go_enter Tryd.func16, Tryd.ntmps16
  go_wp2_with (go_at_call 23; go_must (refine HR.out.mono ?_))
  rintro e w1 ⟨rfl, b1⟩
  have HB := Lib.hid (((Below.refl _ w).alloc (Nat.le_refl _) _).trans (b1.mono (by simp)))
  clear b1
  go_wp2_with (go_at_call 32; go_must (refine (HW.out _).mono ?_))
  rintro e w2 ⟨rfl, b2⟩
  have HB2 := Lib.hid (HB.out.trans (b2.mono HB.out.size))
  clear b2
  go_wp2
  go_ret2
  exact ⟨rfl, HB2.out⟩

theorem three_le {a b c : ByteArray} (ha : a.size ≤ 1000000000) (hb : b.size ≤ 1000000000) (hc : c.size ≤ 1000000000) : ∀ x ∈ [a, b, c], x.size ≤ 1000000000 := by
  intro x hx
  simp at hx
  rcases hx with rfl | rfl | rfl <;> assumption

set_option maxRecDepth 100000 in
set_option maxHeartbeats 1000000 in
theorem point_any (w : World) (a b c : ByteArray) (ha : a.size ≤ 1000000000) (hb : b.size ≤ 1000000000) (hc : c.size ≤ 1000000000) :
    Calls Tryd.prog 14 #[.agg #[.string a, .string b], .string c] w (GivesVal w (.tuple #[.string (rowB ⟨#[102]⟩ [a, b, c]), .string (withB (rowB ⟨#[102]⟩ [a, b, c]))])) := by
  have hrd : Reads ((w.alloc (.cells #[.string a, .string b] 23)).alloc (.cells #[.string a, .string b, .string c] 9)) 1 (.slice (some ⟨w.heap.size + 1, 0, none⟩) 3 3) 3 (scells [a, b, c]) := reads_new rfl (heap_alloc2_new w _ (.cells #[.string a, .string b, .string c] 9)) (by decide)
  have hrow := row_any _ ⟨#[102]⟩ _ 3 [a, b, c] (by decide) hrd (by omega) (three_le ha hb hc)
  have hsz := rowB_size ⟨#[102]⟩ [a, b, c]
  have hjl := joinL_length [a, b, c] (three_le ha hb hc) (by simp)
  have hk1 : (⟨#[102]⟩ : ByteArray).size = 1 := rfl
  generalize rowB ⟨#[102]⟩ [a, b, c] = R at *
  have hwi := fun w => within_any w R (by omega) (by omega)
  have HR := Lib.hid hrow
  have HW := Lib.hid hwi
  clear hrd hrow hsz hjl hwi hk1 ha hb hc
  go_enter Tryd.func14, Tryd.ntmps14
  go_wp2_with (go_at_call 23; go_must (refine HR.out.mono ?_))
  rintro e w1 ⟨rfl, b1⟩
  have HB := Lib.hid ((((Below.refl _ w).alloc (Nat.le_refl _) _).alloc (by simp) _).trans (b1.mono (by simp; omega)))
  clear b1
  go_wp2_with (go_at_call 32; go_must (refine (HW.out _).mono ?_))
  rintro e w2 ⟨rfl, b2⟩
  have HB2 := Lib.hid (HB.out.trans (b2.mono HB.out.size))
  clear b2
  go_wp2
  go_ret2
  exact ⟨rfl, HB2.out⟩

set_option maxRecDepth 100000 in
set_option maxHeartbeats 1000000 in
theorem subject_any (w : World) (a b c : ByteArray) (ha : a.size ≤ 1000000000) (hb : b.size ≤ 1000000000) (hc : c.size ≤ 1000000000) :
    Calls Tryd.prog 15 #[.agg #[.string a, .string b, .string c]] w (GivesVal w (.tuple #[.string (rowB ⟨#[114]⟩ [a, b, c]), .string (withB (rowB ⟨#[114]⟩ [a, b, c]))])) := by
  have hrd : Reads ((w.alloc (.cells #[.string a, .string b, .string c] 25)).alloc (.cells #[.string a, .string b, .string c] 9)) 1 (.slice (some ⟨w.heap.size + 1, 0, none⟩) 3 3) 3 (scells [a, b, c]) := reads_new rfl (heap_alloc2_new w _ (.cells #[.string a, .string b, .string c] 9)) (by decide)
  have hrow := row_any _ ⟨#[114]⟩ _ 3 [a, b, c] (by decide) hrd (by omega) (three_le ha hb hc)
  have hsz := rowB_size ⟨#[114]⟩ [a, b, c]
  have hjl := joinL_length [a, b, c] (three_le ha hb hc) (by simp)
  have hk1 : (⟨#[114]⟩ : ByteArray).size = 1 := rfl
  generalize rowB ⟨#[114]⟩ [a, b, c] = R at *
  have hwi := fun w => within_any w R (by omega) (by omega)
  have HR := Lib.hid hrow
  have HW := Lib.hid hwi
  clear hrd hrow hsz hjl hwi hk1 ha hb hc
  go_enter Tryd.func15, Tryd.ntmps15
  go_wp2_with (go_at_call 23; go_must (refine HR.out.mono ?_))
  rintro e w1 ⟨rfl, b1⟩
  have HB := Lib.hid ((((Below.refl _ w).alloc (Nat.le_refl _) _).alloc (by simp) _).trans (b1.mono (by simp; omega)))
  clear b1
  go_wp2_with (go_at_call 32; go_must (refine (HW.out _).mono ?_))
  rintro e w2 ⟨rfl, b2⟩
  have HB2 := Lib.hid (HB.out.trans (b2.mono HB.out.size))
  clear b2
  go_wp2
  go_ret2
  exact ⟨rfl, HB2.out⟩
end Go.Proofs.YtkcaadkamaogbaaDoor
