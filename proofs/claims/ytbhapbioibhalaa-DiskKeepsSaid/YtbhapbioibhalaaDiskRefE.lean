/- The reference: may, done; burn of a fresh disk. -/
import Derived.Test.YtbhapbioibhalaaDiskRefSet
namespace Go.Proofs.Ytbhapbioibhalaa
open Go Go.RowKit Go.Maps

set_option maxRecDepth 100000 in
set_option maxHeartbeats 1000000 in
theorem may_any (W : World) (r : Nat) (dn : Bool) (hc : W.cell? ⟨r, 1, none⟩ = some (.bool dn)) (v : Value) (l : List ByteArray) (hr : Reads W 1 v l.length (scells l)) (hs : ∀ s ∈ l, s.size ≤ 1000000000) :
    Calls Try.prog 41 #[.pointer (some ⟨r, 0, none⟩), v] W (GivesI W (readyE dn l)) := by
  obtain ⟨a, cap, hv, hc1, hc2⟩ := hr.le
  subst hv
  obtain ⟨n, hn⟩ : ∃ n, l.length = n := ⟨_, rfl⟩
  rw [hn] at hr hc1 ⊢
  have HR := Lib.hid hr
  have HS := Lib.hid hs
  unfold maxLen at hc2
  have HN := Lib.hid hn
  clear hr hs hn
  go_enter Try.func41, Try.ntmps41
  cases dn with
  | true =>
    go_wp2
    go_ret
    exact ⟨rfl, Below.refl _ _⟩
  | false =>
    go_wp2
    go_loopw [13] (fun iv wr => ReadyRel W l iv wr) (fun iv _ => n - (intOf iv).toNat)
    case atStart => exact ⟨0, rfl, Nat.zero_le _, rfl, Below.refl _ _⟩
    case round =>
      obtain ⟨k, rfl, hk, hall, hb⟩ := hrel
      rw [HN.out] at hk
      have HAll := Lib.hid hall
      have HB := Lib.hid hb
      clear hall hb
      by_cases hlt2 : k < n
      · obtain ⟨s, hs⟩ : ∃ s, l[k]? = some s := ⟨_, List.getElem?_eq_getElem (by rw [HN.out]; exact hlt2)⟩
        obtain ⟨g, off, rfl, hg, k0⟩ := (HR.out.below' HB.out).at (j := k) (u := .string s) (by simp [scells, hs])
        have HSz := Lib.hid (HS.out s (List.mem_of_getElem? hs))
        have htk : (l.take (k + 1)).all nameOk = ((l.take k).all nameOk && nameOk s) := by rw [List.take_add_one, hs, List.all_append]; simp
        have HTk := Lib.hid htk
        have HM := Lib.hid (List.mem_of_getElem? hs)
        clear hs htk
        have hkI : (k : Int) < n := by omega
        cases hok : nameOk s with
        | true =>
          rw [hok] at HTk
          have HI := Lib.hid (fun w => refName_any w s HSz.out)
          rw [hok] at HI
          clear hok
          go_wp2_with (go_at_call 55; go_must (refine (HI.out _).mono ?_))
          rintro e w' ⟨rfl, rfl⟩
          go_wp2
          exact ⟨⟨k + 1, by go_num, by rw [HN.out]; omega, by rw [HTk.out, HAll.out]; rfl, HB.out⟩, by simp [intOf]; omega⟩
        | false =>
          have HI := Lib.hid (fun w => refName_any w s HSz.out)
          rw [hok] at HI
          have hf : l.all nameOk = false := by rw [List.all_eq_false]; exact ⟨s, HM.out, by rw [hok]; decide⟩
          have HF := Lib.hid hf
          clear hok hf
          go_wp2_with (go_at_call 55; go_must (refine (HI.out _).mono ?_))
          rintro e w' ⟨rfl, rfl⟩
          go_wp2
          go_ret
          refine ⟨?_, HB.out⟩
          unfold readyE
          rw [HF.out]
          rfl
      · have hf : l.all nameOk = true := by have := HAll.out; rwa [List.take_of_length_le (by rw [HN.out]; omega)] at this
        have HF := Lib.hid hf
        clear hf
        have hkI : ¬ (k : Int) < n := by omega
        go_wp2
        go_ret
        refine ⟨?_, HB.out⟩
        unfold readyE
        rw [HF.out]
        rfl

theorem UpD.doneR {l : Dir} (h : UpD l) (a : RAct) : UpD (doneR l a) := by
  unfold Go.Proofs.Ytbhapbioibhalaa.doneR
  simp only
  split <;> split
  · exact h
  · exact h.del _
  · exact h.put _ _
  · exact (h.del _).put _ _

theorem empty_size (s : ByteArray) : s.toList.isEmpty = decide (s.size = 0) := by
  rw [Go.ByteArray.toList_eq]
  have h2 : s.data.toList.length = s.size := Array.length_toList
  cases e : s.data.toList with
  | nil => rw [e] at h2; simp at h2; simp [← h2]
  | cons a l =>
    have h3 : s.size ≠ 0 := by rw [← h2, e]; simp
    rw [decide_eq_false h3]
    rfl

def DoneP (W : World) (l : Dir) (e : Ending) (W' : World) : Prop := ∃ v, e = .returned v ∧ Reads W' 2 v l.length (ncells l) ∧ Below W.heap.size W W'

set_option maxRecDepth 100000 in
set_option maxHeartbeats 2000000 in
theorem rdone_any (W : World) (v : Value) (l : Dir) (a : RAct) (h : Reads W 2 v l.length (ncells l)) (hu : UpD l) (hl : l.length ≤ 1000000 - 1) :
    Calls Try.prog 50 #[v, .agg #[.string a.1, .string a.2.1, .int .i64 (a.2.2 : Int)]] W (DoneP W (doneR l a)) := by
  obtain ⟨f, t, g⟩ := a
  obtain ⟨va, vc, hv, _, _⟩ := h.le
  subst hv
  have HR := Lib.hid h
  have HU := Lib.hid hu
  have HL := Lib.hid hl
  have e1 := empty_size f
  have e2 := empty_size t
  obtain ⟨n, hn⟩ : ∃ n, l.length = n := ⟨_, rfl⟩
  have HN := Lib.hid hn
  rw [hn]
  have HB0 := Lib.hid (show Below W.heap.size W (W.alloc (.cells #[.string f, .string t, .int .i64 (g : Int)] 86)) from (Below.refl _ _).alloc (Nat.le_refl _) _)
  have hx : (W.alloc (.cells #[.string f, .string t, .int .i64 (g : Int)] 86)).heap[W.heap.size]? = some (.cells #[.string f, .string t, .int .i64 (g : Int)] 86 (0, 0)) := heap_alloc_new W _
  have HX := Lib.hid hx
  clear h hu hl hn hx
  go_enter Try.func50, Try.ntmps50
  by_cases hf : f.size = 0
  · have hd : doneR l (f, t, g) = if t.size = 0 then l else putD l t g := by unfold Go.Proofs.Ytbhapbioibhalaa.doneR; simp [hf]
    have HD := Lib.hid hd
    rw [decide_eq_true hf] at e1
    clear hd hf
    by_cases ht : t.size = 0
    · rw [HD.out, if_pos ht]
      rw [decide_eq_true ht] at e2
      clear ht
      go_wp2
      go_ret
      exact ⟨_, rfl, by rw [HN.out]; exact (HN.out ▸ HR.out).below' HB0.out, HB0.out⟩
    · rw [HD.out, if_neg ht]
      rw [decide_eq_false ht] at e2
      clear ht
      have HSt := Lib.hid (rset_any _ (.slice va n vc) l t (g : Int) g false (by have := HR.out.below' HB0.out; rwa [HN.out] at this ⊢) (by have := HL.out; omega) (.inr ⟨rfl, rfl⟩))
      go_wp2_with (go_at_call 58; go_must (refine HSt.out.mono ?_))
      rintro e w1 ⟨v1, rfl, o1, b1⟩
      rw [setF_false t g HU.out] at o1
      have HO := Lib.hid (ownsRow.reads o1)
      have HB1 := Lib.hid (HB0.out.trans (b1.mono HB0.out.size))
      clear o1 b1
      go_wp2
      go_ret
      exact ⟨_, rfl, HO.out, HB1.out⟩
  · have hd : doneR l (f, t, g) = if t.size = 0 then delD l f else putD (delD l f) t g := by unfold Go.Proofs.Ytbhapbioibhalaa.doneR; simp [hf]
    have HD := Lib.hid hd
    rw [decide_eq_false hf] at e1
    clear hd hf
    have HSt := Lib.hid (rset_any _ (.slice va n vc) l f (-1) 0 true (by have := HR.out.below' HB0.out; rwa [HN.out] at this ⊢) (by have := HL.out; omega) (.inl ⟨rfl, by decide⟩))
    by_cases ht : t.size = 0
    · rw [HD.out, if_pos ht]
      rw [decide_eq_true ht] at e2
      clear ht
      go_wp2_with (go_at_call 58; go_must (refine HSt.out.mono ?_))
      rintro e w1 ⟨v1, rfl, o1, b1⟩
      rw [setF_true] at o1
      have hx1 := (b1.block _ (by simp)).trans HX.out
      have x0 := Lib.cell_of_heap hx1 0
      have x1 := Lib.cell_of_heap hx1 1
      simp at x0 x1
      have hl1 : W.heap.size < w1.heap.size := (Array.getElem?_eq_some_iff.1 hx1).1
      have HO := Lib.hid (ownsRow.reads o1)
      have HB1 := Lib.hid (HB0.out.trans (b1.mono HB0.out.size))
      clear o1 b1 hx1
      go_wp2
      go_ret
      exact ⟨_, rfl, HO.out, HB1.out⟩
    · rw [HD.out, if_neg ht]
      rw [decide_eq_false ht] at e2
      clear ht
      go_wp2_with (go_at_call 58; go_must (refine HSt.out.mono ?_))
      rintro e w1 ⟨v1, rfl, o1, b1⟩
      rw [setF_true] at o1
      have hx1 := (b1.block _ (by simp)).trans HX.out
      have x0 := Lib.cell_of_heap hx1 0
      have x1 := Lib.cell_of_heap hx1 1
      have x2 := Lib.cell_of_heap hx1 2
      simp at x0 x1 x2
      have hl1 : W.heap.size < w1.heap.size := (Array.getElem?_eq_some_iff.1 hx1).1
      have HB1 := Lib.hid (HB0.out.trans (b1.mono HB0.out.size))
      have hdl : (delD l f).length ≤ l.length := List.length_filter_le _ _
      have HSt2 := Lib.hid (rset_any w1 v1 (delD l f) t (g : Int) g false (ownsRow.reads o1) (by have := HL.out; omega) (.inr ⟨rfl, rfl⟩))
      obtain ⟨a1, c1, hv1, _, _⟩ := (ownsRow.reads o1).le
      subst hv1
      clear o1 b1 hx1 hdl HSt
      go_wp2_with (go_at_call 58; go_must (refine HSt2.out.mono ?_))
      rintro e w2 ⟨v2, rfl, o2, b2⟩
      rw [setF_false t g (HU.out.del f)] at o2
      have HO := Lib.hid (ownsRow.reads o2)
      have HB2 := Lib.hid (HB1.out.trans (b2.mono HB1.out.size))
      clear o2 b2
      go_wp2
      go_ret
      exact ⟨_, rfl, HO.out, HB2.out⟩
end Go.Proofs.Ytbhapbioibhalaa
