/- Seek, After, Last, Has. -/
import Derived.Test.YthficboolhellaaSkipSeek
namespace Go.Proofs.Ythficboolhellaa
open Go Go.RowKit

def TellsPost (w : World) (o : Option ByteArray) (e : Ending) (w' : World) : Prop := e = .returned (sk11V o) ∧ Below w.heap.size w w'

theorem not_lt (key k : ByteArray) : (bl key k || (decide (k = key) && !false)) = !ltP key k := by
  unfold ltP
  rcases bl_cases k key with ⟨k1, k2, k3⟩ | ⟨k1, k2, k3⟩ | ⟨k1, k2, k3⟩
  · rw [k1, k2, decide_eq_false k3]; rfl
  · rw [k1, k2, decide_eq_true k3]; rfl
  · rw [k1, k2]; rfl

theorem not_le (key k : ByteArray) : (bl key k || (decide (k = key) && !true)) = !leP key k := by
  unfold leP
  rcases bl_cases k key with ⟨k1, k2, k3⟩ | ⟨k1, k2, k3⟩ | ⟨k1, k2, k3⟩
  · rw [k1, k2, decide_eq_false k3]; rfl
  · rw [k1, k2, decide_eq_true k3]; rfl
  · rw [k1, k2, decide_eq_false k3]; rfl

theorem ltP_down (key : ByteArray) : ∀ x y, bl x y = true → ltP key y = true → ltP key x = true := fun _ _ h k => bl_trans h k
theorem leP_down (key : ByteArray) : ∀ x y, bl x y = true → leP key y = true → leP key x = true := fun x y h k => by
  unfold leP at *
  rcases Bool.or_eq_true _ _ ▸ k with k | k
  · rw [bl_trans h k]; rfl
  · have : y = key := by simpa using k
    subst this
    rw [h]; rfl

/-- What the path's head leads to. -/
theorem path_head {L : Nat} {A : List Nat} {ht : Nat → Nat} {vs : List Value} (h : pathV L A ht 0 vs) (hz : fl A ht 0 = A) : vs[0]? = some (.pointer (some ⟨lastP L A, 0, none⟩)) := by
  have := h.2.2 0 (Nat.le_refl _) (by omega)
  rw [hz] at this
  exact this

set_option maxRecDepth 100000 in
set_option maxHeartbeats 2000000 in
theorem seek_any (w : World) (L : Nat) (ns : List Nat) (kf : Nat → ByteArray) (ht : Nat → Nat) (K : List ByteArray) (key : ByteArray) (h : SkL w L ns kf ht K) :
    Calls Try.prog 14 #[.pointer (some ⟨L, 0, none⟩), .string key] w (TellsPost w (sk11 K key false)) := by
  have hmf : ∀ (fn : Fn) (first cap : Array Value) (w : World), (Instr.makeFunc fn first cap).run Try.prog w = .ok (.func fn first cap) w := fun _ _ _ _ => rfl
  obtain ⟨A, B, rfl, hA, hB⟩ := h.part (ltP key) (ltP_down key)
  have hal : Below w.heap.size w (w.alloc (.cells #[.string key] 9)) := (Below.refl _ _).alloc (Nat.le_refl _) _
  have h1 := h.below hal
  have hsk : sk11 K key false = B.head?.map kf := by
    rw [← h.keys]
    exact find_part (fun k => not_lt key k) hA hB
  rw [hsk]
  have hp := path_any _ L _ A B kf ht h1.nodes rfl (ltP key) hA hB _ _ (asks_seek w key)
  have HP := Lib.hid hp
  have H1 := Lib.hid h1
  have HAl := Lib.hid hal
  clear hp h1 hal hA hB hsk h
  go_enter Try.func14, Try.ntmps14
  go_wp2_with (go_at_call 22; go_must (refine HP.out.mono ?_))
  rintro e w2 ⟨vs, rfl, hv, b2⟩
  have h2 := H1.out.below b2
  have hv0 := path_head hv (fl_left h2.nodes)
  have hix := index_head hv.1 hv0
  have hnx := nodes_next h2.nodes
  have hll := h2.nodes.lt (show lastP L A ∈ L :: (A ++ B) by
    rcases List.mem_cons.1 (lastP_mem L A) with h | h
    · rw [h]; simp
    · exact List.mem_cons_of_mem _ (List.mem_append_left _ h))
  have HB2 := Lib.hid (HAl.out.trans (b2.mono HAl.out.size))
  have H2 := Lib.hid h2
  clear b2 h2 hv HP
  cases B with
  | nil =>
    unfold ptrO at hnx
    simp only [List.head?_nil] at hnx
    have ht := told_none w2
    have HT := Lib.hid ht
    clear ht
    go_wp2_with (go_at_call 25; go_must (refine HT.out.mono ?_))
    rintro e w3 ⟨rfl, rfl⟩
    unfold sk11V
    go_wp2
    refine bodyPost_ret (v := .tuple #[.string ⟨#[]⟩, .bool false]) (by simp [results, Try.results14, go_sem]) rfl ?_
    exact ⟨rfl, HB2.out⟩
  | cons b t =>
    unfold ptrO at hnx
    simp only [List.head?_cons] at hnx
    have HT := Lib.hid (told_some w2 b (kf b) (H2.out.nodes.key b (by simp)))
    go_wp2_with (go_at_call 25; go_must (refine HT.out.mono ?_))
    rintro e w3 ⟨rfl, rfl⟩
    unfold sk11V
    go_wp2
    refine bodyPost_ret (v := .tuple #[.string (kf b), .bool true]) (by simp [results, Try.results14, go_sem]) rfl ?_
    exact ⟨rfl, HB2.out⟩
set_option maxRecDepth 100000 in
set_option maxHeartbeats 2000000 in
theorem after_any (w : World) (L : Nat) (ns : List Nat) (kf : Nat → ByteArray) (ht : Nat → Nat) (K : List ByteArray) (key : ByteArray) (h : SkL w L ns kf ht K) :
    Calls Try.prog 16 #[.pointer (some ⟨L, 0, none⟩), .string key] w (TellsPost w (sk11 K key true)) := by
  have hmf : ∀ (fn : Fn) (first cap : Array Value) (w : World), (Instr.makeFunc fn first cap).run Try.prog w = .ok (.func fn first cap) w := fun _ _ _ _ => rfl
  obtain ⟨A, B, rfl, hA, hB⟩ := h.part (leP key) (leP_down key)
  have hal : Below w.heap.size w (w.alloc (.cells #[.string key] 9)) := (Below.refl _ _).alloc (Nat.le_refl _) _
  have h1 := h.below hal
  have hsk : sk11 K key true = B.head?.map kf := by
    rw [← h.keys]
    exact find_part (fun k => not_le key k) hA hB
  rw [hsk]
  have hp := path_any _ L _ A B kf ht h1.nodes rfl (leP key) hA hB _ _ (asks_after w key)
  have HP := Lib.hid hp
  have H1 := Lib.hid h1
  have HAl := Lib.hid hal
  clear hp h1 hal hA hB hsk h
  go_enter Try.func16, Try.ntmps16
  go_wp2_with (go_at_call 22; go_must (refine HP.out.mono ?_))
  rintro e w2 ⟨vs, rfl, hv, b2⟩
  have h2 := H1.out.below b2
  have hv0 := path_head hv (fl_left h2.nodes)
  have hix := index_head hv.1 hv0
  have hnx := nodes_next h2.nodes
  have hll := h2.nodes.lt (show lastP L A ∈ L :: (A ++ B) by
    rcases List.mem_cons.1 (lastP_mem L A) with h | h
    · rw [h]; simp
    · exact List.mem_cons_of_mem _ (List.mem_append_left _ h))
  have HB2 := Lib.hid (HAl.out.trans (b2.mono HAl.out.size))
  have H2 := Lib.hid h2
  clear b2 h2 hv HP
  cases B with
  | nil =>
    unfold ptrO at hnx
    simp only [List.head?_nil] at hnx
    have ht := told_none w2
    have HT := Lib.hid ht
    clear ht
    go_wp2_with (go_at_call 25; go_must (refine HT.out.mono ?_))
    rintro e w3 ⟨rfl, rfl⟩
    unfold sk11V
    go_wp2
    refine bodyPost_ret (v := .tuple #[.string ⟨#[]⟩, .bool false]) (by simp [results, Try.results16, go_sem]) rfl ?_
    exact ⟨rfl, HB2.out⟩
  | cons b t =>
    unfold ptrO at hnx
    simp only [List.head?_cons] at hnx
    have HT := Lib.hid (told_some w2 b (kf b) (H2.out.nodes.key b (by simp)))
    go_wp2_with (go_at_call 25; go_must (refine HT.out.mono ?_))
    rintro e w3 ⟨rfl, rfl⟩
    unfold sk11V
    go_wp2
    refine bodyPost_ret (v := .tuple #[.string (kf b), .bool true]) (by simp [results, Try.results16, go_sem]) rfl ?_
    exact ⟨rfl, HB2.out⟩

set_option maxRecDepth 100000 in
set_option maxHeartbeats 2000000 in
theorem last_any (w : World) (L : Nat) (ns : List Nat) (kf : Nat → ByteArray) (ht : Nat → Nat) (K : List ByteArray) (h : SkL w L ns kf ht K) :
    Calls Try.prog 18 #[.pointer (some ⟨L, 0, none⟩)] w (TellsPost w K.getLast?) := by
  have hlen := h.len
  have HLn := Lib.hid (len_any w L _ hlen)
  have HL := Lib.hid h
  have HKs := Lib.hid h.keys
  have hnl : ns.length = K.length := by rw [← h.keys, List.length_map]
  have hp := path_any w L ns ns [] kf ht h.nodes (by simp) (fun _ => true) (fun _ _ => rfl) (fun x hx => by simp at hx) _ _ (asks_last w)
  have HP := Lib.hid hp
  clear hp h hlen
  go_enter Try.func18, Try.ntmps18
  go_wp2_with (go_at_call 12; go_must (refine HLn.out.mono ?_))
  rintro e w1 ⟨rfl, rfl⟩
  rcases List.eq_nil_or_concat ns with rfl | ⟨A, b, rfl⟩
  · have hk : K = [] := by rw [← HKs.out]; rfl
    subst hk
    go_wp2
    refine bodyPost_ret (v := .tuple #[.string ⟨#[]⟩, .bool false]) (by simp [results, Try.results18, go_sem]) rfl ?_
    exact ⟨rfl, Below.refl _ _⟩
  · rw [List.concat_eq_append] at *
    have hn0 : ¬ (K.length : Int) = 0 := by
      rw [← hnl]
      simp
      omega
    have hgl : K.getLast? = some (kf b) := by
      rw [← HKs.out]
      simp
    have HGl := Lib.hid hgl
    clear hgl hnl
    go_wp2_with (go_at_call 22; go_must (refine HP.out.mono ?_))
    rintro e w2 ⟨vs, rfl, hv, b2⟩
    have h2 := HL.out.below b2
    have hv0 := path_head hv (fl_zero h2.nodes.tall)
    have hlp : lastP L (A ++ [b]) = b := by unfold lastP; simp
    rw [hlp] at hv0
    have hix := index_head hv.1 hv0
    have HB2 := Lib.hid b2
    have HT := Lib.hid (told_some w2 b (kf b) (h2.nodes.key b (by simp)))
    clear b2 h2 hv HP hlp
    go_wp2_with (go_at_call 25; go_must (refine HT.out.mono ?_))
    rintro e w3 ⟨rfl, rfl⟩
    unfold sk11V
    go_wp2
    refine bodyPost_ret (v := .tuple #[.string (kf b), .bool true]) (by simp [results, Try.results18, go_sem]) rfl ?_
    exact ⟨by rw [HGl.out]; rfl, HB2.out⟩

set_option maxRecDepth 100000 in
set_option maxHeartbeats 2000000 in
theorem has_any (w : World) (L : Nat) (ns : List Nat) (kf : Nat → ByteArray) (ht : Nat → Nat) (K : List ByteArray) (key : ByteArray) (h : SkL w L ns kf ht K) :
    Calls Try.prog 17 #[.pointer (some ⟨L, 0, none⟩), .string key] w (GivesBool w (decide (sk11 K key false = some key))) := by
  have HS := Lib.hid (seek_any w L ns kf ht K key h)
  clear h
  go_enter Try.func17, Try.ntmps17
  go_wp2_with (go_at_call 14; go_must (refine HS.out.mono ?_))
  rintro e w1 ⟨rfl, b1⟩
  have HB := Lib.hid b1
  clear b1
  generalize sk11 K key false = o at *
  cases o with
  | none =>
    unfold sk11V
    go_wp2
    go_ret
    exact ⟨rfl, HB.out⟩
  | some x =>
    have e3 := str_eq x key
    by_cases hx : x = key
    · rw [decide_eq_true hx] at e3
      have HD := Lib.hid (decide_eq_true (show some x = some key by rw [hx]))
      clear hx
      unfold sk11V
      go_wp2
      go_ret
      exact ⟨by rw [HD.out]; rfl, HB.out⟩
    · rw [decide_eq_false hx] at e3
      have HD := Lib.hid (decide_eq_false (show ¬ some x = some key from fun e => hx (by injection e)))
      clear hx
      unfold sk11V
      go_wp2
      go_ret
      exact ⟨by rw [HD.out]; rfl, HB.out⟩
end Go.Proofs.Ythficboolhellaa
