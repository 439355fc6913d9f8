/- Remove, Rename, Fuse, New. -/
import Derived.Test.YtbhapbioibhalaaDiskMk
import Derived.Carry
namespace Go.Proofs.Ytbhapbioibhalaa
open Go Go.RowKit Go.Maps
variable {W : World} {B d : Nat} {S : Dk}

def removeE (S : Dk) (s : ByteArray) : Int := if (findR S s).2 ≠ 0 then (findR S s).2 else S.burnE
/-- Nothing is done; or an act of a name that is there. -/
def ActS (S : Dk) (s : ByteArray) (a : DAct) (z : Int) (T : Dk) : Prop := (T = S ∧ z ≠ 0) ∨ ((∃ g, fileOf S.dir s = some g) ∧ nameOk s = true ∧ z = S.burnE ∧ TurnS S a T)

theorem find_ok {S : Dk} {s : ByteArray} (h : (findR S s).2 = 0) : readyE S.down [s] = 0 ∧ S.down = false ∧ nameOk s = true ∧ s.size ≤ maxLen ∧ ∃ g, fileOf S.dir s = some g ∧ findR S s = (some g, 0) := by
  unfold findR at h ⊢
  by_cases hz : readyE S.down [s] = 0
  · obtain ⟨h1, h2, h3⟩ := ready_ok hz
    rw [if_neg (by simp [hz])] at h ⊢
    cases hf : fileOf S.dir s with
    | none => rw [hf] at h; simp at h
    | some g => exact ⟨hz, h1, h2, h3, g, rfl, rfl⟩
  · rw [if_pos hz] at h
    exact absurd h hz

set_option maxRecDepth 100000 in
set_option maxHeartbeats 2000000 in
theorem remove_any (h : DAt W B d S) (s : ByteArray) (hs : s.size ≤ 1000000000) (hn : S.acts.length ≤ 1000000) (hl : S.dir.length ≤ 1000000) :
    Calls Try.prog 26 #[.pointer (some ⟨d, 0, none⟩), .string s] W (Ends W B d S (removeE S s) (ActS S s (.rm s) (removeE S s))) := by
  have HH := Lib.hid h
  have HFi := Lib.hid (find_any h s hs)
  clear h
  go_enter Try.func26, Try.ntmps26
  go_wp2_with (go_at_call 39; go_must (refine HFi.out.mono ?_))
  rintro e w1 ⟨rfl, b1⟩
  have h1 := HH.out.below b1
  by_cases hz : (findR S s).2 = 0
  · obtain ⟨_, _, hok, _, g, hf, hfr⟩ := find_ok hz
    have he : removeE S s = S.burnE := by unfold removeE; rw [if_neg (by simp [hz])]
    have HTu := Lib.hid (turn_ends h1 (.rm s) hok (fun t g e => by cases e) hl hn)
    unfold DAct.cells at HTu
    have HE := Lib.hid he
    have HB1 := Lib.hid b1
    have HF := Lib.hid hf
    have HK := Lib.hid hok
    rw [hfr]
    clear he b1 h1 hz hfr hok hf
    go_wp2_with (go_at_call 43; go_must (refine HTu.out.mono ?_))
    rintro e w2 ⟨rfl, t2, T, hT, hd⟩
    have HD := Lib.hid hd
    have HT := Lib.hid hT
    have HT2 := Lib.hid ((Touch.of_below HB1.out (S.mine d)).same t2)
    clear hd hT t2
    go_wp2
    go_ret
    exact ⟨by rw [HE.out]; rfl, HT2.out, T, .inr ⟨⟨g, HF.out⟩, HK.out, HE.out, HT.out⟩, HD.out⟩
  · have he : removeE S s = (findR S s).2 := by unfold removeE; rw [if_pos hz]
    have HE := Lib.hid he
    have HZ := Lib.hid hz
    have HB1 := Lib.hid b1
    have H1 := Lib.hid h1
    clear he b1 h1
    generalize findR S s = z at *
    obtain ⟨fo, z⟩ := z
    go_wp2
    go_ret
    exact ⟨by rw [HE.out]; rfl, Touch.of_below HB1.out _, S, .inl ⟨rfl, by rw [HE.out]; exact HZ.out⟩, H1.out⟩

def renameE (S : Dk) (s t : ByteArray) : Int := if readyE S.down [s, t] ≠ 0 then readyE S.down [s, t] else if (fileOf S.dir s).isSome then S.burnE else 4

theorem lit2 (W : World) (s t : ByteArray) : Reads (W.alloc (.cells #[.string s, .string t] 9)) 1 (.slice (some ⟨W.heap.size, 0, none⟩) 2 2) 2 (scells [s, t]) := lit_reads (cs := scells [s, t]) (size := 1) (heap_alloc_new W _) rfl (by decide)

theorem ready_ok2 {S : Dk} {s t : ByteArray} (h : readyE S.down [s, t] = 0) : S.down = false ∧ nameOk s = true ∧ nameOk t = true ∧ s.size ≤ maxLen := by
  unfold readyE at h
  cases hd : S.down with
  | true => rw [hd] at h; simp at h
  | false =>
    rw [hd] at h
    by_cases hn : nameOk s = true ∧ nameOk t = true
    · refine ⟨rfl, hn.1, hn.2, ?_⟩
      have := name_size hn.1
      unfold maxLen
      omega
    · simp [hn] at h

set_option maxRecDepth 100000 in
set_option maxHeartbeats 2000000 in
theorem rename_any (h : DAt W B d S) (s t : ByteArray) (hs : s.size ≤ 1000000000) (ht : t.size ≤ 1000000000) (hn : S.acts.length ≤ 1000000) (hl : S.dir.length ≤ 1000000) :
    Calls Try.prog 27 #[.pointer (some ⟨d, 0, none⟩), .string s, .string t] W (Ends W B d S (renameE S s t) (ActS S s (.mv s t) (renameE S s t))) := by
  have HH := Lib.hid h
  have HRd := Lib.hid (fun (w : World) (hb : Below W.heap.size W w) (v : Value) (hr : Reads w 1 v 2 (scells [s, t])) => ready_any (h.below hb) v [s, t] hr (by simp; exact ⟨hs, ht⟩))
  have HB0 := Lib.hid (show Below W.heap.size W (W.alloc (.cells #[.string s, .string t] 9)) from (Below.refl _ _).alloc (Nat.le_refl _) _)
  have HR0 := Lib.hid (lit2 W s t)
  have hd0 : d < W.heap.size := (h.lt d (Dk.mine_d d S)).1
  clear h
  go_enter Try.func27, Try.ntmps27
  go_wp2_with (go_at_call 36; go_must (refine (HRd.out _ HB0.out _ HR0.out).mono ?_))
  rintro e w1 ⟨rfl, b1⟩
  have b2 := HB0.out.trans (b1.mono HB0.out.size)
  by_cases hz : readyE S.down [s, t] = 0
  · obtain ⟨hdn, hok, hok2, hsz⟩ := ready_ok2 hz
    have h1 := HH.out.below b2
    have c0 := Lib.cell_of_heap h1.cell 0
    simp [Dk.cells] at c0
    have hlk := look_run h1.fm hsz
    have hdl : d < w1.heap.size := Nat.lt_of_lt_of_le hd0 b2.size
    rw [hz]
    have HZ := Lib.hid hz
    have HB2 := Lib.hid b2
    have H1 := Lib.hid h1
    cases hf : fileOf S.dir s with
    | some g =>
      have he : renameE S s t = S.burnE := by unfold renameE; rw [if_neg (by simp [hz]), hf]; rfl
      have HTu := Lib.hid (turn_ends h1 (.mv s t) ⟨hok, hok2, g, hf⟩ (fun t g e => by cases e) hl hn)
      unfold DAct.cells at HTu
      have HE := Lib.hid he
      have HF := Lib.hid hf
      have HK := Lib.hid hok
      rw [hf] at hlk
      simp only [fileV, Option.isSome_some] at hlk
      clear he b2 h1 b1 hz hdn hok hok2 hf
      go_wp2_with (go_at_call 43; go_must (refine HTu.out.mono ?_))
      rintro e w2 ⟨rfl, t2, T, hT, hd⟩
      have HD := Lib.hid hd
      have HT := Lib.hid hT
      have HT2 := Lib.hid ((Touch.of_below HB2.out (S.mine d)).same t2)
      clear hd hT t2
      go_wp2
      go_ret
      exact ⟨by rw [HE.out]; rfl, HT2.out, T, .inr ⟨⟨g, HF.out⟩, HK.out, HE.out, HT.out⟩, HD.out⟩
    | none =>
      have he : renameE S s t = 4 := by unfold renameE; rw [if_neg (by simp [hz]), hf]; rfl
      have HE := Lib.hid he
      rw [hf] at hlk
      simp only [fileV, Option.isSome_none] at hlk
      clear he b2 h1 b1 hz hdn hok hok2 hf
      go_wp2
      go_ret
      exact ⟨by rw [HE.out]; rfl, Touch.of_below HB2.out _, S, .inl ⟨rfl, by rw [HE.out]; decide⟩, H1.out⟩
  · have he : renameE S s t = readyE S.down [s, t] := by unfold renameE; rw [if_pos hz]
    have HE := Lib.hid he
    have HB2 := Lib.hid b2
    have HZ := Lib.hid hz
    have H1 := Lib.hid (HH.out.below b2)
    clear he b2 b1
    generalize readyE S.down [s, t] = z at *
    go_wp2
    go_ret
    exact ⟨by rw [HE.out]; rfl, Touch.of_below HB2.out _, S, .inl ⟨rfl, by rw [HE.out]; exact HZ.out⟩, H1.out⟩

def NoEnds (W : World) (B d : Nat) (S T : Dk) (e : Ending) (W' : World) : Prop := e = .returned (.tuple #[]) ∧ Touch W W' (S.mine d) ∧ DAt W' B d T

set_option maxRecDepth 100000 in
theorem fuse_nil (W : World) (n : Int) : Calls Try.prog 25 #[.pointer none, .int .i64 n] W (fun e w' => e = .returned (.tuple #[]) ∧ w' = W) := by
  go_enter Try.func25, Try.ntmps25
  go_wp2
  exact bodyPost_end (by simp [results, Try.results25]) rfl ⟨rfl, rfl⟩

set_option maxRecDepth 100000 in
theorem fuse_any (h : DAt W B d S) (n : Int) (hn : -9223372036854775808 ≤ n ∧ n ≤ 9223372036854775807) :
    Calls Try.prog 25 #[.pointer (some ⟨d, 0, none⟩), .int .i64 n] W (NoEnds W B d S { S with fuse := n }) := by
  have c4 := Lib.cell_of_heap h.cell 4
  have hf := Lib.frozen_of_heap h.cell
  have hlt : d < W.heap.size := (Array.getElem?_eq_some_iff.1 h.cell).1
  simp [Dk.cells] at c4
  have t1 : Touch W (W.setCell ⟨d, 4, none⟩ (.int .i64 n)) [d] := (Touch.refl _ _).setCell (.inl (by simp)) _
  have hd : DAt (W.setCell ⟨d, 4, none⟩ (.int .i64 n)) B d { S with fuse := n } := h.own t1 _ (by rw [heap_setCell_same _ d 4 _ _ _ h.cell]; rfl) rfl h.room hn
  have HD := Lib.hid hd
  have HT := Lib.hid t1
  clear h hd t1
  go_enter Try.func25, Try.ntmps25
  go_wp2
  exact bodyPost_end (by simp [results, Try.results25]) rfl ⟨rfl, HT.out.mono (by simp [Dk.mine]), HD.out⟩

/-- A new disk. -/
def dk0 (B room : Nat) : Dk := { mf := B, ms := B + 1, av := .slice none 0 0, dir := [], safe := [], acts := [], gs := [], sl := fun _ => .slice none 0 0, fl := fun _ => ⟨[], 0⟩, room := room, fuse := -1, down := false }
def roomOf (c : Int) : Nat := min c.toNat 16777216

def NewPost (W : World) (c : Int) (e : Ending) (W' : World) : Prop := e = .returned (.pointer (some ⟨W.heap.size + 2, 0, none⟩)) ∧ Below W.heap.size W W' ∧ DAt W' W.heap.size (W.heap.size + 2) (dk0 W.heap.size (roomOf c))

set_option maxRecDepth 100000 in
set_option maxHeartbeats 1000000 in
theorem new_any (W : World) (c : Int) : Calls Try.prog 10 #[.int .i64 c] W (NewPost W c) := by
  obtain ⟨r, hr⟩ : ∃ r, roomOf c = r := ⟨_, rfl⟩
  have hr1 : min (max c 0) 16777216 = (r : Int) := by rw [← hr]; unfold roomOf; omega
  have hr2 : r ≤ 16777216 := by rw [← hr]; unfold roomOf; omega
  have m1 : (W.alloc (.map #[] 0)).ownsMap Try.prog 9 fileR W.heap.size 0 (.map []) := World.ownsMap_made W Try.prog 9 fileR
  have m2 : ((W.alloc (.map #[] 0)).alloc (.map #[] 0)).ownsMap Try.prog 9 fileR (W.heap.size + 1) 0 (.map []) := by
    have := World.ownsMap_made (W.alloc (.map #[] 0)) Try.prog 9 fileR
    simpa using this
  have hcell : (((W.alloc (.map #[] 0)).alloc (.map #[] 0)).alloc (.cells #[.map (some W.heap.size), .map (some (W.heap.size + 1)), .slice none 0 0, .int .i64 (r : Int), .int .i64 (-1), .bool false] 56)).heap[W.heap.size + 2]? = some (.cells #[.map (some W.heap.size), .map (some (W.heap.size + 1)), .slice none 0 0, .int .i64 (r : Int), .int .i64 (-1), .bool false] 56 (0, 0)) := by
    have := heap_alloc_new ((W.alloc (.map #[] 0)).alloc (.map #[] 0)) (.cells #[.map (some W.heap.size), .map (some (W.heap.size + 1)), .slice none 0 0, .int .i64 (r : Int), .int .i64 (-1), .bool false] 56)
    simpa using this
  have hfin : DAt (((W.alloc (.map #[] 0)).alloc (.map #[] 0)).alloc (.cells #[.map (some W.heap.size), .map (some (W.heap.size + 1)), .slice none 0 0, .int .i64 (r : Int), .int .i64 (-1), .bool false] 56)) W.heap.size (W.heap.size + 2) (dk0 W.heap.size r) :=
    ⟨⟨by omega, Nat.le_refl _, Nat.le_succ _, (fun _ h => by cases h)⟩, hcell, ⟨_, (m1.alloc _).alloc _, isDir_nil⟩, ⟨_, m2.alloc _, isDir_nil⟩, (by show W.heap.size ≠ W.heap.size + 1; omega), ⟨rfl, .inl ⟨rfl, rfl⟩⟩, (fun _ h => by cases h), (fun _ h => by cases h), ⟨List.Pairwise.nil, (fun _ _ _ h => by cases h), (fun _ h => by cases h)⟩, trivial, rfl, ⟨(fun _ h => by cases h), (fun _ _ h => by cases h)⟩, hr2, (by show (-9223372036854775808 : Int) ≤ -1 ∧ (-1 : Int) ≤ 9223372036854775807; omega)⟩
  have HF := Lib.hid hfin
  have HR := Lib.hid hr
  clear m1 m2 hcell hfin hr
  have hmm := @run_makeMap Try.prog
  go_enter Try.func10, Try.ntmps10
  go_wp2
  go_ret
  unfold NewPost
  rw [HR.out]
  exact ⟨rfl, (((Below.refl _ _).alloc (Nat.le_refl _) _).alloc (by simp) _).alloc (by simp; omega) _, HF.out⟩
end Go.Proofs.Ytbhapbioibhalaa
