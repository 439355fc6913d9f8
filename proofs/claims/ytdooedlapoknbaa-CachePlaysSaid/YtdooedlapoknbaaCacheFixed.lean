/- The law's fixed; a nil cache; CacheNil. -/
import Derived.Test.YtdooedlapoknbaaCacheDrop
namespace Go.Proofs.Ytdooedlapoknbaa
open Go Go.RowKit Go.Maps

theorem CA.weak {G G' : Nat → Prop} {W : World} {B c room : Nat} {E : List (Int × Int × List ByteArray)} (h : CA G W B c room E) (hG : ∀ g, G g → G' g) : CA G' W B c room E := by
  obtain ⟨r, m, it, pv, nx, xs, hc, he⟩ := h
  exact ⟨r, m, it, pv, nx, xs, hc.weak hG, he⟩

theorem CA.fresh {G : Nat → Prop} {W W' : World} {B c room : Nat} {E : List (Int × Int × List ByteArray)} (h : CA G W B c room E) (b : Below W.heap.size W W') : CA G W' B c room E := by
  obtain ⟨r, m, it, pv, nx, xs, hc, he⟩ := h
  exact ⟨r, m, it, pv, nx, xs, hc.fresh b, he⟩

theorem CA.low {G : Nat → Prop} {W : World} {B c room : Nat} {E : List (Int × Int × List ByteArray)} (h : CA G W B c room E) : B ≤ W.heap.size := by
  obtain ⟨r, m, it, pv, nx, xs, hc, he⟩ := h
  have := (Array.getElem?_eq_some_iff.1 hc.cell).1
  have := hc.lo.1
  omega

theorem litT_reads {w : World} {b : Nat} {l : List ByteArray} {t : TypeId} (h : w.heap[b]? = some (Obj.cells (scells l).toArray t (0, 0))) (hl : l.length ≤ 1000) : Reads w 1 (.slice (some ⟨b, 0, none⟩) l.length l.length) l.length (scells l) := by
  refine ⟨by rw [scells_length]; omega, _, _, rfl, Nat.le_refl _, by unfold maxLen; omega, fun j u hj => ⟨b, 0, rfl, (Array.getElem?_eq_some_iff.1 h).1, ?_⟩⟩
  rw [Nat.zero_add, Lib.cell_of_heap h j]
  simpa using hj

def kAB : List ByteArray := [⟨#[97, 98]⟩]
def kC : List ByteArray := [⟨#[99]⟩]

theorem fx_put1 : putE 4 [] 1 1 kAB = [(1, 1, kAB)] := by decide
theorem fx_put2 : putE 4 [(1, 1, kAB)] 1 2 kC = [(1, 2, kC)] := by decide
theorem fx_oth : others [(1, 2, kC)] 1 2 ++ [(1, 2, kC)] = [(1, 2, kC)] := by decide

theorem InI_one : InI 1 ∧ InI 2 := by unfold InI; omega

def anyG (_ : Nat) : Prop := True

set_option maxRecDepth 100000 in
set_option maxHeartbeats 4000000 in
theorem fixed_any (w : World) : Calls Try.prog 6 #[] w (SaysTrue w) := by
  have HN := Lib.hid (cnew_any w 4)
  go_enter Try.func6, Try.ntmps6
  go_wp2_with (go_at_call 13; go_must (refine HN.out.mono ?_))
  rintro e w1 ⟨c, rfl, hca, b1⟩
  have ba := (Below.refl w1.heap.size w1).alloc (Nat.le_refl _) (.cells #[.string ⟨#[97, 98]⟩] 9)
  have hr1 : Reads (w1.alloc (.cells #[.string ⟨#[97, 98]⟩] 9)) 1 (.slice (some ⟨w1.heap.size, 0, none⟩) 1 1) 1 (scells kAB) := litT_reads (l := kAB) (heap_alloc_new w1 _) (by decide)
  have HP1 := Lib.hid (put_any _ w.heap.size c 4 [] 1 1 _ 1 1 kAB InI_one.1 InI_one.1 hr1 ((hca anyG).fresh ba) (by decide) (by decide) (by decide))
  have HB1 := Lib.hid (b1.trans (ba.mono b1.size))
  clear hca b1 ba hr1 HN
  go_wp2_with (go_at_call 7; go_must (refine HP1.out.mono ?_))
  rintro e w2 ⟨rfl, hca, hcf⟩
  rw [fx_put1] at hca
  have hca := hca.weak (G' := anyG) (fun _ _ => trivial)
  have hb2 := HB1.out.trans hcf.below
  have ba := (Below.refl w2.heap.size w2).alloc (Nat.le_refl _) (.cells #[.string ⟨#[99]⟩] 9)
  have hr1 : Reads (w2.alloc (.cells #[.string ⟨#[99]⟩] 9)) 1 (.slice (some ⟨w2.heap.size, 0, none⟩) 1 1) 1 (scells kC) := litT_reads (l := kC) (heap_alloc_new w2 _) (by decide)
  have HP2 := Lib.hid (put_any _ w.heap.size c 4 _ 1 2 _ 1 1 kC InI_one.1 InI_one.2 hr1 (hca.fresh ba) (by decide) (by decide) (by decide))
  have HB2 := Lib.hid (hb2.trans (ba.mono hb2.size))
  clear hca hcf hb2 ba hr1 HP1 HB1
  go_wp2_with (go_at_call 7; go_must (refine HP2.out.mono ?_))
  rintro e w3 ⟨rfl, hca, hcf⟩
  rw [fx_put2] at hca
  have hca := hca.weak (G' := anyG) (fun _ _ => trivial)
  have HB3 := Lib.hid (HB2.out.trans hcf.below)
  have HG1 := Lib.hid (get_any w3 w.heap.size c 4 _ 1 1 InI_one.1 InI_one.1 hca (by decide))
  have HG2 := Lib.hid (get_any w3 w.heap.size c 4 _ 1 2 InI_one.1 InI_one.2 hca (by decide))
  clear hca hcf HP2 HB2
  go_wp2_with (go_at_call 9; go_must (refine HG1.out.mono ?_))
  rintro e w4 hg
  rcases hg with ⟨ks, v, hm, _⟩ | ⟨_, rfl, rfl⟩
  · exact absurd hm (by simp)
  clear HG1
  go_wp2_with (go_at_call 9; go_must (refine HG2.out.mono ?_))
  rintro e w5 hg
  rcases hg with ⟨ks, v, hm, rfl, hv, hca, hcf⟩ | ⟨hno, _⟩
  case inr => exact absurd ⟨rfl, rfl⟩ (hno _ (List.mem_singleton.2 rfl))
  obtain rfl : ks = kC := by simpa using hm
  rw [fx_oth] at hca
  obtain ⟨va, vcap, rfl, _, _⟩ := hv
  have HL := Lib.hid (len_any w5 w.heap.size c 4 _ hca)
  have HU := Lib.hid (used_any w5 w.heap.size c 4 _ hca)
  have HB5 := Lib.hid (HB3.out.trans hcf.below)
  have h1 : ([(1, 2, kC)] : List (Int × Int × List ByteArray)).length = 1 := rfl
  have h2 : usedE [(1, 2, kC)] = 2 := by decide
  have h3 : kC.length = 1 := rfl
  rw [h1] at HL
  rw [h2] at HU
  rw [h3]
  clear hm hca hcf h1 h2 h3 HG2 HB3
  go_wp2_with (go_at_call 10; go_must (refine HL.out.mono ?_))
  rintro e w6 ⟨rfl, rfl⟩
  go_wp2_with (go_at_call 11; go_must (refine HU.out.mono ?_))
  rintro e w7 ⟨rfl, rfl⟩
  go_wp2
  go_ret
  exact ⟨rfl, HB5.out⟩

def SameEnd (w : World) (v : Value) (e : Ending) (w' : World) : Prop := e = .returned v ∧ w = w'

theorem put_nil (w : World) (f b : Int) (v : Value) : Calls Try.prog 7 #[.pointer none, .int .i64 f, .int .i64 b, v] w (SameEnd w (.tuple #[])) := by
  go_enter Try.func7, Try.ntmps7
  go_wp2
  exact bodyPost_end (by simp [results, Try.results7]) rfl ⟨rfl, rfl⟩

theorem drop_nil (w : World) (f : Int) : Calls Try.prog 8 #[.pointer none, .int .i64 f] w (SameEnd w (.tuple #[])) := by
  go_enter Try.func8, Try.ntmps8
  go_wp2
  exact bodyPost_end (by simp [results, Try.results8]) rfl ⟨rfl, rfl⟩

theorem get_nil (w : World) (f b : Int) : Calls Try.prog 9 #[.pointer none, .int .i64 f, .int .i64 b] w (SameEnd w (.tuple #[.slice none 0 0, .bool false])) := by
  go_enter Try.func9, Try.ntmps9
  go_wp2
  go_ret2
  exact ⟨rfl, rfl⟩

theorem len_nil (w : World) : Calls Try.prog 10 #[.pointer none] w (SameEnd w (.int .i64 0)) := by
  go_enter Try.func10, Try.ntmps10
  go_wp2
  go_ret
  exact ⟨rfl, rfl⟩

theorem used_nil (w : World) : Calls Try.prog 11 #[.pointer none] w (SameEnd w (.int .i64 0)) := by
  go_enter Try.func11, Try.ntmps11
  go_wp2
  go_ret
  exact ⟨rfl, rfl⟩

set_option maxRecDepth 100000 in
set_option maxHeartbeats 4000000 in
theorem cacheNil_walk (w : World) (f b : Int) : Calls Try.prog 3 #[.int .i64 f, .int .i64 b] w (SaysTrue w) := by
  go_enter Try.func3, Try.ntmps3
  go_wp2_with (go_at_call 6; go_must (refine (fixed_any _).mono ?_))
  rintro e w1 ⟨rfl, b1⟩
  have B1 := Lib.hid b1
  clear b1
  go_wp2_with (go_at_call 7; go_must (refine (put_nil _ _ _ _).mono ?_))
  rintro e w2 ⟨rfl, rfl⟩
  go_wp2_with (go_at_call 8; go_must (refine (drop_nil _ _).mono ?_))
  rintro e w2 ⟨rfl, rfl⟩
  go_wp2_with (go_at_call 9; go_must (refine (get_nil _ _ _).mono ?_))
  rintro e w2 ⟨rfl, rfl⟩
  go_wp2_with (go_at_call 10; go_must (refine (len_nil _).mono ?_))
  rintro e w2 ⟨rfl, rfl⟩
  go_wp2_with (go_at_call 11; go_must (refine (used_nil _).mono ?_))
  rintro e w2 ⟨rfl, rfl⟩
  go_wp2
  go_ret
  exact ⟨rfl, B1.out⟩
end Go.Proofs.Ytdooedlapoknbaa
