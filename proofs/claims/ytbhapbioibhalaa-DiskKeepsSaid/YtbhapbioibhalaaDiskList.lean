/- List, SyncDir. -/
import Derived.Test.YtbhapbioibhalaaDiskKeys
namespace Go.Proofs.Ytbhapbioibhalaa
open Go Go.RowKit Go.Maps

variable {W : World} {B d : Nat} {S : Dk}

def listL (S : Dk) : List ByteArray := if S.down then [] else S.dir.map (·.1)
def ListPost (w : World) (l : List ByteArray) (e : Ending) (w' : World) : Prop := ∃ v, e = .returned v ∧ w'.ownsRow w.heap.size 9 1 v l.length (scells l) ∧ Below w.heap.size w w'

set_option maxRecDepth 100000 in
theorem list_nil (W : World) : Calls Try.prog 16 #[.pointer none] W (ListPost W []) := by
  have HR := Lib.hid (ready_nil W (.slice none 0 0))
  go_enter Try.func16, Try.ntmps16
  go_wp2_with (go_at_call 36; go_must (refine HR.out.mono ?_))
  rintro e w1 ⟨rfl, b1⟩
  go_wp2
  go_ret
  exact ⟨_, rfl, ⟨rfl, .inl ⟨rfl, rfl⟩⟩, b1⟩

set_option maxRecDepth 100000 in
set_option maxHeartbeats 2000000 in
theorem list_any (h : DAt W B d S) (hg : S.gs.length ≤ 1000000) : Calls Try.prog 16 #[.pointer (some ⟨d, 0, none⟩)] W (ListPost W (listL S)) := by
  have HR := Lib.hid (ready_any h (.slice none 0 0) [] (nil_strs W) (by simp))
  have HH := Lib.hid h
  have hd0 : d < W.heap.size := (h.lt d (Dk.mine_d d S)).1
  clear h
  go_enter Try.func16, Try.ntmps16
  go_wp2_with (go_at_call 36; go_must (refine HR.out.mono ?_))
  rintro e w1 ⟨rfl, b1⟩
  cases hdn : S.down with
  | true =>
    have hu : listL S = [] := by unfold listL; rw [hdn]; rfl
    have HU := Lib.hid hu
    have hz : readyE true [] = 6 := rfl
    rw [hz]
    have HB := Lib.hid b1
    clear hu hz b1 hdn
    go_wp2
    go_ret
    rw [HU.out]
    exact ⟨_, rfl, ⟨rfl, .inl ⟨rfl, rfl⟩⟩, HB.out⟩
  | false =>
    have hu : listL S = S.dir.map (·.1) := by unfold listL; rw [hdn]; rfl
    have HU := Lib.hid hu
    have hz : readyE false [] = 0 := rfl
    rw [hz]
    have h1 := HH.out.below b1
    have c0 := Lib.cell_of_heap h1.cell 0
    simp [Dk.cells] at c0
    have hdl : d < w1.heap.size := Nat.lt_of_lt_of_le hd0 b1.size
    have bA := (Below.refl w1.heap.size w1).alloc (Nat.le_refl _) (.cells #[.map (some S.mf)] 53)
    have HK := Lib.hid (keys_any (some S.mf) w1)
    have HSo := Lib.hid (sorted_any _ w1.heap.size S.mf S.dir (h1.below bA).fm (heap_alloc_new w1 _) (Nat.le_trans HH.out.dirlen hg))
    have HB1 := Lib.hid (b1.trans (bA.mono b1.size))
    clear hu hz b1 hdn h1 bA
    go_wp2_with (first | (go_at_call 38; go_must (refine HK.out.mono ?_); rintro e w' ⟨rfl, rfl⟩) | (go_at_call 37; go_must (refine HSo.out.mono ?_)))
    rintro e w2 ⟨v2, rfl, o2, b2⟩
    have HO := Lib.hid (owns_less o2 HB1.out.size)
    have HB2 := Lib.hid (HB1.out.trans (b2.mono HB1.out.size))
    clear o2 b2
    go_wp2
    go_ret
    rw [HU.out]
    exact ⟨v2, rfl, by rw [List.length_map]; exact HO.out, HB2.out⟩

theorem DAt.setl {W' : World} (h : DAt W B d S) (t : Touch W W' [d, S.ms]) (hm : MapAt W' S.ms S.dir) (hc : W'.heap[d]? = some (.cells { S with av := .slice none 0 0 }.cells 56 (0, 0))) :
    DAt W' B d { S with av := .slice none 0 0, safe := S.dir, acts := [] } := by
  have hap := h.apt
  have hno : ∀ {x}, x ∉ [d, S.ms] ↔ x ≠ d ∧ x ≠ S.ms := by intro x; simp
  exact ⟨h.lo, hc, h.fm.touch t (hno.2 ⟨hap.dm.1.symm, h.ne⟩), hm, h.ne, ⟨rfl, .inl ⟨rfl, rfl⟩⟩, fun g hg => (h.fs g hg).touch t (hno.2 ⟨(hap.gm g hg).1, (hap.gm g hg).2.2⟩) fun x hx => hno.2 ⟨(hap.sm g hg x hx).1, (hap.sm g hg x hx).2.2.1⟩,
    h.apart, h.dirlone, trivial, rfl, ⟨h.dirmem, fun _ _ e => by cases e⟩, h.room, h.fuse⟩

def syncdirE (S : Dk) : Int := if S.down then 6 else S.burnE
def SyncDirS (S : Dk) (T : Dk) : Prop := (T = S ∧ S.down = true) ∨ (S.down = false ∧ S.burnE ≠ 0 ∧ T = S.burn) ∨ (S.down = false ∧ S.burnE = 0 ∧ T = { S.burn with av := .slice none 0 0, safe := S.burn.dir, acts := [] })

set_option maxRecDepth 100000 in
set_option maxHeartbeats 2000000 in
theorem syncdir_any (h : DAt W B d S) (hg : S.gs.length ≤ 1000000) : Calls Try.prog 23 #[.pointer (some ⟨d, 0, none⟩)] W (Ends W B d S (syncdirE S) (SyncDirS S)) := by
  have HR := Lib.hid (ready_any h (.slice none 0 0) [] (nil_strs W) (by simp))
  have HH := Lib.hid h
  have hd0 : d < W.heap.size := (h.lt d (Dk.mine_d d S)).1
  clear h
  go_enter Try.func23, Try.ntmps23
  go_wp2_with (go_at_call 36; go_must (refine HR.out.mono ?_))
  rintro e w1 ⟨rfl, b1⟩
  have h1 := HH.out.below b1
  cases hdn : S.down with
  | true =>
    have he : syncdirE S = 6 := by unfold syncdirE; rw [hdn]; rfl
    have hz : readyE true [] = 6 := rfl
    rw [hz]
    have HE := Lib.hid he
    have HB := Lib.hid b1
    have HDn := Lib.hid hdn
    have H1 := Lib.hid h1
    clear hz b1 hdn he h1
    go_wp2
    go_ret
    exact ⟨by rw [HE.out]; rfl, Touch.of_below HB.out _, S, .inl ⟨rfl, HDn.out⟩, H1.out⟩
  | false =>
    have he : syncdirE S = S.burnE := by unfold syncdirE; rw [hdn]; rfl
    have hz : readyE false [] = 0 := rfl
    rw [hz]
    have HE := Lib.hid he
    have HB := Lib.hid b1
    have HDn := Lib.hid hdn
    have HBu := Lib.hid (burn_any h1)
    clear hz b1 hdn he h1
    go_wp2_with (go_at_call 44; go_must (refine HBu.out.mono ?_))
    rintro e w2 ⟨rfl, hd2, t2⟩
    obtain ⟨e1, e2, e3, e4, e5, e6, e7, e8, e9, e10⟩ := burn_eqs S
    have tt : Touch W w2 (S.mine d) := (Touch.of_below HB.out _).same (t2.mono (by simp [Dk.mine]))
    have HT2 := Lib.hid tt
    have HD2 := Lib.hid hd2
    rcases burnE_ways S with hbe | hbe
    · rw [hbe]
      have HBe := Lib.hid hbe
      obtain ⟨aa, ac, hav, ha1, ha2⟩ := hd2.ac.reads.le
      have c2 := Lib.cell_of_heap hd2.cell 2
      simp [Dk.cells, hav] at c2
      have hlt2 : d < w2.heap.size := (Array.getElem?_eq_some_iff.1 hd2.cell).1
      have HSe := Lib.hid (settle_any hd2 S.burn.acts.length (Nat.le_refl _) (by rw [e7]; exact hg))
      have HEq := Lib.hid (And.intro e2 (And.intro e4 (And.intro e5 e6)))
      clear hbe hd2 hav tt t2 e1 e2 e3 e4 e5 e6 e7 e8 e9 e10
      go_wp2_with (go_at_call 45; go_must (refine HSe.out.mono ?_))
      rintro e w3 ⟨rfl, t3, hm3, hc3⟩
      rw [List.take_length, ← HD2.out.now] at hm3
      have h3 := HD2.out.setl t3 hm3 hc3
      have H3 := Lib.hid h3
      have HT3 := Lib.hid (HT2.out.same (t3.mono (fun x hx => by
        simp only [List.mem_cons, List.not_mem_nil, or_false] at hx
        rcases hx with e | e
        · rw [e]; exact Dk.mine_d d S
        · rw [e, HEq.out.1]; exact Dk.mine_ms d S)))
      clear t3 hm3 hc3 h3
      go_wp2
      go_ret
      exact ⟨by rw [HE.out, HBe.out]; rfl, HT3.out, _, .inr (.inr ⟨HDn.out, HBe.out, rfl⟩), H3.out⟩
    · rw [hbe]
      have HBe := Lib.hid hbe
      clear hbe hd2 tt t2 e1 e2 e3 e4 e5 e6 e7 e8 e9 e10
      go_wp2
      go_ret
      exact ⟨by rw [HE.out, HBe.out]; rfl, HT2.out, _, .inr (.inl ⟨HDn.out, by rw [HBe.out]; decide, rfl⟩), HD2.out⟩
end Go.Proofs.Ytbhapbioibhalaa
