/- Sync, Append. -/
import Derived.Test.YtbhapbioibhalaaDiskIo
namespace Go.Proofs.Ytbhapbioibhalaa
open Go Go.RowKit Go.Maps

variable {W : World} {B d : Nat} {S : Dk}

/-- A file alone is written. -/
theorem DAt.setF {W' : World} (h : DAt W B d S) {g : Nat} (hg : g ∈ S.gs) {v : Value} {f : Fl} (t : Touch W W' (g :: (S.sl g).ownBlock.toList)) (hf : FileAt W' B g v f)
    (hv : v.ownBlock = (S.sl g).ownBlock ∨ ∀ x, v.ownBlock = some x → W.heap.size ≤ x) : DAt W' B d { S with sl := updF S.sl g v, fl := updF S.fl g f } := by
  have hap := h.apt
  have hno : ∀ {x}, x ∉ g :: (S.sl g).ownBlock.toList ↔ x ≠ g ∧ (S.sl g).ownBlock ≠ some x := by
    intro x
    simp [Option.mem_toList]
  refine ⟨h.lo, t.keep h.cell (hno.2 ⟨(hap.gm g hg).1.symm, fun e => (hap.sm g hg _ e).1 rfl⟩), h.fm.touch t (hno.2 ⟨(hap.gm g hg).2.1.symm, fun e => (hap.sm g hg _ e).2.1 rfl⟩), h.sm.touch t (hno.2 ⟨(hap.gm g hg).2.2.symm, fun e => (hap.sm g hg _ e).2.2.1 rfl⟩), h.ne,
    ownAt_touch h.ac t fun x hx => hno.2 ⟨fun e => (hap.am x hx).2.2.2 (e ▸ hg), fun e => (hap.sm g hg x e).2.2.2.2 hx⟩, fun x hx => ?_, fun x hx y hy hxy z hz => ?_, h.lone, h.oks, h.now, h.mem, h.room, h.fuse⟩
  · show FileAt W' B x (updF S.sl g v x) (updF S.fl g f x)
    by_cases e : x = g
    · subst e
      rw [updF_same, updF_same]
      exact hf
    · rw [updF_other _ _ e, updF_other _ _ e]
      exact (h.fs x hx).touch t (hno.2 ⟨e, fun e2 => (hap.sm g hg x e2).2.2.2.1 hx⟩) fun z hz => hno.2 ⟨fun e2 => (hap.sm x hx z hz).2.2.2.1 (e2 ▸ hg), h.apart x hx g hg e z hz⟩
  · have hz : (updF S.sl g v x).ownBlock = some z := hz
    show (updF S.sl g v y).ownBlock ≠ some z
    have hold : ∀ k ∈ S.gs, ∀ z, (S.sl k).ownBlock = some z → z < W.heap.size := fun k hk z hz => (ownAt_lt (h.fs k hk).2.1 hz).1
    by_cases e : x = g
    · rw [e, updF_same] at hz
      rw [updF_other _ _ (fun e2 => hxy (e.trans e2.symm))]
      intro hy2
      rcases hv with e3 | e3
      · rw [e3] at hz
        exact h.apart g hg y hy (fun e4 => hxy (e.trans e4)) z hz hy2
      · have := e3 z hz
        have := hold y hy z hy2
        omega
    · rw [updF_other _ _ e] at hz
      by_cases e2 : y = g
      · rw [e2, updF_same]
        intro hy2
        rcases hv with e3 | e3
        · rw [e3] at hy2
          exact h.apart x hx g hg e z hz hy2
        · have := e3 z hy2
          have := hold x hx z hz
          omega
      · rw [updF_other _ _ e2]
        exact h.apart x hx y hy hxy z hz

theorem burn_eqs (S : Dk) : S.burn.mf = S.mf ∧ S.burn.ms = S.ms ∧ S.burn.av = S.av ∧ S.burn.dir = S.dir ∧ S.burn.safe = S.safe ∧ S.burn.acts = S.acts ∧ S.burn.gs = S.gs ∧ S.burn.sl = S.sl ∧ S.burn.fl = S.fl ∧ S.burn.room = S.room := by
  rw [burn_same S]
  exact ⟨rfl, rfl, rfl, rfl, rfl, rfl, rfl, rfl, rfl, rfl⟩

theorem touch_reads0 {W W' : World} {bs : List Nat} {v : Value} {n : Nat} {l : List UInt8} (t : Touch W W' bs) (hr : Reads W 1 v n (bcells l)) (hn : l ≠ [] → ∀ g, v.ownBlock = some g → g ∉ bs) : Reads W' 1 v n (bcells l) := by
  cases l with
  | nil =>
    obtain ⟨hl, a, cap, rfl, h1, h2, _⟩ := hr
    exact ⟨hl, a, cap, rfl, h1, h2, fun j u hj => by simp [bcells] at hj⟩
  | cons c r => exact t.reads hr (hn (List.cons_ne_nil _ _))

def syncE (S : Dk) (s : ByteArray) : Int := if (findR S s).2 ≠ 0 then (findR S s).2 else S.burnE
/-- A file's bytes turned. -/
def FileS (S : Dk) (s : ByteArray) (z : Int) (f : Fl → Fl) (T : Dk) : Prop :=
  (T = S ∧ z ≠ 0 ∧ ((findR S s).2 = z ∨ z = 5)) ∨ (∃ g, findR S s = (some g, 0) ∧ z = S.burnE ∧ ((S.burnE ≠ 0 ∧ T = S.burn) ∨ (S.burnE = 0 ∧ ∃ v, T = { S.burn with sl := updF S.sl g v, fl := updF S.fl g (f (S.fl g)) })))

set_option maxRecDepth 100000 in
set_option maxHeartbeats 2000000 in
theorem sync_any (h : DAt W B d S) (s : ByteArray) (hs : s.size ≤ 1000000000) :
    Calls Try.prog 22 #[.pointer (some ⟨d, 0, none⟩), .string s] W (Ends W B d S (syncE S s) (FileS S s (syncE S s) fun f => ⟨f.data, f.data.length⟩)) := by
  have HFi := Lib.hid (find_any h s hs)
  have HH := Lib.hid h
  clear h
  go_enter Try.func22, Try.ntmps22
  go_wp2_with (go_at_call 39; go_must (refine HFi.out.mono ?_))
  rintro e w1 ⟨rfl, b1⟩
  have h1 := HH.out.below b1
  rcases find_ways S s with ⟨g, hfr, hf⟩ | ⟨z, hz, hfr⟩
  · have he : syncE S s = S.burnE := by unfold syncE; rw [hfr]; rfl
    have HE := Lib.hid he
    have HFr := Lib.hid hfr
    have HF := Lib.hid hf
    have HB := Lib.hid b1
    have HBu := Lib.hid (burn_any h1)
    rw [hfr]
    clear he hfr hf b1 h1
    simp only [fileV]
    go_wp2_with (go_at_call 44; go_must (refine HBu.out.mono ?_))
    rintro e w2 ⟨rfl, hd2, t2⟩
    obtain ⟨e1, e2, e3, e4, e5, e6, e7, e8, e9, e10⟩ := burn_eqs S
    have hgin := HH.out.fileIn HF.out
    have hf2 := hd2.fs g (by rw [e7]; exact hgin)
    rw [e8, e9] at hf2
    have f0 := Lib.cell_of_heap hf2.1 0
    have f1 := Lib.cell_of_heap hf2.1 1
    have ff := Lib.frozen_of_heap hf2.1
    obtain ⟨fa, fc, hfv, _, _⟩ := hf2.2.1.reads.le
    simp [hfv] at f0 f1
    have hlt : g < w2.heap.size := (Array.getElem?_eq_some_iff.1 hf2.1).1
    have tt : Touch W w2 (S.mine d) := (Touch.of_below HB.out _).same (t2.mono (by simp [Dk.mine]))
    have HD2 := Lib.hid hd2
    have HF2 := Lib.hid hf2
    have HT2 := Lib.hid tt
    have HEq := Lib.hid (And.intro e7 (And.intro e8 e9))
    have HG := Lib.hid hgin
    clear hd2 hf2 hfv tt t2 e1 e2 e3 e4 e5 e6 e7 e8 e9 e10 hgin
    rcases burnE_ways S with hbe | hbe
    · rw [hbe]
      have HBe := Lib.hid hbe
      clear hbe
      go_wp2
      go_ret
      have t3 : Touch w2 (w2.setCell ⟨g, 1, none⟩ (.int .i64 ((S.fl g).data.length : Int))) (g :: (S.sl g).ownBlock.toList) := (Touch.refl _ _).setCell (.inl (by simp)) _
      have hfin : DAt (w2.setCell ⟨g, 1, none⟩ (.int .i64 ((S.fl g).data.length : Int))) B d { S.burn with sl := updF S.burn.sl g (S.sl g), fl := updF S.burn.fl g ⟨(S.fl g).data, (S.fl g).data.length⟩ } :=
        HD2.out.setF (v := S.sl g) (by rw [HEq.out.1]; exact HG.out) (by rw [HEq.out.2.1]; exact t3)
          ⟨by rw [heap_setCell_same _ g 1 _ _ _ HF2.out.1]; rfl, HF2.out.2.1.keep (fun k cs hk => (Below.heap_setCell _ _ _ _ (ne_cells_cells hk HF2.out.1 (by decide))).trans hk), Nat.le_refl _, HF2.out.2.2.2⟩ (.inl (by rw [HEq.out.2.1]))
      rw [HEq.out.2.1, HEq.out.2.2] at hfin
      exact ⟨by rw [HE.out, HBe.out]; rfl, HT2.out.same (t3.mono (fun x hx => by
        simp only [List.mem_cons, Option.mem_toList] at hx
        rcases hx with e | e
        · rw [e]; exact Dk.mine_g HG.out
        · exact Dk.mine_sl HG.out e)), _, .inr ⟨g, HFr.out, HE.out, .inr ⟨HBe.out, _, rfl⟩⟩, hfin⟩
    · rw [hbe]
      have HBe := Lib.hid hbe
      clear hbe
      go_wp2
      go_ret
      exact ⟨by rw [HE.out, HBe.out]; rfl, HT2.out, _, .inr ⟨g, HFr.out, HE.out, .inl ⟨by rw [HBe.out]; decide, rfl⟩⟩, HD2.out⟩
  · have he : syncE S s = z := by unfold syncE; rw [hfr]; exact if_pos hz
    have HE := Lib.hid he
    have HB := Lib.hid b1
    have HZ := Lib.hid hz
    have H1 := Lib.hid h1
    have HFr := Lib.hid hfr
    rw [hfr]
    clear hfr b1 he h1
    simp only [fileV]
    go_wp2
    go_ret
    exact ⟨by rw [HE.out]; rfl, Touch.of_below HB.out _, S, .inl ⟨rfl, by rw [HE.out]; exact HZ.out, .inl (by rw [HE.out, HFr.out])⟩, H1.out⟩
end Go.Proofs.Ytbhapbioibhalaa
