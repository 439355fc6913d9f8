/- Used. -/
import Derived.Test.YtbhapbioibhalaaDiskMk2
import Derived.Sort.KeysCollected
namespace Go.Proofs.Ytbhapbioibhalaa
open Go Go.RowKit Go.Maps

theorem nodup_len {α : Type} [DecidableEq α] : ∀ {l m : List α}, m.Nodup → (∀ t ∈ m, t ∈ l) → m.length ≤ l.length
  | _, [], _, _ => Nat.zero_le _
  | l, x :: m, h, hs => by
    obtain ⟨hx, hm⟩ := List.nodup_cons.1 h
    have h1 := nodup_len (l := l.erase x) hm (fun t ht => (List.mem_erase_of_ne (fun e => hx (by rw [← e]; exact ht))).2 (hs t (List.mem_cons_of_mem _ ht)))
    have h2 := List.length_erase_of_mem (hs x List.mem_cons_self)
    have h3 := List.length_pos_of_mem (hs x List.mem_cons_self)
    rw [List.length_cons]
    omega

theorem nil_strs (w : World) : Reads w 1 (.slice none 0 0) ([] : List ByteArray).length (scells []) := ⟨rfl, none, 0, rfl, Nat.le_refl _, Nat.zero_le _, fun j u hj => by simp [scells] at hj⟩

def sumD (fl : Nat → Fl) (l : Dir) : Nat := (l.map fun p => (fl p.2).data.length).sum
theorem sumD_perm {fl : Nat → Fl} {l m : Dir} (h : l.Perm m) : sumD fl l = sumD fl m := (h.map _).sum_nat
theorem sumD_snoc (fl : Nat → Fl) (l : Dir) (p : ByteArray × Nat) : sumD fl (l ++ [p]) = sumD fl l + (fl p.2).data.length := by simp [sumD]
theorem sumD_le {fl : Nat → Fl} : ∀ {l : Dir}, (∀ p ∈ l, (fl p.2).data.length ≤ 16777216) → sumD fl l ≤ l.length * 16777216
  | [], _ => Nat.zero_le _
  | p :: l, h => by
    have h1 := sumD_le (l := l) fun q hq => h q (List.mem_cons_of_mem _ hq)
    have h2 := h p List.mem_cons_self
    have h3 : sumD fl (p :: l) = (fl p.2).data.length + sumD fl l := by simp [sumD]
    rw [h3, List.length_cons]
    omega

/-- What has come of a map. -/
def Seen (l acc : Dir) (left : Lit → Bool) : Prop := acc.Nodup ∧ (∀ p ∈ acc, p ∈ l ∧ left (sL p.1) = false) ∧ ∀ p ∈ l, left (sL p.1) = true ∨ p ∈ acc

theorem UpD.nodup {l : Dir} (h : UpD l) : l.Nodup := h.imp fun h e => by rw [e, bl_irrefl] at h; cases h

theorem seen_end {l acc : Dir} {left : Lit → Bool} (hu : UpD l) (h : Seen l acc left) (hl : ∀ k, left k = false) : acc.Perm l :=
  (List.perm_ext_iff_of_nodup h.1 hu.nodup).2 fun t => ⟨fun ht => (h.2.1 t ht).1, fun ht => (h.2.2 t ht).resolve_left (by rw [hl]; decide)⟩

theorem sL_same (s t : ByteArray) : (sL s).sameKey (sL t) = decide (s = t) := by
  by_cases h : s = t
  · subst h
    simp [sL, Lit.sameKey]
  · have : (sL s).sameKey (sL t) = false := sameKey_ne fun e => h (sL_inj e)
    rw [this]
    simp [h]

theorem seen_step {D : DataW Unit} {l acc : Dir} {left : Lit → Bool} {s : ByteArray} {y : DataW Unit} (hd : IsDir D l) (h : Seen l acc left) (hx : left (sL s) = true) (hat : ∀ zd, D.atKey (sL s) zd = y) :
    ∃ g, fileOf l s = some g ∧ y = fileD g ∧ Seen l (acc ++ [(s, g)]) (fun z => left z && !z.sameKey (sL s)) := by
  have hh := has_true_of_atKey hat
  rw [hd.2.1] at hh
  obtain ⟨g, hg⟩ := Option.isSome_iff_exists.1 hh
  have hy : y = fileD g := by rw [← hat y]; exact hd.2.2.1 s g hg y
  refine ⟨g, hg, hy, ?_, fun p hp => ?_, fun p hp => ?_⟩
  · refine List.nodup_append.2 ⟨h.1, List.nodup_cons.2 ⟨List.not_mem_nil, List.nodup_nil⟩, fun a ha b hb e => ?_⟩
    have hb' : b = (s, g) := List.mem_singleton.1 hb
    have := (h.2.1 a ha).2
    rw [e, hb'] at this
    rw [hx] at this
    cases this
  · rcases List.mem_append.1 hp with hp | hp
    · exact ⟨(h.2.1 p hp).1, by show (left _ && _) = false; rw [(h.2.1 p hp).2]; rfl⟩
    · have hp' : p = (s, g) := List.mem_singleton.1 hp
      subst hp'
      exact ⟨fileOf_mem hg, by show (left _ && _) = false; rw [sL_same]; simp⟩
  · by_cases hps : p.1 = s
    · obtain ⟨p1, p2⟩ := p
      have hps : p1 = s := hps
      subst hps
      have := hd.1.fileOf hp
      rw [hg] at this
      cases this
      exact .inr (by simp)
    · rcases h.2.2 p hp with h1 | h1
      · left
        show (left _ && _) = true
        rw [h1, sL_same]
        simp [hps]
      · exact .inr (List.mem_append_left _ h1)

theorem invK {key : Value} {kl : Lit} (h : keyOf Try.prog 9 key = some kl) : ∃ x : ByteArray, key = .string x ∧ kl = sL x := by
  obtain ⟨x, h1, h2, _⟩ := keyOf_str strU h
  exact ⟨⟨x.toArray⟩, h1, by rw [h2]; simp [sL]⟩
theorem invV {v : Value} {y : DataW Unit × List MemPlace} (h : fileR v = some y) : ∃ c, v = fileV c := by
  unfold fileR at h
  split at h
  · exact ⟨none, rfl⟩
  · exact ⟨some _, rfl⟩
  · cases h

variable {W : World} {B d : Nat} {S : Dk}

def UsedRel (W : World) (S : Dk) (D : DataW Unit) (nv : Value) (wr : World) : Prop :=
  ∃ (acc : Dir) (left : Lit → Bool) (cnt : Nat), nv = .int .i64 (sumD S.fl acc : Int) ∧ wr.ranges Try.prog 9 fileR S.mf W.heap.size S.dir.length D left cnt ∧ Seen S.dir acc left ∧ Below W.heap.size W wr

def usedE (S : Dk) : Nat := if S.down then 0 else sumD S.fl S.dir

set_option maxRecDepth 100000 in
theorem used_nil (W : World) : Calls Try.prog 13 #[.pointer none] W (GivesI W 0) := by
  have HR := Lib.hid (ready_nil W (.slice none 0 0))
  go_enter Try.func13, Try.ntmps13
  go_wp2_with (go_at_call 36; go_must (refine HR.out.mono ?_))
  rintro e w1 ⟨rfl, b1⟩
  go_wp2
  go_ret
  exact ⟨rfl, b1⟩

set_option maxRecDepth 100000 in
set_option maxHeartbeats 2000000 in
theorem used_any (h : DAt W B d S) (hn : S.dir.length ≤ 1000000) : Calls Try.prog 13 #[.pointer (some ⟨d, 0, none⟩)] W (GivesI W (usedE S : Int)) := by
  have HR := Lib.hid (ready_any h (.slice none 0 0) [] (nil_strs W) (by simp))
  have HH := Lib.hid h
  have hd0 : d < W.heap.size := (h.lt d (Dk.mine_d d S)).1
  clear h
  go_enter Try.func13, Try.ntmps13
  go_wp2_with (go_at_call 36; go_must (refine HR.out.mono ?_))
  rintro e w1 ⟨rfl, b1⟩
  cases hdn : S.down with
  | true =>
    have hu : usedE S = 0 := by unfold usedE; rw [hdn]; rfl
    have HU := Lib.hid hu
    have hz : readyE true [] = 6 := rfl
    rw [hz]
    have HB := Lib.hid b1
    clear hu hz b1 hdn
    go_wp2
    go_ret
    exact ⟨by rw [HU.out]; rfl, HB.out⟩
  | false =>
    have hu : usedE S = sumD S.fl S.dir := by unfold usedE; rw [hdn]; rfl
    have HU := Lib.hid hu
    have hz : readyE false [] = 0 := rfl
    rw [hz]
    have h1 := HH.out.below b1
    have c0 := Lib.cell_of_heap h1.cell 0
    simp [Dk.cells] at c0
    have hdl : d < w1.heap.size := Nat.lt_of_lt_of_le hd0 b1.size
    obtain ⟨D, hown, hD⟩ := h1.fm
    have HD := Lib.hid hD
    have hml : S.mf < w1.heap.size := hown.lt
    have HB1 := Lib.hid b1
    have H1 := Lib.hid h1
    clear hu hz b1 hdn hD h1
    go_wp2_with (first | (at_range; refine wpList_range_own _ rfl _ 53 rfl 9 63 strK dmapU fileR S.mf _ D rfl hown ?_; intro w0 hrg0 hg0 hs0) | fail)
    go_frame
    go_loopw [3] (fun nv wr => UsedRel w1 S D nv wr) (fun _ wr => wr.rangeLeft S.mf w1.heap.size)
    case atStart => exact ⟨[], has D, size D, rfl, hrg0, ⟨List.nodup_nil, (fun p h => by cases h), fun p h => .inl (by rw [HD.out.2.1, HD.out.1.fileOf h]; rfl)⟩, ⟨hg0.os, hg0.tape, hg0.output, hg0.size, fun k hk => hg0.block k hk (by simp)⟩⟩
    case round =>
      rename World => wr
      obtain ⟨acc, left, cnt, rfl, hrg, hc, hb⟩ := hrel
      have HC := Lib.hid hc
      have HB := Lib.hid hb
      have hrl := hrg.lt
      have hal : sumD S.fl acc ≤ 16777216000000 := by
        have h1 := nodup_len hc.1 (fun p hp => (hc.2.1 p hp).1)
        have h2 := sumD_le (fl := S.fl) (l := acc) fun p hp => (HH.out.fs _ (HH.out.dirmem p (hc.2.1 p hp).1)).2.2.2
        have h3 := Nat.le_trans h1 hn
        clear h1
        omega
      have HRg0 := Lib.hid hrg
      clear hc hb hg0 hs0 hrg0
      go_wp2_with (first | (at_next; refine wpList_next_ranges _ rfl _ rfl 9 strK fileR Value.string fileV (fun key kl h => by obtain ⟨x, h1, _⟩ := invK h; exact ⟨x, h1⟩) (fun v y h => invV h) S.mf w1.heap.size S.dir.length D left cnt rfl hrg ?_ ?_) | fail)
      · intro hc0 hl0
        have hp := sumD_perm (fl := S.fl) (seen_end HD.out.1 HC.out hl0)
        have HP := Lib.hid hp
        clear hp
        go_wp2
        go_ret
        exact ⟨by rw [HU.out, ← HP.out]; rfl, HB1.out.trans (HB.out.mono HB1.out.size)⟩
      · intro x c kl y1 y2 w2 cnt1 hkl hlk hR hat hrg1 hlt hgr hsz hen
        obtain ⟨x2, hx2, hx3⟩ := invK hkl
        cases hx2
        subst hx3
        obtain ⟨g, hg, hy, hst⟩ := seen_step HD.out HC.out hlk hat
        have hy : y1 = fileD g := hy
        subst hy
        have hcg := fileR_inv hR
        cases c with
        | none => cases hcg
        | some g' =>
          cases hcg
          have hb2 : Below w1.heap.size w1 w2 := HB.out.trans ⟨hgr.os, hgr.tape, hgr.output, hgr.size, fun k hk => hgr.block k (Nat.lt_of_lt_of_le hk HB.out.size) (fun e => by cases e; omega)⟩
          have hf2 := (H1.out.below hb2).fs g (HH.out.fileIn hg)
          obtain ⟨fa, fc, hfv, hf3, hf4⟩ := hf2.2.1.reads.le
          have f0 := Lib.cell_of_heap hf2.1 0
          simp [hfv] at f0
          have hg2 : g < w2.heap.size := (Array.getElem?_eq_some_iff.1 hf2.1).1
          have hs := sumD_snoc S.fl acc (x, g)
          have hfl := hf2.2.2.2
          have hs : sumD S.fl (acc ++ [(x, g)]) = sumD S.fl acc + (S.fl g).data.length := hs
          obtain ⟨N, hN⟩ : ∃ N, (S.fl g).data.length = N := ⟨_, rfl⟩
          rw [hN] at hs f0 hfl
          have hwr : IntKind.i64.wrap ((sumD S.fl acc : Int) + (N : Int)) = ((sumD S.fl acc : Int) + (N : Int)) := by rw [IntKind.wrap_i64]; omega
          have HS := Lib.hid hs
          have HSt := Lib.hid hst
          have HB2 := Lib.hid hb2
          have HRg := Lib.hid hrg1
          have HLt := Lib.hid hlt
          have HRl := Lib.hid hgr
          clear hs hst hb2 hrg1 hlt hf2 hfv hN hy hg hat hR hlk hkl hrg
          simp only [fileV] at hen ⊢
          go_wp2
          refine ⟨⟨acc ++ [(x, g)], _, cnt1, ?_, HRg.out, HSt.out, HB2.out⟩, ?_⟩
          · rw [HS.out]; simp
          · rw [HRg.out.left_eq, HRg0.out.left_eq]
            exact HLt.out
end Go.Proofs.Ytbhapbioibhalaa
