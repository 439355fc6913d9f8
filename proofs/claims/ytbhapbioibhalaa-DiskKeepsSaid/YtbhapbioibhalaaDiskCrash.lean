/- Crash. -/
import Derived.Test.YtbhapbioibhalaaDiskNext
namespace Go.Proofs.Ytbhapbioibhalaa
open Go Go.RowKit Go.Maps

def cutFl (fl : Nat → Fl) (g m : Nat) : Nat → Fl := updF fl g ⟨(fl g).data.take ((fl g).safe + m), (fl g).safe + m⟩
def cutAll (fl : Nat → Fl) : Dir → List UInt8 → (Nat → Fl)
  | [], _ => fl
  | p :: l, keep => cutAll (cutFl fl p.2 (nextE keep ((fl p.2).data.length - (fl p.2).safe))) l keep.tail
def crashD (S : Dk) (keep : List UInt8) : Dir := runA S.safe (S.acts.take (nextE keep S.acts.length))
def CrashS (S : Dk) (keep : List UInt8) (T : Dk) : Prop :=
  ∃ mf' sl', T = { S with mf := mf', av := .slice none 0 0, dir := crashD S keep, safe := crashD S keep, acts := [], sl := sl', fl := cutAll S.fl (crashD S keep) keep.tail, fuse := -1, down := false }

variable {W : World} {B d : Nat} {S : Dk}

theorem OwnAt.lid {w : World} {B n s : Nat} {e : TypeId} {a : Option Addr} {cap : Nat} {xs : List Value} (h : OwnAt w B e 1 (.slice a n cap) n xs) (hs : s ≤ n) : OwnAt w B e 1 (.slice a s s) s (xs.take s) := by
  have hl := h.1
  refine ⟨by rw [List.length_take, hl]; omega, ?_⟩
  rcases h.2 with ⟨h1, h2⟩ | ⟨g, off, cap', cur, h1, h2, h3, h4, h5, h6, h7⟩
  · cases h1
    obtain rfl : s = 0 := by omega
    exact .inl ⟨rfl, rfl⟩
  · cases h1
    refine .inr ⟨g, off, s, cur, rfl, h2, h3, Nat.le_refl _, by omega, by omega, ?_⟩
    rw [← h7, List.take_take, Nat.min_eq_left (by omega), Nat.mul_one]

theorem nextE_le (l : List UInt8) (n : Nat) : nextE l n ≤ n := by
  unfold nextE
  split
  · exact Nat.zero_le _
  · exact Nat.le_of_lt_succ (Nat.mod_lt _ (Nat.succ_pos _))

theorem clone_map {w : World} {m : Nat} {l : Dir} (h : MapAt w m l) : Calls Try.prog 47 #[.map (some m)] w fun e w' => e = .returned (.map (some w.heap.size)) ∧ MapAt w' w.heap.size l ∧ Below w.heap.size w w' := by
  obtain ⟨D, hown, hd⟩ := h
  exact (AnyW.maps_Clone_owns Try.cloneT 9 fileR m l.length D w hown).mono fun _ _ ⟨h1, h2, _, h3⟩ => ⟨h1, ⟨D, h2, hd⟩, h3⟩

/-- Behind a crash's first half: one directory, twice. -/
theorem DAt.fallen {W' : World} (h : DAt W B d S) {l : Dir} {m : Nat} (t : Touch W W' [d, S.ms]) (hm : MapAt W' S.ms l) (hm2 : MapAt W' m l) (hlt : W.heap.size ≤ m) (hB : B ≤ m) (hl : Lone l) (hmem : ∀ p ∈ l, p.2 ∈ S.gs)
    (hc : W'.heap[d]? = some (.cells { S with mf := m, av := .slice none 0 0 }.cells 56 (0, 0))) :
    DAt W' B d { S with mf := m, av := .slice none 0 0, dir := l, safe := l, acts := [] } := by
  have hap := h.apt
  have hno : ∀ {x}, x ∉ [d, S.ms] ↔ x ≠ d ∧ x ≠ S.ms := by intro x; simp
  have hms := (h.lt _ (Dk.mine_ms d S)).1
  exact ⟨⟨h.lo.1, hB, h.lo.2.2⟩, hc, hm2, hm, by show m ≠ S.ms; omega, ⟨rfl, .inl ⟨rfl, rfl⟩⟩, fun g hg => (h.fs g hg).touch t (hno.2 ⟨(hap.gm g hg).1, (hap.gm g hg).2.2⟩) fun x hx => hno.2 ⟨(hap.sm g hg x hx).1, (hap.sm g hg x hx).2.2.1⟩,
    h.apart, hl, trivial, rfl, ⟨hmem, fun _ _ e => by cases e⟩, h.room, h.fuse⟩

set_option maxRecDepth 100000 in
theorem crash_nil (W : World) (a : Option Addr) (n cap : Nat) : Calls Try.prog 24 #[.pointer none, .slice a n cap] W (fun e w' => e = .returned (.tuple #[]) ∧ Below W.heap.size W w') := by
  go_enter Try.func24, Try.ntmps24
  go_wp2
  exact bodyPost_ret (v := .tuple #[]) (by simp [results, Try.results24]) rfl ⟨rfl, (Below.refl _ _).alloc (Nat.le_refl _) _⟩

theorem own_of_slice (a : Option Addr) (n c n' c' : Nat) : (Value.slice a n c).ownBlock = (Value.slice a n' c').ownBlock := by cases a <;> rfl
theorem cutAll_cons (fl : Nat → Fl) (p : ByteArray × Nat) (l : Dir) (keep : List UInt8) : cutAll fl (p :: l) keep = cutAll (cutFl fl p.2 (nextE keep ((fl p.2).data.length - (fl p.2).safe))) l keep.tail := rfl

/-- A round of a crash: a file is cut. -/
theorem crash_step {wr w7 w9 : World} {B d K g r N fc : Nat} {T : Dk} {fa : Option Addr} {kl : List UInt8} {o : Option Nat} (h : DAt wr B d T) (hg : g ∈ T.gs) (hk : KAt w7 K kl o) (t8 : Touch wr w7 [K]) (hKn : ∀ x ∈ T.mine d, x ≠ K) (ho : ∀ x, o = some x → x ∉ T.mine d)
    (hfv : T.sl g = .slice fa N fc) (hN : (T.fl g).data.length = N) (hr : r ≤ N) (h9 : w9 = (w7.setCell ⟨g, 1, none⟩ (.int .i64 (r : Int))).drew.setCell ⟨g, 0, none⟩ (.slice fa r r)) :
    DAt w9 B d { T with sl := updF T.sl g (.slice fa r r), fl := updF T.fl g ⟨(T.fl g).data.take r, r⟩ } ∧ KAt w9 K kl o ∧ Touch wr w9 (K :: T.mine d) := by
  have tB : Touch w7 w9 [g] := by rw [h9]; exact ((Touch.refl w7 [g]).setCell (.inl List.mem_cons_self) _).drew.setCell (.inl List.mem_cons_self) _
  have hd7 := h.keep t8 (fun x hx e => hKn x hx (List.mem_singleton.1 e))
  have hfg7 := hd7.fs g hg
  have hN2 := hfg7.2.2.2
  rw [hN] at hN2
  have hlt : ((T.fl g).data.take r).length = r := by rw [List.length_take, hN]; omega
  have hfile : FileAt w9 B g (.slice fa r r) ⟨(T.fl g).data.take r, r⟩ := by
    have hq : w9.heap[g]? = some (.cells #[.slice fa r r, .int .i64 (r : Int)] 65 (0, 0)) := by
      rw [h9]
      have h1 : (w7.setCell ⟨g, 1, none⟩ (.int .i64 (r : Int))).drew.heap[g]? = some (.cells #[T.sl g, .int .i64 (r : Int)] 65 (0, 0)) := (heap_setCell_same w7 g 1 _ _ _ hfg7.1).trans rfl
      rw [heap_setCell_same _ g 0 _ _ _ h1]
      rfl
    refine ⟨hq, ?_, by show r ≤ ((T.fl g).data.take r).length; rw [hlt]; exact Nat.le_refl _, by show ((T.fl g).data.take r).length ≤ 16777216; rw [hlt]; omega⟩
    show OwnAt _ B 5 1 _ ((T.fl g).data.take r).length (bcells ((T.fl g).data.take r))
    rw [hlt]
    have h1 : OwnAt w7 B 5 1 (.slice fa N fc) N (bcells (T.fl g).data) := by
      have := hfg7.2.1
      rwa [hfv, hN] at this
    have h2 := h1.lid (s := r) hr
    have h3 : (bcells (T.fl g).data).take r = bcells ((T.fl g).data.take r) := by unfold bcells; rw [List.map_take]
    rw [h3] at h2
    refine ownAt_touch h2 tB (fun x hx e => ?_)
    have h4 := List.mem_singleton.1 e
    subst h4
    obtain ⟨_, _, cur, hcur⟩ := ownAt_lt h1 (g := x) (by rw [← hx]; exact own_of_slice _ _ _ _ _)
    exact ne_cells_cells hcur hfg7.1 (by decide) rfl
  refine ⟨hd7.setF hg (tB.mono (fun x hx => by rw [List.mem_singleton.1 hx]; exact List.mem_cons_self)) hfile (.inl (by rw [hfv]; exact own_of_slice _ _ _ _ _)), ?_, ?_⟩
  · exact hk.touch tB (fun e => hKn g (Dk.mine_g hg) (List.mem_singleton.1 e).symm) (fun x hx e => ho x hx (by rw [List.mem_singleton.1 e]; exact Dk.mine_g hg))
  · exact (t8.mono (fun x hx => by rw [List.mem_singleton.1 hx]; exact List.mem_cons_self)).same (tB.mono (fun x hx => by rw [List.mem_singleton.1 hx]; exact List.mem_cons_of_mem _ (Dk.mine_g hg)))

theorem mine_fall {d m : Nat} {S : Dk} {l : Dir} {x : Nat} (h : x ∈ ({ S with mf := m, av := .slice none 0 0, dir := l, safe := l, acts := [] } : Dk).mine d) : x = m ∨ x ∈ S.mine d := by
  unfold Dk.mine at h
  simp only [List.mem_cons, List.mem_append, Option.mem_toList, List.mem_filterMap] at h
  rcases h with e | e | e | (e | e) | ⟨k, hk, e⟩
  · exact .inr (by rw [e]; exact Dk.mine_d d S)
  · exact .inl e
  · exact .inr (by rw [e]; exact Dk.mine_ms d S)
  · cases e
  · exact .inr (Dk.mine_g e)
  · exact .inr (Dk.mine_sl hk e)

theorem mine_sub {d : Nat} {S T : Dk} (h1 : T.mf = S.mf) (h2 : T.ms = S.ms) (h3 : T.av = S.av) (h4 : T.gs = S.gs) (h5 : ∀ k, (T.sl k).ownBlock = (S.sl k).ownBlock) : T.mine d = S.mine d := by
  unfold Dk.mine
  have h6 : (fun g => (T.sl g).ownBlock) = fun g => (S.sl g).ownBlock := funext h5
  rw [h1, h2, h3, h4, h6]

def NxPost (W : World) (K : Nat) (l : List UInt8) (o : Option Nat) (m : Nat) (e : Ending) (W' : World) : Prop := e = .returned (.int .i64 (m : Int)) ∧ KAt W' K l o ∧ Touch W W' [K]

def CrRel (W6 : World) (B d : Nat) (S5 : Dk) (l : Dir) (F : Nat → Fl) (K : Nat) (o : Option Nat) (iv : Value) (wr : World) : Prop :=
  ∃ (i : Nat) (sl' : Nat → Value) (fl' : Nat → Fl) (kl : List UInt8), iv = .int .i64 (i : Int) ∧ i ≤ l.length ∧ DAt wr B d { S5 with sl := sl', fl := fl' } ∧ KAt wr K kl o ∧ cutAll fl' (l.drop i) kl = F ∧ (∀ g, (sl' g).ownBlock = (S5.sl g).ownBlock) ∧ Touch W6 wr (K :: S5.mine d)

set_option maxRecDepth 100000 in
set_option maxHeartbeats 4000000 in
theorem crash_any (h : DAt W B d S) (v : Value) (l : List UInt8) (hr : Reads W 1 v l.length (bcells l)) (hg : S.gs.length ≤ 1000000) (hn : S.acts.length ≤ 1000000) (hv : l ≠ [] → ∀ x, v.ownBlock = some x → x ∉ S.mine d) :
    Calls Try.prog 24 #[.pointer (some ⟨d, 0, none⟩), v] W (fun e w' => e = .returned (.tuple #[]) ∧ Touch W w' (S.mine d) ∧ ∃ T, CrashS S l T ∧ DAt w' B d T) := by
  obtain ⟨ka, kc, hve, hc1, hc2⟩ := hr.le
  subst hve
  have hd0 : d < W.heap.size := (h.lt d (Dk.mine_d d S)).1
  have hBW : B ≤ W.heap.size := Nat.le_trans (h.lt d (Dk.mine_d d S)).2 (Nat.le_of_lt hd0)
  obtain ⟨o, hoe⟩ : ∃ o : Option Nat, o = if l = [] then none else (Value.slice ka l.length kc).ownBlock := ⟨_, rfl⟩
  have ho1 : l ≠ [] → ∀ x, (Value.slice ka l.length kc).ownBlock = some x → o = some x := fun hne x hx => by rw [hoe, if_neg hne, hx]
  have ho2 : ∀ x, o = some x → x ∉ S.mine d ∧ x < W.heap.size := by
    intro x hx
    rw [hoe] at hx
    split at hx
    · cases hx
    · rename_i hne
      refine ⟨hv hne x hx, ?_⟩
      cases l with
      | nil => exact absurd rfl hne
      | cons c r =>
        obtain ⟨b, off, hka, hb, _⟩ := hr.at (j := 0) (u := .int .u8 (c.toNat : Int)) rfl
        subst hka
        simp [Value.ownBlock] at hx
        rw [← hx]
        exact hb
  have bA := (Below.refl W.heap.size W).alloc (Nat.le_refl _) (.cells #[.slice ka l.length kc] 29)
  have h1 := h.below bA
  have hk1 : KAt (W.alloc (.cells #[.slice ka l.length kc] 29)) W.heap.size l o := ⟨ka, kc, heap_alloc_new W _, hr.alloc _, ho1⟩
  have ho : o ≠ some W.heap.size := fun e => Nat.lt_irrefl _ (ho2 _ e).2
  have HNx := Lib.hid (next_any _ W.heap.size l o S.acts.length hk1 ho (by omega))
  have HH := Lib.hid h
  have H1 := Lib.hid h1
  obtain ⟨aa, ac, hav, _, _⟩ := h1.ac.reads.le
  have c2 := Lib.cell_of_heap h1.cell 2
  simp only [Dk.cells, hav] at c2
  have HA := Lib.hid bA
  have HO2 := Lib.hid ho2
  clear h h1 bA hk1 hav hr hoe ho1 ho2 hv
  go_enter Try.func24, Try.ntmps24
  have c2 : (W.alloc (.cells #[.slice ka l.length kc] 29)).cell? ⟨d, 2, none⟩ = some (.slice aa S.acts.length ac) := c2
  have hdA : d < (W.alloc (.cells #[.slice ka l.length kc] 29)).heap.size := Nat.lt_of_lt_of_le hd0 HA.out.size
  go_wp2_with (go_at_call 46; go_must (refine HNx.out.mono ?_))
  rintro e w2 ⟨rfl, hk2, t2⟩
  have hKm : ∀ x ∈ S.mine d, x ≠ W.heap.size := fun x hx e => by have := (HH.out.lt x hx).1; omega
  have h2 := H1.out.keep t2 (fun x hx => by simp; exact hKm x hx)
  obtain ⟨n, hne⟩ : ∃ n, nextE l S.acts.length = n := ⟨_, rfl⟩
  have hnl : n ≤ S.acts.length := by rw [← hne]; exact nextE_le _ _
  rw [hne]
  have HNe := Lib.hid hne
  have HSe := Lib.hid (settle_any h2 n hnl hg)
  have H2 := Lib.hid h2
  have HT2 := Lib.hid t2
  have HK2 := Lib.hid hk2
  clear h2 hne t2 hk2
  go_wp2_with (go_at_call 45; go_must (refine HSe.out.mono ?_))
  rintro e w3 ⟨rfl, t3, hm3, hc3⟩
  have hD : runA S.safe (S.acts.take n) = crashD S l := by unfold crashD; rw [HNe.out]
  rw [hD] at hm3
  have hlone : Lone (crashD S l) := by rw [← hD]; exact HH.out.lone.run (okAs_take n HH.out.oks)
  have hmem : ∀ p ∈ crashD S l, p.2 ∈ S.gs := by rw [← hD]; exact mem_take_run HH.out.lone HH.out.oks HH.out.mem.1 HH.out.mem.2 n
  have hlen : (crashD S l).length ≤ 1000000 := Nat.le_trans (lone_len hlone hmem) hg
  have c1 := Lib.cell_of_heap hc3 1
  simp [Dk.cells] at c1
  have hd3 : d < w3.heap.size := (Array.getElem?_eq_some_iff.1 hc3).1
  have HCl := Lib.hid (clone_map hm3)
  have HT3 := Lib.hid t3
  have HM3 := Lib.hid hm3
  have HC3 := Lib.hid hc3
  have HLo := Lib.hid hlone
  have HMe := Lib.hid hmem
  obtain ⟨D', hDe⟩ : ∃ D', crashD S l = D' := ⟨_, rfl⟩
  rw [hDe] at hlen HCl HM3 HLo HMe
  have HDe := Lib.hid hDe
  clear hDe
  clear hm3 hc3 t3 hD hlone hmem
  go_wp2_with (go_at_call 47; go_must (refine HCl.out.mono ?_))
  rintro e w4 ⟨rfl, hm4, b4⟩
  have hc4 := (b4.block d hd3).trans HC3.out
  have c0 := Lib.cell_of_heap hc4 0
  have cf := Lib.frozen_of_heap hc4
  simp [Dk.cells] at c0
  have hd4 : d < w4.heap.size := (Array.getElem?_eq_some_iff.1 hc4).1
  have HM4 := Lib.hid hm4
  have HB4 := Lib.hid b4
  have HC4 := Lib.hid hc4
  clear hm4 b4 hc4 c1
  have t5 : Touch w3 (w4.setCell ⟨d, 0, none⟩ (.map (some w3.heap.size))) [d, S.ms] := ((Touch.of_below HB4.out [d]).setCell (.inl List.mem_cons_self) _).mono (fun x hx => by rw [List.mem_singleton.1 hx]; exact List.mem_cons_self)
  have hc5 : (w4.setCell ⟨d, 0, none⟩ (.map (some w3.heap.size))).heap[d]? = some (.cells { S with mf := w3.heap.size, av := .slice none 0 0 }.cells 56 (0, 0)) := by rw [heap_setCell_same _ d 0 _ _ _ HC4.out]; rfl
  have hm3s := (Array.getElem?_eq_some_iff.1 HM3.out.heap.choose_spec.choose_spec).1
  have hmsd : S.ms ≠ d := HH.out.apt.dm.2.symm
  have hmf5 : MapAt (w4.setCell ⟨d, 0, none⟩ (.map (some w3.heap.size))) w3.heap.size D' := HM4.out.touch ((Touch.refl w4 [d]).setCell (.inl List.mem_cons_self) _) (by simp; omega)
  have hms5 : MapAt (w4.setCell ⟨d, 0, none⟩ (.map (some w3.heap.size))) S.ms D' := HM3.out.touch ((Touch.of_below HB4.out [d]).setCell (.inl List.mem_cons_self) _) (by simp; exact hmsd)
  have hT35 : Touch (W.alloc (.cells #[.slice ka l.length kc] 29)) w2 [W.heap.size] := HT2.out
  have h5 := H2.out.fallen (HT3.out.same t5) hms5 hmf5 HT3.out.size (Nat.le_trans hBW (Nat.le_trans HA.out.size (Nat.le_trans hT35.size HT3.out.size))) HLo.out HMe.out hc5
  have hKs : ∀ x ∈ [d, S.ms], x ≠ W.heap.size := fun x hx => by
    simp only [List.mem_cons, List.not_mem_nil, or_false] at hx
    rcases hx with e | e
    · rw [e]; exact hKm _ (Dk.mine_d d S)
    · rw [e]; exact hKm _ (Dk.mine_ms d S)
  have hk5 := HK2.out.touch (HT3.out.same t5) (fun e => hKs _ e rfl) (fun x hx e => (HO2.out x hx).1 (by
    simp only [List.mem_cons, List.not_mem_nil, or_false] at e
    rcases e with e | e
    · rw [e]; exact Dk.mine_d d S
    · rw [e]; exact Dk.mine_ms d S))
  have hT5 : Touch W (w4.setCell ⟨d, 0, none⟩ (.map (some w3.heap.size))) (S.mine d) := ((Touch.of_below HA.out (S.mine d)).trans HT2.out (fun x hx => hx) (fun x hx => .inr (by rw [List.mem_singleton.1 hx]; exact Nat.le_refl _))).trans (HT3.out.same t5) (fun x hx => hx) (fun x hx => .inl (by
    simp only [List.mem_cons, List.not_mem_nil, or_false] at hx
    rcases hx with e | e
    · rw [e]; exact Dk.mine_d d S
    · rw [e]; exact Dk.mine_ms d S))
  have hK5 : W.heap.size < (w4.setCell ⟨d, 0, none⟩ (.map (some w3.heap.size))).heap.size := (Array.getElem?_eq_some_iff.1 hk5.choose_spec.choose_spec.1).1
  have c05 := Lib.cell_of_heap hc5 0
  simp only [Dk.cells] at c05
  have c05 : (w4.setCell ⟨d, 0, none⟩ (.map (some w3.heap.size))).cell? ⟨d, 0, none⟩ = some (.map (some w3.heap.size)) := c05
  have hd5 : d < (w4.setCell ⟨d, 0, none⟩ (.map (some w3.heap.size))).heap.size := (Array.getElem?_eq_some_iff.1 hc5).1
  have hmfK : W.heap.size < w3.heap.size := Nat.lt_of_lt_of_le (by simp) (Nat.le_trans hT35.size HT3.out.size)
  have HD5 := Lib.hid h5
  have HK5 := Lib.hid hk5
  have HT5 := Lib.hid hT5
  clear t5 hc5 hmf5 hms5 hT35 h5 hk5 hT5 HT3 HM3 HM4 HB4 HC4 HK2 HT2 H1 HA HNx c2
  go_upto_region 5 with fail
  generalize hw5 : w4.setCell ⟨d, 0, none⟩ (.map (some w3.heap.size)) = w5 at *
  generalize w3.heap.size = mf at *
  clear c0 cf hd4 hd3
  have bB := (Below.refl w5.heap.size w5).alloc (Nat.le_refl _) (.cells #[.map (some mf)] 53)
  have HKy := Lib.hid (keys_any (some mf) w5)
  have HSo := Lib.hid (sorted_any _ w5.heap.size mf D' (HD5.out.below bB).fm (heap_alloc_new w5 _) hlen)
  have HBB := Lib.hid bB
  clear bB
  go_wp2_with (first | (go_at_call 38; go_must (refine HKy.out.mono ?_); rintro e w' ⟨rfl, rfl⟩) | (go_at_call 37; go_must (refine HSo.out.mono ?_)))
  rintro e w6 ⟨nv, rfl, o6, b6⟩
  have hb56 : Below w5.heap.size w5 w6 := HBB.out.trans (b6.mono HBB.out.size)
  have h6 := HD5.out.below hb56
  obtain ⟨na, nc, hnv, hn1, hn2⟩ := (ownsRow.reads o6).le
  subst hnv
  have hnb : ∀ x, (Value.slice na D'.length nc).ownBlock = some x → w5.heap.size ≤ x := fun x hx => Nat.le_trans HBB.out.size (ownAt_lt (OwnAt.of_owns o6) hx).2.1
  have hk6 := HK5.out.touch (Touch.of_below hb56 []) List.not_mem_nil (fun _ _ => List.not_mem_nil)
  have HNm := Lib.hid (ownsRow.reads o6)
  have HNb := Lib.hid hnb
  have HT6 := Lib.hid (HT5.out.same (Touch.of_below hb56 _))
  have H6 := Lib.hid h6
  have HK6 := Lib.hid hk6
  have hl6 : w5.heap.size ≤ w6.heap.size := hb56.size
  clear o6 b6 hb56 h6 hnb hk6 HKy HSo
  go_wp2_with fail
  go_loopw [35] (fun iv wr => CrRel w6 B d { S with mf := mf, av := .slice none 0 0, dir := D', safe := D', acts := [] } D' (cutAll S.fl D' l.tail) W.heap.size o iv wr) (fun iv _ => D'.length - (intOf iv).toNat)
  case atStart => exact ⟨0, S.sl, S.fl, l.tail, rfl, Nat.zero_le _, H6.out, HK6.out, rfl, fun _ => rfl, Touch.refl _ _⟩
  case round =>
    rename World => wr
    obtain ⟨i, sl', fl', kl, rfl, hi, hD, hK, hcut, hsl, hT⟩ := hrel
    by_cases hlt : i < D'.length
    · have hltI : (i : Int) < D'.length := by omega
      obtain ⟨p, hp⟩ : ∃ p, D'[i]? = some p := ⟨_, List.getElem?_eq_getElem hlt⟩
      obtain ⟨s, g⟩ := p
      have hmemp := List.mem_of_getElem? hp
      have hgin : g ∈ S.gs := HMe.out _ hmemp
      have hfo : fileOf D' s = some g := HLo.out.1.fileOf hmemp
      have hsz : s.size ≤ maxLen := by have := name_size (s := s) (HLo.out.2.2 _ hmemp); unfold maxLen; omega
      have hnm := hT.reads HNm.out (fun x hx e => by
        have h1 := HNb.out x hx
        rcases List.mem_cons.1 e with e | e
        · omega
        · have := (HD5.out.lt x e).1; omega)
      obtain ⟨nb, noff, hne, hnbl, s0⟩ := hnm.at (j := i) (u := .string s) (by simp [scells, hp])
      subst hne
      have dc0 := Lib.cell_of_heap hD.cell 0
      simp [Dk.cells] at dc0
      have hdr : d < wr.heap.size := (Array.getElem?_eq_some_iff.1 hD.cell).1
      have hlk : (Instr.lookup 53 (.map (some mf)) (.string s) false).run Try.prog wr = .ok (fileV (fileOf D' s)) wr := look_run1 hD.fm hsz
      rw [hfo] at hlk
      simp only [fileV] at hlk
      have hfg : FileAt wr B g (sl' g) (fl' g) := hD.fs g hgin
      obtain ⟨fa, fc, hfv, hf1, hf2⟩ := hfg.2.1.reads.le
      have f0 := Lib.cell_of_heap hfg.1 0
      have f1 := Lib.cell_of_heap hfg.1 1
      have ff := Lib.frozen_of_heap hfg.1
      simp [hfv] at f0 f1
      have hgl : g < wr.heap.size := (Array.getElem?_eq_some_iff.1 hfg.1).1
      obtain ⟨N, hN⟩ : ∃ N, (fl' g).data.length = N := ⟨_, rfl⟩
      obtain ⟨Z, hZ⟩ : ∃ Z, (fl' g).safe = Z := ⟨_, rfl⟩
      have hZN : Z ≤ N := by rw [← hZ, ← hN]; exact hfg.2.2.1
      have hN2 : N ≤ 16777216 := by rw [← hN]; exact hfg.2.2.2
      rw [hN] at f0 hf1
      rw [hZ] at f1
      have hsub : IntKind.i64.wrap ((N : Int) - (Z : Int)) = ((N - Z : Nat) : Int) := by
        obtain ⟨q, rfl⟩ := Nat.exists_eq_add_of_le hZN
        clear hN hZ hcut hlk hfo f0 f1 hf1
        rw [Nat.add_sub_cancel_left, IntKind.wrap_i64]
        omega
      have hgK : g ≠ W.heap.size := hKm g (Dk.mine_g hgin)
      obtain ⟨m, hm⟩ : ∃ m, nextE kl (N - Z) = m := ⟨_, rfl⟩
      have hml : m ≤ N - Z := by rw [← hm]; exact nextE_le _ _
      obtain ⟨r, hr⟩ : ∃ r, Z + m = r := ⟨_, rfl⟩
      have hadd : IntKind.i64.wrap ((Z : Int) + (m : Int)) = (r : Int) := by
        rw [← hr]
        clear hN hZ hm hcut hlk hfo f0 f1 hf1
        rw [IntKind.wrap_i64]
        omega
      have hrN : r ≤ N := by rw [← hr]; clear hN hZ hm hcut hlk hfo f0 f1 hf1; omega
      have HR := Lib.hid hr
      clear hr
      have HNx := Lib.hid (fun w hw => (next_any w W.heap.size kl o (N - Z) hw ho (by omega)).mono (R' := NxPost w W.heap.size kl.tail o m) fun e w' ⟨h1, h2, h3⟩ => ⟨by rw [h1, hm], h2, h3⟩)
      have hKd : KAt wr.drew W.heap.size kl o := hK.touch (Touch.refl wr []).drew List.not_mem_nil (fun _ _ => List.not_mem_nil)
      have hmi : ({ S with mf := mf, av := .slice none 0 0, dir := D', safe := D', acts := [], sl := sl', fl := fl' } : Dk).mine d = ({ S with mf := mf, av := .slice none 0 0, dir := D', safe := D', acts := [] } : Dk).mine d := mine_sub rfl rfl rfl rfl hsl
      have hin : ∀ x ∈ ({ S with mf := mf, av := .slice none 0 0, dir := D', safe := D', acts := [], sl := sl', fl := fl' } : Dk).mine d, x = mf ∨ x ∈ S.mine d := by
        intro x hx
        rw [hmi] at hx
        exact mine_fall hx
      have HMi := Lib.hid hmi
      have HKn := Lib.hid (show ∀ x ∈ ({ S with mf := mf, av := .slice none 0 0, dir := D', safe := D', acts := [], sl := sl', fl := fl' } : Dk).mine d, x ≠ W.heap.size from fun x hx => (hin x hx).elim (fun e => by rw [e]; omega) (hKm x))
      have HOm := Lib.hid (show ∀ x, o = some x → x ∉ ({ S with mf := mf, av := .slice none 0 0, dir := D', safe := D', acts := [], sl := sl', fl := fl' } : Dk).mine d from fun x hx e => (hin x e).elim (fun e => by have := (HO2.out x hx).2; omega) (HO2.out x hx).1)
      clear hmi hin
      have HK := Lib.hid hK
      have HKd := Lib.hid hKd
      have HFG := Lib.hid hfg
      have HFv := Lib.hid hfv
      have HD := Lib.hid hD
      have HT := Lib.hid hT
      have HCut := Lib.hid hcut
      have HSl := Lib.hid hsl
      have HP := Lib.hid hp
      have HGi := Lib.hid hgin
      have HNN := Lib.hid (And.intro hN (And.intro hZ hm))
      clear hK hKd hfg hfv hD hT hcut hsl hp hgin hN hZ hm hnm hfo hmemp
      go_upto_region 9 with fail
      go_region_law (first
        | (go_simp; go_at_call 46; refine (HNx.out _ (by first | exact HKd.out | exact HK.out)).mono ?_; rintro e w7 ⟨rfl, hK7, t7⟩
           have t8 : Touch wr w7 [W.heap.size] := ⟨t7.os, t7.tape, t7.output, t7.size, t7.block⟩
           have q7 := t8.keep HFG.out.1 (by simp; exact hgK)
           have x0 := Lib.cell_of_heap q7 0
           have x1 := Lib.cell_of_heap q7 1
           have xf := Lib.frozen_of_heap q7
           simp [HFv.out, HNN.out.1, HNN.out.2.1] at x0 x1
           have hg7 : g < w7.heap.size := (Array.getElem?_eq_some_iff.1 q7).1))
      all_goals
        have hq8 : (w7.setCell ⟨g, 1, none⟩ (.int .i64 (r : Int))).heap[g]? = some (.cells #[.slice fa N fc, .int .i64 (r : Int)] 65 (0, 0)) := by
          rw [heap_setCell_same _ g 1 _ _ _ q7, HFv.out, HNN.out.1]
          rfl
        have HK7 := Lib.hid hK7
        have HT8 := Lib.hid t8
        have HQ7 := Lib.hid q7
        have HQ8 := Lib.hid hq8
        clear hK7 t7 t8 q7 x0 x1 xf f0 f1 ff hq8 hlk s0 dc0 HNx HKd HK
        clear hadd
        obtain ⟨w8, hw8⟩ : ∃ w8, w7.setCell ⟨g, 1, none⟩ (.int .i64 (r : Int)) = w8 := ⟨_, rfl⟩
        rw [hw8] at HQ8 ⊢
        have HW8 := Lib.hid hw8
        clear hw8
        have y0 := Lib.cell_of_heap HQ8.out 0
        have y1 := Lib.cell_of_heap HQ8.out 1
        have yf := Lib.frozen_of_heap HQ8.out
        simp at y0 y1
        have hg8 : g < w8.heap.size := (Array.getElem?_eq_some_iff.1 HQ8.out).1
        have hrI1 : (r : Int) ≤ (N : Int) := by omega
        have hrI2 : r ≤ fc := Nat.le_trans hrN hf1
        go_wp2_with fail
        go_still_tail 16, (by kernel_rfl)
        show wpList _ _ _ _ _ w8.drew
        obtain ⟨h9, hk9, ht9⟩ := crash_step (w9 := w8.drew.setCell ⟨g, 0, none⟩ (.slice fa r r)) HD.out HGi.out HK7.out HT8.out HKn.out HOm.out (HFv.out.trans (by rw [HNN.out.1])) HNN.out.1 hrN (by rw [← HW8.out])
        have hcut9 : cutAll (updF fl' g ⟨(fl' g).data.take r, r⟩) (D'.drop (i + 1)) kl.tail = cutAll S.fl D' l.tail := by
          have h1 := HCut.out
          rw [List.drop_eq_getElem_cons hlt] at h1
          have h2 : D'[i] = (s, g) := by have := HP.out; rw [List.getElem?_eq_getElem hlt] at this; exact Option.some.inj this
          rw [h2, cutAll_cons] at h1
          have h3 : cutFl fl' g (nextE kl ((fl' g).data.length - (fl' g).safe)) = updF fl' g ⟨(fl' g).data.take r, r⟩ := by unfold cutFl; rw [HNN.out.1, HNN.out.2.1, HNN.out.2.2, HR.out]
          rw [← h3]
          exact h1
        have hsl9 : ∀ k, (updF sl' g (.slice fa r r) k).ownBlock = (S.sl k).ownBlock := fun k => by
          by_cases e : k = g
          · subst e
            rw [updF_same, ← HSl.out k, HFv.out]
            exact own_of_slice _ _ _ _ _
          · rw [updF_other _ _ e]
            exact HSl.out k
        have H9 := Lib.hid h9
        have HC9 := Lib.hid hcut9
        have HK9 := Lib.hid hk9
        have HT9 := Lib.hid (HT.out.same (by rw [← HMi.out]; exact ht9))
        have HS9 := Lib.hid hsl9
        clear h9 hcut9 hk9 ht9 hsl9 HW8 HQ7 HQ8
        go_wp2
        exact ⟨⟨i + 1, _, _, kl.tail, by go_num, hlt, H9.out, HK9.out, HC9.out, HS9.out, HT9.out⟩, by simp [intOf]; omega⟩
    · obtain rfl : i = D'.length := by omega
      have hltI : ¬ (D'.length : Int) < D'.length := by omega
      have dc5 := Lib.cell_of_heap hD.cell 5
      have dc4 := Lib.cell_of_heap hD.cell 4
      have dcf := Lib.frozen_of_heap hD.cell
      simp [Dk.cells] at dc5 dc4
      have hdr : d < wr.heap.size := (Array.getElem?_eq_some_iff.1 hD.cell).1
      rw [List.drop_length] at hcut
      have hcut : fl' = cutAll S.fl D' l.tail := hcut
      have t7 : Touch wr ((wr.setCell ⟨d, 5, none⟩ (.bool false)).setCell ⟨d, 4, none⟩ (.int .i64 (-1))) [d] := ((Touch.refl wr [d]).setCell (.inl List.mem_cons_self) _).setCell (.inl List.mem_cons_self) _
      have hc7 : ((wr.setCell ⟨d, 5, none⟩ (.bool false)).setCell ⟨d, 4, none⟩ (.int .i64 (-1))).heap[d]? = some (.cells { S with mf := mf, av := .slice none 0 0, dir := D', safe := D', acts := [], sl := sl', fl := fl', fuse := -1, down := false }.cells 56 (0, 0)) := by
        rw [heap_setCell_same _ d 4 _ _ _ (heap_setCell_same _ d 5 _ _ _ hD.cell)]
        rfl
      have h7 := hD.own t7 { S with mf := mf, av := .slice none 0 0, dir := D', safe := D', acts := [], sl := sl', fl := fl', fuse := -1, down := false } hc7 rfl HH.out.room (by show (-9223372036854775808 : Int) ≤ -1 ∧ (-1 : Int) ≤ 9223372036854775807; omega)
      rw [hcut] at h7
      have hT7 : Touch W ((wr.setCell ⟨d, 5, none⟩ (.bool false)).setCell ⟨d, 4, none⟩ (.int .i64 (-1))) (S.mine d) :=
        (HT6.out.trans hT (fun x hx => hx) (fun x hx => by
          rcases List.mem_cons.1 hx with e | e
          · exact .inr (by rw [e]; exact Nat.le_refl _)
          · exact (mine_fall e).elim (fun e => .inr (by rw [e]; omega)) .inl)).same (t7.mono (fun x hx => by rw [List.mem_singleton.1 hx]; exact Dk.mine_d d S))
      have H7 := Lib.hid h7
      have HT7 := Lib.hid hT7
      clear h7 hT7 t7 hc7 hD hK hcut hT hsl
      go_wp2
      exact bodyPost_end (by simp [results, Try.results24]) rfl ⟨rfl, HT7.out, _, ⟨mf, sl', by rw [HDe.out]⟩, H7.out⟩
end Go.Proofs.Ytbhapbioibhalaa
