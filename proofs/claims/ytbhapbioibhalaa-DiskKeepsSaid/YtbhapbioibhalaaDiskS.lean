/- A disk in memory; what stays as it is. -/
import Derived.Test.YtbhapbioibhalaaDiskName
import Derived.Test.YtbhapbioibhalaaOwnAt
namespace Go.Proofs.Ytbhapbioibhalaa
open Go Go.RowKit Go.Maps

/-- A file: its bytes, how many are safe. -/
structure Fl where
  data : List UInt8
  safe : Nat

/-- A disk: where its parts lie, and what they are. -/
structure Dk where
  (mf ms : Nat) (av : Value) (dir safe : Dir) (acts : List DAct) (gs : List Nat) (sl : Nat → Value) (fl : Nat → Fl) (room : Nat) (fuse : Int) (down : Bool)

def Dk.cells (S : Dk) : Array Value := #[.map (some S.mf), .map (some S.ms), S.av, .int .i64 (S.room : Int), .int .i64 S.fuse, .bool S.down]
def acells (l : List DAct) : List Value := l.flatMap DAct.cells
theorem DAct.cells_len (a : DAct) : a.cells.length = 3 := by cases a <;> rfl
theorem acells_length (l : List DAct) : (acells l).length = l.length * 3 := by
  induction l with
  | nil => rfl
  | cons a l ih =>
    have : acells (a :: l) = a.cells ++ acells l := rfl
    rw [this, List.length_append, a.cells_len, ih, List.length_cons]
    omega
theorem acells_snoc (l : List DAct) (a : DAct) : acells (l ++ [a]) = acells l ++ a.cells := by simp [acells]

def MapAt (W : World) (m : Nat) (l : Dir) : Prop := ∃ D, W.ownsMap Try.prog 9 fileR m l.length D ∧ IsDir D l
def FileAt (W : World) (B g : Nat) (v : Value) (f : Fl) : Prop :=
  W.heap[g]? = some (.cells #[v, .int .i64 (f.safe : Int)] 65 (0, 0)) ∧ OwnAt W B 5 1 v f.data.length (bcells f.data) ∧ f.safe ≤ f.data.length ∧ f.data.length ≤ 16777216

/-- The disk lies at d. -/
structure DAt (W : World) (B d : Nat) (S : Dk) : Prop where
  lo : B ≤ d ∧ B ≤ S.mf ∧ B ≤ S.ms ∧ ∀ g ∈ S.gs, B ≤ g
  cell : W.heap[d]? = some (.cells S.cells 56 (0, 0))
  fm : MapAt W S.mf S.dir
  sm : MapAt W S.ms S.safe
  ne : S.mf ≠ S.ms
  ac : OwnAt W B 81 3 S.av S.acts.length (acells S.acts)
  fs : ∀ g ∈ S.gs, FileAt W B g (S.sl g) (S.fl g)
  apart : ∀ g ∈ S.gs, ∀ h ∈ S.gs, g ≠ h → ∀ x, (S.sl g).ownBlock = some x → (S.sl h).ownBlock ≠ some x
  lone : Lone S.safe
  oks : okAs S.safe S.acts
  now : S.dir = runA S.safe S.acts
  mem : (∀ p ∈ S.safe, p.2 ∈ S.gs) ∧ ∀ t g, DAct.add t g ∈ S.acts → g ∈ S.gs
  room : S.room ≤ 16777216
  fuse : -9223372036854775808 ≤ S.fuse ∧ S.fuse ≤ 9223372036854775807

/-- All blocks of a disk. -/
def Dk.mine (d : Nat) (S : Dk) : List Nat := d :: S.mf :: S.ms :: (S.av.ownBlock.toList ++ S.gs ++ S.gs.filterMap fun g => (S.sl g).ownBlock)

theorem Dk.mine_d (d : Nat) (S : Dk) : d ∈ S.mine d := List.mem_cons_self
theorem Dk.mine_mf (d : Nat) (S : Dk) : S.mf ∈ S.mine d := by simp [Dk.mine]
theorem Dk.mine_ms (d : Nat) (S : Dk) : S.ms ∈ S.mine d := by simp [Dk.mine]
theorem Dk.mine_av {d : Nat} {S : Dk} {x : Nat} (h : S.av.ownBlock = some x) : x ∈ S.mine d := by simp [Dk.mine, h]
theorem Dk.mine_g {d : Nat} {S : Dk} {g : Nat} (h : g ∈ S.gs) : g ∈ S.mine d := by simp [Dk.mine, h]
theorem Dk.mine_sl {d : Nat} {S : Dk} {g x : Nat} (h : g ∈ S.gs) (hx : (S.sl g).ownBlock = some x) : x ∈ S.mine d := by
  unfold Dk.mine
  refine List.mem_cons_of_mem _ (List.mem_cons_of_mem _ (List.mem_cons_of_mem _ (List.mem_append_right _ (List.mem_filterMap.2 ⟨g, h, hx⟩))))

theorem MapAt.heap {W : World} {m : Nat} {l : Dir} (h : MapAt W m l) : ∃ es clock, W.heap[m]? = some (.map es clock) := by
  obtain ⟨D, ⟨es, clock, hm, _⟩, _⟩ := h
  exact ⟨es, clock, hm⟩
theorem MapAt.touch {W W' : World} {m : Nat} {l : Dir} {bs : List Nat} (h : MapAt W m l) (t : Touch W W' bs) (hn : m ∉ bs) : MapAt W' m l := by
  obtain ⟨D, h1, h2⟩ := h
  exact ⟨D, t.keepMap h1 hn, h2⟩
theorem ownAt_touch {W W' : World} {B n s : Nat} {e : TypeId} {v : Value} {xs : List Value} {bs : List Nat} (h : OwnAt W B e s v n xs) (t : Touch W W' bs) (hn : ∀ g, v.ownBlock = some g → g ∉ bs) : OwnAt W' B e s v n xs :=
  ⟨h.1, h.2.imp id fun ⟨g, off, cap, cur, h1, h2, h3, h4⟩ => ⟨g, off, cap, cur, h1, h2, t.keep h3 (hn g (by rw [h1]; rfl)), h4⟩⟩
theorem FileAt.touch {W W' : World} {B g : Nat} {v : Value} {f : Fl} {bs : List Nat} (h : FileAt W B g v f) (t : Touch W W' bs) (hg : g ∉ bs) (hn : ∀ g, v.ownBlock = some g → g ∉ bs) : FileAt W' B g v f :=
  ⟨t.keep h.1 hg, ownAt_touch h.2.1 t hn, h.2.2⟩

theorem ne_map_cells {W : World} {a b : Nat} {es : Array MapEntry} {clock : Nat} {cs : Array Value} {e : TypeId} {fz : Nat × Nat} (h : W.heap[a]? = some (.map es clock)) (k : W.heap[b]? = some (.cells cs e fz)) : a ≠ b := fun e => by
  rw [e, k] at h
  cases h
theorem ne_cells_cells {W : World} {a b : Nat} {cs ds : Array Value} {e f : TypeId} {fz gz : Nat × Nat} (h : W.heap[a]? = some (.cells cs e fz)) (k : W.heap[b]? = some (.cells ds f gz)) (hne : e ≠ f) : a ≠ b := fun e => by
  rw [e, k] at h
  injection h with h
  injection h with _ h _
  exact hne h.symm
theorem ownAt_map {W : World} {B n s : Nat} {e : TypeId} {v : Value} {xs : List Value} (h : OwnAt W B e s v n xs) {m : Nat} {es : Array MapEntry} {clock : Nat} (hm : W.heap[m]? = some (.map es clock)) : v.ownBlock ≠ some m := by
  rcases h.2 with ⟨rfl, _⟩ | ⟨g', off, cap, cur, rfl, _, hh, _⟩
  · simp [Value.ownBlock]
  · intro h
    simp [Value.ownBlock] at h
    exact ne_map_cells hm hh h.symm
theorem ownAt_lt {W : World} {B n s : Nat} {e : TypeId} {v : Value} {xs : List Value} (h : OwnAt W B e s v n xs) {g : Nat} (hg : v.ownBlock = some g) : g < W.heap.size ∧ B ≤ g ∧ ∃ cur, W.heap[g]? = some (.cells cur e (0, 0)) := by
  rcases h.2 with ⟨rfl, _⟩ | ⟨g', off, cap, cur, rfl, hB, hh, _⟩
  · simp [Value.ownBlock] at hg
  · simp [Value.ownBlock] at hg
    subst hg
    exact ⟨(Array.getElem?_eq_some_iff.1 hh).1, hB, cur, hh⟩

variable {W : World} {B d : Nat} {S : Dk}

/-- The parts of a disk lie apart. -/
structure Apt (d : Nat) (S : Dk) : Prop where
  dm : d ≠ S.mf ∧ d ≠ S.ms
  gm : ∀ g ∈ S.gs, g ≠ d ∧ g ≠ S.mf ∧ g ≠ S.ms
  am : ∀ x, S.av.ownBlock = some x → x ≠ d ∧ x ≠ S.mf ∧ x ≠ S.ms ∧ x ∉ S.gs
  sm : ∀ g ∈ S.gs, ∀ x, (S.sl g).ownBlock = some x → x ≠ d ∧ x ≠ S.mf ∧ x ≠ S.ms ∧ x ∉ S.gs ∧ S.av.ownBlock ≠ some x

theorem DAt.apt (h : DAt W B d S) : Apt d S := by
  obtain ⟨e1, c1, m1⟩ := h.fm.heap
  obtain ⟨e2, c2, m2⟩ := h.sm.heap
  refine ⟨⟨(ne_map_cells m1 h.cell).symm, (ne_map_cells m2 h.cell).symm⟩, fun g hg => ?_, fun x hx => ?_, fun g hg x hx => ?_⟩
  · have k := (h.fs g hg).1
    exact ⟨ne_cells_cells k h.cell (by decide), (ne_map_cells m1 k).symm, (ne_map_cells m2 k).symm⟩
  · obtain ⟨_, _, cur, k⟩ := ownAt_lt h.ac hx
    exact ⟨ne_cells_cells k h.cell (by decide), (ne_map_cells m1 k).symm, (ne_map_cells m2 k).symm, fun hg => ne_cells_cells k (h.fs x hg).1 (by decide) rfl⟩
  · obtain ⟨_, _, cur, k⟩ := ownAt_lt (h.fs g hg).2.1 hx
    exact ⟨ne_cells_cells k h.cell (by decide), (ne_map_cells m1 k).symm, (ne_map_cells m2 k).symm, fun hg => ne_cells_cells k (h.fs x hg).1 (by decide) rfl, fun ha => by
      obtain ⟨_, _, cur', k'⟩ := ownAt_lt h.ac ha
      exact ne_cells_cells k' k (by decide) rfl⟩

theorem DAt.lt (h : DAt W B d S) : ∀ x ∈ S.mine d, x < W.heap.size ∧ B ≤ x := by
  obtain ⟨e1, c1, m1⟩ := h.fm.heap
  obtain ⟨e2, c2, m2⟩ := h.sm.heap
  intro x hx
  unfold Dk.mine at hx
  simp only [List.mem_cons, List.mem_append, Option.mem_toList, List.mem_filterMap] at hx
  rcases hx with rfl | rfl | rfl | (hx | hx) | ⟨g, hg, hx⟩
  · exact ⟨(Array.getElem?_eq_some_iff.1 h.cell).1, h.lo.1⟩
  · exact ⟨(Array.getElem?_eq_some_iff.1 m1).1, h.lo.2.1⟩
  · exact ⟨(Array.getElem?_eq_some_iff.1 m2).1, h.lo.2.2.1⟩
  · exact ⟨(ownAt_lt h.ac hx).1, (ownAt_lt h.ac hx).2.1⟩
  · exact ⟨(Array.getElem?_eq_some_iff.1 (h.fs x hx).1).1, h.lo.2.2.2 x hx⟩
  · exact ⟨(ownAt_lt (h.fs g hg).2.1 hx).1, (ownAt_lt (h.fs g hg).2.1 hx).2.1⟩

/-- Nothing of the disk is touched. -/
theorem DAt.keep {W' : World} (h : DAt W B d S) {bs : List Nat} (t : Touch W W' bs) (hn : ∀ x ∈ S.mine d, x ∉ bs) : DAt W' B d S where
  lo := h.lo
  cell := t.keep h.cell (hn _ (Dk.mine_d d S))
  fm := h.fm.touch t (hn _ (Dk.mine_mf d S))
  sm := h.sm.touch t (hn _ (Dk.mine_ms d S))
  ne := h.ne
  ac := ownAt_touch h.ac t fun _ hg => hn _ (Dk.mine_av hg)
  fs := fun g hg => (h.fs g hg).touch t (hn _ (Dk.mine_g hg)) fun _ hx => hn _ (Dk.mine_sl hg hx)
  apart := h.apart
  lone := h.lone
  oks := h.oks
  now := h.now
  mem := h.mem
  room := h.room
  fuse := h.fuse

theorem DAt.below {W' : World} (h : DAt W B d S) (b : Below W.heap.size W W') : DAt W' B d S := h.keep (Touch.of_below b []) fun _ _ => List.not_mem_nil

/-- The disk's own cells alone are written. -/
theorem DAt.own {W' : World} (h : DAt W B d S) (t : Touch W W' [d]) (S' : Dk) (hc : W'.heap[d]? = some (.cells S'.cells 56 (0, 0)))
    (e : S' = { S with room := S'.room, fuse := S'.fuse, down := S'.down }) (hr : S'.room ≤ 16777216) (hf : -9223372036854775808 ≤ S'.fuse ∧ S'.fuse ≤ 9223372036854775807) : DAt W' B d S' := by
  have hap := h.apt
  have e1 : S'.mf = S.mf := by rw [e]
  have e2 : S'.ms = S.ms := by rw [e]
  have e3 : S'.av = S.av := by rw [e]
  have e4 : S'.dir = S.dir := by rw [e]
  have e5 : S'.safe = S.safe := by rw [e]
  have e6 : S'.acts = S.acts := by rw [e]
  have e7 : S'.gs = S.gs := by rw [e]
  have e8 : S'.sl = S.sl := by rw [e]
  have e9 : S'.fl = S.fl := by rw [e]
  refine ⟨?_, hc, ?_, ?_, ?_, ?_, ?_, ?_, ?_, ?_, ?_, ?_, hr, hf⟩ <;> simp only [e1, e2, e3, e4, e5, e6, e7, e8, e9]
  · exact h.lo
  · exact h.fm.touch t (by simp; exact hap.dm.1.symm)
  · exact h.sm.touch t (by simp; exact hap.dm.2.symm)
  · exact h.ne
  · exact ownAt_touch h.ac t fun g hg => by simp; exact (hap.am g hg).1
  · exact fun g hg => (h.fs g hg).touch t (by simp; exact (hap.gm g hg).1) fun x hx => by simp; exact (hap.sm g hg x hx).1
  · exact h.apart
  · exact h.lone
  · exact h.oks
  · exact h.now
  · exact h.mem

def Dk.burn (S : Dk) : Dk := if S.fuse = 0 then { S with down := true } else if 0 < S.fuse then { S with fuse := S.fuse - 1 } else S
def Dk.burnE (S : Dk) : Int := if S.fuse = 0 then 6 else 0

def BurnPost (W : World) (B d : Nat) (S : Dk) (e : Ending) (W' : World) : Prop := e = .returned (.int .i64 S.burnE) ∧ DAt W' B d S.burn ∧ Touch W W' [d]

set_option maxRecDepth 100000 in
set_option maxHeartbeats 1000000 in
theorem burn_any (h : DAt W B d S) : Calls Try.prog 44 #[.pointer (some ⟨d, 0, none⟩)] W (BurnPost W B d S) := by
  have HH := Lib.hid h
  have c4 := Lib.cell_of_heap h.cell 4
  have c5 := Lib.cell_of_heap h.cell 5
  have hf := Lib.frozen_of_heap h.cell
  have HC := Lib.hid h.cell
  have hlt : d < W.heap.size := (Array.getElem?_eq_some_iff.1 h.cell).1
  obtain ⟨hf1, hf2⟩ := h.fuse
  have HF := Lib.hid h.fuse
  simp [Dk.cells] at c4 c5
  clear h
  obtain ⟨z, hz⟩ : ∃ z, S.fuse = z := ⟨_, rfl⟩
  rw [hz] at c4 hf1 hf2
  have HZ := Lib.hid hz
  clear hz
  go_enter Try.func44, Try.ntmps44
  by_cases h0 : z = 0
  · have hb : S.burn = { S with down := true } := by unfold Dk.burn; rw [if_pos (HZ.out.trans h0)]
    have he : S.burnE = 6 := by unfold Dk.burnE; rw [if_pos (HZ.out.trans h0)]
    have HBu := Lib.hid hb
    have HE := Lib.hid he
    clear hb he
    subst h0
    go_wp2
    go_ret
    have t1 : Touch W (W.setCell ⟨d, 5, none⟩ (.bool true)) [d] := (Touch.refl _ _).setCell (.inl (by simp)) _
    refine ⟨by rw [HE.out]; rfl, ?_, t1⟩
    rw [HBu.out]
    exact HH.out.own t1 _ (by rw [heap_setCell_same _ d 5 _ _ _ HC.out]; rfl) rfl HH.out.room HF.out
  · by_cases h1 : 0 < z
    · have hw : IntKind.i64.wrap (z - 1) = z - 1 := by rw [IntKind.wrap_i64]; omega
      have hb : S.burn = { S with fuse := z - 1 } := by unfold Dk.burn; rw [if_neg (by rw [HZ.out]; exact h0), if_pos (by rw [HZ.out]; exact h1), HZ.out]
      have he : S.burnE = 0 := by unfold Dk.burnE; rw [if_neg (by rw [HZ.out]; exact h0)]
      have HBu := Lib.hid hb
      have HE := Lib.hid he
      clear hb he
      go_wp2
      go_ret
      have t1 : Touch W (W.setCell ⟨d, 4, none⟩ (.int .i64 (z - 1))) [d] := (Touch.refl _ _).setCell (.inl (by simp)) _
      refine ⟨by rw [HE.out]; rfl, ?_, t1⟩
      rw [HBu.out]
      exact HH.out.own t1 _ (by rw [heap_setCell_same _ d 4 _ _ _ HC.out]; rfl) rfl HH.out.room (by show -9223372036854775808 ≤ z - 1 ∧ z - 1 ≤ 9223372036854775807; omega)
    · have hb : S.burn = S := by unfold Dk.burn; rw [if_neg (by rw [HZ.out]; exact h0), if_neg (by rw [HZ.out]; exact h1)]
      have he : S.burnE = 0 := by unfold Dk.burnE; rw [if_neg (by rw [HZ.out]; exact h0)]
      have HBu := Lib.hid hb
      have HE := Lib.hid he
      clear hb he
      go_wp2
      go_ret
      refine ⟨by rw [HE.out]; rfl, ?_, Touch.refl _ _⟩
      rw [HBu.out]
      exact HH.out
end Go.Proofs.Ytbhapbioibhalaa
