/- do: what it wants, what it leaves. -/
import Derived.Test.YtbhapbioibhalaaDiskRefH
namespace Go.Proofs.Ytbhapbioibhalaa
open Go Go.RowKit Go.Maps

structure DoArgs (W : World) (B d r : Nat) (S : Dk) (A C : ByteArray) (ba : Option Addr) (m bc : Nat) (l : List UInt8) : Prop where
  dk : DAt W B d S
  rf : R0 W r
  rn : r ∉ S.mine d
  hA : A.size ≤ 1000000000
  hC : C.size ≤ 1000000000
  hac : S.acts.length ≤ 1000000
  hg : S.gs.length ≤ 1000000
  hb : Reads W 1 (.slice ba m bc) m (bcells l)
  hl : l.length = m
  hm : m ≤ 1000000000
  hv : l ≠ [] → ∀ x, (Value.slice ba m bc).ownBlock = some x → x ∉ S.mine d ∧ x ≠ r

/-- What is left: a state, the rest as it was. -/
def DoEnd (W : World) (B d r : Nat) (S : Dk) (P : Dk → Prop) (e : Ending) (W' : World) : Prop :=
  (∃ b, e = .returned (.bool b)) ∧ ∃ T, P T ∧ DAt W' B d T ∧ Touch W W' (r :: S.mine d)

variable {W w1 w : World} {B d r : Nat} {S : Dk} {A C : ByteArray} {ba : Option Addr} {m bc : Nat} {l : List UInt8}

theorem DoArgs.fresh (h : DoArgs W B d r S A C ba m bc l) : W.heap.size ∉ S.mine d ∧ W.heap.size ∉ [r] :=
  ⟨fun e => Nat.lt_irrefl _ (h.dk.lt _ e).1, fun e => by have := h.rf.lt; have e := List.mem_singleton.1 e; omega⟩

/-- The program's calls, behind the reference's or not. -/
structure ProgP (w : World) (B d : Nat) (S : Dk) (A C : ByteArray) (ba : Option Addr) (m bc : Nat) (l : List UInt8) (W : World) : Prop where
  create : Calls Try.prog 20 #[.pointer (some ⟨d, 0, none⟩), .string A] w (Ends w B d S (createE S A) (fun T => ∃ wq : World, W.heap.size ≤ wq.heap.size ∧ CreateS wq S A T))
  append : Calls Try.prog 21 #[.pointer (some ⟨d, 0, none⟩), .string A, .slice ba m bc] w (Ends w B d S (appendE S A l.length) (FileS S A (appendE S A l.length) fun f => ⟨f.data ++ l, f.safe⟩))
  sync : Calls Try.prog 22 #[.pointer (some ⟨d, 0, none⟩), .string A] w (Ends w B d S (syncE S A) (FileS S A (syncE S A) fun f => ⟨f.data, f.data.length⟩))
  rename : Calls Try.prog 27 #[.pointer (some ⟨d, 0, none⟩), .string A, .string C] w (Ends w B d S (renameE S A C) (ActS S A (.mv A C) (renameE S A C)))
  remove : Calls Try.prog 26 #[.pointer (some ⟨d, 0, none⟩), .string A] w (Ends w B d S (removeE S A) (ActS S A (.rm A) (removeE S A)))
  syncdir : Calls Try.prog 23 #[.pointer (some ⟨d, 0, none⟩)] w (Ends w B d S (syncdirE S) (SyncDirS S))

theorem DoArgs.prog (h : DoArgs W B d r S A C ba m bc l) (b : Below W.heap.size W w1) (t : Touch w1 w [r]) : ProgP w B d S A C ba m bc l W := by
  have hd : DAt w B d S := (h.dk.below b).keep t (fun x hx e => h.rn (by rw [← List.mem_singleton.1 e]; exact hx))
  have hdl : S.dir.length ≤ 1000000 := Nat.le_trans h.dk.dirlen h.hg
  have hb : Reads w 1 (.slice ba m bc) m (bcells l) := touch_reads0 t (h.hb.below' b) (fun hne x hx e => (h.hv hne x hx).2 (List.mem_singleton.1 e))
  have hsz : W.heap.size ≤ w.heap.size := Nat.le_trans b.size t.size
  refine ⟨(create_any hd A h.hA h.hac).mono fun e w' ⟨h1, h2, T, h3, h4⟩ => ⟨h1, h2, T, ⟨w, hsz, h3⟩, h4⟩, ?_, sync_any hd A h.hA, rename_any hd A C h.hA h.hC h.hac hdl, remove_any hd A h.hA h.hac hdl, syncdir_any hd h.hg⟩
  have := append_any hd A h.hA hdl (.slice ba m bc) l (by rw [h.hl]; exact hb) (by rw [h.hl]; exact h.hm) (fun hne x hx => (h.hv hne x hx).1)
  exact this

structure RefP (w : World) (r : Nat) (A C : ByteArray) (ba : Option Addr) (m bc : Nat) : Prop where
  create : Calls Try.prog 28 #[.pointer (some ⟨r, 0, none⟩), .string A] w (REnd w r)
  append : Calls Try.prog 29 #[.pointer (some ⟨r, 0, none⟩), .string A, .slice ba m bc] w (REnd w r)
  sync : Calls Try.prog 30 #[.pointer (some ⟨r, 0, none⟩), .string A] w (REnd w r)
  rename : Calls Try.prog 32 #[.pointer (some ⟨r, 0, none⟩), .string A, .string C] w (REnd w r)
  remove : Calls Try.prog 33 #[.pointer (some ⟨r, 0, none⟩), .string A] w (REnd w r)
  syncdir : Calls Try.prog 31 #[.pointer (some ⟨r, 0, none⟩)] w (REnd w r)
  read : Calls Try.prog 19 #[.pointer (some ⟨r, 0, none⟩), .string A] w (RRead w r)
  fuse : ∀ n, Calls Try.prog 34 #[.pointer (some ⟨r, 0, none⟩), .int .i64 n] w (RVoid w r)

theorem DoArgs.ref (h : DoArgs W B d r S A C ba m bc l) (b : Below W.heap.size W w1) (t : Touch w1 w (S.mine d)) : RefP w r A C ba m bc := by
  have hr : R0 w r := t.keep (h.rf.below b) h.rn
  exact ⟨rcreate0 hr A h.hA, rappend0 hr A h.hA ba m bc, rsync0 hr A h.hA, rrename0 hr A C ⟨h.hA, h.hC⟩, rremove0 hr A h.hA, rsyncdir0 hr, rread0 hr A h.hA, fun n => rfuse0 hr n⟩

theorem DAt.notRef (h : DAt W B d S) {cs : Array Value} {fz : Nat × Nat} (hr : W.heap[r]? = some (.cells cs 61 fz)) : r ∉ S.mine d := by
  obtain ⟨e1, c1, m1⟩ := h.fm.heap
  obtain ⟨e2, c2, m2⟩ := h.sm.heap
  intro hx
  unfold Dk.mine at hx
  simp only [List.mem_cons, List.mem_append, Option.mem_toList, List.mem_filterMap] at hx
  rcases hx with e | e | e | (hx | hx) | ⟨g, hg, hx⟩
  · exact ne_cells_cells hr h.cell (by decide) e
  · exact ne_map_cells m1 hr e.symm
  · exact ne_map_cells m2 hr e.symm
  · obtain ⟨_, _, cur, k⟩ := ownAt_lt h.ac hx
    exact ne_cells_cells hr k (by decide) rfl
  · exact ne_cells_cells hr (h.fs r hx).1 (by decide) rfl
  · obtain ⟨_, _, cur, k⟩ := ownAt_lt (h.fs g hg).2.1 hx
    exact ne_cells_cells hr k (by decide) rfl

/-- Behind both calls. -/
theorem DoArgs.ends (h : DoArgs W B d r S A C ba m bc l) (b : Below W.heap.size W w1) {w7 w8 w9 : World} {T : Dk} (hs : (Touch w1 w7 (S.mine d) ∧ Touch w7 w8 [r] ∧ w9 = w8) ∨ (Touch w1 w8 [r] ∧ Touch w8 w7 (S.mine d) ∧ w9 = w7)) (hd : DAt w7 B d T) : DAt w9 B d T ∧ Touch W w9 (r :: S.mine d) := by
  have hbt := Touch.of_below b (r :: S.mine d)
  rcases hs with ⟨t1, t2, rfl⟩ | ⟨t1, t2, rfl⟩
  · have hr : R0 w7 r := t1.keep (h.rf.below b) h.rn
    exact ⟨hd.keep t2 (fun x hx e => hd.notRef hr (by rw [← List.mem_singleton.1 e]; exact hx)), (hbt.same (t1.mono fun x hx => List.mem_cons_of_mem _ hx)).same (t2.mono fun x hx => by rw [List.mem_singleton.1 hx]; exact List.mem_cons_self)⟩
  · exact ⟨hd, (hbt.same (t1.mono fun x hx => by rw [List.mem_singleton.1 hx]; exact List.mem_cons_self)).same (t2.mono fun x hx => List.mem_cons_of_mem _ hx)⟩
end Go.Proofs.Ytbhapbioibhalaa
