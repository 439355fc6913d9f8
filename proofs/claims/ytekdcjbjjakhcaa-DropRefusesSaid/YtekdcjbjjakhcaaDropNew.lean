/- drop.Newest. -/
import Derived.Test.YtekdcjbjjakhcaaDropKeep2
namespace Go.Proofs.Ytekdcjbjjakhcaa
open Go Go.RowKit

def newestOf (l : List Ent) : Nat := l.foldl (fun n x => max n x.rev) 0

theorem newestOf_snoc (l : List Ent) (x : Ent) : newestOf (l ++ [x]) = max (newestOf l) x.rev := by simp [newestOf]

def newOut (ks : List ByteArray) : Nat := match decs ks with
  | none => 0
  | some es => if rises ks then newestOf es else 0

def NB (N : Nat) (xs : List KE) (w : World) : Prop := w.heap[N]? = some (Obj.cells #[.int .u64 (newestOf (xs.map (·.2)) : Int)] 23 (0, 0)) ∧ N + 1 ≤ w.heap.size

theorem NB.below {N : Nat} {xs : List KE} {w w' : World} (h : NB N xs w) (hb : Below w.heap.size w w') : NB N xs w' := ⟨(hb.block _ h.2).trans h.1, Nat.le_trans h.2 hb.size⟩

def NPost (N : Nat) (xs : List KE) (w : World) (e : Ending) (w' : World) : Prop := e = .returned (.tuple #[]) ∧ NB N xs w' ∧ FrameE N w w'

theorem enter41 (args : Array Value) (w : World) : (callFunc 41 args).run Try.prog w = .ok (.enter 41 args) w := by kernel_rfl

set_option maxRecDepth 100000 in
set_option maxHeartbeats 2000000 in
theorem new41 (N : Nat) (xs : List KE) (w : World) (x : KE) (h : NB N xs w) :
    Calls Try.prog 41 #[.string x.1, entV x.2, .pointer (some ⟨N, 0, none⟩)] w (NPost N (xs ++ [x]) w) := by
  obtain ⟨k, key, rev, del⟩ := x
  obtain ⟨h1, h2⟩ := h
  have hne : newestOf ((xs ++ [(k, (⟨key, rev, del⟩ : Ent))]).map (·.2)) = max (newestOf (xs.map (·.2))) rev := by
    rw [List.map_append]
    exact newestOf_snoc _ _
  generalize newestOf (xs.map (·.2)) = m at *
  have l0 := (Array.getElem?_eq_some_iff.1 h1).1
  have q0 := Lib.cell_of_heap h1 0
  have z0 := Lib.frozen_of_heap h1
  simp at q0
  have hst := heap_setCell_same w N 0 _ _ (.int .u64 ((max m rev : Nat) : Int)) h1
  have hfr : FrameE N w ((w.setCell ⟨N, 0, none⟩ (.int .u64 ((max m rev : Nat) : Int))).alloc (.cells #[.string key, .int .u64 (rev : Int), .bool del] 48)) :=
    (FrameE.trans (⟨(Below.refl N w).setCell (p := ⟨N, 0, none⟩) (Nat.le_refl _) _, fun g cs fz hc => (heap_setCell_other w ⟨N, 0, none⟩ g _ (fun e => by
      have e : g = N := e
      subst e
      rw [h1] at hc
      injection hc with hc
      injection hc with _ h _
      exact absurd h (by decide))).trans hc⟩ : FrameE N w (w.setCell ⟨N, 0, none⟩ (.int .u64 ((max m rev : Nat) : Int))))
      (FrameE.of_below ((Below.refl _ _).alloc (Nat.le_refl _) _) (by simp; omega)))
  have hnb : NB N (xs ++ [(k, (⟨key, rev, del⟩ : Ent))]) ((w.setCell ⟨N, 0, none⟩ (.int .u64 ((max m rev : Nat) : Int))).alloc (.cells #[.string key, .int .u64 (rev : Int), .bool del] 48)) := by
    refine ⟨?_, by simp; omega⟩
    rw [hne, heap_alloc_old _ _ (by simpa using l0), hst]
    simp
  have HF := Lib.hid hfr
  have HN := Lib.hid hnb
  clear h1 h2 hne hst hfr hnb
  unfold entV
  dsimp only
  have e1 : ((max m rev : Nat) : Int) = max (m : Int) (rev : Int) := by omega
  rw [e1] at HF HN
  clear e1
  go_enter Try.func41, Try.ntmps41
  go_wp2
  exact bodyPost_end (by simp [results, Try.results41]) rfl ⟨rfl, HN.out, HF.out⟩

def NewPost (w : World) (ks : List ByteArray) (e : Ending) (w' : World) : Prop := e = .returned (.tuple #[.int .u64 (newOut ks : Int), .int .i64 (errOf ks : Int)]) ∧ Below w.heap.size w w'

set_option maxRecDepth 100000 in
set_option maxHeartbeats 4000000 in
theorem newest_any (w : World) (a : Option Addr) (n cap : Nat) (ks : List ByteArray) (hr : Reads w 1 (.slice a n cap) n (scells ks)) (hsz : ∀ k ∈ ks, k.size ≤ 1000000) (hn : n ≤ 1000) :
    Calls Try.prog 16 #[.slice a n cap] w (NewPost w ks) := by
  have hmf : ∀ (fn : Fn) (first cap : Array Value) (w : World), (Instr.makeFunc fn first cap).run Try.prog w = .ok (.func fn first cap) w := fun _ _ _ _ => rfl
  have HR := Lib.hid hr
  have HS := Lib.hid hsz
  clear hr hsz
  go_enter Try.func16, Try.ntmps16
  go_wp2_with (go_at_call 40; fail)
  have h1 := heap_alloc_new w (.cells #[.int .u64 0] 23)
  have s1 : (w.alloc (.cells #[.int .u64 0] 23)).heap.size = w.heap.size + 1 := by simp
  have hb1 : Below w.heap.size w (w.alloc (.cells #[.int .u64 0] 23)) := (Below.refl _ _).alloc (Nat.le_refl _) _
  generalize hN : w.heap.size = N at *
  generalize w.alloc (.cells #[.int .u64 0] 23) = w3 at *
  have hnb : NB N [] w3 := ⟨h1, by omega⟩
  have hvis : ∀ es, decs ks = some es → rises ks → Visits N (ks.zip es) 41 #[.pointer (some ⟨N, 0, none⟩)] (NB N) := fun es hd _ =>
    ⟨enter41, fun i x w' hx hJ _ => by
      have hk := new41 N _ w' x hJ
      have e : (ks.zip es).take (i + 1) = (ks.zip es).take i ++ [x] := by rw [List.take_add_one, hx]; rfl
      rw [e]
      exact hk.mono fun e w'' h => h⟩
  have hea := each_any N w3 a n cap ks (fun w' hb => by subst hN; exact HR.out.below' (hb1.trans hb)) HS.out hn (by omega) _ _ _ (fun w' hb => hnb.below hb) hvis
  have HEa := Lib.hid hea
  have HB3 := Lib.hid hb1
  clear hea hvis hnb hb1 h1 s1
  refine HEa.out.mono ?_
  rintro e w6 ⟨rfl, hb6, hd6⟩
  have hcell : w6.heap[N]? = some (Obj.cells #[.int .u64 (newOut ks : Int)] 23 (0, 0)) := by
    unfold newOut
    rcases hd6 with ⟨es, hd, hr, h1, _⟩ | ⟨hn, h1, _⟩
    · rw [hd]
      show _ = some (Obj.cells #[.int .u64 ((if rises ks then newestOf es else 0 : Nat) : Int)] 23 (0, 0))
      rw [if_pos hr, h1]
      have hl := (decs_some hd).1
      rw [List.map_snd_zip (by omega)]
    · have h1 : w6.heap[N]? = some (Obj.cells #[.int .u64 0] 23 (0, 0)) := h1
      rcases hn with hn | hn
      · rw [hn]; exact h1
      · cases decs ks with
        | none => exact h1
        | some es =>
          show _ = some (Obj.cells #[.int .u64 ((if rises ks then newestOf es else 0 : Nat) : Int)] 23 (0, 0))
          rw [if_neg hn]
          exact h1
  have HB6 := Lib.hid (HB3.out.trans hb6)
  have q1 := Lib.cell_of_heap hcell 0
  simp at q1
  have hf0 : NewPost w ks (.returned (.tuple #[.int .u64 (newOut ks : Int), .int .i64 (errOf ks : Int)])) w6 := ⟨rfl, by rw [hN]; exact HB6.out⟩
  have HFin := Lib.hid hf0
  clear hb6 hd6 hcell hf0
  generalize newOut ks = m at *
  generalize errOf ks = er at *
  go_wp2
  go_ret2
  exact HFin.out
end Go.Proofs.Ytekdcjbjjakhcaa
