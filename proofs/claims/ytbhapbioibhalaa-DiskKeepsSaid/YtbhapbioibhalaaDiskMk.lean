/- Create, Remove, Rename, Fuse, New. -/
import Derived.Test.YtbhapbioibhalaaDiskTurn
namespace Go.Proofs.Ytbhapbioibhalaa
open Go Go.RowKit Go.Maps

def updF {α : Type} (f : Nat → α) (g : Nat) (x : α) : Nat → α := fun k => if k = g then x else f k
theorem updF_same {α : Type} (f : Nat → α) (g : Nat) (x : α) : updF f g x g = x := if_pos rfl
theorem updF_other {α : Type} (f : Nat → α) {g k : Nat} (x : α) (h : k ≠ g) : updF f g x k = f k := if_neg h

theorem mem_run : ∀ {xs : List DAct} {l : Dir}, Lone l → okAs l xs → ∀ p ∈ runA l xs, (∃ q ∈ l, q.2 = p.2) ∨ ∃ t, DAct.add t p.2 ∈ xs
  | [], _, _, _, p, hp => .inl ⟨p, hp, rfl⟩
  | a :: r, l, hl, ho, p, hp => by
    rcases mem_run (xs := r) (l := stepA l a) (hl.step ho.1) ho.2 p hp with ⟨q, hq, e⟩ | ⟨t, ht⟩
    · cases a with
      | add t g =>
        rcases (mem_putD hl.1).1 hq with e1 | e1
        · subst e1
          exact .inr ⟨t, by rw [← e]; simp⟩
        · exact .inl ⟨q, e1.1, e⟩
      | mv f t =>
        obtain ⟨_, _, g, hg⟩ := ho.1
        have hq' : q ∈ putD (delD l f) t g := by
          have h : stepA l (.mv f t) = putD (delD l f) t g := by show (match fileOf l f with | some g => putD (delD l f) t g | none => delD l f) = _; rw [hg]
          rwa [h] at hq
        rcases (mem_putD (hl.1.del f)).1 hq' with e1 | e1
        · subst e1
          exact .inl ⟨_, fileOf_mem hg, e⟩
        · exact .inl ⟨q, (mem_delD.1 e1.1).1, e⟩
      | rm f => exact .inl ⟨q, (mem_delD.1 hq).1, e⟩
    · exact .inr ⟨t, List.mem_cons_of_mem _ ht⟩

variable {W : World} {B d : Nat} {S : Dk}

theorem DAt.dirmem (h : DAt W B d S) : ∀ p ∈ S.dir, p.2 ∈ S.gs := by
  intro p hp
  rw [h.now] at hp
  rcases mem_run h.lone h.oks p hp with ⟨q, hq, e⟩ | ⟨t, ht⟩
  · rw [← e]
    exact h.mem.1 q hq
  · exact h.mem.2 t _ ht
theorem DAt.dirlone (h : DAt W B d S) : Lone S.dir := by
  rw [h.now]
  exact h.lone.run h.oks
theorem DAt.fileIn (h : DAt W B d S) {s : ByteArray} {g : Nat} (hf : fileOf S.dir s = some g) : g ∈ S.gs := h.dirmem _ (fileOf_mem hf)

/-- A file that no name stands for. -/
def Dk.addF (S : Dk) (g : Nat) : Dk := { S with gs := g :: S.gs, sl := updF S.sl g (.slice none 0 0), fl := updF S.fl g ⟨[], 0⟩ }

theorem DAt.addF (h : DAt W B d S) {g : Nat} (hg : W.heap[g]? = some (.cells #[.slice none 0 0, .int .i64 0] 65 (0, 0))) (hn : g ∉ S.gs) (hB : B ≤ g) : DAt W B d (S.addF g) := by
  have hold : ∀ x ∈ S.gs, x ≠ g := fun x hx e => hn (e ▸ hx)
  refine ⟨⟨h.lo.1, h.lo.2.1, h.lo.2.2.1, fun x hx => ?_⟩, h.cell, h.fm, h.sm, h.ne, h.ac, fun x hx => ?_, fun x hx y hy hxy z hz => ?_, h.lone, h.oks, h.now, ⟨fun p hp => List.mem_cons_of_mem _ (h.mem.1 p hp), fun t x hx => List.mem_cons_of_mem _ (h.mem.2 t x hx)⟩, h.room, h.fuse⟩
  · rcases List.mem_cons.1 hx with e | e
    · rw [e]; exact hB
    · exact h.lo.2.2.2 x e
  · by_cases e : x = g
    · subst e
      show FileAt W B x (updF S.sl x _ x) (updF S.fl x _ x)
      rw [updF_same, updF_same]
      exact ⟨hg, ⟨rfl, .inl ⟨rfl, rfl⟩⟩, Nat.le_refl _, Nat.zero_le _⟩
    · show FileAt W B x (updF S.sl g _ x) (updF S.fl g _ x)
      rw [updF_other _ _ e, updF_other _ _ e]
      exact h.fs x ((List.mem_cons.1 hx).resolve_left e)
  · have hz' : (updF S.sl g (.slice none 0 0) x).ownBlock = some z := hz
    show (updF S.sl g (.slice none 0 0) y).ownBlock ≠ some z
    by_cases e : x = g
    · subst e
      rw [updF_same] at hz'
      cases hz'
    · rw [updF_other _ _ e] at hz'
      by_cases e2 : y = g
      · subst e2
        rw [updF_same]
        intro e3
        cases e3
      · rw [updF_other _ _ e2]
        exact h.apart x ((List.mem_cons.1 hx).resolve_left e) y ((List.mem_cons.1 hy).resolve_left e2) hxy z hz'

theorem mine_addF {S : Dk} {d g : Nat} (hn : g ∉ S.gs) {x : Nat} (h : x ∈ (S.addF g).mine d) : x = g ∨ x ∈ S.mine d := by
  unfold Dk.mine at h
  simp only [List.mem_cons, List.mem_append, Option.mem_toList, List.mem_filterMap] at h
  rcases h with e | e | e | (e | e) | ⟨k, hk, e⟩
  · right; rw [e]; exact Dk.mine_d d S
  · right; rw [e]; exact Dk.mine_mf d S
  · right; rw [e]; exact Dk.mine_ms d S
  · right; exact Dk.mine_av e
  · rcases List.mem_cons.1 e with e | e
    · exact .inl e
    · exact .inr (Dk.mine_g e)
  · rcases List.mem_cons.1 hk with hk | hk
    · rw [hk] at e
      have e : (updF S.sl g (.slice none 0 0) g).ownBlock = some x := e
      rw [updF_same] at e
      cases e
    · have e : (updF S.sl g (.slice none 0 0) k).ownBlock = some x := e
      rw [updF_other _ _ (fun h => hn (by rw [← h]; exact hk))] at e
      exact .inr (Dk.mine_sl hk e)

/-- Behind a call: the disk's state is T, what isn't the disk's is as it was. -/
def Ends (W : World) (B d : Nat) (S : Dk) (z : Int) (P : Dk → Prop) (e : Ending) (W' : World) : Prop :=
  e = .returned (.int .i64 z) ∧ Touch W W' (S.mine d) ∧ ∃ T, P T ∧ DAt W' B d T

/-- What a call makes that does an act. -/
def TurnS (S : Dk) (a : DAct) (T : Dk) : Prop := (S.burnE ≠ 0 ∧ T = S.burn) ∨ (S.burnE = 0 ∧ ∃ v', T = { S.burn with dir := stepA S.dir a, acts := S.acts ++ [a], av := v' })

theorem turn_ends (h : DAt W B d S) (a : DAct) (ok : okA S.dir a) (hm : ∀ t g, a = .add t g → g ∈ S.gs) (hl : S.dir.length ≤ 1000000) (hn : S.acts.length ≤ 1000000) :
    Calls Try.prog 43 #[.pointer (some ⟨d, 0, none⟩), .agg a.cells.toArray] W (Ends W B d S S.burnE (TurnS S a)) :=
  (turn_any h a ok hm hl hn).mono fun _ _ ⟨h1, h2, h3⟩ => ⟨h1, h2, h3.elim (fun ⟨k1, k2⟩ => ⟨_, .inl ⟨k1, rfl⟩, k2⟩) (fun ⟨k1, v', k2⟩ => ⟨_, .inr ⟨k1, v', rfl⟩, k2⟩)⟩

def createE (S : Dk) (s : ByteArray) : Int :=
  if readyE S.down [s] ≠ 0 then readyE S.down [s] else if (fileOf S.dir s).isSome then 3 else if 4096 ≤ S.dir.length then 10 else S.burnE
def CreateS (W : World) (S : Dk) (s : ByteArray) (T : Dk) : Prop :=
  (T = S ∧ createE S s ≠ 0) ∨ (readyE S.down [s] = 0 ∧ fileOf S.dir s = none ∧ createE S s = S.burnE ∧ ∃ g, W.heap.size ≤ g ∧ TurnS (S.addF g) (.add s g) T)

theorem lit1 (W : World) (s : ByteArray) : Reads (W.alloc (.cells #[.string s] 9)) 1 (.slice (some ⟨W.heap.size, 0, none⟩) 1 1) 1 (scells [s]) := lit_reads (cs := scells [s]) (size := 1) (heap_alloc_new W _) rfl (by decide)

set_option maxRecDepth 100000 in
set_option maxHeartbeats 2000000 in
theorem create_any (h : DAt W B d S) (s : ByteArray) (hs : s.size ≤ 1000000000) (hn : S.acts.length ≤ 1000000) :
    Calls Try.prog 20 #[.pointer (some ⟨d, 0, none⟩), .string s] W (Ends W B d S (createE S s) (CreateS W S s)) := by
  have HH := Lib.hid h
  have HRd := Lib.hid (fun (w : World) (hb : Below W.heap.size W w) (v : Value) (hr : Reads w 1 v 1 (scells [s])) => ready_any (h.below hb) v [s] hr (by simpa using hs))
  have HB0 := Lib.hid (show Below W.heap.size W (W.alloc (.cells #[.string s] 9)) from (Below.refl _ _).alloc (Nat.le_refl _) _)
  have HR0 := Lib.hid (lit1 W s)
  have hd0 : d < W.heap.size := (h.lt d (Dk.mine_d d S)).1
  have hBW : B ≤ W.heap.size := Nat.le_trans (h.lt d (Dk.mine_d d S)).2 (Nat.le_of_lt hd0)
  clear h
  go_enter Try.func20, Try.ntmps20
  go_wp2_with (go_at_call 36; go_must (refine (HRd.out _ HB0.out _ HR0.out).mono ?_))
  rintro e w1 ⟨rfl, b1⟩
  have b2 := HB0.out.trans (b1.mono HB0.out.size)
  by_cases hz : readyE S.down [s] = 0
  · obtain ⟨hdn, hok, hsz⟩ := ready_ok hz
    have h1 := HH.out.below b2
    have c0 := Lib.cell_of_heap h1.cell 0
    simp [Dk.cells] at c0
    have hl := look_run h1.fm hsz
    have hdl : d < w1.heap.size := Nat.lt_of_lt_of_le hd0 b2.size
    rw [hz]
    have HZ := Lib.hid hz
    have HB2 := Lib.hid b2
    have H1 := Lib.hid h1
    cases hf : fileOf S.dir s with
    | some g =>
      have he : createE S s = 3 := by unfold createE; rw [if_neg (by simp [hz]), hf]; rfl
      have HE := Lib.hid he
      rw [hf] at hl
      simp only [fileV, Option.isSome_some] at hl
      clear he b2 h1 b1 hz hdn hok hf
      go_wp2
      go_ret
      exact ⟨by rw [HE.out]; rfl, Touch.of_below HB2.out _, S, .inl ⟨rfl, by rw [HE.out]; decide⟩, H1.out⟩
    | none =>
      rw [hf] at hl
      simp only [fileV, Option.isSome_none] at hl
      obtain ⟨D, hown, hD⟩ := h1.fm
      have HO := Lib.hid hown
      have HS := Lib.hid hD.2.2.2
      have HF := Lib.hid hf
      have HK := Lib.hid hok
      by_cases hlen : 4096 ≤ S.dir.length
      · have he : createE S s = 10 := by unfold createE; rw [if_neg (by simp [hz]), hf, if_neg (by simp), if_pos hlen]
        have HE := Lib.hid he
        have hlI : (4096 : Int) ≤ (S.dir.length : Int) := by omega
        clear he b2 h1 b1 hz hdn hok hf hown hD
        go_wp2_with (at_len; refine wpList_len_own _ rfl _ 53 rfl 9 63 dmapU fileR S.mf _ D rfl HO.out ?_; rw [HS.out])
        go_ret
        exact ⟨by rw [HE.out]; rfl, Touch.of_below HB2.out _, S, .inl ⟨rfl, by rw [HE.out]; decide⟩, H1.out⟩
      · have he : createE S s = S.burnE := by unfold createE; rw [if_neg (by simp [hz]), hf, if_neg (by simp), if_neg hlen]
        have HE := Lib.hid he
        have hlI : ¬ (4096 : Int) ≤ (S.dir.length : Int) := by omega
        have bA := (Below.refl w1.heap.size w1).alloc (Nat.le_refl _) (.cells #[.slice none 0 0, .int .i64 0] 65)
        have hgn : w1.heap.size ∉ S.gs := fun e => by have := (h1.lt _ (Dk.mine_g e)).1; omega
        have h2 := (h1.below bA).addF (heap_alloc_new w1 _) hgn (Nat.le_trans hBW b2.size)
        have hnotin : ∀ t, (t, w1.heap.size) ∉ S.dir := fun t e => hgn (h1.dirmem _ e)
        have ht := turn_ends h2 (.add s w1.heap.size) ⟨hok, hnotin⟩ (fun t g e => by cases e; exact List.mem_cons_self) (by show S.dir.length ≤ _; omega) hn
        have htt : ∀ w', Touch (w1.alloc (.cells #[.slice none 0 0, .int .i64 0] 65)) w' ((S.addF w1.heap.size).mine d) → Touch W w' (S.mine d) := fun w' t => (Touch.of_below (HB2.out.trans (bA.mono HB2.out.size)) []).trans t (fun x hx => absurd hx List.not_mem_nil) (fun x hx => (mine_addF hgn hx).elim (fun e => .inr (by rw [e]; exact HB2.out.size)) .inl)
        have HTu := Lib.hid ht
        have HTt := Lib.hid htt
        unfold DAct.cells at HTu
        clear he b2 h1 b1 hz hdn hok hf hown hD ht htt h2 hgn hnotin bA
        go_wp2_with (first | (at_len; refine wpList_len_own _ rfl _ 53 rfl 9 63 dmapU fileR S.mf _ D rfl HO.out ?_; rw [HS.out]) | (go_at_call 43; go_must (refine HTu.out.mono ?_)))
        rintro e w2 ⟨rfl, t2, T, hT, hd⟩
        have hwz := HB2.out.size
        have HD := Lib.hid hd
        have HT := Lib.hid hT
        have HT2 := Lib.hid (HTt.out w2 t2)
        clear hd hT t2
        go_wp2
        go_ret
        exact ⟨by rw [HE.out]; rfl, HT2.out, T, .inr ⟨HZ.out, HF.out, HE.out, w1.heap.size, hwz, HT.out⟩, HD.out⟩
  · have he : createE S s = readyE S.down [s] := by unfold createE; rw [if_pos hz]
    have HE := Lib.hid he
    have HB2 := Lib.hid b2
    have HZ := Lib.hid hz
    have H1 := Lib.hid (HH.out.below b2)
    clear he b2 b1
    generalize readyE S.down [s] = z at *
    go_wp2
    go_ret
    exact ⟨by rw [HE.out]; rfl, Touch.of_below HB2.out _, S, .inl ⟨rfl, by rw [HE.out]; exact HZ.out⟩, H1.out⟩
end Go.Proofs.Ytbhapbioibhalaa
