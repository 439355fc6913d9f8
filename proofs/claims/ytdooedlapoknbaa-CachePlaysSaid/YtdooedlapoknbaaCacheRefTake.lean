/- The reference takes an item out. -/
import Derived.Test.YtdooedlapoknbaaCacheRef
namespace Go.Proofs.Ytdooedlapoknbaa
open Go Go.RowKit Go.Maps

theorem infoItem : (Try.prog.info? 57).map (fun i => (i.zero, i.size, i.bytes)) = some (some (.agg #[.int .i64 0, .int .i64 0, .slice none 0 0]), 3, 40) := by kernel_rfl

def itemV (x : CAct) : Value := .agg #[.int .i64 x.f, .int .i64 x.b, .slice x.a x.ks.length x.cap]
def noItem : Value := .agg #[.int .i64 0, .int .i64 0, .slice none 0 0]

theorem three_stored {w : World} {g : Nat} {cs : Array Value} (h : w.heap[g]? = some (.cells cs 57 (0, 0))) (hs : cs.size = 3) (v0 v1 v2 : Value) :
    (((w.setCell ⟨g, 0, none⟩ v0).setCell ⟨g, 1, none⟩ v1).setCell ⟨g, 2, none⟩ v2).heap[g]? = some (.cells #[v0, v1, v2] 57 (0, 0)) := by
  rw [heap_setCell_same _ _ 2 _ _ _ (heap_setCell_same _ _ 1 _ _ _ (heap_setCell_same _ _ 0 _ _ _ h))]
  obtain ⟨l⟩ := cs
  match l, hs with
  | [a, b, c], _ => rfl

theorem ret_item {w' : World} {g : Nat} {fn : Func} {p q : Tmp} {tmps : Array Value} {f b : Int} {a : Option Addr} {n cap : Nat} (hf : fn.results = #[.cell p 57, .tmp q]) (hp : tmps.getD p undef = .pointer (some ⟨g, 0, none⟩))
    (ht : w'.heap[g]? = some (.cells #[.int .i64 f, .int .i64 b, .slice a n cap] 57 (0, 0))) :
    (results fn tmps).run Try.prog w' = .ok (.tuple #[.agg #[.int .i64 f, .int .i64 b, .slice a n cap], tmps.getD q undef]) w' := by
  have hp' : tmps[p]?.getD undef = .pointer (some ⟨g, 0, none⟩) := by simpa using hp
  have hl := run_loadVar_row (P := Try.prog) w' g _ 57 _ _ _ ht Try.underlying57 rfl (by kernel_rfl)
  simp [results, hf, hp', asAddr, hl]

def is (f b : Int) (x : CAct) : Prop := x.f = f ∧ x.b = b

def TakePost (W : World) (B b room : Nat) (R : List CAct) (f bl : Int) (e : Ending) (W' : World) : Prop :=
  (∃ R1 x R2, R = R1 ++ x :: R2 ∧ (∀ y ∈ R1, ¬ is f bl y) ∧ is f bl x ∧ e = .returned (.tuple #[itemV x, .bool true]) ∧ RCAt W' B b room (R1 ++ R2) ∧ RF B W W') ∨
    ((∀ y ∈ R, ¬ is f bl y) ∧ e = .returned (.tuple #[noItem, .bool false]) ∧ RCAt W' B b room R ∧ RF B W W')

def TakeRel (W1 : World) (R : List CAct) (f b : Int) (i : Value) (wr : World) : Prop := ∃ k : Nat, i = .int .i64 (k : Int) ∧ k ≤ R.length ∧ (∀ y ∈ R.take k, ¬ is f b y) ∧ Below W1.heap.size W1 wr

theorem RF.set3 {B g : Nat} {w w' : World} (h : RF B w w') (hB : B ≤ g) {cs : Array Value} (hg : w'.heap[g]? = some (.cells cs 57 (0, 0))) (v0 v1 v2 : Value) : RF B w (((w'.setCell ⟨g, 0, none⟩ v0).setCell ⟨g, 1, none⟩ v1).setCell ⟨g, 2, none⟩ v2) :=
  RF.set (p := ⟨g, 2, none⟩) (RF.set (p := ⟨g, 1, none⟩) (RF.set (p := ⟨g, 0, none⟩) h hB ⟨_, _, _, hg, .inr rfl⟩ v0) hB ⟨_, _, _, heap_setCell_same _ _ 0 _ _ _ hg, .inr rfl⟩ v1) hB ⟨_, _, _, heap_setCell_same _ _ 1 _ _ _ (heap_setCell_same _ _ 0 _ _ _ hg), .inr rfl⟩ v2

/-- Another block is turned. -/
theorem RCAt.set_far {w : World} {B b room : Nat} {R : List CAct} {v : Value} (hb : w.heap[b]? = some (.cells #[.int .i64 (room : Int), v] 43 (0, 0))) (_ : B ≤ b) (ho : OwnAt w B 57 3 v R.length (ricells R)) {g : Nat} (hg : g ≠ b) (hv : v.ownBlock ≠ some g) (j : Nat) (u : Value) :
    (w.setCell ⟨g, j, none⟩ u).heap[b]? = some (.cells #[.int .i64 (room : Int), v] 43 (0, 0)) ∧ OwnAt (w.setCell ⟨g, j, none⟩ u) B 57 3 v R.length (ricells R) := by
  refine ⟨(Below.heap_setCell _ _ _ _ hg.symm).trans hb, ho.1, ho.2.imp id fun ⟨g', off, cap, cur, h1, h2, h3, h4⟩ => ⟨g', off, cap, cur, h1, h2, ?_, h4⟩⟩
  have : g' ≠ g := fun e => hv (by rw [h1, e]; rfl)
  exact (Below.heap_setCell _ _ _ _ this).trans h3

theorem own_ge {w : World} {B n s g : Nat} {e : TypeId} {v : Value} {xs : List Value} (h : w.ownsRow B e s v n xs) (hg : g < B) : v.ownBlock ≠ some g := by
  rcases h.2 with ⟨rfl, _⟩ | ⟨g', cap, cur, rfl, hB, _⟩
  · simp [Value.ownBlock]
  · simp [Value.ownBlock]
    omega

theorem OwnAt.lt {w : World} {B n s g : Nat} {e : TypeId} {v : Value} {xs : List Value} (h : OwnAt w B e s v n xs) (hg : w.heap.size ≤ g) : v.ownBlock ≠ some g := by
  rcases h.2 with ⟨rfl, _⟩ | ⟨g', off, cap, cur, rfl, hB, hh, _⟩
  · simp [Value.ownBlock]
  · have := (Array.getElem?_eq_some_iff.1 hh).1
    simp [Value.ownBlock]
    omega

theorem cells_ne {w : World} {g g' : Nat} {cs cs' : Array Value} {t t' : TypeId} {fz fz' : Nat × Nat} (h : w.heap[g]? = some (.cells cs t fz)) (h' : w.heap[g']? = some (.cells cs' t' fz')) (ht : t ≠ t') : g ≠ g' := by
  intro e
  rw [e, h'] at h
  injection h with h
  injection h with _ h _
  exact ht h.symm

/-- The three cells of another block are turned. -/
theorem RCAt.far3 {w : World} {B b room : Nat} {R : List CAct} {v : Value} (hb : w.heap[b]? = some (.cells #[.int .i64 (room : Int), v] 43 (0, 0))) (hB : B ≤ b) (ho : OwnAt w B 57 3 v R.length (ricells R)) {g : Nat} (hg : g ≠ b) (hv : v.ownBlock ≠ some g) (v0 v1 v2 : Value) :
    RCAt (((w.setCell ⟨g, 0, none⟩ v0).setCell ⟨g, 1, none⟩ v1).setCell ⟨g, 2, none⟩ v2) B b room R := by
  obtain ⟨h1, o1⟩ := RCAt.set_far hb hB ho hg hv 0 v0
  obtain ⟨h2, o2⟩ := RCAt.set_far h1 hB o1 hg hv 1 v1
  obtain ⟨h3, o3⟩ := RCAt.set_far h2 hB o2 hg hv 2 v2
  exact ⟨v, h3, hB, o3⟩

theorem split_at {R : List CAct} {k : Nat} {x : CAct} (h : R[k]? = some x) : R = R.take k ++ x :: R.drop (k + 1) := by
  have hk := (List.getElem?_eq_some_iff.1 h).1
  conv => lhs; rw [← List.take_append_drop k R]
  rw [List.drop_eq_getElem_cons hk, (List.getElem?_eq_some_iff.1 h).2]

set_option maxRecDepth 100000 in
set_option maxHeartbeats 4000000 in
theorem take_any (W : World) (B b room : Nat) (R : List CAct) (f bl : Int) (h : RCAt W B b room R) (hn : R.length ≤ 100000) :
    Calls Try.prog 24 #[.pointer (some ⟨b, 0, none⟩), .int .i64 f, .int .i64 bl] W (TakePost W B b room R f bl) := by
  obtain ⟨i0, hi, hz0, hz1, hz2⟩ := info_parts infoItem
  have hBl := h.lo
  obtain ⟨v, hb, hBb, hown⟩ := h
  have hlt : b < W.heap.size := (Array.getElem?_eq_some_iff.1 hb).1
  have hrd := hown.reads
  obtain ⟨a, cap, rfl, h1, h2⟩ := hrd.le
  have HB := Lib.hid hb
  have HO := Lib.hid hown
  have b1 := (Below.refl W.heap.size W).alloc (Nat.le_refl _) (.cells #[.int .i64 0, .int .i64 0, .slice none 0 0] 57)
  have hg0 := heap_alloc_new W (.cells #[.int .i64 0, .int .i64 0, .slice none 0 0] 57)
  have hbw := (b1.block b hlt).trans hb
  have c1 := Lib.cell_of_heap hbw 1
  simp at c1
  have hltw : b < (W.alloc (.cells #[.int .i64 0, .int .i64 0, .slice none 0 0] 57)).heap.size := (Array.getElem?_eq_some_iff.1 hbw).1
  have HB1 := Lib.hid b1
  have HG0 := Lib.hid hg0
  have HBW := Lib.hid hbw
  clear hb hown b1 hg0 hbw hrd
  generalize hnn : R.length = n at *
  have HN := Lib.hid hnn
  clear hnn
  unfold TakePost
  go_enter Try.func24, Try.ntmps24
  go_upto_region 1 with fail
  generalize W.alloc (.cells #[.int .i64 0, .int .i64 0, .slice none 0 0] 57) = W1 at *
  obtain ⟨g0, hgg⟩ : ∃ g, g = W.heap.size := ⟨_, rfl⟩
  rw [← hgg] at HG0
  have Hgg := Lib.hid hgg
  rw [← hgg]
  clear hgg
  go_wp2
  go_loopw [15] (fun i wr => TakeRel W1 R f bl i wr) (fun i _ => n - (intOf i).toNat)
  case atStart => exact ⟨0, rfl, Nat.zero_le _, fun y hy => by simp at hy, Below.refl _ _⟩
  case round =>
    obtain ⟨k, rfl, hk, hno, hbl⟩ := hrel
    rw [HN.out] at hk
    have HBl := Lib.hid hbl
    have HNo := Lib.hid hno
    have hg0r := (hbl.block g0 (Array.getElem?_eq_some_iff.1 HG0.out).1).trans HG0.out
    have HR := Lib.hid (((HO.out.below HB1.out).below hbl).reads)
    have hbr := (hbl.block b hltw).trans HBW.out
    by_cases hkn : k < n
    · have hkI : (k : Int) < n := by omega
      obtain ⟨x, hx⟩ : ∃ x, R[k]? = some x := ⟨_, List.getElem?_eq_getElem (by rw [HN.out]; exact hkn)⟩
      obtain ⟨g, off, ha, hg, e0⟩ := HR.out.at (flat_cell ricell 3 ricell_len R k x hx 0 (by decide))
      obtain ⟨g1, off1, hge, _, e1⟩ := HR.out.at (flat_cell ricell 3 ricell_len R k x hx 1 (by decide))
      rw [ha] at hge
      cases hge
      obtain ⟨g2, off2, hge, _, e2⟩ := HR.out.at (flat_cell ricell 3 ricell_len R k x hx 2 (by decide))
      rw [ha] at hge
      cases hge
      have HX := Lib.hid hx
      have ba := (Below.refl wr.heap.size wr).alloc (Nat.le_refl _) (.cells #[.int .i64 x.f, .int .i64 x.b, .slice x.a x.ks.length x.cap] 57)
      have HBa := Lib.hid (hbl.trans (ba.mono hbl.size))
      have hnext : ∀ y ∈ R.take (k + 1), y ∈ R.take k ∨ y = x := fun y hy => by
        rw [List.take_add_one, hx] at hy
        simpa using hy
      have HNx := Lib.hid hnext
      have hnew := heap_alloc_new wr (.cells #[.int .i64 x.f, .int .i64 x.b, .slice x.a x.ks.length x.cap] 57)
      have hg5 := (ba.block g0 (Array.getElem?_eq_some_iff.1 hg0r).1).trans hg0r
      have hb5 := (ba.block b (Array.getElem?_eq_some_iff.1 hbr).1).trans hbr
      have HR5 := Lib.hid (HR.out.below' ba)
      have HNew := Lib.hid hnew
      have HG5 := Lib.hid hg5
      have HB5 := Lib.hid hb5
      clear hx hno hbl ba hnext hg0r hbr hnew hg5 hb5 HR
      subst ha
      simp [← Nat.add_assoc] at e0 e1 e2
      by_cases hf0 : x.f = f
      · subst hf0
        have hf0I : (x.f == x.f) = true := by simp
        by_cases hb0 : x.b = bl
        · subst hb0
          have hb0I : (x.b == x.b) = true := by simp
          have hw44 : IntKind.i64.wrap ((k : Int) + 1) = (k : Int) + 1 := by rw [IntWalk.i64_in _ (by omega)]
          go_upto_region 5 with fail
          generalize wr.alloc (.cells #[.int .i64 x.f, .int .i64 x.b, .slice x.a x.ks.length x.cap] 57) = w5 at *
          generalize wr.heap.size = gx at *
          generalize (some ({ block := g, off := off } : Addr)) = a at *
          clear hg e0 e1 e2 c1
          have hkn' : k ≤ n := by omega
          have hkn1 : k + 1 ≤ n := by omega
          have hk1 : ((k : Int) + 1).toNat = k + 1 := by omega
          have hnlt : ¬ ((n : Int) < (k : Int) + 1) := by omega
          have h0k : (0 : Int) ≤ (k : Int) + 1 := by omega
          have d1 := Lib.cell_of_heap HB5.out 1
          simp at d1
          have hblt : b < w5.heap.size := (Array.getElem?_eq_some_iff.1 HB5.out).1
          have HR := HR5
          refine wp_region_until_last (l := [_, _, _, _, _, _, _, _, _, _, _, _, _, _, _, _, _, _, _]) (by kernel_rfl) [eqU (.pointer (some ⟨b, 0, none⟩)), onU (zeroF w5.heap.size 57 3) (some 8), eqU (.pointer (some ⟨b, 0, none⟩)), eqU (.pointer (some ⟨b, 0, none⟩)), eqU (.pointer (some ⟨b, 1, none⟩)), eqU (.slice a n cap), eqU (.int .i64 (k : Int)), eqU (.slice a k cap), onU (ownsF w5.heap.size 57 3 k (ricells (R.take k))) (some 16), eqU (.pointer (some ⟨b, 0, none⟩)), eqU (.pointer (some ⟨b, 0, none⟩)), eqU (.pointer (some ⟨b, 1, none⟩)), eqU (.slice a n cap), eqU (.int .i64 (k : Int)), eqU (.int .i64 ((k : Int) + 1)), eqU (.slice (behindS a (k + 1) cap 3) (n - (k + 1)) (cap - (k + 1))), onU (ownsF w5.heap.size 57 3 (n - 1) (ricells (R.take k ++ R.drop (k + 1)))) none, eqU (.pointer (some ⟨b, 0, none⟩)), eqU (.pointer (some ⟨b, 1, none⟩))] [16] (by kernel_rfl) (by kernel_rfl) (by kernel_rfl) (by kernel_rfl) (by kernel_rfl) ⟨?_, ?_, ?_, ?_, ?_, ?_, ?_, ?_, ?_, ?_, ?_, ?_, ?_, ?_, ?_, ?_, ?_, ?_, ?_, trivial⟩ ?_
          · intro ρ wx hρ hbx hl
            have e0 : ρ (.tmp 0) = .pointer (some ⟨b, 0, none⟩) := hρ.tmp 0 (by decide +kernel)
            refine u_val (v := .pointer (some ⟨b, 0, none⟩)) ?_ rfl
            simp [execOp, go_sem, e0]
          · intro ρ wx hρ hbx hl
            refine u_new (v := .slice (some ⟨wx.heap.size, 0, none⟩) 0 0) (w' := wx.alloc (.cells #[] 57)) ?_ ⟨_, rfl, owns_less (owns_zero wx _ 3) hbx.size⟩ ((Below.refl _ _).alloc (Nat.le_refl _) _)
            simp [execOp, go_sem]
          · intro ρ wx hρ hbx hl
            have e0 : ρ (.tmp 0) = .pointer (some ⟨b, 0, none⟩) := hρ.tmp 0 (by decide +kernel)
            refine u_val (v := .pointer (some ⟨b, 0, none⟩)) ?_ rfl
            simp [execOp, go_sem, e0]
          · intro ρ wx hρ hbx hl
            have e32 : ρ (.tmp 32) = .pointer (some ⟨b, 0, none⟩) := hl 2 (by decide +kernel) (.inl rfl) 32 rfl
            refine u_val (v := .pointer (some ⟨b, 0, none⟩)) ?_ rfl
            simp [execOp, go_sem, e32]
          · intro ρ wx hρ hbx hl
            have e33 : ρ (.tmp 33) = .pointer (some ⟨b, 0, none⟩) := hl 3 (by decide +kernel) (.inl rfl) 33 rfl
            refine u_val (v := .pointer (some ⟨b, 1, none⟩)) ?_ rfl
            simp [execOp, go_sem, e33]
          · intro ρ wx hρ hbx hl
            have e34 : ρ (.tmp 34) = .pointer (some ⟨b, 1, none⟩) := hl 4 (by decide +kernel) (.inl rfl) 34 rfl
            have kk := (hbx.cell (hblt)).trans d1
            refine u_val (v := .slice a n cap) ?_ rfl
            simp [execOp, go_sem, e34, kk]
          · intro ρ wx hρ hbx hl
            have e8 : ρ (.tmp 8) = .int .i64 (k : Int) := hρ.tmp 8 (by decide +kernel)
            refine u_val (v := .int .i64 (k : Int)) ?_ rfl
            simp [execOp, go_sem, e8]
          · intro ρ wx hρ hbx hl
            have e35 : ρ (.tmp 35) = .slice a n cap := hl 5 (by decide +kernel) (.inl rfl) 35 rfl
            have e36 : ρ (.tmp 36) = .int .i64 (k : Int) := hl 6 (by decide +kernel) (.inl rfl) 36 rfl
            refine u_val (v := .slice a k cap) ?_ rfl
            simp [execOp, go_sem, e35, e36]
            first | done | omega
          · intro ρ wx hρ hbx hl
            have e31 : (zeroF w5.heap.size 57 3).p (ρ (.tmp 31)) wx := hl 1 (by decide +kernel) (.inr rfl) 31 rfl
            have e37 : ρ (.tmp 37) = .slice a k cap := hl 7 (by decide +kernel) (.inl rfl) 37 rfl
            obtain ⟨g31, e31, o31⟩ := e31
            rw [e31] at o31
            obtain ⟨v', w', hr, ho, hb⟩ := run_append_zero_s (P := Try.prog) (w := wx) w5.heap.size 41 41 41 57 i0 _ 3 40 Try.underlying41 hi hz0 hz1 hz2 rfl g31 o31 (.slice a k cap) k (ricells (R.take k)) (by rw [← ricells_take]; exact ((HR.out.below' hbx).rtake k hkn').src Try.underlying41 (by rw [ricells_take]; exact ricells_one _)) (by unfold maxLen; omega) (by omega) hbx.size
            refine u_new ?_ ho hb
            simp only [execOp, resolve, invoke, builtin, Sem.run_bind, Sem.run_pure, Result.andThen_ok, List.map_toArray, List.map_cons, List.map_nil, e31, e37, hr]
          · intro ρ wx hρ hbx hl
            have e0 : ρ (.tmp 0) = .pointer (some ⟨b, 0, none⟩) := hρ.tmp 0 (by decide +kernel)
            refine u_val (v := .pointer (some ⟨b, 0, none⟩)) ?_ rfl
            simp [execOp, go_sem, e0]
          · intro ρ wx hρ hbx hl
            have e39 : ρ (.tmp 39) = .pointer (some ⟨b, 0, none⟩) := hl 9 (by decide +kernel) (.inl rfl) 39 rfl
            refine u_val (v := .pointer (some ⟨b, 0, none⟩)) ?_ rfl
            simp [execOp, go_sem, e39]
          · intro ρ wx hρ hbx hl
            have e40 : ρ (.tmp 40) = .pointer (some ⟨b, 0, none⟩) := hl 10 (by decide +kernel) (.inl rfl) 40 rfl
            refine u_val (v := .pointer (some ⟨b, 1, none⟩)) ?_ rfl
            simp [execOp, go_sem, e40]
          · intro ρ wx hρ hbx hl
            have e41 : ρ (.tmp 41) = .pointer (some ⟨b, 1, none⟩) := hl 11 (by decide +kernel) (.inl rfl) 41 rfl
            have kk := (hbx.cell (hblt)).trans d1
            refine u_val (v := .slice a n cap) ?_ rfl
            simp [execOp, go_sem, e41, kk]
          · intro ρ wx hρ hbx hl
            have e8 : ρ (.tmp 8) = .int .i64 (k : Int) := hρ.tmp 8 (by decide +kernel)
            refine u_val (v := .int .i64 (k : Int)) ?_ rfl
            simp [execOp, go_sem, e8]
          · intro ρ wx hρ hbx hl
            have e43 : ρ (.tmp 43) = .int .i64 (k : Int) := hl 13 (by decide +kernel) (.inl rfl) 43 rfl
            refine u_val (v := .int .i64 ((k : Int) + 1)) ?_ rfl
            simp [execOp, go_sem, e43, hρ.const, hw44]
          · intro ρ wx hρ hbx hl
            have e42 : ρ (.tmp 42) = .slice a n cap := hl 12 (by decide +kernel) (.inl rfl) 42 rfl
            have e44 : ρ (.tmp 44) = .int .i64 ((k : Int) + 1) := hl 14 (by decide +kernel) (.inl rfl) 44 rfl
            refine u_val (v := .slice (behindS a (k + 1) cap 3) (n - (k + 1)) (cap - (k + 1))) ?_ rfl
            simp [execOp, go_sem, e42, e44, behindS, hk1, hnlt, h0k]
          · intro ρ wx hρ hbx hl
            have e38 : (ownsF w5.heap.size 57 3 k (ricells (R.take k))).p (ρ (.tmp 38)) wx := hl 8 (by decide +kernel) (.inr rfl) 38 rfl
            have e45 : ρ (.tmp 45) = .slice (behindS a (k + 1) cap 3) (n - (k + 1)) (cap - (k + 1)) := hl 15 (by decide +kernel) (.inl rfl) 45 rfl
            obtain ⟨v', w', hr, ho, hg, hb, _⟩ := run_append_owns (P := Try.prog) (w := wx) w5.heap.size 41 41 41 57 i0 _ 3 40 Try.underlying41 hi hz0 hz1 hz2 rfl _ k _ e38 (.slice (behindS a (k + 1) cap 3) (n - (k + 1)) (cap - (k + 1))) (n - (k + 1)) (ricells (R.drop (k + 1))) (by rw [← ricells_drop]; exact ((HR.out.below' hbx).rdrop (k + 1) hkn1).src Try.underlying41 (by rw [ricells_drop]; exact ricells_one _)) (by unfold maxLen; omega) (by omega) hbx.size
            rw [← ricells_append, show k + (n - (k + 1)) = n - 1 by omega] at ho
            refine u_new ?_ ho hb
            simp only [execOp, resolve, invoke, builtin, Sem.run_bind, Sem.run_pure, Result.andThen_ok, List.map_toArray, List.map_cons, List.map_nil, e45, hr]
          · intro ρ wx hρ hbx hl
            have e30 : ρ (.tmp 30) = .pointer (some ⟨b, 0, none⟩) := hl 0 (by decide +kernel) (.inl rfl) 30 rfl
            refine u_val (v := .pointer (some ⟨b, 0, none⟩)) ?_ rfl
            simp [execOp, go_sem, e30]
          · intro ρ wx hρ hbx hl
            have e47 : ρ (.tmp 47) = .pointer (some ⟨b, 0, none⟩) := hl 17 (by decide +kernel) (.inl rfl) 47 rfl
            refine u_val (v := .pointer (some ⟨b, 1, none⟩)) ?_ rfl
            simp [execOp, go_sem, e47]
          intro aa wz hdef hsz hlk hbz hf
          have ha := act_of_like hdef hsz hlk [30, 31, 32, 33, 34, 35, 36, 37, 38, 39, 40, 41, 42, 43, 44, 45, 46, 47, 48] 52 rfl (by decide +kernel)
          have e30 : aa.tmps.getD 30 undef = .pointer (some ⟨b, 0, none⟩) := hf 0 _ 30 rfl rfl rfl
          have e32 : aa.tmps.getD 32 undef = .pointer (some ⟨b, 0, none⟩) := hf 2 _ 32 rfl rfl rfl
          have e33 : aa.tmps.getD 33 undef = .pointer (some ⟨b, 0, none⟩) := hf 3 _ 33 rfl rfl rfl
          have e34 : aa.tmps.getD 34 undef = .pointer (some ⟨b, 1, none⟩) := hf 4 _ 34 rfl rfl rfl
          have e35 : aa.tmps.getD 35 undef = .slice a n cap := hf 5 _ 35 rfl rfl rfl
          have e36 : aa.tmps.getD 36 undef = .int .i64 (k : Int) := hf 6 _ 36 rfl rfl rfl
          have e37 : aa.tmps.getD 37 undef = .slice a k cap := hf 7 _ 37 rfl rfl rfl
          have e39 : aa.tmps.getD 39 undef = .pointer (some ⟨b, 0, none⟩) := hf 9 _ 39 rfl rfl rfl
          have e40 : aa.tmps.getD 40 undef = .pointer (some ⟨b, 0, none⟩) := hf 10 _ 40 rfl rfl rfl
          have e41 : aa.tmps.getD 41 undef = .pointer (some ⟨b, 1, none⟩) := hf 11 _ 41 rfl rfl rfl
          have e42 : aa.tmps.getD 42 undef = .slice a n cap := hf 12 _ 42 rfl rfl rfl
          have e43 : aa.tmps.getD 43 undef = .int .i64 (k : Int) := hf 13 _ 43 rfl rfl rfl
          have e44 : aa.tmps.getD 44 undef = .int .i64 ((k : Int) + 1) := hf 14 _ 44 rfl rfl rfl
          have e45 : aa.tmps.getD 45 undef = .slice (behindS a (k + 1) cap 3) (n - (k + 1)) (cap - (k + 1)) := hf 15 _ 45 rfl rfl rfl
          have e46 : (ownsF w5.heap.size 57 3 (n - 1) (ricells (R.take k ++ R.drop (k + 1)))).p (aa.tmps.getD 46 undef) wz := hf 16 _ 46 rfl rfl rfl
          generalize hv46 : aa.tmps.getD 46 undef = v46 at e46
          have e47 : aa.tmps.getD 47 undef = .pointer (some ⟨b, 0, none⟩) := hf 17 _ 47 rfl rfl rfl
          have e48 : aa.tmps.getD 48 undef = .pointer (some ⟨b, 1, none⟩) := hf 18 _ 48 rfl rfl rfl
          simp only [putAll, List.foldl_cons, List.foldl_nil, e30, e32, e33, e34, e35, e36, e37, e39, e40, e41, e42, e43, e44, e45, hv46, e47, e48] at ha
          generalize aa.tmps.getD 31 undef = v31 at ha
          generalize aa.tmps.getD 38 undef = v38 at ha
          simp [Act.put] at ha
          subst ha
          clear hdef hsz hlk hf e30 e32 e33 e34 e35 e36 e37 e39 e40 e41 e42 e43 e44 e45 hv46 e47 e48
          obtain ⟨a9, c9, hv9, _, _⟩ := (ownsRow.reads e46).le
          subst hv9
          have hlen : (R.take k ++ R.drop (k + 1)).length = n - 1 := by
            have := HN.out
            simp
            omega
          have hbz' := (hbz.block b hblt).trans HB5.out
          have x1 := Lib.cell_of_heap hbz' 1
          have xf := Lib.frozen_of_heap hbz'
          simp at x1
          have hzs := hbz.size
          have hg05 := (Array.getElem?_eq_some_iff.1 HG5.out).1
          have hgz := (hbz.block g0 hg05).trans HG5.out
          have hxz := (hbz.block gx (Array.getElem?_eq_some_iff.1 HNew.out).1).trans HNew.out
          have hne0 : g0 ≠ b := cells_ne hgz hbz' (by decide)
          have hnex : gx ≠ b := cells_ne hxz hbz' (by decide)
          have hBw5 : B ≤ w5.heap.size := by omega
          have hbw : Below W.heap.size W wz := (HB1.out.trans (HBa.out.mono HB1.out.size)).trans (hbz.mono (Nat.le_trans HB1.out.size HBa.out.size))
          have hg9 := (Below.heap_setCell wz ⟨b, 1, none⟩ (.slice a9 (n - 1) c9) _ hne0).trans hgz
          have hx9 := (Below.heap_setCell wz ⟨b, 1, none⟩ (.slice a9 (n - 1) c9) _ hnex).trans hxz
          have hst : RF B W (wz.setCell ⟨b, 1, none⟩ (.slice a9 (n - 1) c9)) := RF.set (p := ⟨b, 1, none⟩) (RF.of_below hbw hBl) hBb ⟨_, _, _, hbz', .inl rfl⟩ _
          have hb9 : (wz.setCell ⟨b, 1, none⟩ (.slice a9 (n - 1) c9)).heap[b]? = some (.cells #[.int .i64 (room : Int), .slice a9 (n - 1) c9] 43 (0, 0)) := by
            rw [heap_setCell_same _ b 1 _ _ _ hbz']
            rfl
          have ho9 : OwnAt (wz.setCell ⟨b, 1, none⟩ (.slice a9 (n - 1) c9)) B 57 3 (.slice a9 (n - 1) c9) (R.take k ++ R.drop (k + 1)).length (ricells (R.take k ++ R.drop (k + 1))) := by
            rw [hlen]
            refine OwnAt.of_owns (ownsRow_setCell_other (owns_less e46 hBw5) (a := ⟨b, 1, none⟩) ?_ _)
            exact owns_other e46 hbz' (by decide)
          have hov : (Value.slice a9 (n - 1) c9).ownBlock ≠ some g0 := own_ge e46 hg05
          have HSt := Lib.hid hst
          have HB9 := Lib.hid hb9
          have HO9 := Lib.hid ho9
          have HOv := Lib.hid hov
          have HNe := Lib.hid hne0
          have HG9 := Lib.hid hg9
          have HX9 := Lib.hid hx9
          clear e46 hbz hbz' hst hb9 ho9 hov hne0 hnex hg9 hx9 hgz hxz hbw hlen hg05
          unfold Oper.wp
          simp [execOp, go_sem, x1, xf]
          clear x1 xf
          generalize wz.setCell ⟨b, 1, none⟩ (.slice a9 (n - 1) c9) = w9 at *
          have y0 := Lib.cell_of_heap HX9.out 0
          have y1 := Lib.cell_of_heap HX9.out 1
          have y2 := Lib.cell_of_heap HX9.out 2
          have z0 := Lib.cell_of_heap HG9.out 0
          have z1 := Lib.cell_of_heap HG9.out 1
          have z2 := Lib.cell_of_heap HG9.out 2
          have zf := Lib.frozen_of_heap HG9.out
          simp at y0 y1 y2 z0 z1 z2
          have hxlt : gx < w9.heap.size := (Array.getElem?_eq_some_iff.1 HX9.out).1
          have hglt : g0 < w9.heap.size := (Array.getElem?_eq_some_iff.1 HG9.out).1
          go_wp2
          refine bodyPost_ret (ret_item rfl rfl (three_stored HG9.out rfl _ _ _)) rfl (.inl ⟨_, x, _, split_at HX.out, HNo.out, ⟨rfl, rfl⟩, rfl, RCAt.far3 HB9.out hBb HO9.out HNe.out HOv.out _ _ _, RF.set3 HSt.out (by rw [Hgg.out]; exact hBl) HG9.out _ _ _⟩)
        · have hb0I : (x.b == bl) = false := by simp [hb0]
          go_wp2
          exact ⟨⟨k + 1, by go_num, by rw [HN.out]; omega, fun y hy => by
            rcases HNx.out y hy with h | rfl
            · exact HNo.out y h
            · exact fun e => hb0 e.2, HBa.out⟩, by simp [intOf]; omega⟩
      · have hf0I : (x.f == f) = false := by simp [hf0]
        go_wp2
        exact ⟨⟨k + 1, by go_num, by rw [HN.out]; omega, fun y hy => by
          rcases HNx.out y hy with h | rfl
          · exact HNo.out y h
          · exact fun e => hf0 e.1, HBa.out⟩, by simp [intOf]; omega⟩
    · obtain rfl : k = n := by omega
      have hall : ∀ y ∈ R, ¬ is f bl y := by
        have := HNo.out
        rwa [List.take_of_length_le (by rw [HN.out]; omega)] at this
      have HAll := Lib.hid hall
      have z0 := Lib.cell_of_heap hg0r 0
      have z1 := Lib.cell_of_heap hg0r 1
      have z2 := Lib.cell_of_heap hg0r 2
      have zf := Lib.frozen_of_heap hg0r
      simp at z0 z1 z2
      have hglt : g0 < wr.heap.size := (Array.getElem?_eq_some_iff.1 hg0r).1
      have hbw : Below W.heap.size W wr := HB1.out.trans (hbl.mono HB1.out.size)
      have hst : RF B W wr := RF.of_below hbw hBl
      have hne0 : g0 ≠ b := cells_ne hg0r hbr (by decide)
      have hov : (Value.slice a k cap).ownBlock ≠ some g0 := HO.out.lt (by rw [Hgg.out]; exact Nat.le_refl _)
      have HSt := Lib.hid hst
      have HOv := Lib.hid hov
      have HNe := Lib.hid hne0
      have HG9 := Lib.hid hg0r
      have HB9 := Lib.hid hbr
      have HO9 := Lib.hid ((HO.out.below HB1.out).below hbl)
      have HO9' : Hid (OwnAt wr B 57 3 (.slice a k cap) R.length (ricells R)) := Lib.hid (by rw [HN.out]; exact HO9.out)
      clear hall hno hbl hg0r hbr hbw hst hne0 hov hkn
      go_wp2
      refine bodyPost_ret (ret_item rfl rfl (three_stored HG9.out rfl _ _ _)) rfl (.inr ⟨HAll.out, rfl, RCAt.far3 HB9.out hBb HO9'.out HNe.out HOv.out _ _ _, RF.set3 HSt.out (by rw [Hgg.out]; exact hBl) HG9.out _ _ _⟩)
end Go.Proofs.Ytdooedlapoknbaa
