/- The reference's cache: items in a row. -/
import Derived.Test.YtdooedlapoknbaaOwnAt
import Derived.Test.YtdooedlapoknbaaCacheTellsM
import Derived.Lib.MinMax
namespace Go.Proofs.Ytdooedlapoknbaa
open Go Go.RowKit Go.Maps

def ricell (x : CAct) : List Value := [.int .i64 x.f, .int .i64 x.b, .slice x.a x.ks.length x.cap]
def ricells (l : List CAct) : List Value := l.flatMap ricell
theorem ricell_len (x : CAct) : (ricell x).length = 3 := rfl
theorem ricells_len (l : List CAct) : (ricells l).length = l.length * 3 := flat_length ricell 3 ricell_len l
theorem ricells_append (a b : List CAct) : ricells (a ++ b) = ricells a ++ ricells b := List.flatMap_append ..
theorem ricells_one (l : List CAct) : ∀ u ∈ ricells l, u.oneCell' = true := by
  intro u hu
  obtain ⟨p, _, hp⟩ := List.mem_flatMap.1 hu
  simp [ricell] at hp
  rcases hp with rfl | rfl | rfl <;> rfl

theorem ricells_take (l : List CAct) (k : Nat) : (ricells l).take (k * 3) = ricells (l.take k) := by
  induction l generalizing k with
  | nil => simp [ricells]
  | cons p l ih =>
    cases k with
    | zero => simp [ricells]
    | succ k =>
      show ((.int .i64 p.f) :: (.int .i64 p.b) :: (.slice p.a p.ks.length p.cap) :: ricells l).take ((k + 1) * 3) = (.int .i64 p.f) :: (.int .i64 p.b) :: (.slice p.a p.ks.length p.cap) :: ricells (l.take k)
      rw [← ih k, show (k + 1) * 3 = k * 3 + 1 + 1 + 1 by omega]
      rfl

theorem ricells_drop (l : List CAct) (k : Nat) : (ricells l).drop (k * 3) = ricells (l.drop k) := by
  induction l generalizing k with
  | nil => simp [ricells]
  | cons p l ih =>
    cases k with
    | zero => simp [ricells]
    | succ k =>
      show ((.int .i64 p.f) :: (.int .i64 p.b) :: (.slice p.a p.ks.length p.cap) :: ricells l).drop ((k + 1) * 3) = ricells (l.drop k)
      rw [← ih k, show (k + 1) * 3 = k * 3 + 1 + 1 + 1 by omega]
      rfl

/-- What the reference's calls may turn. -/
structure RF (B : Nat) (w w' : World) : Prop where
  below : Below B w w'
  keep : ∀ (k : Nat) (o : Obj), w.heap[k]? = some o → (∀ cs fz, o ≠ .cells cs 43 fz) → (∀ cs fz, o ≠ .cells cs 57 fz) → w'.heap[k]? = some o

theorem RF.refl (B : Nat) (w : World) : RF B w w := ⟨⟨rfl, rfl, rfl, Nat.le_refl _, fun _ _ => rfl⟩, fun _ _ h _ _ => h⟩
theorem RF.trans {B : Nat} {w w' w'' : World} (h : RF B w w') (k : RF B w' w'') : RF B w w'' := ⟨h.below.trans k.below, fun x o hx h1 h2 => k.keep x o (h.keep x o hx h1 h2) h1 h2⟩
theorem RF.of_below {B : Nat} {w w' : World} (h : Below w.heap.size w w') (hB : B ≤ w.heap.size) : RF B w w' := ⟨h.mono hB, fun k _ hk _ _ => (h.block k (Array.getElem?_eq_some_iff.1 hk).1).trans hk⟩

theorem RF.set {B : Nat} {w w' : World} (h : RF B w w') {p : Addr} (hB : B ≤ p.block) (hp : ∃ cs t fz, w'.heap[p.block]? = some (Obj.cells cs t fz) ∧ (t = 43 ∨ t = 57)) (u : Value) : RF B w (w'.setCell p u) := by
  refine ⟨h.below.setCell hB u, fun k o hk h1 h2 => ?_⟩
  have h3 := h.keep k o hk h1 h2
  have hne : k ≠ p.block := by
    obtain ⟨cs', t', fz', hp, ht⟩ := hp
    intro e
    rw [e, hp] at h3
    injection h3 with h3
    rcases ht with rfl | rfl
    · exact h1 _ _ h3.symm
    · exact h2 _ _ h3.symm
  exact (Below.heap_setCell _ _ _ _ hne).trans h3

/-- A row of items that grew: nothing else was turned. -/
theorem RF.grown {B n : Nat} {w w' w'' : World} {v : Value} {xs : List Value} (h : RF B w w') (ho : OwnAt w' B 57 3 v n xs) (g : w'.grownBy w'' v.ownBlock) (b : Below B w' w'') : RF B w w'' := by
  refine ⟨h.below.trans b, fun k o hk h1 h2 => ?_⟩
  have h3 := h.keep k o hk h1 h2
  refine (g.block k (Array.getElem?_eq_some_iff.1 h3).1 fun e => ?_).trans h3
  rcases ho.2 with ⟨rfl, _⟩ | ⟨g', off, cap, cur, rfl, _, hh, _⟩
  · simp [Value.ownBlock] at e
  · simp [Value.ownBlock] at e
    rw [← e, h3] at hh
    injection hh with hh
    exact h2 _ _ hh

/-- The reference's cache lies in block b. -/
def RCAt (w : World) (B b room : Nat) (R : List CAct) : Prop :=
  ∃ v, w.heap[b]? = some (.cells #[.int .i64 (room : Int), v] 43 (0, 0)) ∧ B ≤ b ∧ OwnAt w B 57 3 v R.length (ricells R)

theorem RCAt.below {w w' : World} {B b room : Nat} {R : List CAct} (h : RCAt w B b room R) (hb : Below w.heap.size w w') : RCAt w' B b room R := by
  obtain ⟨v, h1, h2, h3⟩ := h
  exact ⟨v, (hb.block b (Array.getElem?_eq_some_iff.1 h1).1).trans h1, h2, h3.below hb⟩

theorem RCAt.keep {w w' : World} {B b room : Nat} {R : List CAct} (h : RCAt w B b room R) (hk : ∀ (k : Nat) (cs : Array Value) (t : TypeId), w.heap[k]? = some (Obj.cells cs t (0, 0)) → t = 43 ∨ t = 57 → w'.heap[k]? = some (Obj.cells cs t (0, 0))) : RCAt w' B b room R := by
  obtain ⟨v, h1, h2, h3⟩ := h
  exact ⟨v, hk _ _ _ h1 (.inl rfl), h2, h3.keep fun g cs hg => hk _ _ _ hg (.inr rfl)⟩

theorem RCAt.lo {w : World} {B b room : Nat} {R : List CAct} (h : RCAt w B b room R) : B ≤ w.heap.size := by
  obtain ⟨v, h1, h2, h3⟩ := h
  have := (Array.getElem?_eq_some_iff.1 h1).1
  omega

def RNewPost (w : World) (room : Int) (e : Ending) (w' : World) : Prop := ∃ b, e = .returned (.pointer (some ⟨b, 0, none⟩)) ∧ RCAt w' w.heap.size b room.toNat [] ∧ Below w.heap.size w w'

set_option maxRecDepth 100000 in
set_option maxHeartbeats 2000000 in
theorem rnew_any (w : World) (room : Int) : Calls Try.prog 15 #[.int .i64 room] w (RNewPost w room) := by
  obtain ⟨R, hR⟩ : ∃ R : Nat, R = room.toNat := ⟨_, rfl⟩
  have h1 : (max room 0 : Int) = (R : Int) := by omega
  have HR := Lib.hid hR
  clear hR
  go_enter Try.func15, Try.ntmps15
  go_wp2
  go_ret
  refine ⟨w.heap.size, rfl, ⟨.slice none 0 0, ?_, Nat.le_refl _, by simp [ricells], .inl ⟨rfl, rfl⟩⟩, (Below.refl _ _).alloc (Nat.le_refl _) _⟩
  have h := heap_alloc_new w (.cells #[.int .i64 (R : Int), .slice none 0 0] 43)
  rw [← HR.out]
  exact h

def SizeRel (w : World) (ks : List ByteArray) (n i : Value) (wr : World) : Prop := ∃ k : Nat, i = .int .i64 (k : Int) ∧ k ≤ ks.length ∧ n = .int .i64 ((1 + ksz (ks.take k) : Nat) : Int) ∧ Below w.heap.size w wr

set_option maxRecDepth 100000 in
set_option maxHeartbeats 2000000 in
theorem size_any (w : World) (x : CAct) (h : Reads w 1 (.slice x.a x.ks.length x.cap) x.ks.length (scells x.ks)) (hs : ksz x.ks ≤ 1000000) (hl : x.ks.length ≤ 1000) :
    Calls Try.prog 25 #[.agg #[.int .i64 x.f, .int .i64 x.b, .slice x.a x.ks.length x.cap]] w (GivesVal w (.int .i64 ((1 + ksz x.ks : Nat) : Int))) := by
  obtain ⟨xk, xf, xb, xa, xcap, ks⟩ := x
  simp only at h hs hl ⊢
  have HR := Lib.hid h
  have hwb := (Below.refl w.heap.size w).alloc (Nat.le_refl _) (.cells #[.int .i64 xf, .int .i64 xb, .slice xa ks.length xcap] 57)
  have HB := Lib.hid hwb
  clear h hwb
  go_enter Try.func25, Try.ntmps25
  go_wp2
  go_loopw [3, 9] (fun n i wr => SizeRel w ks n i wr) (fun _ i _ => ks.length - (intOf i).toNat)
  case atStart => exact ⟨0, rfl, Nat.zero_le _, rfl, HB.out⟩
  case round =>
    obtain ⟨k, rfl, hk, rfl, hb⟩ := hrel
    have HBl := Lib.hid hb
    by_cases hkl : k < ks.length
    · have hkI : (k : Int) < ks.length := by omega
      obtain ⟨g, off, y, rfl, hy, hg, hcell⟩ := (HR.out.below' hb).scell k hkl
      have ht := ksz_take hy
      have hle := ksz_le (ks := ks) (k + 1)
      have we : IntKind.i64.wrap (((1 + ksz (ks.take k) : Nat) : Int) + (y.size : Int)) = ((1 + ksz (ks.take (k + 1)) : Nat) : Int) := by
        rw [ht, IntWalk.i64_in _ (by omega)]
        omega
      have we' : IntKind.i64.wrap ((1 + (ksz (ks.take k) : Int)) + (y.size : Int)) = 1 + (ksz (ks.take (k + 1)) : Int) := by
        rw [show (1 + (ksz (ks.take k) : Int)) = ((1 + ksz (ks.take k) : Nat) : Int) by omega, we]
        omega
      clear ht hle hy hb we
      go_wp2
      exact ⟨⟨k + 1, by go_num, by omega, by simp, HBl.out⟩, by simp [intOf]; omega⟩
    · obtain rfl : k = ks.length := by omega
      rw [List.take_length]
      clear hb
      go_wp2
      go_ret
      exact ⟨rfl, HBl.out⟩

def rsum (R : List CAct) : Nat := (R.map fun x => 1 + ksz x.ks).sum

theorem rsum_take {R : List CAct} {k : Nat} {x : CAct} (h : R[k]? = some x) : rsum (R.take (k + 1)) = rsum (R.take k) + (1 + ksz x.ks) := by
  have hk := (List.getElem?_eq_some_iff.1 h).1
  rw [← List.take_append_getElem hk, (List.getElem?_eq_some_iff.1 h).2]
  unfold rsum
  simp

theorem rsum_le {R : List CAct} (k : Nat) : rsum (R.take k) ≤ rsum R := by
  conv => rhs; rw [← List.take_append_drop k R]
  unfold rsum
  rw [List.map_append, List.sum_append]
  omega

def UsedRel (w : World) (R : List CAct) (n i : Value) (wr : World) : Prop := ∃ k : Nat, i = .int .i64 (k : Int) ∧ k ≤ R.length ∧ n = .int .i64 (rsum (R.take k) : Int) ∧ Below w.heap.size w wr

/-- The items' keys can be read. -/
def RKeys (w : World) (R : List CAct) : Prop := ∀ x ∈ R, Reads w 1 (.slice x.a x.ks.length x.cap) x.ks.length (scells x.ks) ∧ ksz x.ks ≤ 1000000 ∧ x.ks.length ≤ 1000

set_option maxRecDepth 100000 in
set_option maxHeartbeats 2000000 in
theorem rused_any (w : World) (B b room : Nat) (R : List CAct) (h : RCAt w B b room R) (hK : RKeys w R) (hs : rsum R ≤ 1000000000) :
    Calls Try.prog 19 #[.pointer (some ⟨b, 0, none⟩)] w (GivesVal w (.int .i64 (rsum R : Int))) := by
  obtain ⟨v, hb, _, hown⟩ := h
  have c1 := Lib.cell_of_heap hb 1
  simp at c1
  have hlt : b < w.heap.size := (Array.getElem?_eq_some_iff.1 hb).1
  have hrd := hown.reads
  obtain ⟨a, cap, rfl, h1, h2⟩ := hrd.le
  unfold maxLen at h2
  have HR := Lib.hid hrd
  have HK := Lib.hid hK
  clear hb hown hrd hK
  go_enter Try.func19, Try.ntmps19
  go_wp2
  go_loopw [3, 11] (fun n i wr => UsedRel w R n i wr) (fun _ i _ => R.length - (intOf i).toNat)
  case atStart => exact ⟨0, rfl, Nat.zero_le _, rfl, Below.refl _ _⟩
  case round =>
    obtain ⟨k, rfl, hk, rfl, hb⟩ := hrel
    have HBl := Lib.hid hb
    by_cases hkl : k < R.length
    · have hkI : (k : Int) < R.length := by omega
      obtain ⟨x, hx⟩ : ∃ x, R[k]? = some x := ⟨_, List.getElem?_eq_getElem hkl⟩
      obtain ⟨g, off, rfl, hg, e0⟩ := (HR.out.below' hb).at (flat_cell ricell 3 ricell_len R k x hx 0 (by decide))
      obtain ⟨g1, off1, hge, _, e1⟩ := (HR.out.below' hb).at (flat_cell ricell 3 ricell_len R k x hx 1 (by decide))
      cases hge
      obtain ⟨g2, off2, hge, _, e2⟩ := (HR.out.below' hb).at (flat_cell ricell 3 ricell_len R k x hx 2 (by decide))
      cases hge
      simp [← Nat.add_assoc] at e0 e1 e2
      obtain ⟨k1, k2, k3⟩ := HK.out x (List.mem_of_getElem? hx)
      have ba := (Below.refl wr.heap.size wr).alloc (Nat.le_refl _) (.cells #[.int .i64 x.f, .int .i64 x.b, .slice x.a x.ks.length x.cap] 57)
      have HSz := Lib.hid (size_any (wr.alloc (.cells #[.int .i64 x.f, .int .i64 x.b, .slice x.a x.ks.length x.cap] 57)) x ((k1.below' hb).below' ba) k2 k3)
      have HBa := Lib.hid (hb.trans (ba.mono hb.size))
      have ht := rsum_take hx
      have hle := rsum_le (R := R) (k + 1)
      have we : IntKind.i64.wrap ((rsum (R.take k) : Int) + ((1 + ksz x.ks : Nat) : Int)) = (rsum (R.take (k + 1)) : Int) := by
        rw [ht, IntWalk.i64_in _ (by omega)]
        omega
      have we' : IntKind.i64.wrap ((rsum (R.take k) : Int) + (1 + (ksz x.ks : Int))) = (rsum (R.take (k + 1)) : Int) := by
        rw [show (1 + (ksz x.ks : Int)) = ((1 + ksz x.ks : Nat) : Int) by omega, we]
      clear ht hle hx hb ba k1 k2 k3
      go_wp2_with (go_at_call 25; go_must (refine HSz.out.mono ?_))
      rintro e w2 ⟨rfl, b2⟩
      have HB2 := Lib.hid (HBa.out.trans (b2.mono HBa.out.size))
      clear b2
      go_wp2
      exact ⟨⟨k + 1, by go_num, by omega, by simp, HB2.out⟩, by simp [intOf]; omega⟩
    · obtain rfl : k = R.length := by omega
      rw [List.take_length]
      clear hb
      go_wp2
      go_ret
      exact ⟨rfl, HBl.out⟩
end Go.Proofs.Ytdooedlapoknbaa
