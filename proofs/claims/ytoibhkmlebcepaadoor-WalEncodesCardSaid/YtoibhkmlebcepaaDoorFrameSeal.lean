import Derived.Test.YtoibhkmlebcepaaDoorFrameSum
import Derived.Test.YtoibhkmlebcepaaDoorOwns
namespace Go.Proofs.YtoibhkmlebcepaaDoor
open Go Go.RowKit

/-- a number's four bytes, the highest first -/
def be4 (N : Nat) : List UInt8 := [UInt8.ofNat (N / 16777216), UInt8.ofNat (N / 65536), UInt8.ofNat (N / 256), UInt8.ofNat N]

/-- the number of the first four bytes -/
def num4 (l : List UInt8) : Nat := (((l.getD 0 0).toNat * 256 + (l.getD 1 0).toNat) * 256 + (l.getD 2 0).toNat) * 256 + (l.getD 3 0).toNat

theorem num4_lt (l : List UInt8) : num4 l < 4294967296 := by
  have h0 := (l.getD 0 0).toNat_lt
  have h1 := (l.getD 1 0).toNat_lt
  have h2 := (l.getD 2 0).toNat_lt
  have h3 := (l.getD 3 0).toNat_lt
  unfold num4
  omega

theorem num4_be4 {N : Nat} (h : N < 4294967296) (r : List UInt8) : num4 (be4 N ++ r) = N := by
  simp [num4, be4]
  omega

/-- a frame -/
def sealL (l : List UInt8) : List UInt8 := be4 l.length ++ be4 (sumL l) ++ l

theorem sealL_length (l : List UInt8) : (sealL l).length = 8 + l.length := by simp [sealL, be4]; omega

def Grows (B : Nat) (w : World) (v : Value) (xs : List UInt8) (e : Ending) (w' : World) : Prop :=
  ∃ v', e = .returned v' ∧ w'.ownsRow B 5 1 v' xs.length (bcells xs) ∧ Below B w w' ∧ w.grownBy w' v.ownBlock ∧ Moves w v v'

set_option maxRecDepth 100000 in
set_option maxHeartbeats 1000000 in
theorem put4_any (B : Nat) (w : World) (v : Value) (xs : List UInt8) (N : Nat) (h : w.ownsRow B 5 1 v xs.length (bcells xs)) (hB : B ≤ w.heap.size) (hn : xs.length ≤ 1000000000) (hN : N < 4294967296) :
    Calls Tryd.prog 36 #[v, .int .u32 N] w (Grows B w v (xs ++ be4 N)) := by
  obtain ⟨i0, hi, hz0, hz1, hz2⟩ := info_parts info5
  have hbe : (xs ++ be4 N).length = xs.length + 4 := by simp [be4]
  have Hbe := Lib.hid hbe
  clear hbe
  go_enter Tryd.func36, Tryd.ntmps36
  go_wp2_with (at_builtin; go_must (refine wpList_append_owns_lits (w0 := w) rfl _ _ 28 rfl B 5 i0 (.int .u8 0) 1 Tryd.underlying28 hi hz0 hz1 hz2 rfl [.int .u8 ((N : Int) / 16777216), .int .u8 ((N : Int) / 65536 % 256), .int .u8 ((N : Int) / 256 % 256), .int .u8 ((N : Int) % 256)] 4 rfl h rfl rfl (fun u hu => by simp at hu; rcases hu with rfl | rfl | rfl | rfl <;> rfl) ?_ ?_ hB ?_))
  · unfold maxLen; omega
  · omega
  intro v' w1 f1 g1 b1 m1
  have e4 : bcells xs ++ [Value.int .u8 ((N : Int) / 16777216), .int .u8 ((N : Int) / 65536 % 256), .int .u8 ((N : Int) / 256 % 256), .int .u8 ((N : Int) % 256)] = bcells (xs ++ be4 N) := by
    simp [bcells, be4]
    omega
  rw [e4] at f1
  have F1 := Lib.hid f1
  clear f1 e4
  go_wp2
  go_ret
  refine ⟨_, rfl, ?_, b1, g1, m1⟩
  rw [Hbe.out]
  exact F1.out

def SealPost (w : World) (l : List UInt8) (e : Ending) (w' : World) : Prop :=
  ∃ g cap, e = .returned (.slice (some ⟨g, 0, none⟩) l.length cap) ∧ w'.ownsRow w.heap.size 5 1 (.slice (some ⟨g, 0, none⟩) l.length cap) l.length (bcells l) ∧ Below w.heap.size w w'

set_option maxRecDepth 100000 in
set_option maxHeartbeats 1000000 in
theorem seal_own (w : World) (v : Value) (n : Nat) (l : List UInt8) (h : Reads w 1 v n (bcells l)) (hn : n ≤ 100000000) (hst : Steps w) :
    Calls Tryd.prog 23 #[v] w (SealPost w (sealL l)) := by
  obtain ⟨i0, hi, hz0, hz1, hz2⟩ := info_parts info5
  obtain ⟨a, cap, rfl, h1, h2⟩ := h.le
  unfold maxLen at h2
  have hl : l.length = n := by have := h.1; simpa [bcells_length] using this
  have hsl := sealL_length l
  have hbe : ∀ N, (be4 N).length = 4 := fun N => rfl
  have hsum := sumL_lt l
  rw [hl] at hsl
  have Hl := Lib.hid hl
  have Hsl := Lib.hid hsl
  have HR := Lib.hid h
  have Hst := Lib.hid hst
  clear h hl hst hsl hbe
  go_enter Tryd.func23, Tryd.ntmps23
  go_wp2_with (at_make; go_must (refine wpList_make_own _ rfl _ _ 28 rfl w.heap.size 5 i0 (.int .u8 0) 1 Tryd.underlying28 hi hz0 hz1 .i64 .i64 _ (8 + n) rfl rfl ?_ ?_ ?_ ?_ ?_))
  · omega
  · rw [hz2]; omega
  · unfold maxLen; omega
  · exact Nat.le_refl _
  intro w1 f1 g1
  have b1 : Below w.heap.size w w1 := (Below.refl _ _).grown g1 (Nat.le_refl _) (fun k hk => by cases hk)
  have lt1 := (f1.lt w.heap.size rfl).2
  have HN : (n : Int) = ((n : Nat) : Int) := rfl
  go_wp2_with (go_at_call 36; go_must (refine (put4_any w.heap.size w1 _ [] n f1 (by omega) (by simp) (by omega)).mono ?_))
  rintro e w2 ⟨v2, rfl, f2, b2, g2, m2⟩
  have bs1 := b1.size
  have bs2 := b2.size
  have b12 := b1.trans b2
  have r2 := HR.out.below' b12
  have st2 := Hst.out.below b12
  go_wp2_with (go_at_call 37; go_must (refine (sum_any w2 _ n l r2 st2).mono ?_))
  rintro e w3 ⟨rfl, rfl⟩
  go_wp2_with (go_at_call 36; go_must (refine (put4_any w.heap.size w2 _ _ (sumL l) f2 (by omega) (by simp [be4]) hsum).mono ?_))
  rintro e w3 ⟨v3, rfl, f3, b3, g3, m3⟩
  have bs3 := b3.size
  have b13 := b12.trans b3
  have r3 := HR.out.below' b13
  have hsrc := Reads.src (P := Tryd.prog) (tx := 28) Tryd.underlying28 r3 (bcells_one l)
  have hl8 : (be4 n ++ be4 (sumL l)).length = 8 := rfl
  rw [hl8] at f3
  clear hl8 f2 f1 r2 st2 g1 g2 g3 b1 b2 b12 b3 HN
  go_wp2_with (at_builtin; go_must (refine wpList_append_owns rfl _ _ 28 28 rfl w.heap.size 5 i0 (.int .u8 0) 1 1 Tryd.underlying28 hi hz0 hz1 hz2 rfl _ _ _ rfl f3 _ _ _ rfl hsrc ?_ ?_ ?_ ?_))
  · unfold maxLen; omega
  · omega
  · omega
  intro v4 w4 f4 g4 b4 m4
  rw [← bcells_append] at f4
  have b14 := b13.trans b4
  have F4 := Lib.hid f4
  clear f4 hsrc
  have h9 : sealL l = be4 n ++ be4 (sumL l) ++ l := by rw [sealL, Hl.out]
  obtain ⟨g, cp, cur, rfl, hg⟩ : ∃ g cp cur, v4 = .slice (some ⟨g, 0, none⟩) (8 + n) cp ∧ cur = g := by
    rcases F4.out.2 with ⟨_, h0⟩ | ⟨g, cp, cur, hv, _⟩
    · omega
    · exact ⟨g, cp, g, hv, rfl⟩
  have H9 := Lib.hid h9
  clear hg h9
  go_wp2
  go_ret
  refine ⟨g, cp, ?_, ?_, b14⟩
  · rw [Hsl.out]; rfl
  · rw [Hsl.out, H9.out]; exact F4.out

theorem seal_any (w : World) (v : Value) (n : Nat) (l : List UInt8) (h : Reads w 1 v n (bcells l)) (hn : n ≤ 100000000) (hst : Steps w) :
    Calls Tryd.prog 23 #[v] w (GivesBytes w (sealL l)) :=
  (seal_own w v n l h hn hst).mono fun _ _ ⟨_, _, he, ho, hb⟩ => ⟨_, he, ⟨ownsRow.reads ho, .inr ho⟩, hb⟩
end Go.Proofs.YtoibhkmlebcepaaDoor
