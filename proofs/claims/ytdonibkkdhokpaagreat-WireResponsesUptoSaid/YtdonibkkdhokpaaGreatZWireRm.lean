/- The reader: lists of items, told as mathematics; what was written is read. -/
import Derived.Test.YtdonibkkdhokpaaGreatZWireRs
import Derived.Test.YtdonibkkdhokpaaGreatMga
namespace Go.Proofs.YtdonibkkdhokpaaGreat
open Go Go.RowKit

/-- What a reader's step leaves: never more than there was; less, where it went well; and what was wrong stays so. -/
def Eats (s : List UInt8 → Bool → List UInt8 × Bool) : Prop :=
  (∀ l b, (s l b).1.length ≤ l.length) ∧ (∀ l, (s l true).2 = true) ∧ ∀ l, (s l false).2 = false → (s l false).1.length < l.length

theorem Eats.seq {s t : List UInt8 → Bool → List UInt8 × Bool} (h : Eats s) (k : Eats t) : Eats (fun l b => t (s l b).1 (s l b).2) := by
  obtain ⟨h1, h2, h3⟩ := h
  obtain ⟨k1, k2, k3⟩ := k
  refine ⟨fun l b => Nat.le_trans (k1 _ _) (h1 _ _), fun l => ?_, fun l hl => ?_⟩
  · show (t (s l true).1 (s l true).2).2 = true
    rw [h2]
    exact k2 _
  · dsimp only at hl ⊢
    cases hb : (s l false).2 with
    | true => rw [hb, k2] at hl; cases hl
    | false =>
      rw [hb] at hl
      exact Nat.lt_of_lt_of_le (k3 _ hl) (h1 _ _)

theorem eats_num : Eats (fun l b => (rnum l b).2) := by
  refine ⟨fun l b => ?_, fun l => rfl, fun l hl => ?_⟩
  · cases b with
    | true => exact Nat.le_refl _
    | false =>
      show (l.drop (getGo 0 0 l).2.1).length ≤ l.length
      rw [List.length_drop]
      omega
  · have h0 : (getGo 0 0 l).2.2 = 0 := by
      have : decide ((getGo 0 0 l).2.2 ≠ 0) = false := hl
      simpa using this
    have := getGo_ok l 0 0 (getGo 0 0 l).1 (getGo 0 0 l).2.1 (by decide) (Prod.ext rfl (Prod.ext rfl h0))
    show (l.drop (getGo 0 0 l).2.1).length < l.length
    rw [List.length_drop]
    omega

theorem getText_pos (l : List UInt8) (h : (getText l).2.2 = 0) : 0 < (getText l).2.1 := by
  unfold getText at h ⊢
  split
  · rename_i h0
    rw [if_pos h0] at h
    split
    · rename_i h1
      rw [if_pos h1] at h
      simp at h
    · have := getGo_ok l 0 0 (getGo 0 0 l).1 (getGo 0 0 l).2.1 (by decide) (Prod.ext rfl (Prod.ext rfl h0))
      show 0 < (getGo 0 0 l).2.1 + (getGo 0 0 l).1
      omega
  · rename_i h0
    rw [if_neg h0] at h
    exact absurd h h0

theorem eats_txt : Eats (fun l b => (rtxt l b).2) := by
  refine ⟨fun l b => ?_, fun l => rfl, fun l hl => ?_⟩
  · cases b with
    | true => exact Nat.le_refl _
    | false =>
      show (l.drop (getText l).2.1).length ≤ l.length
      rw [List.length_drop]
      omega
  · have h0 : (getText l).2.2 = 0 := by
      have : decide ((getText l).2.2 ≠ 0) = false := hl
      simpa using this
    have h1 := getText_pos l h0
    have h2 := getText_le l
    show (l.drop (getText l).2.1).length < l.length
    rw [List.length_drop]
    omega

theorem eats_long : Eats (fun l b => (rlong l b).2) := eats_num

theorem eats_tru : Eats (fun l b => (rtru l b).2) := by
  obtain ⟨h1, h2, h3⟩ := eats_num
  refine ⟨h1, fun l => ?_, fun l hl => ?_⟩
  · show (decide (1 < (rnum l true).1) || (rnum l true).2.2) = true
    rw [show (rnum l true).2.2 = true from rfl, Bool.or_true]
  · have : (decide (1 < (rnum l false).1) || (rnum l false).2.2) = false := hl
    exact h3 l (Bool.or_eq_false_iff.1 this).2

theorem eats_obj : Eats (fun l b => (robj l b).2) := eats_txt.seq eats_txt
theorem eats_sub : Eats (fun l b => (rsub l b).2) := eats_obj.seq eats_txt
theorem eats_pnt : Eats (fun l b => (rpnt l b).2) := eats_obj.seq eats_txt
theorem eats_tup : Eats (fun l b => (rtup l b).2) := (eats_obj.seq eats_txt).seq eats_sub
theorem eats_ask : Eats (fun l b => (rask l b).2) := eats_pnt.seq eats_sub
theorem eats_wri : Eats (fun l b => (rwri l b).2) := eats_tru.seq eats_tup
theorem eats_pre : Eats (fun l b => (rpre l b).2) := eats_tru.seq eats_tup
theorem eats_arg : Eats (fun l b => (rarg l b).2) := ((eats_txt.seq eats_long).seq eats_long).seq eats_txt

/-- So many items. -/
def rmany {α : Type} (f : List UInt8 → Bool → α × List UInt8 × Bool) : Nat → List UInt8 → Bool → List α × List UInt8 × Bool
  | 0, l, b => ([], l, b)
  | n + 1, l, b => if b = true then ([], l, true) else ((f l b).1 :: (rmany f n (f l b).2.1 (f l b).2.2).1, (rmany f n (f l b).2.1 (f l b).2.2).2)

def rlist {α : Type} (f : List UInt8 → Bool → α × List UInt8 × Bool) (l : List UInt8) (b : Bool) : List α × List UInt8 × Bool :=
  rmany f (rnum l b).1 (rnum l b).2.1 (rnum l b).2.2

theorem rmany_bad {α : Type} (f : List UInt8 → Bool → α × List UInt8 × Bool) (n : Nat) (l : List UInt8) : rmany f n l true = ([], l, true) := by
  cases n <;> rfl

theorem rmany_next {α : Type} (f : List UInt8 → Bool → α × List UInt8 × Bool) (n : Nat) (l : List UInt8) : rmany f (n + 1) l false = ((f l false).1 :: (rmany f n (f l false).2.1 (f l false).2.2).1, (rmany f n (f l false).2.1 (f l false).2.2).2) := rfl

theorem eats_many {α : Type} {f : List UInt8 → Bool → α × List UInt8 × Bool} (h : Eats (fun l b => (f l b).2)) : ∀ (n : Nat) (l : List UInt8) (b : Bool), (rmany f n l b).2.1.length ≤ l.length ∧ (rmany f n l true).2.2 = true
  | 0, l, b => ⟨Nat.le_refl _, rfl⟩
  | n + 1, l, b => by
    refine ⟨?_, rfl⟩
    cases b with
    | true => exact Nat.le_refl _
    | false =>
      rw [rmany_next]
      exact Nat.le_trans (eats_many h n _ _).1 (h.1 l false)

theorem eats_list {α : Type} {f : List UInt8 → Bool → α × List UInt8 × Bool} (h : Eats (fun l b => (f l b).2)) : Eats (fun l b => (rlist f l b).2) := by
  obtain ⟨h1, h2, h3⟩ := eats_num
  refine ⟨fun l b => Nat.le_trans (eats_many h _ _ _).1 (h1 l b), fun l => ?_, fun l hl => ?_⟩
  · exact (eats_many h 0 l true).2
  · have hb : (rnum l false).2.2 = false := by
      cases hb : (rnum l false).2.2 with
      | false => rfl
      | true =>
        have hl' : (rmany f (rnum l false).1 (rnum l false).2.1 (rnum l false).2.2).2.2 = false := hl
        rw [hb, rmany_bad] at hl'
        cases hl'
    exact Nat.lt_of_le_of_lt (eats_many h _ _ _).1 (h3 l hb)

theorem getGo_enc0 {N : Nat} (h : N < 18446744073709551616) (r : List UInt8) : getGo 0 0 (enc N ++ r) = (N, (enc N).length, 0) := by
  have := getGo_enc_go 9 0 N 0 r (Nat.lt_of_lt_of_le h (by decide)) (by decide) (.inl rfl) (by simpa using h)
  simpa using this

theorem getText_enc0 {S : List UInt8} (h : S.length < 18446744073709551616) (r : List UInt8) : getText (enc S.length ++ (S ++ r)) = (S, (enc S.length).length + S.length, 0) := by
  unfold getText
  rw [getGo_enc0 h]
  simp only [if_true]
  have h1 : (enc S.length ++ (S ++ r)).length - (enc S.length).length = (S ++ r).length := by rw [List.length_append]; omega
  rw [h1, if_neg (by rw [List.length_append]; omega)]
  rw [List.drop_left, List.take_left]

theorem rnum_enc {n : Nat} (h : n < 18446744073709551616) (r : List UInt8) : rnum (enc n ++ r) false = (n, r, false) := by
  unfold rnum
  rw [getGo_enc0 h]
  simp

theorem rtxt_txt {s : ByteArray} (h : s.size < 18446744073709551616) (r : List UInt8) : rtxt (txt s ++ r) false = (s, r, false) := by
  have hl : s.data.toList.length = s.size := Array.length_toList
  have e : txt s ++ r = enc s.data.toList.length ++ (s.data.toList ++ r) := by unfold txt; rw [hl, List.append_assoc]
  unfold rtxt
  rw [e, getText_enc0 (by rw [hl]; exact h)]
  simp

theorem rlong_zig {n : Int} (h : in64 n) (r : List UInt8) : rlong (enc (zig n) ++ r) false = (n, r, false) := by
  unfold rlong
  rw [rnum_enc (zig_lt h), unzig_zig h]

theorem rtru_bit (b : Bool) (r : List UInt8) : rtru (enc (bitN b) ++ r) false = (b, r, false) := by
  unfold rtru
  rw [rnum_enc (by cases b <;> decide)]
  cases b <;> rfl

def Sm (s : ByteArray) : Prop := s.size < 18446744073709551616
def T6.Sm (t : T6) : Prop := Proofs.YtdonibkkdhokpaaGreat.Sm t.a ∧ Proofs.YtdonibkkdhokpaaGreat.Sm t.b ∧ Proofs.YtdonibkkdhokpaaGreat.Sm t.c ∧ Proofs.YtdonibkkdhokpaaGreat.Sm t.d ∧ Proofs.YtdonibkkdhokpaaGreat.Sm t.e ∧ Proofs.YtdonibkkdhokpaaGreat.Sm t.f
def Arg4.Sm (x : Arg4) : Prop := Proofs.YtdonibkkdhokpaaGreat.Sm x.name ∧ in64 x.kind ∧ in64 x.n ∧ Proofs.YtdonibkkdhokpaaGreat.Sm x.s

theorem t6B_app (t : T6) (r : List UInt8) : t6B t ++ r = txt t.a ++ (txt t.b ++ (txt t.c ++ (txt t.d ++ (txt t.e ++ (txt t.f ++ r))))) := by
  unfold t6B txts T6.list
  simp

theorem rtup_t6 {t : T6} (h : t.Sm) (r : List UInt8) : rtup (t6B t ++ r) false = (t, r, false) := by
  obtain ⟨h1, h2, h3, h4, h5, h6⟩ := h
  rw [t6B_app]
  unfold rtup robj rsub robj
  simp only [rtxt_txt h1, rtxt_txt h2, rtxt_txt h3, rtxt_txt h4, rtxt_txt h5, rtxt_txt h6]

theorem rask_t6 {t : T6} (h : t.Sm) (r : List UInt8) : rask (t6B t ++ r) false = (t, r, false) := by
  obtain ⟨h1, h2, h3, h4, h5, h6⟩ := h
  rw [t6B_app]
  unfold rask rpnt robj rsub robj
  simp only [rtxt_txt h1, rtxt_txt h2, rtxt_txt h3, rtxt_txt h4, rtxt_txt h5, rtxt_txt h6]

theorem rwri_B {x : Wri} (h : x.t.Sm) (r : List UInt8) : rwri (wriB x ++ r) false = (x, r, false) := by
  unfold rwri wriB
  rw [List.append_assoc]
  simp only [rtru_bit, rtup_t6 h]

theorem rpre_B {x : Wri} (h : x.t.Sm) (r : List UInt8) : rpre (wriB x ++ r) false = (x, r, false) := by
  unfold rpre wriB
  rw [List.append_assoc]
  simp only [rtru_bit, rtup_t6 h]

theorem rarg_B {x : Arg4} (h : x.Sm) (r : List UInt8) : rarg (argB x ++ r) false = (x, r, false) := by
  obtain ⟨h1, h2, h3, h4⟩ := h
  unfold rarg argB
  simp only [List.append_assoc, rtxt_txt h1, rlong_zig h2, rlong_zig h3, rtxt_txt h4]

theorem rmany_B {α : Type} {f : List UInt8 → Bool → α × List UInt8 × Bool} {g : α → List UInt8} : ∀ (xs : List α), (∀ x ∈ xs, ∀ r, f (g x ++ r) false = (x, r, false)) → ∀ r, rmany f xs.length (xs.flatMap g ++ r) false = (xs, r, false)
  | [], _, r => rfl
  | x :: xs, h, r => by
    rw [List.length_cons, rmany_next, List.flatMap_cons, List.append_assoc, h x (by simp)]
    dsimp only
    rw [rmany_B xs (fun y hy => h y (by simp [hy]))]

theorem rlist_B {α : Type} {f : List UInt8 → Bool → α × List UInt8 × Bool} {g : α → List UInt8} (xs : List α) (hn : xs.length < 18446744073709551616) (h : ∀ x ∈ xs, ∀ r, f (g x ++ r) false = (x, r, false)) (r : List UInt8) : rlist f (listB g xs ++ r) false = (xs, r, false) := by
  unfold rlist listB
  rw [List.append_assoc, rnum_enc hn]
  exact rmany_B xs h r
end Go.Proofs.YtdonibkkdhokpaaGreat
