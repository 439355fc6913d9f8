/- CacheTells: what was put last. -/
import Derived.Test.YtdooedlapoknbaaCacheOpen
import Derived.Test.YtdooedlapoknbaaStrWalks
namespace Go.Proofs.Ytdooedlapoknbaa
open Go Go.RowKit Go.Maps

def hits (f b : Int) (x : CAct) : Bool := decide (x.k % 3 = 0) && decide (x.f = f) && decide (x.b = b)
def lastPut (l : List CAct) (f b : Int) : Option (List ByteArray) := (l.reverse.find? (hits f b)).map (·.ks)

theorem lastPut_succ {l : List CAct} {k : Nat} {x : CAct} (h : l[k]? = some x) (f b : Int) : lastPut (l.take (k + 1)) f b = if hits f b x then some x.ks else lastPut (l.take k) f b := by
  unfold lastPut
  rw [List.take_add_one, h]
  simp only [Option.toList_some, List.reverse_append, List.reverse_singleton, List.singleton_append, List.find?_cons]
  cases hits f b x <;> rfl

theorem lastPut_mem {l : List CAct} {f b : Int} {ks : List ByteArray} (h : lastPut l f b = some ks) : ∃ x ∈ l, x.ks = ks := by
  unfold lastPut at h
  obtain ⟨x, hx, rfl⟩ := Option.map_eq_some_iff.1 h
  exact ⟨x, List.mem_reverse.1 (List.mem_of_find?_eq_some hx), rfl⟩

/-- What is told was put last; it is not more than the room. -/
def TInv (l : List CAct) (j room : Nat) (E : List (Int × Int × List ByteArray)) : Prop := (∀ p ∈ E, lastPut (l.take j) p.1 p.2.1 = some p.2.2) ∧ usedE E ≤ room

theorem trimE_mem {room : Nat} : ∀ {E : List (Int × Int × List ByteArray)} {p : Int × Int × List ByteArray}, p ∈ trimE room E → p ∈ E
  | [], _, h => h
  | e :: t, p, h => by
    unfold trimE at h
    split at h
    · exact List.mem_cons_of_mem _ (trimE_mem h)
    · exact h

theorem trimE_used (room : Nat) : ∀ (E : List (Int × Int × List ByteArray)), usedE (trimE room E) ≤ room
  | [] => Nat.zero_le _
  | e :: t => by
    unfold trimE
    split
    · exact trimE_used room t
    · omega

theorem TInv.put {l : List CAct} {j room : Nat} {E : List (Int × Int × List ByteArray)} (h : TInv l j room E) {x : CAct} (hx : l[j]? = some x) (hp : x.k % 3 = 0) : TInv l (j + 1) room (putE room E x.f x.b x.ks) := by
  refine ⟨fun p hm => ?_, trimE_used _ _⟩
  rw [lastPut_succ hx]
  rcases List.mem_append.1 (trimE_mem hm) with hm | hm
  · unfold others at hm
    obtain ⟨hm, hne⟩ := List.mem_filter.1 hm
    have : hits p.1 p.2.1 x = false := by
      unfold hits
      rw [Bool.not_eq_true', decide_eq_false_iff_not] at hne
      by_cases h1 : x.f = p.1
      · by_cases h2 : x.b = p.2.1
        · exact absurd ⟨h1.symm, h2.symm⟩ hne
        · simp [h2]
      · simp [h1]
    rw [this]
    exact h.1 p hm
  · simp at hm
    subst hm
    have : hits x.f x.b x = true := by unfold hits; simp [hp]
    rw [this]
    rfl

theorem TInv.skip {l : List CAct} {j room : Nat} {E : List (Int × Int × List ByteArray)} (h : TInv l j room E) {x : CAct} (hx : l[j]? = some x) (hp : x.k % 3 ≠ 0) : TInv l (j + 1) room E := by
  refine ⟨fun p hm => ?_, h.2⟩
  rw [lastPut_succ hx, show hits p.1 p.2.1 x = false by unfold hits; simp [hp]]
  exact h.1 p hm

theorem used_filter (q : Int × Int × List ByteArray → Bool) : ∀ (E : List (Int × Int × List ByteArray)), usedE (E.filter q) ≤ usedE E
  | [] => Nat.le_refl _
  | e :: t => by
    have := used_filter q t
    rw [List.filter_cons]
    unfold usedE at this ⊢
    split <;> simp <;> omega

theorem used_others : ∀ {E : List (Int × Int × List ByteArray)} {f b : Int} {ks : List ByteArray}, (f, b, ks) ∈ E → usedE (others E f b ++ [(f, b, ks)]) ≤ usedE E
  | e :: t, f, b, ks, h => by
    have hf : usedE (others t f b) ≤ usedE t := used_filter _ t
    have e1 : ∀ A : List (Int × Int × List ByteArray), usedE (A ++ [(f, b, ks)]) = usedE A + esz (f, b, ks) := fun A => by unfold usedE; simp
    have e2 : usedE (e :: t) = esz e + usedE t := by unfold usedE; simp
    have e3 : ∀ A : List (Int × Int × List ByteArray), usedE (e :: A) = esz e + usedE A := fun A => by unfold usedE; simp
    rw [e1, e2]
    rcases List.mem_cons.1 h with rfl | h
    · have : others ((f, b, ks) :: t) f b = others t f b := by unfold others; rw [List.filter_cons, if_neg (by simp)]
      rw [this]
      omega
    · have ih := used_others h
      rw [e1] at ih
      have hle : usedE (others (e :: t) f b) ≤ esz e + usedE (others t f b) := by
        unfold others
        rw [List.filter_cons]
        split
        · rw [e3]; exact Nat.le_refl _
        · omega
      omega

theorem TInv.got {l : List CAct} {j room : Nat} {E : List (Int × Int × List ByteArray)} (h : TInv l j room E) {f b : Int} {ks : List ByteArray} (hm : (f, b, ks) ∈ E) : TInv l j room (others E f b ++ [(f, b, ks)]) := by
  refine ⟨fun p hp => ?_, Nat.le_trans (used_others hm) h.2⟩
  rcases List.mem_append.1 hp with hp | hp
  · exact h.1 p (List.mem_filter.1 hp).1
  · simp at hp
    subst hp
    exact h.1 _ hm

theorem used_len : ∀ (E : List (Int × Int × List ByteArray)), E.length ≤ usedE E
  | [] => Nat.zero_le _
  | e :: t => by
    have := used_len t
    have e2 : usedE (e :: t) = esz e + usedE t := by unfold usedE; simp
    rw [e2, List.length_cons]
    unfold esz
    omega

theorem few_ksz {ks : List ByteArray} (h : (ks.all fun y => decide (y.size ≤ 100)) = true) : ksz ks ≤ 100 * ks.length := by
  induction ks with
  | nil => exact Nat.le_refl _
  | cons y t ih =>
    rw [List.all_cons, Bool.and_eq_true, decide_eq_true_eq] at h
    have := ih h.2
    unfold ksz at this ⊢
    simp
    omega

theorem fewC_of {l : List CAct} (h : fewC l = true) : l.length ≤ 150 ∧ ∀ x ∈ l, x.ks.length ≤ 20 ∧ ksz x.ks ≤ 2000 := by
  unfold fewC at h
  rw [Bool.and_eq_true, decide_eq_true_eq, List.all_eq_true] at h
  refine ⟨h.2, fun x hx => ?_⟩
  have := h.1 x hx
  unfold okA at this
  rw [Bool.and_eq_true, decide_eq_true_eq] at this
  have h2 := few_ksz this.2
  exact ⟨this.1, by have := this.1; omega⟩

theorem TInv.few {l : List CAct} {j room : Nat} {E : List (Int × Int × List ByteArray)} (h : TInv l j room E) (hf : fewC l = true) (hr : room < 65536) : usedE E ≤ 65535 ∧ E.length ≤ 1000000 ∧ ∀ p ∈ E, p.2.2.length ≤ 1000000 := by
  have h1 := h.2
  have h2 := used_len E
  refine ⟨by omega, by omega, fun p hp => ?_⟩
  obtain ⟨x, hx, he⟩ := lastPut_mem (h.1 p hp)
  have := ((fewC_of hf).2 x (List.mem_of_mem_take hx)).1
  rw [← he]
  omega

def TellsRel (w : World) (l : List CAct) (B c room : Nat) (i : Value) (wr : World) : Prop :=
  ∃ (k : Nat) (E : List (Int × Int × List ByteArray)), i = .int .i64 (k : Int) ∧ k ≤ l.length ∧ CA anyG wr B c room E ∧ TInv l k room E ∧ Below w.heap.size w wr

/-- The search for what was put last. -/
def BackRel (W : World) (l : List CAct) (j : Nat) (f b : Int) (ks : List ByteArray) (found n : Value) (wi : World) : Prop :=
  ∃ (t : Bool) (m : Nat), found = .bool t ∧ n = .int .i64 ((m : Int) - 1) ∧ m ≤ j ∧ (t = false → lastPut (l.take m) f b = some ks) ∧ Below W.heap.size W wi
end Go.Proofs.Ytdooedlapoknbaa
