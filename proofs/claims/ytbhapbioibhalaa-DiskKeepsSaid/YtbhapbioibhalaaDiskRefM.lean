/- The reference's disk, as values; its state in memory. -/
import Derived.Test.YtbhapbioibhalaaDiskRefName
namespace Go.Proofs.Ytbhapbioibhalaa
open Go Go.RowKit Go.Maps

/-- set, as it goes over a directory. -/
def setF (s : ByteArray) (g : Nat) : Dir → Bool → Dir
  | [], done => if done then [] else [(s, g)]
  | (t, h) :: l, done => (if !done && bl s t then [(s, g)] else []) ++ ((if t = s then [] else [(t, h)]) ++ setF s g l (done || bl s t))

theorem setF_true (s : ByteArray) (g : Nat) : ∀ l : Dir, setF s g l true = delD l s
  | [] => rfl
  | (t, h) :: l => by
    unfold setF delD
    have ih := setF_true s g l
    unfold delD at ih
    rw [Bool.true_or, ih]
    by_cases e : t = s
    · subst e
      simp
    · simp [e]

theorem delD_all {l : Dir} {s : ByteArray} (h : ∀ p ∈ l, p.1 ≠ s) : delD l s = l := by
  unfold delD
  exact List.filter_eq_self.2 fun p hp => by simp [h p hp]

theorem setF_false (s : ByteArray) (g : Nat) : ∀ {l : Dir}, UpD l → setF s g l false = putD l s g
  | [], _ => rfl
  | (t, h) :: l, hu => by
    obtain ⟨hp, hl⟩ := List.pairwise_cons.1 hu
    have ih := setF_false s g hl
    unfold setF putD
    cases hb : bl s t with
    | true =>
      have hne : ∀ q ∈ l, q.1 ≠ s := fun q hq e => by
        have := bl_trans hb (hp q hq)
        rw [e, bl_irrefl] at this
        cases this
      have hts : ¬ t = s := fun e => by rw [e, bl_irrefl] at hb; cases hb
      rw [Bool.false_or, setF_true, delD_all hne]
      simp [hts]
    | false =>
      rw [Bool.false_or, ih]
      by_cases e : t = s
      · subst e
        simp
        cases l with
        | nil => rfl
        | cons q l =>
          obtain ⟨q1, q2⟩ := q
          have := hp (q1, q2) List.mem_cons_self
          unfold putD
          rw [if_pos this]
      · simp [e]

/-- The reference's acts: from, to, file. -/
abbrev RAct := ByteArray × ByteArray × Nat
def RAct.cells (a : RAct) : List Value := [.string a.1, .string a.2.1, .int .i64 (a.2.2 : Int)]
def ncell (p : ByteArray × Nat) : List Value := [.string p.1, .int .i64 (p.2 : Int)]
def ncells (l : Dir) : List Value := l.flatMap ncell
theorem ncell_len (p : ByteArray × Nat) : (ncell p).length = 2 := rfl
theorem ncells_length (l : Dir) : (ncells l).length = l.length * 2 := flat_length ncell 2 ncell_len l
theorem ncells_append (a b : Dir) : ncells (a ++ b) = ncells a ++ ncells b := List.flatMap_append ..
theorem ncells_one (l : Dir) : ∀ u ∈ ncells l, u.oneCell' = true := by
  intro u hu
  obtain ⟨p, _, hp⟩ := List.mem_flatMap.1 hu
  simp [ncell] at hp
  rcases hp with rfl | rfl <;> rfl

/-- done, of a directory. -/
def doneR (l : Dir) (a : RAct) : Dir :=
  let m := if a.1.size = 0 then l else delD l a.1
  if a.2.1.size = 0 then m else putD m a.2.1 a.2.2

theorem Reads.name {w : World} {a : Option Addr} {n cap : Nat} {l : Dir} (h : Reads w 2 (.slice a n cap) n (ncells l)) {i : Nat} {p : ByteArray × Nat} (hp : l[i]? = some p) :
    ∃ b off, a = some ⟨b, off, none⟩ ∧ b < w.heap.size ∧ w.cell? ⟨b, off + i * 2, none⟩ = some (.string p.1) ∧ w.cell? ⟨b, off + i * 2 + 1, none⟩ = some (.int .i64 (p.2 : Int)) := by
  have q0 : (ncells l)[i * 2 + 0]? = some (.string p.1) := by unfold ncells; rw [flat_cell ncell 2 ncell_len l i p hp 0 (by decide)]; rfl
  have q1 : (ncells l)[i * 2 + 1]? = some (.int .i64 (p.2 : Int)) := by unfold ncells; rw [flat_cell ncell 2 ncell_len l i p hp 1 (by decide)]; rfl
  obtain ⟨b, off, rfl, hb, k0⟩ := h.at q0
  obtain ⟨b', off', hv, _, k1⟩ := h.at q1
  cases hv
  exact ⟨b, off, rfl, hb, k0, by rw [Nat.add_assoc]; exact k1⟩

theorem infoN : (Try.prog.info? 67).map (fun i => (i.zero, i.size, i.bytes)) = some (some (.agg #[.string ⟨#[]⟩, .int .i64 0]), 2, 24) := by kernel_rfl

def findI (l : Dir) (s : ByteArray) : Int := match fileOf l s with
  | some g => (g : Int)
  | none => -1

theorem fileOf_drop {l : Dir} {s : ByteArray} {k : Nat} (h : ∀ i p, i < k → l[i]? = some p → p.1 ≠ s) : fileOf l s = fileOf (l.drop k) s := by
  induction k generalizing l with
  | zero => rfl
  | succ k ih =>
    cases l with
    | nil => rfl
    | cons p l =>
      obtain ⟨t, g⟩ := p
      have h0 : t ≠ s := h 0 (t, g) (by omega) rfl
      show (if t = s then some g else fileOf l s) = _
      rw [if_neg h0, List.drop_succ_cons]
      exact ih fun i p hi hp => h (i + 1) p (by omega) (by simpa using hp)

def RfRel (W : World) (l : Dir) (s : ByteArray) (iv : Value) (wr : World) : Prop := ∃ k : Nat, iv = .int .i64 (k : Int) ∧ k ≤ l.length ∧ (∀ i p, i < k → l[i]? = some p → p.1 ≠ s) ∧ Below W.heap.size W wr

set_option maxRecDepth 100000 in
set_option maxHeartbeats 1000000 in
theorem rfind_any (W : World) (v : Value) (l : Dir) (s : ByteArray) (h : Reads W 2 v l.length (ncells l)) : Calls Try.prog 42 #[v, .string s] W (GivesI W (findI l s)) := by
  obtain ⟨a, cap, hv, hc1, hc2⟩ := h.le
  subst hv
  obtain ⟨n, hn⟩ : ∃ n, l.length = n := ⟨_, rfl⟩
  rw [hn] at h hc1 ⊢
  unfold maxLen at hc2
  have HR := Lib.hid h
  have HN := Lib.hid hn
  clear h hn
  go_enter Try.func42, Try.ntmps42
  go_wp2
  go_loopw [9] (fun iv wr => RfRel W l s iv wr) (fun iv _ => n - (intOf iv).toNat)
  case atStart => exact ⟨0, rfl, Nat.zero_le _, fun i p hi => by omega, Below.refl _ _⟩
  case round =>
    rename World => wr
    obtain ⟨k, rfl, hk, hno, hb⟩ := hrel
    rw [HN.out] at hk
    have HNo := Lib.hid hno
    have HB := Lib.hid hb
    clear hno hb
    by_cases hlt : k < n
    · have hltI : (k : Int) < n := by omega
      obtain ⟨p, hp⟩ : ∃ p, l[k]? = some p := ⟨_, List.getElem?_eq_getElem (by rw [HN.out]; exact hlt)⟩
      obtain ⟨b, off, rfl, hbl, k0, k1⟩ := (HR.out.below' HB.out).name hp
      obtain ⟨t, g⟩ := p
      simp only at k0 k1
      have HP := Lib.hid hp
      clear hp
      by_cases hts : t = s
      · subst hts
        go_wp2
        go_ret
        refine ⟨?_, HB.out.alloc HB.out.size _⟩
        have h1 := fileOf_drop HNo.out
        rw [List.drop_eq_getElem_cons (by rw [HN.out]; exact hlt)] at h1
        have h2 : l[k]'(by rw [HN.out]; exact hlt) = (t, g) := by have := HP.out; rw [List.getElem?_eq_getElem (by rw [HN.out]; exact hlt)] at this; exact Option.some.inj this
        rw [h2] at h1
        unfold fileOf at h1
        rw [if_pos rfl] at h1
        unfold findI
        rw [show fileOf l t = some g from by cases l with | nil => cases HP.out | cons q r => exact h1]
        rfl
      · have hne : (t.toList == s.toList) = false := by
          rw [beq_eq_false_iff_ne, Go.ByteArray.toList_eq, Go.ByteArray.toList_eq]
          exact fun e => hts (Go.WideShapes.bytes_inj e)
        go_wp2
        exact ⟨⟨k + 1, by go_num, by rw [HN.out]; omega, fun i q hi hq => by
          by_cases hik : i < k
          · exact HNo.out i q hik hq
          · obtain rfl : i = k := by omega
            rw [HP.out] at hq
            cases hq
            exact hts, HB.out.alloc HB.out.size _⟩, by simp [intOf]; omega⟩
    · have hltI : ¬ (k : Int) < n := by omega
      have hd : fileOf l s = none := by
        rw [fileOf_drop HNo.out, List.drop_of_length_le (by rw [HN.out]; omega)]
        rfl
      have HD := Lib.hid hd
      clear hd
      go_wp2
      go_ret
      refine ⟨?_, HB.out⟩
      unfold findI
      rw [HD.out]
      rfl
end Go.Proofs.Ytbhapbioibhalaa
