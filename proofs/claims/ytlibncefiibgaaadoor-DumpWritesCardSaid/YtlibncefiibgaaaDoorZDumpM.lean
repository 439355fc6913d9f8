/- A dump: what its text tells. -/
import Derived.Test.YtlibncefiibgaaaDoorZTupleParse
import Derived.Test.YtlibncefiibgaaaDoorZTupleCmp2
import Derived.Test.YtlibncefiibgaaaDoorMga
import Derived.Lib.ItoaNum
namespace Go.Proofs.YtlibncefiibgaaaDoor
open Go Go.RowKit

def headB : ByteArray := ⟨#[100, 117, 109, 112, 32, 49]⟩
def endB (n : Nat) : ByteArray := ⟨#[101, 110, 100, 32]⟩ ++ ⟨(Lib.decDigits n).toArray⟩

/-- What a line does. -/
inductive TakeR where
  | more (ts : List Six)
  | done
  | bad (e : Nat)

def stepT (ts : List Six) (t : Six) : TakeR :=
  match ts.getLast? with
  | none => .more (ts ++ [t])
  | some p => if 0 ≤ cmpBs p.list t.list then .bad 11 else .more (ts ++ [t])

def takeD (at' : Nat) (ts : List Six) (line : ByteArray) : TakeR :=
  if at' = 1 then (if line = headB then .more ts else .bad 9)
  else if line = endB ts.length then .done
  else if isText line then stepT ts (Six.of line)
  else .bad 9

theorem drop_lt {l : List UInt8} {c : UInt8} (h : c ∈ l) : (cutRL l c).length < l.length := by
  unfold cutRL
  have h1 : (l.dropWhile (· != c)).length ≤ l.length := (List.dropWhile_suffix _).length_le
  rw [List.length_drop]
  have h2 : 0 < l.length := List.length_pos_iff.2 (fun e => by rw [e] at h; cases h)
  omega

/-- What a text tells, from a line on. -/
def readD (at' : Nat) (ts : List Six) (l : List UInt8) : Except (Nat × Nat) (List Six) :=
  if _h : (10 : UInt8) ∈ l then
    match takeD at' ts ⟨(cutAL l 10).toArray⟩ with
    | .bad e => .error (at', e)
    | .done => if cutRL l 10 = [] then .ok ts else .error (at' + 1, 9)
    | .more ts' => readD (at' + 1) ts' (cutRL l 10)
  else .error (at', 7)
termination_by l.length
decreasing_by exact drop_lt _h

theorem readD_none {at' : Nat} {ts : List Six} {l : List UInt8} (h : (10 : UInt8) ∉ l) : readD at' ts l = .error (at', 7) := by
  rw [readD, dif_neg h]

theorem readD_bad {at' e : Nat} {ts : List Six} {l : List UInt8} (h : (10 : UInt8) ∈ l) (ht : takeD at' ts ⟨(cutAL l 10).toArray⟩ = .bad e) : readD at' ts l = .error (at', e) := by
  rw [readD, dif_pos h, ht]

theorem readD_done {at' : Nat} {ts : List Six} {l : List UInt8} (h : (10 : UInt8) ∈ l) (ht : takeD at' ts ⟨(cutAL l 10).toArray⟩ = .done) : readD at' ts l = if cutRL l 10 = [] then .ok ts else .error (at' + 1, 9) := by
  rw [readD, dif_pos h, ht]

theorem readD_more {at' : Nat} {ts ts' : List Six} {l : List UInt8} (h : (10 : UInt8) ∈ l) (ht : takeD at' ts ⟨(cutAL l 10).toArray⟩ = .more ts') : readD at' ts l = readD (at' + 1) ts' (cutRL l 10) := by
  rw [readD, dif_pos h, ht]

/-- A row of tuples, cell by cell. -/
def Six.cells (t : Six) : List Value := scells t.list
def tcells (l : List Six) : List Value := l.flatMap Six.cells
theorem tcells_length (l : List Six) : (tcells l).length = l.length * 6 := flat_length Six.cells 6 (fun _ => rfl) l
theorem tcells_snoc (l : List Six) (t : Six) : tcells (l ++ [t]) = tcells l ++ t.cells := by simp [tcells]
theorem tcells_one (l : List Six) : ∀ u ∈ tcells l, u.oneCell' = true := by
  intro u hu
  obtain ⟨t, _, ht⟩ := List.mem_flatMap.1 hu
  simp [Six.cells, Six.list, scells] at ht
  rcases ht with rfl | rfl | rfl | rfl | rfl | rfl <;> rfl
theorem tcells_at (l : List Six) {i : Nat} {t : Six} (h : l[i]? = some t) {j : Nat} (hj : j < 6) : (tcells l)[i * 6 + j]? = t.cells[j]? := flat_cell Six.cells 6 (fun _ => rfl) l i t h j hj

theorem Reads.six {w : World} {a : Option Addr} {n cap : Nat} {l : List Six} (h : Reads w 6 (.slice a n cap) n (tcells l)) {i : Nat} {t : Six} (ht : l[i]? = some t) :
    ∃ b off, a = some ⟨b, off, none⟩ ∧ b < w.heap.size ∧ w.cell? ⟨b, off + i * 6, none⟩ = some (.string t.a) ∧ w.cell? ⟨b, off + i * 6 + 1, none⟩ = some (.string t.b) ∧ w.cell? ⟨b, off + i * 6 + 2, none⟩ = some (.string t.c) ∧ w.cell? ⟨b, off + i * 6 + 3, none⟩ = some (.string t.d) ∧ w.cell? ⟨b, off + i * 6 + 4, none⟩ = some (.string t.e) ∧ w.cell? ⟨b, off + i * 6 + 5, none⟩ = some (.string t.f) := by
  obtain ⟨b, off, rfl, hb, h0⟩ := h.at (j := i * 6 + 0) (u := .string t.a) (by rw [tcells_at l ht (by omega)]; rfl)
  obtain ⟨_, _, hv, _, h1⟩ := h.at (j := i * 6 + 1) (u := .string t.b) (by rw [tcells_at l ht (by omega)]; rfl)
  cases hv
  obtain ⟨_, _, hv, _, h2⟩ := h.at (j := i * 6 + 2) (u := .string t.c) (by rw [tcells_at l ht (by omega)]; rfl)
  cases hv
  obtain ⟨_, _, hv, _, h3⟩ := h.at (j := i * 6 + 3) (u := .string t.d) (by rw [tcells_at l ht (by omega)]; rfl)
  cases hv
  obtain ⟨_, _, hv, _, h4⟩ := h.at (j := i * 6 + 4) (u := .string t.e) (by rw [tcells_at l ht (by omega)]; rfl)
  cases hv
  obtain ⟨_, _, hv, _, h5⟩ := h.at (j := i * 6 + 5) (u := .string t.f) (by rw [tcells_at l ht (by omega)]; rfl)
  cases hv
  exact ⟨b, off, rfl, hb, h0, by rw [Nat.add_assoc]; exact h1, by rw [Nat.add_assoc]; exact h2, by rw [Nat.add_assoc]; exact h3, by rw [Nat.add_assoc]; exact h4, by rw [Nat.add_assoc]; exact h5⟩

theorem info_six : (Tryd.prog.info? 37).map (fun i => (i.zero, i.size, i.bytes)) = some (some (.agg #[.string ⟨#[]⟩, .string ⟨#[]⟩, .string ⟨#[]⟩, .string ⟨#[]⟩, .string ⟨#[]⟩, .string ⟨#[]⟩]), 6, 96) := by kernel_rfl

/-- How a read ends. -/
def ReadPost (w : World) (r : Except (Nat × Nat) (List Six)) (e : Ending) (w' : World) : Prop :=
  Below w.heap.size w w' ∧ match r with
    | .ok ts => ∃ v, e = .returned (.tuple #[v, .int .i64 0, .int .i64 0]) ∧ w'.ownsRow w.heap.size 37 6 v ts.length (tcells ts)
    | .error (a, x) => e = .returned (.tuple #[.slice none 0 0, .int .i64 (a : Int), .int .i64 (x : Int)])
end Go.Proofs.YtlibncefiibgaaaDoor
