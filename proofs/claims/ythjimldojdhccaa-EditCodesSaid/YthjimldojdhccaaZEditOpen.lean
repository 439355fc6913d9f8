/- A version, and an edit, that came in. -/
import Derived.Test.YthjimldojdhccaaZFieldOpen
import Derived.Test.YthjimldojdhccaaZEditV
namespace Go.Proofs.Ythjimldojdhccaa
open Go Go.RowKit Go.Joins Go.WideShapes Go.ChangeShapes Go.ChangeAt Go.Deep

def inI (x : Int) : Prop := -9223372036854775808 ≤ x ∧ x ≤ 9223372036854775807
def Tb.ok (t : Tb) : Prop := inI t.num ∧ inI t.lev ∧ inI t.size ∧ t.first.size ≤ 140737488351232 ∧ t.last.size ≤ 140737488351232

theorem inI_wf {x : Int} (h : inI x) : (Lit.int .i64 x).wf = true := by
  simp [Lit.wf, IntKind.min, IntKind.max, IntKind.signed, IntKind.bits]
  exact h

/-- What a version that came in tells. -/
structure VerCame (w : World) (v : Ver) (a : Option Addr) (n c : Nat) : Prop where
  rows : TRows w (.slice a n c) v.tabs
  ok : ∀ t ∈ v.tabs, t.ok
  fl : v.floor < 18446744073709551616
  hd : v.head < 18446744073709551616
  lg : inI v.log
  nx : inI v.next

structure EdCame (w : World) (e : Ed) (a1 a2 : Option Addr) (n1 c1 n2 c2 : Nat) : Prop where
  rows : TRows w (.slice a1 n1 c1) e.add
  ok : ∀ t ∈ e.add, t.ok
  drop : Reads w 1 (.slice a2 n2 c2) n2 (ncells e.drop)
  dok : ∀ x ∈ e.drop, inI x
  fl : e.floor < 18446744073709551616
  hd : e.head < 18446744073709551616
  lg : inI e.log
  nx : inI e.next

section
variable {H : Type} {enc : TypeId × Value → H} {w : World} {base : Nat} {spare : Nat → Bool} {held : Bool}

theorem table_one {n : Nat} {cs : List Value} {y : DataW H × List MemPlace} (hl : cs.length = 5) (h : DataW.trod enc Try.prog w base spare held n 45 cs = some y) (hz : WOk 45 y.1) : ∃ x : Tb, cs = x.cells ∧ x.ok := by
  have k1 : Try.prog.cellsOf 9 = 1 := by kernel_rfl
  have ki : Try.prog.cellsOf 3 = 1 := by kernel_rfl
  obtain ⟨_, _, h0, z0⟩ := open_field Try.underlying45 h hz 0 3 0 1 rfl ki
  obtain ⟨_, _, h1, z1⟩ := open_field Try.underlying45 h hz 1 3 1 1 rfl ki
  obtain ⟨_, _, h2, z2⟩ := open_field Try.underlying45 h hz 2 3 2 1 rfl ki
  obtain ⟨_, _, h3, z3⟩ := open_field Try.underlying45 h hz 3 9 3 1 rfl k1
  obtain ⟨_, _, h4, z4⟩ := open_field Try.underlying45 h hz 4 9 4 1 rfl k1
  match cs, hl with
  | [c0, c1, c2, c3, c4], _ =>
    simp at h0 h1 h2 h3 h4
    obtain ⟨m0, rfl, b0⟩ := one_i64 Try.underlying3 h0
    obtain ⟨m1, rfl, b1⟩ := one_i64 Try.underlying3 h1
    obtain ⟨m2, rfl, b2⟩ := one_i64 Try.underlying3 h2
    obtain ⟨s0, rfl, hs0⟩ := sized_string h3 z3
    obtain ⟨s1, rfl, hs1⟩ := sized_string h4 z4
    exact ⟨⟨m0, m1, m2, s0, s1⟩, rfl, b0, b1, b2, hs0, hs1⟩

theorem ncells_flat (l : List Int) : l.flatMap (fun x => [Value.int .i64 x]) = ncells l := by
  induction l with
  | nil => rfl
  | cons a r ih => rw [List.flatMap_cons, ih]; rfl

theorem array5 {α : Type} {cs : Array α} (h : cs.size = 5) : ∃ c0 c1 c2 c3 c4, cs = #[c0, c1, c2, c3, c4] := by
  obtain ⟨l⟩ := cs
  match l, h with
  | [c0, c1, c2, c3, c4], _ => exact ⟨c0, c1, c2, c3, c4, rfl⟩
theorem array6 {α : Type} {cs : Array α} (h : cs.size = 6) : ∃ c0 c1 c2 c3 c4 c5, cs = #[c0, c1, c2, c3, c4, c5] := by
  obtain ⟨l⟩ := cs
  match l, h with
  | [c0, c1, c2, c3, c4, c5], _ => exact ⟨c0, c1, c2, c3, c4, c5, rfl⟩

set_option maxRecDepth 100000 in
theorem version_open {r : Reach} {b0 : Nat} {v : Value} {d : DataW H} {p : List MemPlace} (hv : Value.okWide Try.prog w r b0 38 v) (h : DataW.Trod enc Try.prog w base spare held 38 v d p) (hz : WOk 38 d) :
    ∃ q a n c, v = .agg #[.slice a n c, .int .u64 (q.floor : Int), .int .u64 (q.head : Int), .int .i64 q.log, .int .i64 q.next] ∧ VerCame w q a n c := by
  have : Inhabited Tb := ⟨⟨0, 0, 0, ⟨#[]⟩, ⟨#[]⟩⟩⟩
  have k5 : Try.prog.cellsOf 38 = 5 := by kernel_rfl
  have ki : Try.prog.cellsOf 3 = 1 := by kernel_rfl
  have ku : Try.prog.cellsOf 24 = 1 := by kernel_rfl
  have l1 : Try.prog.cellsOf 22 = 1 := by kernel_rfl
  obtain ⟨cs, rfl, hsz⟩ := okWide_struct Try.underlying38 hv
  obtain ⟨d0, d1, d2, d3, d4, rfl⟩ := array5 (hsz.trans k5)
  obtain ⟨fuel, hf⟩ := h
  have U := Try.underlying38
  obtain ⟨_, _, h0, z0⟩ := open_field U hf hz 0 22 0 1 rfl l1
  obtain ⟨_, _, h1, z1⟩ := open_field U hf hz 1 24 1 1 rfl ku
  obtain ⟨_, _, h2, z2⟩ := open_field U hf hz 2 24 2 1 rfl ku
  obtain ⟨_, _, h3, z3⟩ := open_field U hf hz 3 3 3 1 rfl ki
  obtain ⟨_, _, h4, z4⟩ := open_field U hf hz 4 3 4 1 rfl ki
  simp [Value.cells] at h0 h1 h2 h3 h4
  obtain ⟨m1, rfl, b1⟩ := one_u64 h1
  obtain ⟨m2, rfl, b2⟩ := one_u64 h2
  obtain ⟨m3, rfl, b3⟩ := one_i64 Try.underlying3 h3
  obtain ⟨m4, rfl, b4⟩ := one_i64 Try.underlying3 h4
  obtain ⟨a1, n1, c1, w1, rfl, _, _, hn1, hq1, r1, _⟩ := slice_rows_sized Tb.cells Tb.ok Try.underlying22 (by kernel_rfl) (by decide) (fun _ => rfl) (fun n cs y hl ht hw => table_one hl ht hw) h0 z0
  subst hn1
  exact ⟨⟨w1, m1, m2, m3, m4⟩, a1, _, c1, rfl, r1, hq1, by omega, by omega, b3, b4⟩

set_option maxRecDepth 100000 in
theorem edit_open {r : Reach} {b0 : Nat} {v : Value} {d : DataW H} {p : List MemPlace} (hv : Value.okWide Try.prog w r b0 26 v) (h : DataW.Trod enc Try.prog w base spare held 26 v d p) (hz : WOk 26 d) :
    ∃ q a1 a2 n1 c1 n2 c2, v = .agg #[.slice a1 n1 c1, .slice a2 n2 c2, .int .u64 (q.floor : Int), .int .u64 (q.head : Int), .int .i64 q.log, .int .i64 q.next] ∧ EdCame w q a1 a2 n1 c1 n2 c2 := by
  have : Inhabited Tb := ⟨⟨0, 0, 0, ⟨#[]⟩, ⟨#[]⟩⟩⟩
  have k6 : Try.prog.cellsOf 26 = 6 := by kernel_rfl
  have ki : Try.prog.cellsOf 3 = 1 := by kernel_rfl
  have ku : Try.prog.cellsOf 24 = 1 := by kernel_rfl
  have l1 : Try.prog.cellsOf 22 = 1 := by kernel_rfl
  have l2 : Try.prog.cellsOf 23 = 1 := by kernel_rfl
  obtain ⟨cs, rfl, hsz⟩ := okWide_struct Try.underlying26 hv
  obtain ⟨d0, d1, d2, d3, d4, d5, rfl⟩ := array6 (hsz.trans k6)
  obtain ⟨fuel, hf⟩ := h
  have U := Try.underlying26
  obtain ⟨_, _, h0, z0⟩ := open_field U hf hz 0 22 0 1 rfl l1
  obtain ⟨_, _, h1, z1⟩ := open_field U hf hz 1 23 1 1 rfl l2
  obtain ⟨_, _, h2, z2⟩ := open_field U hf hz 2 24 2 1 rfl ku
  obtain ⟨_, _, h3, z3⟩ := open_field U hf hz 3 24 3 1 rfl ku
  obtain ⟨_, _, h4, z4⟩ := open_field U hf hz 4 3 4 1 rfl ki
  obtain ⟨_, _, h5, z5⟩ := open_field U hf hz 5 3 5 1 rfl ki
  simp [Value.cells] at h0 h1 h2 h3 h4 h5
  obtain ⟨m2, rfl, b2⟩ := one_u64 h2
  obtain ⟨m3, rfl, b3⟩ := one_u64 h3
  obtain ⟨m4, rfl, b4⟩ := one_i64 Try.underlying3 h4
  obtain ⟨m5, rfl, b5⟩ := one_i64 Try.underlying3 h5
  obtain ⟨a1, n1, c1, w1, rfl, _, _, hn1, hq1, r1, _⟩ := slice_rows_sized Tb.cells Tb.ok Try.underlying22 (by kernel_rfl) (by decide) (fun _ => rfl) (fun n cs y hl ht hw => table_one hl ht hw) h0 z0
  obtain ⟨a2, n2, c2, w2, rfl, _, _, hn2, hq2, r2, _⟩ := slice_rows_sized (fun x : Int => [Value.int .i64 x]) inI Try.underlying23 (by kernel_rfl) (by decide) (fun _ => rfl) (fun n cs y hl ht hw => by
    match cs, hl with
    | [c0], _ =>
      obtain ⟨m, rfl, b⟩ := one_i64 Try.underlying3 ht
      exact ⟨m, rfl, b⟩) h1 z1
  subst hn1
  rw [ncells_flat] at r2
  exact ⟨⟨w1, w2, m2, m3, m4, m5⟩, a1, a2, _, c1, n2, c2, rfl, r1, hq1, r2, hq2, by omega, by omega, b4, b5⟩
end
end Go.Proofs.Ythjimldojdhccaa
