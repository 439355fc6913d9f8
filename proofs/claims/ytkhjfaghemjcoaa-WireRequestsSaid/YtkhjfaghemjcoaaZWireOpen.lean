/- A request that came in. -/
import Derived.Test.YtkhjfaghemjcoaaZFieldOpen
import Derived.Test.YtkhjfaghemjcoaaZWirePut
namespace Go.Proofs.Ytkhjfaghemjcoaa
open Go Go.RowKit Go.Joins Go.WideShapes Go.ChangeShapes Go.ChangeAt Go.Deep

section
variable {H : Type} {enc : TypeId × Value → H} {w : World} {base : Nat} {spare : Nat → Bool} {held : Bool}

theorem obj_cells {n : Nat} {c0 c1 : Value} {y : DataW H × List MemPlace} (h : DataW.trod enc Try.prog w base spare held n 48 [c0, c1] = some y) (hz : WOk 48 y.1) : ∃ s0 s1 : ByteArray, c0 = .string s0 ∧ c1 = .string s1 := by
  have k1 : Try.prog.cellsOf 9 = 1 := by kernel_rfl
  obtain ⟨_, _, h0, z0⟩ := open_field Try.underlying48 h hz 0 9 0 1 rfl k1
  obtain ⟨_, _, h1, z1⟩ := open_field Try.underlying48 h hz 1 9 1 1 rfl k1
  simp at h0 h1
  obtain ⟨s0, rfl, _⟩ := sized_string h0 z0
  obtain ⟨s1, rfl, _⟩ := sized_string h1 z1
  exact ⟨s0, s1, rfl, rfl⟩

theorem three_cells {t : TypeId} (ht : Try.prog.underlying t = Try.prog.underlying 64) {n : Nat} {c0 c1 c2 : Value} {y : DataW H × List MemPlace} (h : DataW.trod enc Try.prog w base spare held n t [c0, c1, c2] = some y) (hz : WOk t y.1) : ∃ s0 s1 s2 : ByteArray, c0 = .string s0 ∧ c1 = .string s1 ∧ c2 = .string s2 := by
  have k1 : Try.prog.cellsOf 9 = 1 := by kernel_rfl
  have k2 : Try.prog.cellsOf 48 = 2 := by kernel_rfl
  obtain ⟨_, _, h0, z0⟩ := open_field (ht.trans Try.underlying64) h hz 0 48 0 2 rfl k2
  obtain ⟨_, _, h1, z1⟩ := open_field (ht.trans Try.underlying64) h hz 1 9 2 1 rfl k1
  simp at h0 h1
  obtain ⟨s0, s1, rfl, rfl⟩ := obj_cells h0 z0
  obtain ⟨s2, rfl, _⟩ := sized_string h1 z1
  exact ⟨s0, s1, s2, rfl, rfl, rfl⟩

theorem tuple_cells {n : Nat} {c0 c1 c2 c3 c4 c5 : Value} {y : DataW H × List MemPlace} (h : DataW.trod enc Try.prog w base spare held n 71 [c0, c1, c2, c3, c4, c5] = some y) (hz : WOk 71 y.1) : ∃ x : T6, [c0, c1, c2, c3, c4, c5] = x.cells := by
  have k1 : Try.prog.cellsOf 9 = 1 := by kernel_rfl
  have k2 : Try.prog.cellsOf 48 = 2 := by kernel_rfl
  have k3 : Try.prog.cellsOf 64 = 3 := by kernel_rfl
  obtain ⟨_, _, h0, z0⟩ := open_field Try.underlying71 h hz 0 48 0 2 rfl k2
  obtain ⟨_, _, h1, z1⟩ := open_field Try.underlying71 h hz 1 9 2 1 rfl k1
  obtain ⟨_, _, h2, z2⟩ := open_field Try.underlying71 h hz 2 64 3 3 rfl k3
  simp at h0 h1 h2
  obtain ⟨s0, s1, rfl, rfl⟩ := obj_cells h0 z0
  obtain ⟨s2, rfl, _⟩ := sized_string h1 z1
  obtain ⟨s3, s4, s5, rfl, rfl, rfl⟩ := three_cells rfl h2 z2
  exact ⟨⟨s0, s1, s2, s3, s4, s5⟩, rfl⟩

theorem write_one {t : TypeId} {fs : Array Field} (ht : Try.prog.underlying t = some (.struct fs)) (q0 : fs[0]?.map (fun f => (f.type, f.offset)) = some (4, 0)) (q1 : fs[1]?.map (fun f => (f.type, f.offset)) = some (71, 1)) {n : Nat} {cs : List Value} {y : DataW H × List MemPlace} (hl : cs.length = 7) (h : DataW.trod enc Try.prog w base spare held n t cs = some y) (hz : WOk t y.1) : ∃ x : Wri, cs = x.cells := by
  have k1 : Try.prog.cellsOf 4 = 1 := by kernel_rfl
  have k6 : Try.prog.cellsOf 71 = 6 := by kernel_rfl
  obtain ⟨_, _, h0, z0⟩ := open_field ht h hz 0 4 0 1 q0 k1
  obtain ⟨_, _, h1, z1⟩ := open_field ht h hz 1 71 1 6 q1 k6
  match cs, hl with
  | [c0, c1, c2, c3, c4, c5, c6], _ =>
    simp at h0 h1
    obtain ⟨b, rfl⟩ := one_bool h0
    obtain ⟨x, hx⟩ := tuple_cells h1 z1
    rw [hx]
    exact ⟨⟨b, x⟩, rfl⟩

theorem ask_one {n : Nat} {cs : List Value} {y : DataW H × List MemPlace} (hl : cs.length = 6) (h : DataW.trod enc Try.prog w base spare held n 78 cs = some y) (hz : WOk 78 y.1) : ∃ x : T6, cs = x.cells := by
  have k3 : Try.prog.cellsOf 63 = 3 := by kernel_rfl
  have k4 : Try.prog.cellsOf 64 = 3 := by kernel_rfl
  obtain ⟨_, _, h0, z0⟩ := open_field Try.underlying78 h hz 0 63 0 3 rfl k3
  obtain ⟨_, _, h1, z1⟩ := open_field Try.underlying78 h hz 1 64 3 3 rfl k4
  match cs, hl with
  | [c0, c1, c2, c3, c4, c5], _ =>
    simp at h0 h1
    obtain ⟨s0, s1, s2, rfl, rfl, rfl⟩ := three_cells (by rw [Try.underlying63, Try.underlying64]) h0 z0
    obtain ⟨s3, s4, s5, rfl, rfl, rfl⟩ := three_cells rfl h1 z1
    exact ⟨⟨s0, s1, s2, s3, s4, s5⟩, rfl⟩

def Arg4.ok (x : Arg4) : Prop := in64 x.kind ∧ in64 x.n ∧ x.name.size ≤ 140737488351232 ∧ x.s.size ≤ 140737488351232

theorem arg_one {n : Nat} {cs : List Value} {y : DataW H × List MemPlace} (hl : cs.length = 4) (h : DataW.trod enc Try.prog w base spare held n 82 cs = some y) (hz : WOk 82 y.1) : ∃ x : Arg4, cs = x.cells ∧ x.ok := by
  have k1 : Try.prog.cellsOf 9 = 1 := by kernel_rfl
  have ki : Try.prog.cellsOf 3 = 1 := by kernel_rfl
  have kj : Try.prog.cellsOf 2 = 1 := by kernel_rfl
  have k3 : Try.prog.cellsOf 80 = 3 := by kernel_rfl
  obtain ⟨_, _, h0, z0⟩ := open_field Try.underlying82 h hz 0 9 0 1 rfl k1
  obtain ⟨_, _, h1, z1⟩ := open_field Try.underlying82 h hz 1 80 1 3 rfl k3
  obtain ⟨_, _, h2, z2⟩ := open_field Try.underlying80 h1 z1 0 3 0 1 rfl ki
  obtain ⟨_, _, h3, z3⟩ := open_field Try.underlying80 h1 z1 1 2 1 1 rfl kj
  obtain ⟨_, _, h4, z4⟩ := open_field Try.underlying80 h1 z1 2 9 2 1 rfl k1
  match cs, hl with
  | [c0, c1, c2, c3], _ =>
    simp at h0 h2 h3 h4
    obtain ⟨s0, rfl, hs0⟩ := sized_string h0 z0
    obtain ⟨m, rfl, hm⟩ := one_i64 Try.underlying3 h2
    obtain ⟨m2, rfl, hm2⟩ := one_i64 Try.underlying2 h3
    obtain ⟨s1, rfl, hs1⟩ := sized_string h4 z4
    exact ⟨⟨s0, m, m2, s1⟩, rfl, hm, hm2, hs0, hs1⟩

/-- What a request that came in tells. -/
structure ReqCame (w : World) (q : Req) (a1 a2 a3 a4 : Option Addr) (n1 n2 n3 n4 c1 c2 c3 c4 : Nat) : Prop where
  r1 : Reads w 7 (.slice a1 n1 c1) n1 (q.writes.flatMap Wri.cells)
  r2 : Reads w 7 (.slice a2 n2 c2) n2 (q.pres.flatMap Wri.cells)
  r3 : Reads w 6 (.slice a3 n3 c3) n3 (q.asks.flatMap T6.cells)
  r4 : Reads w 4 (.slice a4 n4 c4) n4 (q.args.flatMap Arg4.cells)
  k1 : q.writes.length = n1
  k2 : q.pres.length = n2
  k3 : q.asks.length = n3
  k4 : q.args.length = n4
  b1 : n1 ≤ 5000000000000
  b2 : n2 ≤ 5000000000000
  b3 : n3 ≤ 5000000000000
  b4 : n4 ≤ 5000000000000
  ok : ReqIn q
  args : ∀ x ∈ q.args, x.ok
  s1 : q.client.size ≤ 140737488351232
  s2 : q.token.size ≤ 140737488351232
  s3 : q.typ.size ≤ 140737488351232
  s4 : q.f1.size ≤ 140737488351232
  s5 : q.f2.size ≤ 140737488351232
  s6 : q.f3.size ≤ 140737488351232

theorem array14 {α : Type} {cs : Array α} (h : cs.size = 14) : ∃ c0 c1 c2 c3 c4 c5 c6 c7 c8 c9 c10 c11 c12 c13, cs = #[c0, c1, c2, c3, c4, c5, c6, c7, c8, c9, c10, c11, c12, c13] := by
  obtain ⟨l⟩ := cs
  match l, h with
  | [c0, c1, c2, c3, c4, c5, c6, c7, c8, c9, c10, c11, c12, c13], _ => exact ⟨c0, c1, c2, c3, c4, c5, c6, c7, c8, c9, c10, c11, c12, c13, rfl⟩

set_option maxRecDepth 100000 in
theorem request_open {r : Reach} {b0 : Nat} {v : Value} {d : DataW H} {p : List MemPlace} (hv : Value.okWide Try.prog w r b0 30 v) (h : DataW.Trod enc Try.prog w base spare held 30 v d p) (hz : WOk 30 d) :
    ∃ q a1 a2 a3 a4 n1 n2 n3 n4 c1 c2 c3 c4, v = .agg #[.string q.client, .int .u64 (q.id : Int), .int .i64 q.kind, .int .i64 q.how, .string q.token, .int .u64 (q.n : Int), .string q.typ, .string q.f1, .string q.f2, .string q.f3, .slice a1 n1 c1, .slice a2 n2 c2, .slice a3 n3 c3, .slice a4 n4 c4] ∧ ReqCame w q a1 a2 a3 a4 n1 n2 n3 n4 c1 c2 c3 c4 := by
  have : Inhabited T6 := ⟨⟨⟨#[]⟩, ⟨#[]⟩, ⟨#[]⟩, ⟨#[]⟩, ⟨#[]⟩, ⟨#[]⟩⟩⟩
  have : Inhabited Wri := ⟨⟨false, default⟩⟩
  have : Inhabited Arg4 := ⟨⟨⟨#[]⟩, 0, 0, ⟨#[]⟩⟩⟩
  have k14 : Try.prog.cellsOf 30 = 14 := by kernel_rfl
  have kt : Try.prog.cellsOf 9 = 1 := by kernel_rfl
  have ki : Try.prog.cellsOf 3 = 1 := by kernel_rfl
  have ku : Try.prog.cellsOf 22 = 1 := by kernel_rfl
  have kf : Try.prog.cellsOf 24 = 3 := by kernel_rfl
  have l1 : Try.prog.cellsOf 25 = 1 := by kernel_rfl
  have l2 : Try.prog.cellsOf 26 = 1 := by kernel_rfl
  have l3 : Try.prog.cellsOf 27 = 1 := by kernel_rfl
  have l4 : Try.prog.cellsOf 28 = 1 := by kernel_rfl
  have e1 : Try.prog.bytesOf 73 = 104 := by kernel_rfl
  have e2 : Try.prog.bytesOf 76 = 104 := by kernel_rfl
  have e3 : Try.prog.bytesOf 78 = 96 := by kernel_rfl
  have e4 : Try.prog.bytesOf 82 = 48 := by kernel_rfl
  obtain ⟨cs, rfl, hsz⟩ := okWide_struct Try.underlying30 hv
  obtain ⟨d0, d1, d2, d3, d4, d5, d6, d7, d8, d9, d10, d11, d12, d13, rfl⟩ := array14 (hsz.trans k14)
  obtain ⟨fuel, hf⟩ := h
  have hf' := hf
  have U := Try.underlying30
  obtain ⟨_, _, h0, z0⟩ := open_field U hf hz 0 9 0 1 rfl kt
  obtain ⟨_, _, h1, z1⟩ := open_field U hf hz 1 22 1 1 rfl ku
  obtain ⟨_, _, h2, z2⟩ := open_field U hf hz 2 3 2 1 rfl ki
  obtain ⟨_, _, h3, z3⟩ := open_field U hf hz 3 3 3 1 rfl ki
  obtain ⟨_, _, h4, z4⟩ := open_field U hf hz 4 9 4 1 rfl kt
  obtain ⟨_, _, h5, z5⟩ := open_field U hf hz 5 22 5 1 rfl ku
  obtain ⟨_, _, h6, z6⟩ := open_field U hf hz 6 9 6 1 rfl kt
  obtain ⟨_, _, h7, z7⟩ := open_field U hf hz 7 24 7 3 rfl kf
  obtain ⟨_, _, h10, z10⟩ := open_field U hf hz 8 25 10 1 rfl l1
  obtain ⟨_, _, h11, z11⟩ := open_field U hf hz 9 26 11 1 rfl l2
  obtain ⟨_, _, h12, z12⟩ := open_field U hf hz 10 27 12 1 rfl l3
  obtain ⟨_, _, h13, z13⟩ := open_field U hf hz 11 28 13 1 rfl l4
  obtain ⟨_, _, f0, y0⟩ := open_field Try.underlying24 h7 z7 0 9 0 1 rfl kt
  obtain ⟨_, _, f1, y1⟩ := open_field Try.underlying24 h7 z7 1 9 1 1 rfl kt
  obtain ⟨_, _, f2, y2⟩ := open_field Try.underlying24 h7 z7 2 9 2 1 rfl kt
  simp [Value.cells] at h0 h1 h2 h3 h4 h5 h6 f0 f1 f2 h10 h11 h12 h13
  obtain ⟨s0, rfl, b0⟩ := sized_string h0 z0
  obtain ⟨m1, rfl, b1⟩ := one_u64 h1
  obtain ⟨m2, rfl, b2⟩ := one_i64 Try.underlying3 h2
  obtain ⟨m3, rfl, b3⟩ := one_i64 Try.underlying3 h3
  obtain ⟨s4, rfl, b4⟩ := sized_string h4 z4
  obtain ⟨m5, rfl, b5⟩ := one_u64 h5
  obtain ⟨s6, rfl, b6⟩ := sized_string h6 z6
  obtain ⟨s7, rfl, b7⟩ := sized_string f0 y0
  obtain ⟨s8, rfl, b8⟩ := sized_string f1 y1
  obtain ⟨s9, rfl, b9⟩ := sized_string f2 y2
  obtain ⟨a1, n1, c1, w1, rfl, _, _, hn1, _, r1, hb1⟩ := slice_rows_sized Wri.cells (fun _ => True) Try.underlying25 (by kernel_rfl) (by decide) (fun _ => rfl) (fun n cs y hl ht hw => (write_one Try.underlying73 rfl rfl hl ht hw).imp fun _ h => ⟨h, trivial⟩) h10 z10
  obtain ⟨a2, n2, c2, w2, rfl, _, _, hn2, _, r2, hb2⟩ := slice_rows_sized Wri.cells (fun _ => True) Try.underlying26 (by kernel_rfl) (by decide) (fun _ => rfl) (fun n cs y hl ht hw => (write_one Try.underlying76 rfl rfl hl ht hw).imp fun _ h => ⟨h, trivial⟩) h11 z11
  obtain ⟨a3, n3, c3, w3, rfl, _, _, hn3, _, r3, hb3⟩ := slice_rows_sized T6.cells (fun _ => True) Try.underlying27 (by kernel_rfl) (by decide) (fun _ => rfl) (fun n cs y hl ht hw => (ask_one hl ht hw).imp fun _ h => ⟨h, trivial⟩) h12 z12
  obtain ⟨a4, n4, c4, w4, rfl, _, _, hn4, hq4, r4, hb4⟩ := slice_rows_sized Arg4.cells Arg4.ok Try.underlying28 (by kernel_rfl) (by decide) (fun _ => rfl) (fun n cs y hl ht hw => arg_one hl ht hw) h13 z13
  rw [e1] at hb1
  rw [e2] at hb2
  rw [e3] at hb3
  rw [e4] at hb4
  have e : reachBytes = 140737488351232 := rfl
  rw [e] at hb1 hb2 hb3 hb4
  exact ⟨⟨s0, m1, m2, m3, s4, m5, s6, s7, s8, s9, w1, w2, w3, w4⟩, a1, a2, a3, a4, n1, n2, n3, n4, c1, c2, c3, c4, rfl,
    ⟨r1, r2, r3, r4, hn1, hn2, hn3, hn4, by omega, by omega, by omega, by omega, ⟨⟨b2, b3⟩, b1, b5, fun x hx => ⟨(hq4 x hx).1, (hq4 x hx).2.1⟩⟩, hq4, b0, b4, b6, b7, b8, b9⟩⟩
end
end Go.Proofs.Ytkhjfaghemjcoaa
