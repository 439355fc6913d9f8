/- Requests as values; sentryref37.SameRequest of the same request (written by gen_wirev.py). -/
import Derived.Test.YtdonibkkdhokpaaGreatMga
import Derived.Test.YtdonibkkdhokpaaGreatZWireTrip
import Derived.Test.YtdonibkkdhokpaaGreatZWireRq
namespace Go.Proofs.YtdonibkkdhokpaaGreat
open Go Go.RowKit

/-- v is the request q. -/
structure ReqR (w : World) (q : Req) (a1 a2 a3 a4 : Option Addr) (n1 n2 n3 n4 c1 c2 c3 c4 : Nat) : Prop where
  r1 : Reads w 7 (.slice a1 n1 c1) n1 (q.writes.flatMap Wri.cells)
  r2 : Reads w 7 (.slice a2 n2 c2) n2 (q.pres.flatMap Wri.cells)
  r3 : Reads w 6 (.slice a3 n3 c3) n3 (q.asks.flatMap T6.cells)
  r4 : Reads w 4 (.slice a4 n4 c4) n4 (q.args.flatMap Arg4.cells)
  k1 : q.writes.length = n1
  k2 : q.pres.length = n2
  k3 : q.asks.length = n3
  k4 : q.args.length = n4

theorem ReqR.below {w w' : World} {q : Req} {a1 a2 a3 a4 : Option Addr} {n1 n2 n3 n4 c1 c2 c3 c4 : Nat} (h : ReqR w q a1 a2 a3 a4 n1 n2 n3 n4 c1 c2 c3 c4) (b : Below w.heap.size w w') : ReqR w' q a1 a2 a3 a4 n1 n2 n3 n4 c1 c2 c3 c4 :=
  ⟨h.r1.below' b, h.r2.below' b, h.r3.below' b, h.r4.below' b, h.k1, h.k2, h.k3, h.k4⟩

theorem ReqOwn.reqR {B : Nat} {w : World} {q : Req} {v1 v2 v3 v4 : Value} (h : ReqOwn B w q v1 v2 v3 v4) : ∃ a1 a2 a3 a4 c1 c2 c3 c4, v1 = .slice a1 q.writes.length c1 ∧ v2 = .slice a2 q.pres.length c2 ∧ v3 = .slice a3 q.asks.length c3 ∧ v4 = .slice a4 q.args.length c4 ∧ ReqR w q a1 a2 a3 a4 q.writes.length q.pres.length q.asks.length q.args.length c1 c2 c3 c4 := by
  have r1 := ownsRow.reads h.writes
  have r2 := ownsRow.reads h.pres
  have r3 := ownsRow.reads h.asks
  have r4 := ownsRow.reads h.args
  obtain ⟨a1, c1, rfl, _, _⟩ := r1.le
  obtain ⟨a2, c2, rfl, _, _⟩ := r2.le
  obtain ⟨a3, c3, rfl, _, _⟩ := r3.le
  obtain ⟨a4, c4, rfl, _, _⟩ := r4.le
  exact ⟨a1, a2, a3, a4, c1, c2, c3, c4, rfl, rfl, rfl, rfl, r1, r2, r3, r4, rfl, rfl, rfl, rfl⟩

/-- No law asks about more. -/
structure ReqLow (q : Req) : Prop where
  ok : ReqIn q
  len : (reqB q).length ≤ 20000000
  n1 : q.writes.length ≤ 20000000
  n2 : q.pres.length ≤ 20000000
  n3 : q.asks.length ≤ 20000000
  n4 : q.args.length ≤ 20000000

theorem putreq_v {w : World} {q : Req} {a1 a2 a3 a4 : Option Addr} {n1 n2 n3 n4 c1 c2 c3 c4 : Nat} (h : ReqR w q a1 a2 a3 a4 n1 n2 n3 n4 c1 c2 c3 c4) (hq : ReqLow q) : Calls Tryz.prog 11 #[.agg #[.string q.client, .int .u64 (q.id : Int), .int .i64 q.kind, .int .i64 q.how, .string q.token, .int .u64 (q.n : Int), .string q.typ, .string q.f1, .string q.f2, .string q.f3, .slice a1 n1 c1, .slice a2 n2 c2, .slice a3 n3 c3, .slice a4 n4 c4]] w (BytesPost w (reqB q)) :=
  putrequest_any w q a1 a2 a3 a4 n1 n2 n3 n4 c1 c2 c3 c4 h.r1 h.r2 h.r3 h.r4 h.k1 h.k2 h.k3 h.k4 hq.ok hq.len ⟨h.k1 ▸ hq.n1, h.k2 ▸ hq.n2, h.k3 ▸ hq.n3, h.k4 ▸ hq.n4⟩

theorem refreq_v {w : World} {q : Req} {a1 a2 a3 a4 : Option Addr} {n1 n2 n3 n4 c1 c2 c3 c4 : Nat} (h : ReqR w q a1 a2 a3 a4 n1 n2 n3 n4 c1 c2 c3 c4) (hq : ReqLow q) : Calls Tryz.prog 82 #[.agg #[.string q.client, .int .u64 (q.id : Int), .int .i64 q.kind, .int .i64 q.how, .string q.token, .int .u64 (q.n : Int), .string q.typ, .string q.f1, .string q.f2, .string q.f3, .slice a1 n1 c1, .slice a2 n2 c2, .slice a3 n3 c3, .slice a4 n4 c4]] w (GivesOwn w (reqB q)) :=
  refrequest_any w q a1 a2 a3 a4 n1 n2 n3 n4 c1 c2 c3 c4 h.r1 h.r2 h.r3 h.r4 h.k1 h.k2 h.k3 h.k4 hq.ok hq.len ⟨h.k1 ▸ hq.n1, h.k2 ▸ hq.n2, h.k3 ▸ hq.n3, h.k4 ▸ hq.n4⟩

set_option maxRecDepth 100000 in
set_option maxHeartbeats 4000000 in
theorem samereq_v (w : World) (q : Req) (a1 a2 a3 a4 b1 b2 b3 b4 : Option Addr) (n1 n2 n3 n4 c1 c2 c3 c4 d1 d2 d3 d4 : Nat) (h : ReqR w q a1 a2 a3 a4 n1 n2 n3 n4 c1 c2 c3 c4) (k : ReqR w q b1 b2 b3 b4 n1 n2 n3 n4 d1 d2 d3 d4) (hq : ReqLow q) :
    Calls Tryz.prog 13 #[.agg #[.string q.client, .int .u64 (q.id : Int), .int .i64 q.kind, .int .i64 q.how, .string q.token, .int .u64 (q.n : Int), .string q.typ, .string q.f1, .string q.f2, .string q.f3, .slice a1 n1 c1, .slice a2 n2 c2, .slice a3 n3 c3, .slice a4 n4 c4], .agg #[.string q.client, .int .u64 (q.id : Int), .int .i64 q.kind, .int .i64 q.how, .string q.token, .int .u64 (q.n : Int), .string q.typ, .string q.f1, .string q.f2, .string q.f3, .slice b1 n1 d1, .slice b2 n2 d2, .slice b3 n3 d3, .slice b4 n4 d4]] w (GivesBool w true) := by
  have HR1 := Lib.hid h
  have HR2 := Lib.hid k
  have HC1 := Lib.hid (fun w' (h : ReqR w' q a1 a2 a3 a4 n1 n2 n3 n4 c1 c2 c3 c4) => refreq_v h hq)
  have HC2 := Lib.hid (fun w' (h : ReqR w' q b1 b2 b3 b4 n1 n2 n3 n4 d1 d2 d3 d4) => refreq_v h hq)
  have hb0 : Below w.heap.size w ((w.alloc (.cells #[.string q.client, .int .u64 (q.id : Int), .int .i64 q.kind, .int .i64 q.how, .string q.token, .int .u64 (q.n : Int), .string q.typ, .string q.f1, .string q.f2, .string q.f3, .slice a1 n1 c1, .slice a2 n2 c2, .slice a3 n3 c3, .slice a4 n4 c4] 54)).alloc (.cells #[.string q.client, .int .u64 (q.id : Int), .int .i64 q.kind, .int .i64 q.how, .string q.token, .int .u64 (q.n : Int), .string q.typ, .string q.f1, .string q.f2, .string q.f3, .slice b1 n1 d1, .slice b2 n2 d2, .slice b3 n3 d3, .slice b4 n4 d4] 54)) := ((Below.refl _ _).alloc (Nat.le_refl _) _).alloc (by simp) _
  have hx1 : ((w.alloc (.cells #[.string q.client, .int .u64 (q.id : Int), .int .i64 q.kind, .int .i64 q.how, .string q.token, .int .u64 (q.n : Int), .string q.typ, .string q.f1, .string q.f2, .string q.f3, .slice a1 n1 c1, .slice a2 n2 c2, .slice a3 n3 c3, .slice a4 n4 c4] 54)).alloc (.cells #[.string q.client, .int .u64 (q.id : Int), .int .i64 q.kind, .int .i64 q.how, .string q.token, .int .u64 (q.n : Int), .string q.typ, .string q.f1, .string q.f2, .string q.f3, .slice b1 n1 d1, .slice b2 n2 d2, .slice b3 n3 d3, .slice b4 n4 d4] 54)).heap[w.heap.size]? = some (.cells #[.string q.client, .int .u64 (q.id : Int), .int .i64 q.kind, .int .i64 q.how, .string q.token, .int .u64 (q.n : Int), .string q.typ, .string q.f1, .string q.f2, .string q.f3, .slice a1 n1 c1, .slice a2 n2 c2, .slice a3 n3 c3, .slice a4 n4 c4] 54 (0, 0)) := (Below.heap_alloc _ _ _ (by simp)).trans (heap_alloc_new _ _)
  have hx2 : ((w.alloc (.cells #[.string q.client, .int .u64 (q.id : Int), .int .i64 q.kind, .int .i64 q.how, .string q.token, .int .u64 (q.n : Int), .string q.typ, .string q.f1, .string q.f2, .string q.f3, .slice a1 n1 c1, .slice a2 n2 c2, .slice a3 n3 c3, .slice a4 n4 c4] 54)).alloc (.cells #[.string q.client, .int .u64 (q.id : Int), .int .i64 q.kind, .int .i64 q.how, .string q.token, .int .u64 (q.n : Int), .string q.typ, .string q.f1, .string q.f2, .string q.f3, .slice b1 n1 d1, .slice b2 n2 d2, .slice b3 n3 d3, .slice b4 n4 d4] 54)).heap[w.heap.size + 1]? = some (.cells #[.string q.client, .int .u64 (q.id : Int), .int .i64 q.kind, .int .i64 q.how, .string q.token, .int .u64 (q.n : Int), .string q.typ, .string q.f1, .string q.f2, .string q.f3, .slice b1 n1 d1, .slice b2 n2 d2, .slice b3 n3 d3, .slice b4 n4 d4] 54 (0, 0)) := by
    have := heap_alloc_new (w.alloc (.cells #[.string q.client, .int .u64 (q.id : Int), .int .i64 q.kind, .int .i64 q.how, .string q.token, .int .u64 (q.n : Int), .string q.typ, .string q.f1, .string q.f2, .string q.f3, .slice a1 n1 c1, .slice a2 n2 c2, .slice a3 n3 c3, .slice a4 n4 c4] 54)) (.cells #[.string q.client, .int .u64 (q.id : Int), .int .i64 q.kind, .int .i64 q.how, .string q.token, .int .u64 (q.n : Int), .string q.typ, .string q.f1, .string q.f2, .string q.f3, .slice b1 n1 d1, .slice b2 n2 d2, .slice b3 n3 d3, .slice b4 n4 d4] 54)
    simpa using this
  have HX1 := Lib.hid hx1
  have HX2 := Lib.hid hx2
  have HB := Lib.hid hb0
  obtain ⟨L, hL⟩ : ∃ L, reqB q = L := ⟨_, rfl⟩
  rw [hL] at HC1 HC2
  clear h k hb0 hx1 hx2 hL hq
  go_enter Tryz.func13, Tryz.ntmps13
  go_upto_region 1 with fail
  obtain ⟨g1, hg1⟩ : ∃ g, w.heap.size = g := ⟨_, rfl⟩
  obtain ⟨g2, hg2⟩ : ∃ g, w.heap.size + 1 = g := ⟨_, rfl⟩
  rw [hg1] at HX1
  rw [hg2] at HX2
  rw [hg2, hg1]
  generalize ((w.alloc (.cells #[.string q.client, .int .u64 (q.id : Int), .int .i64 q.kind, .int .i64 q.how, .string q.token, .int .u64 (q.n : Int), .string q.typ, .string q.f1, .string q.f2, .string q.f3, .slice a1 n1 c1, .slice a2 n2 c2, .slice a3 n3 c3, .slice a4 n4 c4] 54)).alloc (.cells #[.string q.client, .int .u64 (q.id : Int), .int .i64 q.kind, .int .i64 q.how, .string q.token, .int .u64 (q.n : Int), .string q.typ, .string q.f1, .string q.f2, .string q.f3, .slice b1 n1 d1, .slice b2 n2 d2, .slice b3 n3 d3, .slice b4 n4 d4] 54)) = W2 at *
  clear hg1 hg2
  have hg1l := (Array.getElem?_eq_some_iff.1 HX1.out).1
  have hg2l := (Array.getElem?_eq_some_iff.1 HX2.out).1
  refine wp_region_all (by kernel_rfl) [eqF (.agg #[.string q.client, .int .u64 (q.id : Int), .int .i64 q.kind, .int .i64 q.how, .string q.token, .int .u64 (q.n : Int), .string q.typ, .string q.f1, .string q.f2, .string q.f3, .slice a1 n1 c1, .slice a2 n2 c2, .slice a3 n3 c3, .slice a4 n4 c4]), ownsF w.heap.size 5 1 L.length (bcells L), eqF (.string ⟨L.toArray⟩), eqF (.agg #[.string q.client, .int .u64 (q.id : Int), .int .i64 q.kind, .int .i64 q.how, .string q.token, .int .u64 (q.n : Int), .string q.typ, .string q.f1, .string q.f2, .string q.f3, .slice b1 n1 d1, .slice b2 n2 d2, .slice b3 n3 d3, .slice b4 n4 d4]), ownsF w.heap.size 5 1 L.length (bcells L), eqF (.string ⟨L.toArray⟩), eqF (.bool true), eqF (.bool true)] (by kernel_rfl) ⟨?_, ?_, ?_, ?_, ?_, ?_, ?_, ?_, trivial⟩ ⟨trivial, trivial, trivial, trivial, trivial, trivial, trivial, trivial, trivial⟩ ?_
  · intro ρ wx hρ hbx hl
    have e2 : ρ (.tmp 2) = .pointer (some ⟨g1, 0, none⟩) := hρ.tmp 2 (by decide +kernel)
    exact y_load_row _ _ rfl g1 e2 _ _ _ _ ((hbx.block g1 hg1l).trans HX1.out) Tryz.underlying54 rfl (by kernel_rfl) rfl
  · intro ρ wx hρ hbx hl
    have e5 : ρ (.tmp 5) = .agg #[.string q.client, .int .u64 (q.id : Int), .int .i64 q.kind, .int .i64 q.how, .string q.token, .int .u64 (q.n : Int), .string q.typ, .string q.f1, .string q.f2, .string q.f3, .slice a1 n1 c1, .slice a2 n2 c2, .slice a3 n3 c3, .slice a4 n4 c4] := hl 0 (by decide +kernel) 5 rfl
    refine y_call (f := 82) (args := #[.agg #[.string q.client, .int .u64 (q.id : Int), .int .i64 q.kind, .int .i64 q.how, .string q.token, .int .u64 (q.n : Int), .string q.typ, .string q.f1, .string q.f2, .string q.f3, .slice a1 n1 c1, .slice a2 n2 c2, .slice a3 n3 c3, .slice a4 n4 c4]]) (by simp [execOp, resolve, invoke, hρ.func, go_sem, e5]) ?_
    refine (HC1.out wx (HR1.out.below (HB.out.trans (hbx.mono HB.out.size)))).mono ?_
    rintro e w6 ⟨v7, rfl, f7, b7⟩
    exact ⟨v7, rfl, owns_less f7 (Nat.le_trans HB.out.size hbx.size), b7⟩
  · intro ρ wx hρ hbx hl
    have e6 := hl 1 (by decide +kernel) 6 rfl
    obtain ⟨sa, sc, hsv, _, _⟩ := (ownsRow.reads e6).le
    have hc := Reads.conv (P := Tryz.prog) (w := wx) (src := 39) (e := 5) (dst := 9) Tryz.underlying39 Tryz.underlying5 Tryz.underlying9 (ownsRow.reads e6)
    refine y_val (v := .string ⟨L.toArray⟩) ?_ rfl
    simp [execOp, hc]
  · intro ρ wx hρ hbx hl
    have e3 : ρ (.tmp 3) = .pointer (some ⟨g2, 0, none⟩) := hρ.tmp 3 (by decide +kernel)
    exact y_load_row _ _ rfl g2 e3 _ _ _ _ ((hbx.block g2 hg2l).trans HX2.out) Tryz.underlying54 rfl (by kernel_rfl) rfl
  · intro ρ wx hρ hbx hl
    have e8 : ρ (.tmp 8) = .agg #[.string q.client, .int .u64 (q.id : Int), .int .i64 q.kind, .int .i64 q.how, .string q.token, .int .u64 (q.n : Int), .string q.typ, .string q.f1, .string q.f2, .string q.f3, .slice b1 n1 d1, .slice b2 n2 d2, .slice b3 n3 d3, .slice b4 n4 d4] := hl 3 (by decide +kernel) 8 rfl
    refine y_call (f := 82) (args := #[.agg #[.string q.client, .int .u64 (q.id : Int), .int .i64 q.kind, .int .i64 q.how, .string q.token, .int .u64 (q.n : Int), .string q.typ, .string q.f1, .string q.f2, .string q.f3, .slice b1 n1 d1, .slice b2 n2 d2, .slice b3 n3 d3, .slice b4 n4 d4]]) (by simp [execOp, resolve, invoke, hρ.func, go_sem, e8]) ?_
    refine (HC2.out wx (HR2.out.below (HB.out.trans (hbx.mono HB.out.size)))).mono ?_
    rintro e w6 ⟨v7, rfl, f7, b7⟩
    exact ⟨v7, rfl, owns_less f7 (Nat.le_trans HB.out.size hbx.size), b7⟩
  · intro ρ wx hρ hbx hl
    have e9 := hl 4 (by decide +kernel) 9 rfl
    obtain ⟨sa, sc, hsv, _, _⟩ := (ownsRow.reads e9).le
    have hc := Reads.conv (P := Tryz.prog) (w := wx) (src := 39) (e := 5) (dst := 9) Tryz.underlying39 Tryz.underlying5 Tryz.underlying9 (ownsRow.reads e9)
    refine y_val (v := .string ⟨L.toArray⟩) ?_ rfl
    simp [execOp, hc]
  · intro ρ wx hρ hbx hl
    have e7 : ρ (.tmp 7) = .string ⟨L.toArray⟩ := hl 2 (by decide +kernel) 7 rfl
    have e10 : ρ (.tmp 10) = .string ⟨L.toArray⟩ := hl 5 (by decide +kernel) 10 rfl
    refine y_val (v := .bool true) ?_ rfl
    simp [execOp, go_sem, e7, e10]
  · intro ρ wx hρ hbx hl
    have e11 : ρ (.tmp 11) = .bool true := hl 6 (by decide +kernel) 11 rfl
    refine y_val (v := .bool true) ?_ rfl
    simp [execOp, go_sem, e11]
  intro aa wz hdef hsz hlk hbz hf
  have ha := act_of_like hdef hsz hlk [5, 6, 7, 8, 9, 10, 11, 4] 12 rfl (by decide +kernel)
  have e5 : aa.tmps.getD 5 undef = .agg #[.string q.client, .int .u64 (q.id : Int), .int .i64 q.kind, .int .i64 q.how, .string q.token, .int .u64 (q.n : Int), .string q.typ, .string q.f1, .string q.f2, .string q.f3, .slice a1 n1 c1, .slice a2 n2 c2, .slice a3 n3 c3, .slice a4 n4 c4] := hf 0 _ 5 rfl rfl
  have e7 : aa.tmps.getD 7 undef = .string ⟨L.toArray⟩ := hf 2 _ 7 rfl rfl
  have e8 : aa.tmps.getD 8 undef = .agg #[.string q.client, .int .u64 (q.id : Int), .int .i64 q.kind, .int .i64 q.how, .string q.token, .int .u64 (q.n : Int), .string q.typ, .string q.f1, .string q.f2, .string q.f3, .slice b1 n1 d1, .slice b2 n2 d2, .slice b3 n3 d3, .slice b4 n4 d4] := hf 3 _ 8 rfl rfl
  have e10 : aa.tmps.getD 10 undef = .string ⟨L.toArray⟩ := hf 5 _ 10 rfl rfl
  have e11 : aa.tmps.getD 11 undef = .bool true := hf 6 _ 11 rfl rfl
  have e4 : aa.tmps.getD 4 undef = .bool true := hf 7 _ 4 rfl rfl
  simp only [putAll, List.foldl_cons, List.foldl_nil, e5, e7, e8, e10, e11, e4] at ha
  generalize aa.tmps.getD 6 undef = v6 at ha
  generalize aa.tmps.getD 9 undef = v9 at ha
  simp [Act.put] at ha
  subst ha
  clear hdef hsz hlk hf e5 e7 e8 e10 e11 e4
  have HB := Lib.hid (HB.out.trans (hbz.mono HB.out.size))
  clear hbz HX1 HX2 HC1 HC2 HR1 HR2
  go_wp2
  go_ret
  exact ⟨rfl, HB.out⟩
end Go.Proofs.YtdonibkkdhokpaaGreat
