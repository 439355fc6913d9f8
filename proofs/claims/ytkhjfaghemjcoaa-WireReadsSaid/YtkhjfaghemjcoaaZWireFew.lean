/- sentrylaw37.short, few (written by gen_wirefew.py). -/
import Derived.Test.YtkhjfaghemjcoaaZWireV
import Derived.Test.YtkhjfaghemjcoaaZGrpA
namespace Go.Proofs.Ytkhjfaghemjcoaa
open Go Go.RowKit

def shortL (l : List ByteArray) : Bool := l.all fun s => decide (s.size ≤ 100)

def PartsPost (w : World) (t : T6) (e : Ending) (w' : World) : Prop :=
  ∃ b, e = .returned (.slice (some ⟨b, 0, none⟩) 6 6) ∧ Reads w' 1 (.slice (some ⟨b, 0, none⟩) 6 6) 6 (scells t.list) ∧ Below w.heap.size w w'

set_option maxRecDepth 100000 in
theorem parts_any (w : World) (t : T6) : Calls Try.prog 73 #[.agg #[.string t.a, .string t.b, .string t.c, .string t.d, .string t.e, .string t.f]] w (PartsPost w t) := by
  obtain ⟨a, b, c, d, e, f⟩ := t
  go_enter Try.func73, Try.ntmps73
  go_wp2
  go_ret
  refine ⟨w.heap.size + 1, by simp, reads_lit rfl ?_ (by decide), (Below.refl _ _).alloc (Nat.le_refl _) _ |>.alloc (by simp) _⟩
  have := heap_alloc_new (w.alloc (.cells #[.string a, .string b, .string c, .string d, .string e, .string f] 71)) (.cells #[.string a, .string b, .string c, .string d, .string e, .string f] 9)
  simpa [T6.list, scells] using this

def ShortIn (t : T6) (i : Value) : Prop := ∃ k : Nat, i = .int .i64 (k : Int) ∧ k ≤ 6 ∧ shortL (t.list.take k) = true

set_option maxRecDepth 100000 in
set_option maxHeartbeats 1000000 in
theorem short_any (w : World) (t : T6) : Calls Try.prog 15 #[.agg #[.string t.a, .string t.b, .string t.c, .string t.d, .string t.e, .string t.f]] w (GivesBool w (shortL t.list)) := by
  have HP := Lib.hid (fun w => parts_any w t)
  obtain ⟨A, B, C, D, E, F, hA⟩ : ∃ A B C D E F, A = t.a ∧ B = t.b ∧ C = t.c ∧ D = t.d ∧ E = t.e ∧ F = t.f := ⟨_, _, _, _, _, _, rfl, rfl, rfl, rfl, rfl, rfl⟩
  obtain ⟨hA, hB, hC, hD, hE, hF⟩ := hA
  rw [← hA, ← hB, ← hC, ← hD, ← hE, ← hF] at HP ⊢
  clear hA hB hC hD hE hF
  have hb0 : Below w.heap.size w (w.alloc (.cells #[.string A, .string B, .string C, .string D, .string E, .string F] 71)) := (Below.refl _ _).alloc (Nat.le_refl _) _
  have HB := Lib.hid hb0
  clear hb0
  go_enter Try.func15, Try.ntmps15
  go_wp2_with (go_at_call 73; go_must (refine (HP.out _).mono ?_))
  rintro e w2 ⟨b, rfl, r2, b2⟩
  have HB2 := Lib.hid (HB.out.trans (b2.mono HB.out.size))
  have HR := Lib.hid r2
  clear b2 r2 HP HB
  go_wp2
  go_loop [8] (fun i => ShortIn t i) (fun i => 6 - (intOf i).toNat)
  case atStart => exact ⟨0, rfl, Nat.zero_le _, rfl⟩
  case round =>
    obtain ⟨m, rfl, hm, hin⟩ := hrel
    have Hin := Lib.hid hin
    clear hin
    by_cases hml : m < 6
    · obtain ⟨b', off, s, hbe, hs, hbs, hcs⟩ := HR.out.scell m hml
      cases hbe
      rw [Nat.zero_add] at hcs
      have hsu : shortL (t.list.take (m + 1)) = (shortL (t.list.take m) && decide (s.size ≤ 100)) := by
        unfold shortL
        rw [List.take_add_one, List.all_append, hs]; simp
      rw [Hin.out] at hsu
      by_cases h100 : s.size ≤ 100
      · have HSs := Lib.hid hsu
        have h2 : ¬ (100 : Int) < s.size := by omega
        clear hsu hs
        go_wp2
        refine ⟨⟨m + 1, by go_num, by omega, ?_⟩, by simp [intOf]; omega⟩
        rw [HSs.out]
        simpa using h100
      · have hft : shortL t.list = false := by
          unfold shortL
          rw [List.all_eq_false]
          exact ⟨s, List.mem_of_getElem? hs, by simpa using h100⟩
        have HFf := Lib.hid hft
        have h2 : (100 : Int) < s.size := by omega
        clear hsu hs hft
        go_wp2
        go_ret
        rw [HFf.out]
        exact ⟨rfl, HB2.out⟩
    · obtain rfl : m = 6 := by omega
      have HTi := Lib.hid (show shortL t.list = true from Hin.out)
      clear Hin
      go_wp2
      go_ret
      rw [HTi.out]
      exact ⟨rfl, HB2.out⟩

structure FewQ (q : Req) : Prop where
  lens : q.writes.length + q.pres.length + q.asks.length + q.args.length ≤ 60
  txt : q.client.size + q.token.size + q.typ.size + q.f1.size + q.f2.size + q.f3.size ≤ 600
  writes : ∀ x ∈ q.writes, shortL x.t.list = true
  pres : ∀ x ∈ q.pres, shortL x.t.list = true
  asks : ∀ x ∈ q.asks, shortL x.list = true
  args : ∀ x ∈ q.args, x.name.size + x.s.size ≤ 300

def FewPost (w : World) (q : Req) (e : Ending) (w' : World) : Prop := ∃ b, e = .returned (.bool b) ∧ Below w.heap.size w w' ∧ (b = true → FewQ q)

def FwRel {α : Type} (good : α → Prop) (xs : List α) (w : World) (iv : Value) (wr : World) : Prop :=
  ∃ i : Nat, iv = .int .i64 (i : Int) ∧ i ≤ xs.length ∧ (∀ j x, j < i → xs[j]? = some x → good x) ∧ Below w.heap.size w wr

theorem fw_all {α : Type} {good : α → Prop} {xs : List α} {n : Nat} (hn : xs.length ≤ n) (h : ∀ j x, j < n → xs[j]? = some x → good x) : ∀ x ∈ xs, good x := fun x hx => by
  obtain ⟨j, hj, rfl⟩ := List.mem_iff_getElem.1 hx
  exact h j _ (by omega) (List.getElem?_eq_getElem hj)

set_option maxRecDepth 100000 in
set_option maxHeartbeats 8000000 in
theorem few37_any (w : World) (q : Req) (a1 a2 a3 a4 : Option Addr) (n1 n2 n3 n4 c1 c2 c3 c4 : Nat) (h : ReqCame w q a1 a2 a3 a4 n1 n2 n3 n4 c1 c2 c3 c4) :
    Calls Try.prog 7 #[.agg #[.string q.client, .int .u64 (q.id : Int), .int .i64 q.kind, .int .i64 q.how, .string q.token, .int .u64 (q.n : Int), .string q.typ, .string q.f1, .string q.f2, .string q.f3, .slice a1 n1 c1, .slice a2 n2 c2, .slice a3 n3 c3, .slice a4 n4 c4]] w (FewPost w q) := by
  obtain ⟨r1, r2, r3, r4, k1, k2, k3, k4, b1, b2, b3, b4, _, hargs, s1, s2, s3, s4, s5, s6⟩ := h
  have HA := Lib.hid hargs
  have HR1 := Lib.hid r1
  have HR2 := Lib.hid r2
  have HR3 := Lib.hid r3
  have HR4 := Lib.hid r4
  have HK1 := Lib.hid k1
  have HK2 := Lib.hid k2
  have HK3 := Lib.hid k3
  have HK4 := Lib.hid k4
  have HSh := Lib.hid short_any
  have hb0 : Below w.heap.size w (w.alloc (.cells #[.string q.client, .int .u64 (q.id : Int), .int .i64 q.kind, .int .i64 q.how, .string q.token, .int .u64 (q.n : Int), .string q.typ, .string q.f1, .string q.f2, .string q.f3, .slice a1 n1 c1, .slice a2 n2 c2, .slice a3 n3 c3, .slice a4 n4 c4] 30)) := (Below.refl _ _).alloc (Nat.le_refl _) _
  have HX := Lib.hid (heap_alloc_new w (.cells #[.string q.client, .int .u64 (q.id : Int), .int .i64 q.kind, .int .i64 q.how, .string q.token, .int .u64 (q.n : Int), .string q.typ, .string q.f1, .string q.f2, .string q.f3, .slice a1 n1 c1, .slice a2 n2 c2, .slice a3 n3 c3, .slice a4 n4 c4] 30))
  have HB := Lib.hid hb0
  clear r1 r2 r3 r4 k1 k2 k3 k4 hb0 hargs
  have hcn1 : n1 ≤ c1 := by
    obtain ⟨_, _, hv, h1, _⟩ := HR1.out.le
    cases hv
    exact h1
  have hcn2 : n2 ≤ c2 := by
    obtain ⟨_, _, hv, h1, _⟩ := HR2.out.le
    cases hv
    exact h1
  have hcn3 : n3 ≤ c3 := by
    obtain ⟨_, _, hv, h1, _⟩ := HR3.out.le
    cases hv
    exact h1
  have hcn4 : n4 ≤ c4 := by
    obtain ⟨_, _, hv, h1, _⟩ := HR4.out.le
    cases hv
    exact h1
  go_enter Try.func7, Try.ntmps7
  go_upto_region 1 with fail
  obtain ⟨gx, hgxe⟩ : ∃ gx, w.heap.size = gx := ⟨_, rfl⟩
  have HGe := Lib.hid hgxe
  rw [hgxe] at HX
  rw [hgxe]
  generalize w.alloc (.cells #[.string q.client, .int .u64 (q.id : Int), .int .i64 q.kind, .int .i64 q.how, .string q.token, .int .u64 (q.n : Int), .string q.typ, .string q.f1, .string q.f2, .string q.f3, .slice a1 n1 c1, .slice a2 n2 c2, .slice a3 n3 c3, .slice a4 n4 c4] 30) = w0 at *
  clear hgxe
  have hgx := (Array.getElem?_eq_some_iff.1 HX.out).1
  have k0 := Lib.cell_of_heap HX.out 0
  have k1 := Lib.cell_of_heap HX.out 1
  have k2 := Lib.cell_of_heap HX.out 2
  have k3 := Lib.cell_of_heap HX.out 3
  have k4 := Lib.cell_of_heap HX.out 4
  have k5 := Lib.cell_of_heap HX.out 5
  have k6 := Lib.cell_of_heap HX.out 6
  have k7 := Lib.cell_of_heap HX.out 7
  have k8 := Lib.cell_of_heap HX.out 8
  have k9 := Lib.cell_of_heap HX.out 9
  have k10 := Lib.cell_of_heap HX.out 10
  have k11 := Lib.cell_of_heap HX.out 11
  have k12 := Lib.cell_of_heap HX.out 12
  have k13 := Lib.cell_of_heap HX.out 13
  simp at k0 k1 k2 k3 k4 k5 k6 k7 k8 k9 k10 k11 k12 k13
  have e1 : IntKind.i64.wrap ((n1 : Int) + n2) = ((n1 + n2 : Nat) : Int) := by rw [IntKind.wrap_i64]; omega
  have e2 : IntKind.i64.wrap (((n1 + n2 : Nat) : Int) + n3) = ((n1 + n2 + n3 : Nat) : Int) := by rw [IntKind.wrap_i64]; omega
  have e3 : IntKind.i64.wrap (((n1 + n2 + n3 : Nat) : Int) + n4) = ((n1 + n2 + n3 + n4 : Nat) : Int) := by rw [IntKind.wrap_i64]; omega
  obtain ⟨y1, hy1⟩ : ∃ y, y = q.client.size := ⟨_, rfl⟩
  obtain ⟨y2, hy2⟩ : ∃ y, y = q.token.size := ⟨_, rfl⟩
  obtain ⟨y3, hy3⟩ : ∃ y, y = q.typ.size := ⟨_, rfl⟩
  obtain ⟨y4, hy4⟩ : ∃ y, y = q.f1.size := ⟨_, rfl⟩
  obtain ⟨y5, hy5⟩ : ∃ y, y = q.f2.size := ⟨_, rfl⟩
  obtain ⟨y6, hy6⟩ : ∃ y, y = q.f3.size := ⟨_, rfl⟩
  rw [← hy1] at s1
  rw [← hy2] at s2
  rw [← hy3] at s3
  rw [← hy4] at s4
  rw [← hy5] at s5
  rw [← hy6] at s6
  have f1 : IntKind.i64.wrap ((y1 : Int) + y2) = ((y1 + y2 : Nat) : Int) := by rw [IntKind.wrap_i64]; omega
  have f2 : IntKind.i64.wrap (((y1 + y2 : Nat) : Int) + y3) = ((y1 + y2 + y3 : Nat) : Int) := by rw [IntKind.wrap_i64]; omega
  have f3 : IntKind.i64.wrap (((y1 + y2 + y3 : Nat) : Int) + y4) = ((y1 + y2 + y3 + y4 : Nat) : Int) := by rw [IntKind.wrap_i64]; omega
  have f4 : IntKind.i64.wrap (((y1 + y2 + y3 + y4 : Nat) : Int) + y5) = ((y1 + y2 + y3 + y4 + y5 : Nat) : Int) := by rw [IntKind.wrap_i64]; omega
  have f5 : IntKind.i64.wrap (((y1 + y2 + y3 + y4 + y5 : Nat) : Int) + y6) = ((y1 + y2 + y3 + y4 + y5 + y6 : Nat) : Int) := by rw [IntKind.wrap_i64]; omega
  by_cases h60 : n1 + n2 + n3 + n4 ≤ 60
  case neg =>
    have h60I : (60 : Int) < ((n1 + n2 + n3 + n4 : Nat) : Int) := by omega
    go_wp2
    go_ret
    exact ⟨_, rfl, HB.out, fun h => by cases h⟩
  have h60I : ¬ (60 : Int) < ((n1 + n2 + n3 + n4 : Nat) : Int) := by omega
  by_cases h600 : y1 + y2 + y3 + y4 + y5 + y6 ≤ 600
  case neg =>
    have h600I : (600 : Int) < ((y1 + y2 + y3 + y4 + y5 + y6 : Nat) : Int) := by omega
    go_wp2
    go_ret
    exact ⟨_, rfl, HB.out, fun h => by cases h⟩
  have h600I : ¬ (600 : Int) < ((y1 + y2 + y3 + y4 + y5 + y6 : Nat) : Int) := by omega
  have HLen := Lib.hid (show n1 + n2 + n3 + n4 ≤ 60 from h60)
  have HTx := Lib.hid (show q.client.size + q.token.size + q.typ.size + q.f1.size + q.f2.size + q.f3.size ≤ 600 by omega)
  go_upto_region 3 with fail
  clear h60 h60I h600 h600I e1 e2 e3 f1 f2 f3 f4 f5 hy1 hy2 hy3 hy4 hy5 hy6 s1 s2 s3 s4 s5 s6 b1 b2 b3 b4 k0 k1 k2 k3 k4 k5 k6 k7 k8 k9 k10 k11 k12 k13
  have HX0 := Lib.hid HX.out
  have HW := Lib.hid (Below.refl w0.heap.size w0)
  have k10 := Lib.cell_of_heap HX.out 10
  simp at k10
  have hgx := (Array.getElem?_eq_some_iff.1 HX.out).1
  go_wp2_with fail
  go_loopw [59] (fun iv wr => FwRel (fun x => shortL x.t.list = true) q.writes w0 iv wr) (fun iv _ => n1 - (intOf iv).toNat)
  case atStart => exact ⟨0, rfl, Nat.zero_le _, fun j x hj => by omega, HW.out⟩
  case round =>
    obtain ⟨i, rfl, hin, hall, hb⟩ := hrel
    rw [HK1.out] at hin
    have HAll1 := Lib.hid hall
    by_cases hlt : i < n1
    · have hltI : (i : Int) < n1 := by omega
      obtain ⟨x, hx⟩ : ∃ x, q.writes[i]? = some x := ⟨q.writes[i]'(by rw [HK1.out]; exact hlt), List.getElem?_eq_getElem _⟩
      obtain ⟨b, off, rfl, hb2, hcs⟩ := rows_at Wri.cells 7 (fun _ => rfl) (HR1.out.below' (HB.out.trans (hb.mono HB.out.size))) hx (by decide)
      have d0 := hcs 0 _ rfl
      have d1 := hcs 1 _ rfl
      have d2 := hcs 2 _ rfl
      have d3 := hcs 3 _ rfl
      have d4 := hcs 4 _ rfl
      have d5 := hcs 5 _ rfl
      have d6 := hcs 6 _ rfl
      simp only [Nat.add_zero] at d0
      have hba : Below wr.heap.size wr (wr.alloc (.cells #[.bool x.is, .string x.t.a, .string x.t.b, .string x.t.c, .string x.t.d, .string x.t.e, .string x.t.f] 73)) := (Below.refl _ _).alloc (Nat.le_refl _) _
      have HBx := Lib.hid (show (wr.alloc (.cells #[.bool x.is, .string x.t.a, .string x.t.b, .string x.t.c, .string x.t.d, .string x.t.e, .string x.t.f] 73)).heap[wr.heap.size]? = some (.cells #[.bool x.is, .string x.t.a, .string x.t.b, .string x.t.c, .string x.t.d, .string x.t.e, .string x.t.f] 73 (0, 0)) from heap_alloc_new _ _)
      have HBw := Lib.hid (hb.trans (hba.mono hb.size))
      have hstep : ∀ (hg : (fun x => shortL x.t.list = true) x), ∀ j y, j < i + 1 → q.writes[j]? = some y → (fun x => shortL x.t.list = true) y := fun hg j y hj hy => by
        by_cases hji : j = i
        · subst hji
          rw [hx] at hy
          cases hy
          exact hg
        · exact hall j y (by omega) hy
      have HSt := Lib.hid hstep
      clear hb hba hall hx hcs hstep HW HAll1
      go_upto_region 6 with fail
      obtain ⟨gc, hgce⟩ : ∃ gc, wr.heap.size = gc := ⟨_, rfl⟩
      have HGc := Lib.hid hgce
      rw [hgce] at HBx
      rw [hgce]
      generalize (wr.alloc (.cells #[.bool x.is, .string x.t.a, .string x.t.b, .string x.t.c, .string x.t.d, .string x.t.e, .string x.t.f] 73)) = w2_ at *
      clear hgce d0 d1 d2 d3 d4 d5 d6
      have d0 := Lib.cell_of_heap HBx.out 0
      have d1 := Lib.cell_of_heap HBx.out 1
      have d2 := Lib.cell_of_heap HBx.out 2
      have d3 := Lib.cell_of_heap HBx.out 3
      have d4 := Lib.cell_of_heap HBx.out 4
      have d5 := Lib.cell_of_heap HBx.out 5
      have d6 := Lib.cell_of_heap HBx.out 6
      simp at d0 d1 d2 d3 d4 d5 d6
      have hgc := (Array.getElem?_eq_some_iff.1 HBx.out).1
      have HCa := Lib.hid (HSh.out w2_ x.t)
      go_wp2_with (go_at_call 15; go_must (refine HCa.out.mono ?_))
      rintro e w3 ⟨rfl, b3⟩
      have HB3 := Lib.hid (HBw.out.trans (b3.mono HBw.out.size))
      clear b3 HCa HBw HBx d0 d1 d2 d3 d4 d5 d6
      cases hsl : shortL x.t.list with
      | false =>
        go_wp2
        go_ret
        exact ⟨_, rfl, HB.out.trans (HB3.out.mono HB.out.size), fun h => by cases h⟩
      | true =>
        have HSl := Lib.hid (HSt.out hsl)
        clear hsl
        go_wp2
        exact ⟨⟨i + 1, by go_num, by rw [HK1.out]; omega, HSl.out, HB3.out⟩, by simp [intOf]; omega⟩
    · obtain rfl : n1 = i := by omega
      have hltI : ¬ (n1 : Int) < n1 := by omega
      have HX := Lib.hid ((hb.block gx (Array.getElem?_eq_some_iff.1 HX0.out).1).trans HX0.out)
      have HW := Lib.hid hb
      clear hb hall
      have k11 := Lib.cell_of_heap HX.out 11
      simp at k11
      have hgx := (Array.getElem?_eq_some_iff.1 HX.out).1
      go_wp2_with fail
      go_loopw [71] (fun iv wr => FwRel (fun x => shortL x.t.list = true) q.pres w0 iv wr) (fun iv _ => n2 - (intOf iv).toNat)
      case atStart => exact ⟨0, rfl, Nat.zero_le _, fun j x hj => by omega, HW.out⟩
      case round =>
        obtain ⟨i, rfl, hin, hall, hb⟩ := hrel
        rw [HK2.out] at hin
        have HAll2 := Lib.hid hall
        by_cases hlt : i < n2
        · have hltI : (i : Int) < n2 := by omega
          obtain ⟨x, hx⟩ : ∃ x, q.pres[i]? = some x := ⟨q.pres[i]'(by rw [HK2.out]; exact hlt), List.getElem?_eq_getElem _⟩
          obtain ⟨b, off, rfl, hb2, hcs⟩ := rows_at Wri.cells 7 (fun _ => rfl) (HR2.out.below' (HB.out.trans (hb.mono HB.out.size))) hx (by decide)
          have d0 := hcs 0 _ rfl
          have d1 := hcs 1 _ rfl
          have d2 := hcs 2 _ rfl
          have d3 := hcs 3 _ rfl
          have d4 := hcs 4 _ rfl
          have d5 := hcs 5 _ rfl
          have d6 := hcs 6 _ rfl
          simp only [Nat.add_zero] at d0
          have hba : Below wr.heap.size wr (wr.alloc (.cells #[.bool x.is, .string x.t.a, .string x.t.b, .string x.t.c, .string x.t.d, .string x.t.e, .string x.t.f] 76)) := (Below.refl _ _).alloc (Nat.le_refl _) _
          have HBx := Lib.hid (show (wr.alloc (.cells #[.bool x.is, .string x.t.a, .string x.t.b, .string x.t.c, .string x.t.d, .string x.t.e, .string x.t.f] 76)).heap[wr.heap.size]? = some (.cells #[.bool x.is, .string x.t.a, .string x.t.b, .string x.t.c, .string x.t.d, .string x.t.e, .string x.t.f] 76 (0, 0)) from heap_alloc_new _ _)
          have HBw := Lib.hid (hb.trans (hba.mono hb.size))
          have hstep : ∀ (hg : (fun x => shortL x.t.list = true) x), ∀ j y, j < i + 1 → q.pres[j]? = some y → (fun x => shortL x.t.list = true) y := fun hg j y hj hy => by
            by_cases hji : j = i
            · subst hji
              rw [hx] at hy
              cases hy
              exact hg
            · exact hall j y (by omega) hy
          have HSt := Lib.hid hstep
          clear hb hba hall hx hcs hstep HW HAll2
          go_upto_region 12 with fail
          obtain ⟨gc, hgce⟩ : ∃ gc, wr.heap.size = gc := ⟨_, rfl⟩
          have HGc := Lib.hid hgce
          rw [hgce] at HBx
          rw [hgce]
          generalize (wr.alloc (.cells #[.bool x.is, .string x.t.a, .string x.t.b, .string x.t.c, .string x.t.d, .string x.t.e, .string x.t.f] 76)) = w2_ at *
          clear hgce d0 d1 d2 d3 d4 d5 d6
          have d0 := Lib.cell_of_heap HBx.out 0
          have d1 := Lib.cell_of_heap HBx.out 1
          have d2 := Lib.cell_of_heap HBx.out 2
          have d3 := Lib.cell_of_heap HBx.out 3
          have d4 := Lib.cell_of_heap HBx.out 4
          have d5 := Lib.cell_of_heap HBx.out 5
          have d6 := Lib.cell_of_heap HBx.out 6
          simp at d0 d1 d2 d3 d4 d5 d6
          have hgc := (Array.getElem?_eq_some_iff.1 HBx.out).1
          have HCa := Lib.hid (HSh.out w2_ x.t)
          go_wp2_with (go_at_call 15; go_must (refine HCa.out.mono ?_))
          rintro e w3 ⟨rfl, b3⟩
          have HB3 := Lib.hid (HBw.out.trans (b3.mono HBw.out.size))
          clear b3 HCa HBw HBx d0 d1 d2 d3 d4 d5 d6
          cases hsl : shortL x.t.list with
          | false =>
            go_wp2
            go_ret
            exact ⟨_, rfl, HB.out.trans (HB3.out.mono HB.out.size), fun h => by cases h⟩
          | true =>
            have HSl := Lib.hid (HSt.out hsl)
            clear hsl
            go_wp2
            exact ⟨⟨i + 1, by go_num, by rw [HK2.out]; omega, HSl.out, HB3.out⟩, by simp [intOf]; omega⟩
        · obtain rfl : n2 = i := by omega
          have hltI : ¬ (n2 : Int) < n2 := by omega
          have HX := Lib.hid ((hb.block gx (Array.getElem?_eq_some_iff.1 HX0.out).1).trans HX0.out)
          have HW := Lib.hid hb
          clear hb hall
          have k12 := Lib.cell_of_heap HX.out 12
          simp at k12
          have hgx := (Array.getElem?_eq_some_iff.1 HX.out).1
          go_wp2_with fail
          go_loopw [83] (fun iv wr => FwRel (fun x => shortL x.list = true) q.asks w0 iv wr) (fun iv _ => n3 - (intOf iv).toNat)
          case atStart => exact ⟨0, rfl, Nat.zero_le _, fun j x hj => by omega, HW.out⟩
          case round =>
            obtain ⟨i, rfl, hin, hall, hb⟩ := hrel
            rw [HK3.out] at hin
            have HAll3 := Lib.hid hall
            by_cases hlt : i < n3
            · have hltI : (i : Int) < n3 := by omega
              obtain ⟨x, hx⟩ : ∃ x, q.asks[i]? = some x := ⟨q.asks[i]'(by rw [HK3.out]; exact hlt), List.getElem?_eq_getElem _⟩
              obtain ⟨b, off, rfl, hb2, hcs⟩ := rows_at T6.cells 6 (fun _ => rfl) (HR3.out.below' (HB.out.trans (hb.mono HB.out.size))) hx (by decide)
              have d0 := hcs 0 _ rfl
              have d1 := hcs 1 _ rfl
              have d2 := hcs 2 _ rfl
              have d3 := hcs 3 _ rfl
              have d4 := hcs 4 _ rfl
              have d5 := hcs 5 _ rfl
              simp only [Nat.add_zero] at d0
              have hba : Below wr.heap.size wr (wr.alloc (.cells #[.string x.a, .string x.b, .string x.c, .string x.d, .string x.e, .string x.f] 78)) := (Below.refl _ _).alloc (Nat.le_refl _) _
              have HBx := Lib.hid (show (wr.alloc (.cells #[.string x.a, .string x.b, .string x.c, .string x.d, .string x.e, .string x.f] 78)).heap[wr.heap.size]? = some (.cells #[.string x.a, .string x.b, .string x.c, .string x.d, .string x.e, .string x.f] 78 (0, 0)) from heap_alloc_new _ _)
              have HBw := Lib.hid (hb.trans (hba.mono hb.size))
              have hstep : ∀ (hg : (fun x => shortL x.list = true) x), ∀ j y, j < i + 1 → q.asks[j]? = some y → (fun x => shortL x.list = true) y := fun hg j y hj hy => by
                by_cases hji : j = i
                · subst hji
                  rw [hx] at hy
                  cases hy
                  exact hg
                · exact hall j y (by omega) hy
              have HSt := Lib.hid hstep
              clear hb hba hall hx hcs hstep HW HAll3
              go_upto_region 18 with fail
              obtain ⟨gc, hgce⟩ : ∃ gc, wr.heap.size = gc := ⟨_, rfl⟩
              have HGc := Lib.hid hgce
              rw [hgce] at HBx
              rw [hgce]
              generalize (wr.alloc (.cells #[.string x.a, .string x.b, .string x.c, .string x.d, .string x.e, .string x.f] 78)) = w2_ at *
              clear hgce d0 d1 d2 d3 d4 d5
              have d0 := Lib.cell_of_heap HBx.out 0
              have d1 := Lib.cell_of_heap HBx.out 1
              have d2 := Lib.cell_of_heap HBx.out 2
              have d3 := Lib.cell_of_heap HBx.out 3
              have d4 := Lib.cell_of_heap HBx.out 4
              have d5 := Lib.cell_of_heap HBx.out 5
              simp at d0 d1 d2 d3 d4 d5
              have hgc := (Array.getElem?_eq_some_iff.1 HBx.out).1
              have HCa := Lib.hid (HSh.out w2_ x)
              go_wp2_with (go_at_call 15; go_must (refine HCa.out.mono ?_))
              rintro e w3 ⟨rfl, b3⟩
              have HB3 := Lib.hid (HBw.out.trans (b3.mono HBw.out.size))
              clear b3 HCa HBw HBx d0 d1 d2 d3 d4 d5
              cases hsl : shortL x.list with
              | false =>
                go_wp2
                go_ret
                exact ⟨_, rfl, HB.out.trans (HB3.out.mono HB.out.size), fun h => by cases h⟩
              | true =>
                have HSl := Lib.hid (HSt.out hsl)
                clear hsl
                go_wp2
                exact ⟨⟨i + 1, by go_num, by rw [HK3.out]; omega, HSl.out, HB3.out⟩, by simp [intOf]; omega⟩
            · obtain rfl : n3 = i := by omega
              have hltI : ¬ (n3 : Int) < n3 := by omega
              have HX := Lib.hid ((hb.block gx (Array.getElem?_eq_some_iff.1 HX0.out).1).trans HX0.out)
              have HW := Lib.hid hb
              clear hb hall
              have k13 := Lib.cell_of_heap HX.out 13
              simp at k13
              have hgx := (Array.getElem?_eq_some_iff.1 HX.out).1
              go_wp2_with fail
              go_loopw [102] (fun iv wr => FwRel (fun x => x.name.size + x.s.size ≤ 300) q.args w0 iv wr) (fun iv _ => n4 - (intOf iv).toNat)
              case atStart => exact ⟨0, rfl, Nat.zero_le _, fun j x hj => by omega, HW.out⟩
              case round =>
                obtain ⟨i, rfl, hin, hall, hb⟩ := hrel
                rw [HK4.out] at hin
                have HAll4 := Lib.hid hall
                by_cases hlt : i < n4
                · have hltI : (i : Int) < n4 := by omega
                  obtain ⟨x, hx⟩ : ∃ x, q.args[i]? = some x := ⟨q.args[i]'(by rw [HK4.out]; exact hlt), List.getElem?_eq_getElem _⟩
                  obtain ⟨b, off, rfl, hb2, hcs⟩ := rows_at Arg4.cells 4 (fun _ => rfl) (HR4.out.below' (HB.out.trans (hb.mono HB.out.size))) hx (by decide)
                  have d0 := hcs 0 _ rfl
                  have d1 := hcs 1 _ rfl
                  have d2 := hcs 2 _ rfl
                  have d3 := hcs 3 _ rfl
                  simp only [Nat.add_zero] at d0
                  have hba : Below wr.heap.size wr (wr.alloc (.cells #[.string x.name, .int .i64 x.kind, .int .i64 x.n, .string x.s] 82)) := (Below.refl _ _).alloc (Nat.le_refl _) _
                  have HBx := Lib.hid (show (wr.alloc (.cells #[.string x.name, .int .i64 x.kind, .int .i64 x.n, .string x.s] 82)).heap[wr.heap.size]? = some (.cells #[.string x.name, .int .i64 x.kind, .int .i64 x.n, .string x.s] 82 (0, 0)) from heap_alloc_new _ _)
                  have HBw := Lib.hid (hb.trans (hba.mono hb.size))
                  have hstep : ∀ (hg : (fun x => x.name.size + x.s.size ≤ 300) x), ∀ j y, j < i + 1 → q.args[j]? = some y → (fun x => x.name.size + x.s.size ≤ 300) y := fun hg j y hj hy => by
                    by_cases hji : j = i
                    · subst hji
                      rw [hx] at hy
                      cases hy
                      exact hg
                    · exact hall j y (by omega) hy
                  have HSt := Lib.hid hstep
                  have hxo := HA.out x (List.mem_of_getElem? hx)
                  clear hb hba hall hx hcs hstep HW HAll4
                  go_upto_region 24 with fail
                  obtain ⟨gc, hgce⟩ : ∃ gc, wr.heap.size = gc := ⟨_, rfl⟩
                  have HGc := Lib.hid hgce
                  rw [hgce] at HBx
                  rw [hgce]
                  generalize (wr.alloc (.cells #[.string x.name, .int .i64 x.kind, .int .i64 x.n, .string x.s] 82)) = w2_ at *
                  clear hgce d0 d1 d2 d3
                  have d0 := Lib.cell_of_heap HBx.out 0
                  have d1 := Lib.cell_of_heap HBx.out 1
                  have d2 := Lib.cell_of_heap HBx.out 2
                  have d3 := Lib.cell_of_heap HBx.out 3
                  simp at d0 d1 d2 d3
                  have hgc := (Array.getElem?_eq_some_iff.1 HBx.out).1
                  obtain ⟨_, _, hz1, hz2⟩ := hxo
                  have hwr : IntKind.i64.wrap ((x.name.size : Int) + (x.s.size : Int)) = ((x.name.size + x.s.size : Nat) : Int) := by rw [IntKind.wrap_i64]; omega
                  by_cases h300 : x.name.size + x.s.size ≤ 300
                  · have h300I : ¬ (300 : Int) < ((x.name.size + x.s.size : Nat) : Int) := by omega
                    have HSl := Lib.hid (HSt.out h300)
                    go_wp2
                    exact ⟨⟨i + 1, by go_num, by rw [HK4.out]; omega, HSl.out, HBw.out⟩, by simp [intOf]; omega⟩
                  · have h300I : (300 : Int) < ((x.name.size + x.s.size : Nat) : Int) := by omega
                    go_wp2
                    go_ret
                    exact ⟨_, rfl, HB.out.trans (HBw.out.mono HB.out.size), fun h => by cases h⟩
                · obtain rfl : n4 = i := by omega
                  have hltI : ¬ (n4 : Int) < n4 := by omega
                  have HX := Lib.hid ((hb.block gx (Array.getElem?_eq_some_iff.1 HX0.out).1).trans HX0.out)
                  have HW := Lib.hid hb
                  clear hb hall
                  go_wp2
                  go_ret
                  exact ⟨_, rfl, HB.out.trans (HW.out.mono HB.out.size), fun _ => ⟨by rw [HK1.out, HK2.out, HK3.out, HK4.out]; exact HLen.out, HTx.out, fw_all (Nat.le_of_eq HK1.out) HAll1.out, fw_all (Nat.le_of_eq HK2.out) HAll2.out, fw_all (Nat.le_of_eq HK3.out) HAll3.out, fw_all (Nat.le_of_eq HK4.out) HAll4.out⟩⟩
end Go.Proofs.Ytkhjfaghemjcoaa
