/- The law WireRequests (written by gen_wirelaw.py). -/
import Derived.Test.YtkhjfaghemjcoaaZWireFixed
import Derived.Test.YtkhjfaghemjcoaaZWireFew
namespace Go.Proofs.Ytkhjfaghemjcoaa
open Go Go.RowKit

theorem enc_ten (n : Nat) (h : n < 18446744073709551616) : (enc n).length ≤ 10 := enc_length_le 9 n (by omega)

theorem short_mem {l : List ByteArray} (h : shortL l = true) : ∀ s ∈ l, s.size ≤ 100 := fun s hs => by
  unfold shortL at h
  rw [List.all_eq_true] at h
  simpa using h s hs

theorem t6_small {t : T6} (h : shortL t.list = true) : t.Sm ∧ (t6B t).length ≤ 660 := by
  have hm := short_mem h
  have ha := hm t.a (by simp [T6.list])
  have hb := hm t.b (by simp [T6.list])
  have hc := hm t.c (by simp [T6.list])
  have hd := hm t.d (by simp [T6.list])
  have he := hm t.e (by simp [T6.list])
  have hf := hm t.f (by simp [T6.list])
  refine ⟨⟨?_, ?_, ?_, ?_, ?_, ?_⟩, ?_⟩
  iterate 6 (unfold Sm; omega)
  have la := txt_len (s := t.a) (by omega)
  have lb := txt_len (s := t.b) (by omega)
  have lc := txt_len (s := t.c) (by omega)
  have ld := txt_len (s := t.d) (by omega)
  have le := txt_len (s := t.e) (by omega)
  have lf := txt_len (s := t.f) (by omega)
  unfold t6B txts T6.list
  simp only [List.flatMap_cons, List.flatMap_nil, List.length_append, List.length_nil]
  omega

theorem flat_le {α : Type} (f : α → List UInt8) (n : Nat) : ∀ (xs : List α), (∀ x ∈ xs, (f x).length ≤ n) → (xs.flatMap f).length ≤ xs.length * n
  | [], _ => by simp
  | x :: xs, h => by
    have h1 := h x (by simp)
    have h2 := flat_le f n xs (fun y hy => h y (by simp [hy]))
    rw [List.flatMap_cons, List.length_append, List.length_cons, Nat.succ_mul]
    omega

theorem listB_le {α : Type} (f : α → List UInt8) (n : Nat) (xs : List α) (hx : xs.length ≤ 60) (h : ∀ x ∈ xs, (f x).length ≤ n) : (listB f xs).length ≤ 10 + 60 * n := by
  have h1 := flat_le f n xs h
  have h2 := enc_ten xs.length (by omega)
  have h3 : xs.length * n ≤ 60 * n := Nat.mul_le_mul_right n hx
  unfold listB
  rw [List.length_append]
  omega

theorem few_low {q : Req} (h : FewQ q) (hi : ReqIn q) : ReqLow q ∧ ReqSm q := by
  obtain ⟨hl, ht, hw, hp, ha, hg⟩ := h
  have lw := listB_le wriB 670 q.writes (by omega) (fun x hx => by
    have := (t6_small (hw x hx)).2
    have h2 := enc_ten (bitN x.is) (by cases x.is <;> decide)
    unfold wriB
    rw [List.length_append]
    omega)
  have lp := listB_le wriB 670 q.pres (by omega) (fun x hx => by
    have := (t6_small (hp x hx)).2
    have h2 := enc_ten (bitN x.is) (by cases x.is <;> decide)
    unfold wriB
    rw [List.length_append]
    omega)
  have la := listB_le t6B 660 q.asks (by omega) (fun x hx => (t6_small (ha x hx)).2)
  have lg := listB_le argB 340 q.args (by omega) (fun x hx => by
    have h1 := hg x hx
    have h2 := txt_len (s := x.name) (by omega)
    have h3 := txt_len (s := x.s) (by omega)
    have h4 := enc_ten (zig x.kind) (zig_lt (hi.args x hx).1)
    have h5 := enc_ten (zig x.n) (zig_lt (hi.args x hx).2)
    unfold argB
    simp only [List.length_append]
    omega)
  have z1 := txt_len (s := q.client) (by omega)
  have z2 := txt_len (s := q.token) (by omega)
  have z3 := txt_len (s := q.typ) (by omega)
  have z4 := txt_len (s := q.f1) (by omega)
  have z5 := txt_len (s := q.f2) (by omega)
  have z6 := txt_len (s := q.f3) (by omega)
  have e1 := enc_ten q.id hi.id
  have e2 := enc_ten q.n hi.n
  have e3 := enc_ten (zig q.kind) (zig_lt hi.ints.1)
  have e4 := enc_ten (zig q.how) (zig_lt hi.ints.2)
  refine ⟨⟨hi, ?_, by omega, by omega, by omega, by omega⟩, ⟨by unfold Sm; omega, by unfold Sm; omega, by unfold Sm; omega, by unfold Sm; omega, by unfold Sm; omega, by unfold Sm; omega,
    ⟨by omega, fun x hx => (t6_small (hw x hx)).1⟩, ⟨by omega, fun x hx => (t6_small (hp x hx)).1⟩, ⟨by omega, fun x hx => (t6_small (ha x hx)).1⟩, ⟨by omega, fun x hx => ⟨?_, (hi.args x hx).1, (hi.args x hx).2, ?_⟩⟩⟩⟩
  · unfold reqB txts
    simp only [List.flatMap_cons, List.flatMap_nil, List.length_append, List.length_nil, List.length_cons]
    omega
  · have := hg x hx
    unfold Sm
    omega
  · have := hg x hx
    unfold Sm
    omega

theorem ReqCame.reqR {w : World} {q : Req} {a1 a2 a3 a4 : Option Addr} {n1 n2 n3 n4 c1 c2 c3 c4 : Nat} (h : ReqCame w q a1 a2 a3 a4 n1 n2 n3 n4 c1 c2 c3 c4) : ReqR w q a1 a2 a3 a4 n1 n2 n3 n4 c1 c2 c3 c4 := ⟨h.r1, h.r2, h.r3, h.r4, h.k1, h.k2, h.k3, h.k4⟩

theorem ReqCame.below {w w' : World} {q : Req} {a1 a2 a3 a4 : Option Addr} {n1 n2 n3 n4 c1 c2 c3 c4 : Nat} (h : ReqCame w q a1 a2 a3 a4 n1 n2 n3 n4 c1 c2 c3 c4) (b : Below w.heap.size w w') : ReqCame w' q a1 a2 a3 a4 n1 n2 n3 n4 c1 c2 c3 c4 :=
  ⟨h.r1.below' b, h.r2.below' b, h.r3.below' b, h.r4.below' b, h.k1, h.k2, h.k3, h.k4, h.b1, h.b2, h.b3, h.b4, h.ok, h.args, h.s1, h.s2, h.s3, h.s4, h.s5, h.s6⟩

def GotBack (w : World) (q : Req) (n1 n2 n3 n4 : Nat) (e : Ending) (w' : World) : Prop :=
  ∃ b1 b2 b3 b4 d1 d2 d3 d4, e = .returned (.tuple #[.agg #[.string q.client, .int .u64 (q.id : Int), .int .i64 q.kind, .int .i64 q.how, .string q.token, .int .u64 (q.n : Int), .string q.typ, .string q.f1, .string q.f2, .string q.f3, .slice b1 n1 d1, .slice b2 n2 d2, .slice b3 n3 d3, .slice b4 n4 d4], .int .i64 0]) ∧ Below w.heap.size w w' ∧ ReqR w' q b1 b2 b3 b4 n1 n2 n3 n4 d1 d2 d3 d4

theorem gotBack {w w' : World} {q : Req} {n1 n2 n3 n4 : Nat} {e : Ending} (h : GotReq w (some q) e w') (k1 : q.writes.length = n1) (k2 : q.pres.length = n2) (k3 : q.asks.length = n3) (k4 : q.args.length = n4) : GotBack w q n1 n2 n3 n4 e w' := by
  subst k1
  subst k2
  subst k3
  subst k4
  obtain ⟨hb, ⟨h, _⟩ | ⟨q', v1, v2, v3, v4, hq, rfl, ho⟩⟩ := h
  · cases h
  · cases hq
    obtain ⟨a1, a2, a3, a4, c1, c2, c3, c4, rfl, rfl, rfl, rfl, hr⟩ := ho.reqR
    exact ⟨a1, a2, a3, a4, c1, c2, c3, c4, rfl, hb, hr⟩

set_option maxRecDepth 100000 in
set_option maxHeartbeats 8000000 in
theorem wireRequests_walk (w : World) (q : Req) (a1 a2 a3 a4 : Option Addr) (n1 n2 n3 n4 c1 c2 c3 c4 : Nat) (h : ReqCame w q a1 a2 a3 a4 n1 n2 n3 n4 c1 c2 c3 c4) :
    Calls Try.prog 3 #[.agg #[.string q.client, .int .u64 (q.id : Int), .int .i64 q.kind, .int .i64 q.how, .string q.token, .int .u64 (q.n : Int), .string q.typ, .string q.f1, .string q.f2, .string q.f3, .slice a1 n1 c1, .slice a2 n2 c2, .slice a3 n3 c3, .slice a4 n4 c4]] w (SaysTrue w) := by
  have hb0 : Below w.heap.size w (w.alloc (.cells #[.string q.client, .int .u64 (q.id : Int), .int .i64 q.kind, .int .i64 q.how, .string q.token, .int .u64 (q.n : Int), .string q.typ, .string q.f1, .string q.f2, .string q.f3, .slice a1 n1 c1, .slice a2 n2 c2, .slice a3 n3 c3, .slice a4 n4 c4] 30)) := (Below.refl _ _).alloc (Nat.le_refl _) _
  have HX0 := Lib.hid (heap_alloc_new w (.cells #[.string q.client, .int .u64 (q.id : Int), .int .i64 q.kind, .int .i64 q.how, .string q.token, .int .u64 (q.n : Int), .string q.typ, .string q.f1, .string q.f2, .string q.f3, .slice a1 n1 c1, .slice a2 n2 c2, .slice a3 n3 c3, .slice a4 n4 c4] 30))
  have HB := Lib.hid hb0
  have HC := Lib.hid (h.below hb0)
  clear h hb0
  go_enter Try.func3, Try.ntmps3
  go_upto_region 1 with fail
  obtain ⟨gx, hgx⟩ : ∃ g, w.heap.size = g := ⟨_, rfl⟩
  rw [hgx] at HX0
  rw [hgx]
  have HGx := Lib.hid hgx
  clear hgx
  generalize w.alloc (.cells #[.string q.client, .int .u64 (q.id : Int), .int .i64 q.kind, .int .i64 q.how, .string q.token, .int .u64 (q.n : Int), .string q.typ, .string q.f1, .string q.f2, .string q.f3, .slice a1 n1 c1, .slice a2 n2 c2, .slice a3 n3 c3, .slice a4 n4 c4] 30) = w0 at *
  have HX := Lib.hid HX0.out
  clear HX0
  have HF := Lib.hid (fixed37_any w0)
  go_wp2_with (go_at_call 6; go_must (refine HF.out.mono ?_))
  rintro e w1 ⟨rfl, b1⟩
  have HB := Lib.hid (HB.out.trans (b1.mono HB.out.size))
  have HC := Lib.hid (HC.out.below b1)
  have HX := Lib.hid ((b1.block gx (Array.getElem?_eq_some_iff.1 HX.out).1).trans HX.out)
  clear b1 HF
  have k0 := Lib.cell_of_heap HX.out 0
  have k1 := Lib.cell_of_heap HX.out 1
  have k2 := Lib.cell_of_heap HX.out 2
  have k3 := Lib.cell_of_heap HX.out 3
  have k4 := Lib.cell_of_heap HX.out 4
  have k5 := Lib.cell_of_heap HX.out 5
  have k6 := Lib.cell_of_heap HX.out 6
  have k7 := Lib.cell_of_heap HX.out 7
  have k8 := Lib.cell_of_heap HX.out 8
  have k9 := Lib.cell_of_heap HX.out 9
  have k10 := Lib.cell_of_heap HX.out 10
  have k11 := Lib.cell_of_heap HX.out 11
  have k12 := Lib.cell_of_heap HX.out 12
  have k13 := Lib.cell_of_heap HX.out 13
  simp at k0 k1 k2 k3 k4 k5 k6 k7 k8 k9 k10 k11 k12 k13
  have hgxl := (Array.getElem?_eq_some_iff.1 HX.out).1
  have HFw := Lib.hid (few37_any w1 q a1 a2 a3 a4 n1 n2 n3 n4 c1 c2 c3 c4 HC.out)
  go_wp2_with (go_at_call 7; go_must (refine HFw.out.mono ?_))
  rintro e w2 ⟨fb, rfl, b2, hfew⟩
  have HB := Lib.hid (HB.out.trans (b2.mono HB.out.size))
  have HC := Lib.hid (HC.out.below b2)
  have HX := Lib.hid ((b2.block gx hgxl).trans HX.out)
  clear b2 HFw k0 k1 k2 k3 k4 k5 k6 k7 k8 k9 k10 k11 k12 k13 hgxl
  cases fb with
  | false =>
    clear hfew
    go_wp2
    go_ret
    exact ⟨rfl, HB.out⟩
  | true =>
    obtain ⟨hlow, hsm⟩ := few_low (hfew rfl) HC.out.ok
    have hrd := readReq_reqB q HC.out.ok hsm
    have HPt := Lib.hid (putreq_v HC.out.reqR hlow)
    have HRf := Lib.hid (fun W (h : ReqR W q a1 a2 a3 a4 n1 n2 n3 n4 c1 c2 c3 c4) => refreq_v h hlow)
    have HGt := Lib.hid (fun (W : World) (u : Value) (h : Sl W.heap.size W u (reqB q)) => (getrequest_any W W.heap.size u _ h (Nat.le_refl _) hlow.len).mono fun e w' hp => gotBack (by rw [hrd] at hp; exact hp) HC.out.k1 HC.out.k2 HC.out.k3 HC.out.k4)
    have HSm0 := Lib.hid (fun W b1 b2 b3 b4 d1 d2 d3 d4 (h : ReqR W q b1 b2 b3 b4 n1 n2 n3 n4 d1 d2 d3 d4) (k : ReqR W q a1 a2 a3 a4 n1 n2 n3 n4 c1 c2 c3 c4) => samereq_v W q b1 b2 b3 b4 a1 a2 a3 a4 n1 n2 n3 n4 d1 d2 d3 d4 c1 c2 c3 c4 h k hlow)
    have HQ := Lib.hid HC.out.reqR
    obtain ⟨L, hL⟩ : ∃ L, reqB q = L := ⟨_, rfl⟩
    rw [hL] at HPt HRf HGt
    clear hL hrd hsm hlow hfew HC
    have k0 := Lib.cell_of_heap HX.out 0
    have k1 := Lib.cell_of_heap HX.out 1
    have k2 := Lib.cell_of_heap HX.out 2
    have k3 := Lib.cell_of_heap HX.out 3
    have k4 := Lib.cell_of_heap HX.out 4
    have k5 := Lib.cell_of_heap HX.out 5
    have k6 := Lib.cell_of_heap HX.out 6
    have k7 := Lib.cell_of_heap HX.out 7
    have k8 := Lib.cell_of_heap HX.out 8
    have k9 := Lib.cell_of_heap HX.out 9
    have k10 := Lib.cell_of_heap HX.out 10
    have k11 := Lib.cell_of_heap HX.out 11
    have k12 := Lib.cell_of_heap HX.out 12
    have k13 := Lib.cell_of_heap HX.out 13
    simp at k0 k1 k2 k3 k4 k5 k6 k7 k8 k9 k10 k11 k12 k13
    have hgxl := (Array.getElem?_eq_some_iff.1 HX.out).1
    go_wp2_with (go_at_call 8; go_must (refine HPt.out.mono ?_))
    rintro e w3 ⟨v3, rfl, o3, b3⟩
    obtain ⟨ab, cb, rfl, _, _⟩ := (ownsRow.reads o3).le
    have HB := Lib.hid (HB.out.trans (b3.mono HB.out.size))
    have HQ := Lib.hid (HQ.out.below b3)
    have HX := Lib.hid ((b3.block gx hgxl).trans HX.out)
    have HRb := Lib.hid (ownsRow.reads o3)
    have HG1 := Lib.hid (HGt.out w3 _ (own_sl o3))
    clear o3 b3 HPt HGt k0 k1 k2 k3 k4 k5 k6 k7 k8 k9 k10 k11 k12 k13 hgxl
    go_wp2_with (go_at_call 9; go_must (refine HG1.out.mono ?_))
    rintro e w4 ⟨b1, b2, b3, b4, d1, d2, d3, d4, rfl, bb, hz⟩
    have hba : Below w4.heap.size w4 (w4.alloc (.cells #[.string q.client, .int .u64 (q.id : Int), .int .i64 q.kind, .int .i64 q.how, .string q.token, .int .u64 (q.n : Int), .string q.typ, .string q.f1, .string q.f2, .string q.f3, .slice b1 n1 d1, .slice b2 n2 d2, .slice b3 n3 d3, .slice b4 n4 d4] 30)) := (Below.refl _ _).alloc (Nat.le_refl _) _
    have hb45 := bb.trans (hba.mono bb.size)
    have HY0 := Lib.hid (heap_alloc_new w4 (.cells #[.string q.client, .int .u64 (q.id : Int), .int .i64 q.kind, .int .i64 q.how, .string q.token, .int .u64 (q.n : Int), .string q.typ, .string q.f1, .string q.f2, .string q.f3, .slice b1 n1 d1, .slice b2 n2 d2, .slice b3 n3 d3, .slice b4 n4 d4] 30))
    have HB := Lib.hid (HB.out.trans (hb45.mono HB.out.size))
    have HQ := Lib.hid (HQ.out.below hb45)
    have HZ := Lib.hid (hz.below hba)
    have HX := Lib.hid ((hb45.block gx (Array.getElem?_eq_some_iff.1 HX.out).1).trans HX.out)
    have HRb := Lib.hid (HRb.out.below' hb45)
    have HSm := Lib.hid (fun W h k => HSm0.out W b1 b2 b3 b4 d1 d2 d3 d4 h k)
    clear bb hz hba hb45 HG1 HSm0
    go_upto_region 7 with fail
    obtain ⟨g5, hg5⟩ : ∃ g, w4.heap.size = g := ⟨_, rfl⟩
    rw [hg5] at HY0
    rw [hg5]
    clear hg5
    generalize w4.alloc (.cells #[.string q.client, .int .u64 (q.id : Int), .int .i64 q.kind, .int .i64 q.how, .string q.token, .int .u64 (q.n : Int), .string q.typ, .string q.f1, .string q.f2, .string q.f3, .slice b1 n1 d1, .slice b2 n2 d2, .slice b3 n3 d3, .slice b4 n4 d4] 30) = w5 at *
    have HY := Lib.hid HY0.out
    clear HY0
    have hgxl := (Array.getElem?_eq_some_iff.1 HX.out).1
    have hg5l := (Array.getElem?_eq_some_iff.1 HY.out).1
    refine wp_region_all (by kernel_rfl) [eqF (.int .i64 0), eqF (.bool true), eqF (.bool true), eqF (.int .i64 0), eqF (.bool true), eqF (.bool true), eqF (.bool true), eqF (.slice ab L.length cb), eqF (.string ⟨L.toArray⟩), eqF (.agg #[.string q.client, .int .u64 (q.id : Int), .int .i64 q.kind, .int .i64 q.how, .string q.token, .int .u64 (q.n : Int), .string q.typ, .string q.f1, .string q.f2, .string q.f3, .slice a1 n1 c1, .slice a2 n2 c2, .slice a3 n3 c3, .slice a4 n4 c4]), ownsF w.heap.size 5 1 L.length (bcells L), eqF (.string ⟨L.toArray⟩), eqF (.bool true), eqF (.bool true), eqF (.bool true), eqF (.agg #[.string q.client, .int .u64 (q.id : Int), .int .i64 q.kind, .int .i64 q.how, .string q.token, .int .u64 (q.n : Int), .string q.typ, .string q.f1, .string q.f2, .string q.f3, .slice b1 n1 d1, .slice b2 n2 d2, .slice b3 n3 d3, .slice b4 n4 d4]), eqF (.agg #[.string q.client, .int .u64 (q.id : Int), .int .i64 q.kind, .int .i64 q.how, .string q.token, .int .u64 (q.n : Int), .string q.typ, .string q.f1, .string q.f2, .string q.f3, .slice a1 n1 c1, .slice a2 n2 c2, .slice a3 n3 c3, .slice a4 n4 c4]), eqF (.bool true), eqF (.bool true), eqF (.bool true)] (by kernel_rfl) ⟨?_, ?_, ?_, ?_, ?_, ?_, ?_, ?_, ?_, ?_, ?_, ?_, ?_, ?_, ?_, ?_, ?_, ?_, ?_, ?_, trivial⟩ ⟨trivial, trivial, trivial, fun _ _ h => h, fun _ _ h => h, trivial, trivial, fun _ _ h => h, fun _ _ h => h, fun _ _ h => h, fun _ _ h => h, fun _ _ h => h, fun _ _ h => h, trivial, trivial, fun _ _ h => h, fun _ _ h => h, fun _ _ h => h, trivial, trivial, trivial⟩ ?_
    · intro ρ wx hρ hbx hl
      have e4 : ρ (.tmp 4) = .int .i64 0 := hρ.tmp 4 (by decide +kernel)
      refine y_val (v := .int .i64 0) ?_ rfl
      simp [execOp, go_sem, e4]
    · intro ρ wx hρ hbx hl
      have e22 : ρ (.tmp 22) = .int .i64 0 := hl 0 (by decide +kernel) 22 rfl
      refine y_val (v := .bool true) ?_ rfl
      simp [execOp, hρ.const, go_sem, e22]
    · intro ρ wx hρ hbx hl
      have e23 : ρ (.tmp 23) = .bool true := hl 1 (by decide +kernel) 23 rfl
      refine y_val (v := .bool true) ?_ rfl
      simp [execOp, go_sem, e23]
    · intro ρ wx hρ hbx hl
      have e6 : ρ (.tmp 6) = .int .i64 0 := hρ.tmp 6 (by decide +kernel)
      refine y_val (v := .int .i64 0) ?_ rfl
      simp [execOp, go_sem, e6]
    · intro ρ wx hρ hbx hl
      have e25 : ρ (.tmp 25) = .int .i64 0 := hl 3 (by decide +kernel) 25 rfl
      refine y_val (v := .bool true) ?_ rfl
      simp [execOp, hρ.const, go_sem, e25]
    · intro ρ wx hρ hbx hl
      have e24 : ρ (.tmp 24) = .bool true := hl 2 (by decide +kernel) 24 rfl
      have e26 : ρ (.tmp 26) = .bool true := hl 4 (by decide +kernel) 26 rfl
      refine y_val (v := .bool true) ?_ rfl
      simp [execOp, go_sem, e24, e26]
    · intro ρ wx hρ hbx hl
      have e27 : ρ (.tmp 27) = .bool true := hl 5 (by decide +kernel) 27 rfl
      refine y_val (v := .bool true) ?_ rfl
      simp [execOp, go_sem, e27]
    · intro ρ wx hρ hbx hl
      have e3 : ρ (.tmp 3) = .slice ab L.length cb := hρ.tmp 3 (by decide +kernel)
      refine y_val (v := .slice ab L.length cb) ?_ rfl
      simp [execOp, go_sem, e3]
    · intro ρ wx hρ hbx hl
      have e29 : ρ (.tmp 29) = .slice ab L.length cb := hl 7 (by decide +kernel) 29 rfl
      have hc := Reads.conv (P := Try.prog) (w := wx) (src := 33) (e := 5) (dst := 9) Try.underlying33 Try.underlying5 Try.underlying9 (HRb.out.below' hbx)
      refine y_val (v := .string ⟨L.toArray⟩) ?_ rfl
      simp [execOp, e29, hc]
    · intro ρ wx hρ hbx hl
      have e1 : ρ (.tmp 1) = .pointer (some ⟨gx, 0, none⟩) := hρ.tmp 1 (by decide +kernel)
      exact y_load_row _ _ rfl gx e1 _ _ _ _ ((hbx.block gx hgxl).trans HX.out) Try.underlying30 rfl (by kernel_rfl) rfl
    · intro ρ wx hρ hbx hl
      have e31 : ρ (.tmp 31) = .agg #[.string q.client, .int .u64 (q.id : Int), .int .i64 q.kind, .int .i64 q.how, .string q.token, .int .u64 (q.n : Int), .string q.typ, .string q.f1, .string q.f2, .string q.f3, .slice a1 n1 c1, .slice a2 n2 c2, .slice a3 n3 c3, .slice a4 n4 c4] := hl 9 (by decide +kernel) 31 rfl
      refine y_call (f := 10) (args := #[.agg #[.string q.client, .int .u64 (q.id : Int), .int .i64 q.kind, .int .i64 q.how, .string q.token, .int .u64 (q.n : Int), .string q.typ, .string q.f1, .string q.f2, .string q.f3, .slice a1 n1 c1, .slice a2 n2 c2, .slice a3 n3 c3, .slice a4 n4 c4]]) (by simp [execOp, resolve, invoke, hρ.func, go_sem, e31]) ?_
      refine (HRf.out wx (HQ.out.below hbx)).mono ?_
      rintro e w6 ⟨v7, rfl, f7, b7⟩
      exact ⟨v7, rfl, owns_less f7 (Nat.le_trans HB.out.size hbx.size), b7⟩
    · intro ρ wx hρ hbx hl
      have e32 := hl 10 (by decide +kernel) 32 rfl
      obtain ⟨sa, sc, hsv, _, _⟩ := (ownsRow.reads e32).le
      have hc := Reads.conv (P := Try.prog) (w := wx) (src := 33) (e := 5) (dst := 9) Try.underlying33 Try.underlying5 Try.underlying9 (ownsRow.reads e32)
      refine y_val (v := .string ⟨L.toArray⟩) ?_ rfl
      simp [execOp, hc]
    · intro ρ wx hρ hbx hl
      have e30 : ρ (.tmp 30) = .string ⟨L.toArray⟩ := hl 8 (by decide +kernel) 30 rfl
      have e33 : ρ (.tmp 33) = .string ⟨L.toArray⟩ := hl 11 (by decide +kernel) 33 rfl
      refine y_val (v := .bool true) ?_ rfl
      simp [execOp, go_sem, e30, e33]
    · intro ρ wx hρ hbx hl
      have e28 : ρ (.tmp 28) = .bool true := hl 6 (by decide +kernel) 28 rfl
      have e34 : ρ (.tmp 34) = .bool true := hl 12 (by decide +kernel) 34 rfl
      refine y_val (v := .bool true) ?_ rfl
      simp [execOp, go_sem, e28, e34]
    · intro ρ wx hρ hbx hl
      have e35 : ρ (.tmp 35) = .bool true := hl 13 (by decide +kernel) 35 rfl
      refine y_val (v := .bool true) ?_ rfl
      simp [execOp, go_sem, e35]
    · intro ρ wx hρ hbx hl
      have e5 : ρ (.tmp 5) = .pointer (some ⟨g5, 0, none⟩) := hρ.tmp 5 (by decide +kernel)
      exact y_load_row _ _ rfl g5 e5 _ _ _ _ ((hbx.block g5 hg5l).trans HY.out) Try.underlying30 rfl (by kernel_rfl) rfl
    · intro ρ wx hρ hbx hl
      have e1 : ρ (.tmp 1) = .pointer (some ⟨gx, 0, none⟩) := hρ.tmp 1 (by decide +kernel)
      exact y_load_row _ _ rfl gx e1 _ _ _ _ ((hbx.block gx hgxl).trans HX.out) Try.underlying30 rfl (by kernel_rfl) rfl
    · intro ρ wx hρ hbx hl
      have e37 : ρ (.tmp 37) = .agg #[.string q.client, .int .u64 (q.id : Int), .int .i64 q.kind, .int .i64 q.how, .string q.token, .int .u64 (q.n : Int), .string q.typ, .string q.f1, .string q.f2, .string q.f3, .slice b1 n1 d1, .slice b2 n2 d2, .slice b3 n3 d3, .slice b4 n4 d4] := hl 15 (by decide +kernel) 37 rfl
      have e38 : ρ (.tmp 38) = .agg #[.string q.client, .int .u64 (q.id : Int), .int .i64 q.kind, .int .i64 q.how, .string q.token, .int .u64 (q.n : Int), .string q.typ, .string q.f1, .string q.f2, .string q.f3, .slice a1 n1 c1, .slice a2 n2 c2, .slice a3 n3 c3, .slice a4 n4 c4] := hl 16 (by decide +kernel) 38 rfl
      refine y_call (f := 11) (args := #[.agg #[.string q.client, .int .u64 (q.id : Int), .int .i64 q.kind, .int .i64 q.how, .string q.token, .int .u64 (q.n : Int), .string q.typ, .string q.f1, .string q.f2, .string q.f3, .slice b1 n1 d1, .slice b2 n2 d2, .slice b3 n3 d3, .slice b4 n4 d4], .agg #[.string q.client, .int .u64 (q.id : Int), .int .i64 q.kind, .int .i64 q.how, .string q.token, .int .u64 (q.n : Int), .string q.typ, .string q.f1, .string q.f2, .string q.f3, .slice a1 n1 c1, .slice a2 n2 c2, .slice a3 n3 c3, .slice a4 n4 c4]]) (by simp [execOp, resolve, invoke, hρ.func, go_sem, e37, e38]) ?_
      refine (HSm.out wx (HZ.out.below hbx) (HQ.out.below hbx)).mono ?_
      rintro e w6 ⟨rfl, b7⟩
      exact ⟨_, rfl, rfl, b7⟩
    · intro ρ wx hρ hbx hl
      have e36 : ρ (.tmp 36) = .bool true := hl 14 (by decide +kernel) 36 rfl
      have e39 : ρ (.tmp 39) = .bool true := hl 17 (by decide +kernel) 39 rfl
      refine y_val (v := .bool true) ?_ rfl
      simp [execOp, go_sem, e36, e39]
    · intro ρ wx hρ hbx hl
      have e40 : ρ (.tmp 40) = .bool true := hl 18 (by decide +kernel) 40 rfl
      refine y_val (v := .bool true) ?_ rfl
      simp [execOp, go_sem, e40]
    intro aa wz hdef hsz hlk hbz hf
    have ha := act_of_like hdef hsz hlk [22, 23, 24, 25, 26, 27, 28, 29, 30, 31, 32, 33, 34, 35, 36, 37, 38, 39, 40, 2] 41 rfl (by decide +kernel)
    have e22 : aa.tmps.getD 22 undef = .int .i64 0 := hf 0 _ 22 rfl rfl
    have e23 : aa.tmps.getD 23 undef = .bool true := hf 1 _ 23 rfl rfl
    have e24 : aa.tmps.getD 24 undef = .bool true := hf 2 _ 24 rfl rfl
    have e25 : aa.tmps.getD 25 undef = .int .i64 0 := hf 3 _ 25 rfl rfl
    have e26 : aa.tmps.getD 26 undef = .bool true := hf 4 _ 26 rfl rfl
    have e27 : aa.tmps.getD 27 undef = .bool true := hf 5 _ 27 rfl rfl
    have e28 : aa.tmps.getD 28 undef = .bool true := hf 6 _ 28 rfl rfl
    have e29 : aa.tmps.getD 29 undef = .slice ab L.length cb := hf 7 _ 29 rfl rfl
    have e30 : aa.tmps.getD 30 undef = .string ⟨L.toArray⟩ := hf 8 _ 30 rfl rfl
    have e31 : aa.tmps.getD 31 undef = .agg #[.string q.client, .int .u64 (q.id : Int), .int .i64 q.kind, .int .i64 q.how, .string q.token, .int .u64 (q.n : Int), .string q.typ, .string q.f1, .string q.f2, .string q.f3, .slice a1 n1 c1, .slice a2 n2 c2, .slice a3 n3 c3, .slice a4 n4 c4] := hf 9 _ 31 rfl rfl
    have e33 : aa.tmps.getD 33 undef = .string ⟨L.toArray⟩ := hf 11 _ 33 rfl rfl
    have e34 : aa.tmps.getD 34 undef = .bool true := hf 12 _ 34 rfl rfl
    have e35 : aa.tmps.getD 35 undef = .bool true := hf 13 _ 35 rfl rfl
    have e36 : aa.tmps.getD 36 undef = .bool true := hf 14 _ 36 rfl rfl
    have e37 : aa.tmps.getD 37 undef = .agg #[.string q.client, .int .u64 (q.id : Int), .int .i64 q.kind, .int .i64 q.how, .string q.token, .int .u64 (q.n : Int), .string q.typ, .string q.f1, .string q.f2, .string q.f3, .slice b1 n1 d1, .slice b2 n2 d2, .slice b3 n3 d3, .slice b4 n4 d4] := hf 15 _ 37 rfl rfl
    have e38 : aa.tmps.getD 38 undef = .agg #[.string q.client, .int .u64 (q.id : Int), .int .i64 q.kind, .int .i64 q.how, .string q.token, .int .u64 (q.n : Int), .string q.typ, .string q.f1, .string q.f2, .string q.f3, .slice a1 n1 c1, .slice a2 n2 c2, .slice a3 n3 c3, .slice a4 n4 c4] := hf 16 _ 38 rfl rfl
    have e39 : aa.tmps.getD 39 undef = .bool true := hf 17 _ 39 rfl rfl
    have e40 : aa.tmps.getD 40 undef = .bool true := hf 18 _ 40 rfl rfl
    have e2 : aa.tmps.getD 2 undef = .bool true := hf 19 _ 2 rfl rfl
    simp only [putAll, List.foldl_cons, List.foldl_nil, e22, e23, e24, e25, e26, e27, e28, e29, e30, e31, e33, e34, e35, e36, e37, e38, e39, e40, e2] at ha
    generalize aa.tmps.getD 32 undef = v32 at ha
    simp [Act.put] at ha
    subst ha
    clear hdef hsz hlk hf e22 e23 e24 e25 e26 e27 e28 e29 e30 e31 e33 e34 e35 e36 e37 e38 e39 e40 e2
    have HB := Lib.hid (HB.out.trans (hbz.mono HB.out.size))
    clear hbz HX HY HQ HZ HRb HRf HSm
    go_wp2
    go_ret
    exact ⟨rfl, HB.out⟩
end Go.Proofs.Ytkhjfaghemjcoaa
