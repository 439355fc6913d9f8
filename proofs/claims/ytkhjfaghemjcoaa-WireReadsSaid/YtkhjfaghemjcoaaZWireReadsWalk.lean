/- The law WireReads (written by gen_wirereads.py). -/
import Derived.Test.YtkhjfaghemjcoaaZWireRequestsWalk
import Derived.Test.YtkhjfaghemjcoaaZGrpB
import Derived.Test.YtkhjfaghemjcoaaZWireRo
namespace Go.Proofs.Ytkhjfaghemjcoaa
open Go Go.RowKit

theorem wri_pos (x : Wri) : 0 < (wriB x).length := by have := enc_pos (bitN x.is); simp only [wriB, List.length_append]; omega
theorem arg_pos (x : Arg4) : 0 < (argB x).length := by have := txt_pos x.name; simp only [argB, List.length_append]; omega

theorem req_low {q : Req} (hi : ReqIn q) (hl : (reqB q).length ≤ 1000000) : ReqLow q := by
  have hl0 := hl
  unfold reqB at hl
  simp only [List.length_append] at hl
  exact ⟨hi, hl0, (list_len wriB wri_pos q.writes 1000000 (by omega)).1, (list_len wriB wri_pos q.pres 1000000 (by omega)).1, (list_len t6B t6_pos q.asks 1000000 (by omega)).1, (list_len argB arg_pos q.args 1000000 (by omega)).1⟩

/-- wire.GetRequest, of any bytes: refused, or what has just these bytes. -/
theorem getreq_told {w w' : World} {l : List UInt8} {e : Ending} (h : GotReq w (readReq l) e w') (hl : l.length ≤ 1000000) :
    Below w.heap.size w w' ∧ ((readReq l = none ∧ e = .returned (.tuple #[.agg #[.string ⟨#[]⟩, .int .u64 0, .int .i64 0, .int .i64 0, .string ⟨#[]⟩, .int .u64 0, .string ⟨#[]⟩, .string ⟨#[]⟩, .string ⟨#[]⟩, .string ⟨#[]⟩, .slice none 0 0, .slice none 0 0, .slice none 0 0, .slice none 0 0], .int .i64 9])) ∨
      ∃ q9 e1 e2 e3 e4 d1 d2 d3 d4, reqB q9 = l ∧ ReqLow q9 ∧ e = .returned (.tuple #[.agg #[.string q9.client, .int .u64 (q9.id : Int), .int .i64 q9.kind, .int .i64 q9.how, .string q9.token, .int .u64 (q9.n : Int), .string q9.typ, .string q9.f1, .string q9.f2, .string q9.f3, .slice e1 q9.writes.length d1, .slice e2 q9.pres.length d2, .slice e3 q9.asks.length d3, .slice e4 q9.args.length d4], .int .i64 0]) ∧ ReqR w' q9 e1 e2 e3 e4 q9.writes.length q9.pres.length q9.asks.length q9.args.length d1 d2 d3 d4) := by
  obtain ⟨hb, ⟨h1, h2⟩ | ⟨q9, v1, v2, v3, v4, hq, rfl, ho⟩⟩ := h
  · exact ⟨hb, .inl ⟨h1, h2⟩⟩
  · obtain ⟨k1, k2, _⟩ := readReq_back hq
    obtain ⟨a1, a2, a3, a4, c1, c2, c3, c4, rfl, rfl, rfl, rfl, hr⟩ := ho.reqR
    exact ⟨hb, .inr ⟨q9, a1, a2, a3, a4, c1, c2, c3, c4, k1, req_low k2 (by rw [k1]; exact hl), rfl, hr⟩⟩

theorem getresp_told {w w' : World} {l : List UInt8} {e : Ending} (h : GotResp w (readResp l) e w') (hl : l.length ≤ 1000000) :
    Below w.heap.size w w' ∧ ((readResp l = none ∧ e = .returned (.tuple #[.agg #[.int .u64 0, .int .i64 0, .int .u64 0, .string ⟨#[]⟩, .slice none 0 0, .slice none 0 0, .slice none 0 0, .slice none 0 0, .slice none 0 0, .int .i64 0, .string ⟨#[]⟩, .string ⟨#[]⟩, .string ⟨#[]⟩, .slice none 0 0, .slice none 0 0], .int .i64 9])) ∨
      ∃ p u1 u2 u3 u4 u5 ys ya x1 x2 x3 x4 x5 yc yp, respB p = l ∧ RespIn p ∧ e = .returned (.tuple #[.agg #[.int .u64 (p.id : Int), .int .i64 p.err, .int .u64 (p.rev : Int), .string p.token, .slice u1 p.flags.length x1, .slice u2 p.tuples.length x2, .slice u3 p.objs.length x3, .slice u4 p.events.length x4, .slice u5 p.steps.length x5, .int .i64 p.th.kind, .string p.th.o, .string p.th.i, .string p.th.rel, .slice ys p.th.subs.length yc, .slice ya p.tps.length yp], .int .i64 0]) ∧ RespR (· < w'.heap.size) w' p u1 u2 u3 u4 u5 ys ya x1 x2 x3 x4 x5 yc yp) := by
  obtain ⟨hb, ⟨h1, h2⟩ | ⟨p, u1, u2, u3, u4, u5, ys, ya, x1, x2, x3, x4, x5, yc, yp, hq, rfl, hr⟩⟩ := h
  · exact ⟨hb, .inl ⟨h1, h2⟩⟩
  · obtain ⟨k1, k2⟩ := readResp_back hq
    exact ⟨hb, .inr ⟨p, u1, u2, u3, u4, u5, ys, ya, x1, x2, x3, x4, x5, yc, yp, k1, resp_in k2 (by rw [k1]; exact hl), rfl, hr.mono (fun x hx _ => hx)⟩⟩

theorem reqB_respB {q : Req} {p : Resp} {l : List UInt8} (h : reqB q = l) (k : respB p = l) : False := by
  have e := h.trans k.symm
  unfold reqB respB at e
  simp at e

theorem few_len {q : Req} (h : FewQ q) (hi : ReqIn q) : (reqB q).length ≤ 900000 := by
  obtain ⟨hl, ht, hw, hp, ha, hg⟩ := h
  have lw := listB_le wriB 670 q.writes (by omega) (fun x hx => by
    have := (t6_small (hw x hx)).2
    have h2 := enc_ten (bitN x.is) (by cases x.is <;> decide)
    unfold wriB
    rw [List.length_append]
    omega)
  have lp := listB_le wriB 670 q.pres (by omega) (fun x hx => by
    have := (t6_small (hp x hx)).2
    have h2 := enc_ten (bitN x.is) (by cases x.is <;> decide)
    unfold wriB
    rw [List.length_append]
    omega)
  have la := listB_le t6B 660 q.asks (by omega) (fun x hx => (t6_small (ha x hx)).2)
  have lg := listB_le argB 340 q.args (by omega) (fun x hx => by
    have h1 := hg x hx
    have h2 := txt_len (s := x.name) (by omega)
    have h3 := txt_len (s := x.s) (by omega)
    have h4 := enc_ten (zig x.kind) (zig_lt (hi.args x hx).1)
    have h5 := enc_ten (zig x.n) (zig_lt (hi.args x hx).2)
    unfold argB
    simp only [List.length_append]
    omega)
  have z1 := txt_len (s := q.client) (by omega)
  have z2 := txt_len (s := q.token) (by omega)
  have z3 := txt_len (s := q.typ) (by omega)
  have z4 := txt_len (s := q.f1) (by omega)
  have z5 := txt_len (s := q.f2) (by omega)
  have z6 := txt_len (s := q.f3) (by omega)
  have e1 := enc_ten q.id hi.id
  have e2 := enc_ten q.n hi.n
  have e3 := enc_ten (zig q.kind) (zig_lt hi.ints.1)
  have e4 := enc_ten (zig q.how) (zig_lt hi.ints.2)
  unfold reqB txts
  simp only [List.flatMap_cons, List.flatMap_nil, List.length_append, List.length_nil, List.length_cons]
  omega

theorem slf {B : Nat} {w : World} {b off cap : Nat} {l : List UInt8} (h : Sl B w (.slice (some ⟨b, off, none⟩) l.length cap) l) {k : Nat} (hk : k ≤ l.length) : Sl B w (.slice (some ⟨b, off, none⟩) k cap) (l.take k) := by
  have hr := h.reads
  obtain ⟨a2, cap2, hv, _, _, ht⟩ := hr.take k hk
  cases hv
  have hkl : (l.take k).length = k := by rw [List.length_take]; omega
  right
  by_cases hl : l = []
  · subst hl
    obtain rfl : k = 0 := by simpa using hk
    exact ⟨b, off, cap, rfl, fun h => absurd rfl h, fun h => absurd rfl h, ht⟩
  · rcases h with ⟨_, h0⟩ | ⟨b', off', cap', hv, h1, h2, _⟩
    · exact absurd h0 hl
    · cases hv
      exact ⟨b, off, cap, by rw [hkl], fun _ => h1 hl, fun _ => h2 hl, by rw [hkl]; exact ht⟩

set_option maxRecDepth 100000 in
set_option maxHeartbeats 8000000 in
theorem wireReads_walk (w : World) (b0 : Option Addr) (cap0 : Nat) (L0 : List UInt8) (hs : Sl w.heap.size w (.slice b0 L0.length cap0) L0) (q : Req) (a1 a2 a3 a4 : Option Addr) (n1 n2 n3 n4 c1 c2 c3 c4 : Nat) (h : ReqCame w q a1 a2 a3 a4 n1 n2 n3 n4 c1 c2 c3 c4) (cut m : Nat) (hcut : cut ≤ 65535) (hm : m ≤ 255) :
    Calls Try.prog 4 #[.slice b0 L0.length cap0, .agg #[.string q.client, .int .u64 (q.id : Int), .int .i64 q.kind, .int .i64 q.how, .string q.token, .int .u64 (q.n : Int), .string q.typ, .string q.f1, .string q.f2, .string q.f3, .slice a1 n1 c1, .slice a2 n2 c2, .slice a3 n3 c3, .slice a4 n4 c4], .int .u16 (cut : Int), .int .u8 (m : Int)] w (SaysTrue w) := by
  have hb0 : Below w.heap.size w (w.alloc (.cells #[.string q.client, .int .u64 (q.id : Int), .int .i64 q.kind, .int .i64 q.how, .string q.token, .int .u64 (q.n : Int), .string q.typ, .string q.f1, .string q.f2, .string q.f3, .slice a1 n1 c1, .slice a2 n2 c2, .slice a3 n3 c3, .slice a4 n4 c4] 30)) := (Below.refl _ _).alloc (Nat.le_refl _) _
  have HX0 := Lib.hid (heap_alloc_new w (.cells #[.string q.client, .int .u64 (q.id : Int), .int .i64 q.kind, .int .i64 q.how, .string q.token, .int .u64 (q.n : Int), .string q.typ, .string q.f1, .string q.f2, .string q.f3, .slice a1 n1 c1, .slice a2 n2 c2, .slice a3 n3 c3, .slice a4 n4 c4] 30))
  have HB := Lib.hid hb0
  have HC := Lib.hid (h.below hb0)
  have HS := Lib.hid (hs.below hb0)
  have HCut := Lib.hid hcut
  have HM := Lib.hid hm
  clear h hb0 hs hcut hm
  go_enter Try.func4, Try.ntmps4
  go_upto_region 1 with fail
  obtain ⟨gx, hgx⟩ : ∃ g, w.heap.size = g := ⟨_, rfl⟩
  rw [hgx] at HX0
  rw [hgx]
  have HGx := Lib.hid hgx
  clear hgx
  generalize w.alloc (.cells #[.string q.client, .int .u64 (q.id : Int), .int .i64 q.kind, .int .i64 q.how, .string q.token, .int .u64 (q.n : Int), .string q.typ, .string q.f1, .string q.f2, .string q.f3, .slice a1 n1 c1, .slice a2 n2 c2, .slice a3 n3 c3, .slice a4 n4 c4] 30) = w0 at *
  have HX := Lib.hid HX0.out
  clear HX0
  have HF := Lib.hid (fixed37_any w0)
  go_wp2_with (go_at_call 6; go_must (refine HF.out.mono ?_))
  rintro e w1 ⟨rfl, b1⟩
  have HS := Lib.hid (HS.out.below (b1.mono HB.out.size))
  have HX := Lib.hid ((b1.block gx (Array.getElem?_eq_some_iff.1 HX.out).1).trans HX.out)
  have HC := Lib.hid (HC.out.below b1)
  have HB := Lib.hid (HB.out.trans (b1.mono HB.out.size))
  clear b1 HF
  by_cases hbig : 2000 < L0.length
  · have hbI : (2000 : Int) < L0.length := by omega
    go_wp2
    go_ret
    exact ⟨rfl, HB.out⟩
  have hbI : ¬ (2000 : Int) < L0.length := by omega
  have k0 := Lib.cell_of_heap HX.out 0
  have k1 := Lib.cell_of_heap HX.out 1
  have k2 := Lib.cell_of_heap HX.out 2
  have k3 := Lib.cell_of_heap HX.out 3
  have k4 := Lib.cell_of_heap HX.out 4
  have k5 := Lib.cell_of_heap HX.out 5
  have k6 := Lib.cell_of_heap HX.out 6
  have k7 := Lib.cell_of_heap HX.out 7
  have k8 := Lib.cell_of_heap HX.out 8
  have k9 := Lib.cell_of_heap HX.out 9
  have k10 := Lib.cell_of_heap HX.out 10
  have k11 := Lib.cell_of_heap HX.out 11
  have k12 := Lib.cell_of_heap HX.out 12
  have k13 := Lib.cell_of_heap HX.out 13
  simp at k0 k1 k2 k3 k4 k5 k6 k7 k8 k9 k10 k11 k12 k13
  have hgxl := (Array.getElem?_eq_some_iff.1 HX.out).1
  have HFw := Lib.hid (few37_any w1 q a1 a2 a3 a4 n1 n2 n3 n4 c1 c2 c3 c4 HC.out)
  go_wp2_with (go_at_call 7; go_must (refine HFw.out.mono ?_))
  rintro e w2 ⟨fb, rfl, b2, hfew⟩
  have HS := Lib.hid (HS.out.below (b2.mono HB.out.size))
  have HB := Lib.hid (HB.out.trans (b2.mono HB.out.size))
  have HC := Lib.hid (HC.out.below b2)
  have HX := Lib.hid ((b2.block gx hgxl).trans HX.out)
  clear b2 HFw k0 k1 k2 k3 k4 k5 k6 k7 k8 k9 k10 k11 k12 k13 hgxl
  cases fb with
  | false =>
    clear hfew
    go_wp2
    go_ret
    exact ⟨rfl, HB.out⟩
  | true =>
  obtain ⟨hlow, hsm⟩ := few_low (hfew rfl) HC.out.ok
  have HL := Lib.hid (show L0.length ≤ 1000000 by omega)
  have HRf := Lib.hid (fun W (h : ReqR W q a1 a2 a3 a4 n1 n2 n3 n4 c1 c2 c3 c4) => refreq_v h hlow)
  have HCt := Lib.hid (fun k hk => readReq_cut HC.out.ok hsm k hk)
  have HLg := Lib.hid (fun x => readReq_long HC.out.ok hsm x)
  have HPs := Lib.hid (reqB_pos q)
  have HLen := Lib.hid hlow.len
  have HL9 := Lib.hid (few_len (hfew rfl) HC.out.ok)
  have HQ := Lib.hid HC.out.reqR
  obtain ⟨L, hL⟩ : ∃ L, reqB q = L := ⟨_, rfl⟩
  rw [hL] at HRf HCt HLg HPs HLen HL9
  clear hL hsm hlow hfew HC hbig
  have HG := Lib.hid (getrequest_any w2 w.heap.size _ L0 HS.out HB.out.size HL.out)
  go_wp2_with (go_at_call 9; go_must (refine HG.out.mono ?_))
  intro e w3 hp
  clear hbI
  obtain ⟨b3, hq9⟩ := getreq_told hp HL.out
  have HS := Lib.hid (HS.out.below (b3.mono HB.out.size))
  have HQ := Lib.hid (HQ.out.below b3)
  have HX := Lib.hid ((b3.block gx (Array.getElem?_eq_some_iff.1 HX.out).1).trans HX.out)
  have HB := Lib.hid (HB.out.trans (b3.mono HB.out.size))
  clear hp b3 HG
  rcases hq9 with ⟨_, rfl⟩ | ⟨q9, e1, e2, e3, e4, d1, d2, d3, d4, hq9, hlow9, rfl, hr9⟩
  · have hba : Below w3.heap.size w3 (w3.alloc (.cells #[.string ⟨#[]⟩, .int .u64 0, .int .i64 0, .int .i64 0, .string ⟨#[]⟩, .int .u64 0, .string ⟨#[]⟩, .string ⟨#[]⟩, .string ⟨#[]⟩, .string ⟨#[]⟩, .slice none 0 0, .slice none 0 0, .slice none 0 0, .slice none 0 0] 30)) := (Below.refl _ _).alloc (Nat.le_refl _) _
    have HS := Lib.hid (HS.out.below (hba.mono HB.out.size))
    have HQ := Lib.hid (HQ.out.below hba)
    have HX := Lib.hid ((hba.block gx (Array.getElem?_eq_some_iff.1 HX.out).1).trans HX.out)
    have HB := Lib.hid (HB.out.trans (hba.mono HB.out.size))
    clear hba
    go_upto_region 6 with fail
    obtain ⟨g9, hg9⟩ : ∃ g, w3.heap.size = g := ⟨_, rfl⟩
    rw [hg9]
    clear hg9
    generalize w3.alloc (.cells #[.string ⟨#[]⟩, .int .u64 0, .int .i64 0, .int .i64 0, .string ⟨#[]⟩, .int .u64 0, .string ⟨#[]⟩, .string ⟨#[]⟩, .string ⟨#[]⟩, .string ⟨#[]⟩, .slice none 0 0, .slice none 0 0, .slice none 0 0, .slice none 0 0] 30) = w4 at *
    have HG := Lib.hid (getresponse_any w4 w.heap.size _ L0 HS.out HB.out.size HL.out)
    go_wp2_with (go_at_call 12; go_must (refine HG.out.mono ?_))
    intro e w5 hp
    obtain ⟨b5, hp9⟩ := getresp_told hp HL.out
    have HS := Lib.hid (HS.out.below (b5.mono HB.out.size))
    have HQ := Lib.hid (HQ.out.below b5)
    have HX := Lib.hid ((b5.block gx (Array.getElem?_eq_some_iff.1 HX.out).1).trans HX.out)
    have HB := Lib.hid (HB.out.trans (b5.mono HB.out.size))
    clear hp b5 HG
    rcases hp9 with ⟨_, rfl⟩ | ⟨p, u1, u2, u3, u4, u5, ys, ya, x1, x2, x3, x4, x5, yc, yp, hp9, hin9, rfl, hr9⟩
    · have hba : Below w5.heap.size w5 (w5.alloc (.cells #[.int .u64 0, .int .i64 0, .int .u64 0, .string ⟨#[]⟩, .slice none 0 0, .slice none 0 0, .slice none 0 0, .slice none 0 0, .slice none 0 0, .int .i64 0, .string ⟨#[]⟩, .string ⟨#[]⟩, .string ⟨#[]⟩, .slice none 0 0, .slice none 0 0] 54)) := (Below.refl _ _).alloc (Nat.le_refl _) _
      have HS := Lib.hid (HS.out.below (hba.mono HB.out.size))
      have HQ := Lib.hid (HQ.out.below hba)
      have HX := Lib.hid ((hba.block gx (Array.getElem?_eq_some_iff.1 HX.out).1).trans HX.out)
      have HB := Lib.hid (HB.out.trans (hba.mono HB.out.size))
      clear hba
      go_upto_region 9 with fail
      obtain ⟨g11, hg11⟩ : ∃ g, w5.heap.size = g := ⟨_, rfl⟩
      rw [hg11]
      clear hg11
      generalize w5.alloc (.cells #[.int .u64 0, .int .i64 0, .int .u64 0, .string ⟨#[]⟩, .slice none 0 0, .slice none 0 0, .slice none 0 0, .slice none 0 0, .slice none 0 0, .int .i64 0, .string ⟨#[]⟩, .string ⟨#[]⟩, .string ⟨#[]⟩, .slice none 0 0, .slice none 0 0] 54) = w6 at *
      refine wp_region_some (by kernel_rfl) [3, 4, 5, 6, 7, 8, 14, 15, 16, 17, 18, 19] [eqF (.int .i64 9), eqF (.bool false), eqF (.bool false), eqF (undef), eqF (undef), eqF (undef), eqF (undef), eqF (undef), eqF (undef), eqF (.bool false), eqF (.bool false), eqF (.int .i64 9), eqF (.bool false), eqF (.bool false), eqF (undef), eqF (undef), eqF (undef), eqF (undef), eqF (undef), eqF (undef), eqF (.bool false), eqF (.bool false)] (by kernel_rfl) ⟨on_goal (by decide) ?_, on_goal (by decide) ?_, on_goal (by decide) ?_, off_goal (by decide) fun _ => rfl, off_goal (by decide) fun _ => rfl, off_goal (by decide) fun _ => rfl, off_goal (by decide) fun _ => rfl, off_goal (by decide) fun _ => rfl, off_goal (by decide) fun _ => rfl, on_goal (by decide) ?_, on_goal (by decide) ?_, on_goal (by decide) ?_, on_goal (by decide) ?_, on_goal (by decide) ?_, off_goal (by decide) fun _ => rfl, off_goal (by decide) fun _ => rfl, off_goal (by decide) fun _ => rfl, off_goal (by decide) fun _ => rfl, off_goal (by decide) fun _ => rfl, off_goal (by decide) fun _ => rfl, on_goal (by decide) ?_, on_goal (by decide) ?_, trivial⟩ ⟨rfl, rfl, rfl, fun _ _ h => h, fun _ _ h => h, fun _ _ h => h, fun _ _ h => h, fun _ _ h => h, fun _ _ h => h, rfl, rfl, fun _ _ h => h, fun _ _ h => h, fun _ _ h => h, fun _ _ h => h, fun _ _ h => h, fun _ _ h => h, fun _ _ h => h, fun _ _ h => h, fun _ _ h => h, fun _ _ h => h, rfl, trivial⟩ ?_
      · intro ρ wx hρ hbx hl
        have e10 : ρ (.tmp 10) = .int .i64 9 := hρ.tmp 10 (by decide +kernel)
        refine y_val (v := .int .i64 9) ?_ rfl
        simp [execOp, go_sem, e10]
      · intro ρ wx hρ hbx hl
        have e52 : ρ (.tmp 52) = .int .i64 9 := hl 0 (by decide +kernel) 52 rfl
        refine y_val (v := .bool false) ?_ rfl
        simp [execOp, hρ.const, go_sem, e52]
      · intro ρ wx hρ hbx hl
        have e53 : ρ (.tmp 53) = .bool false := hl 1 (by decide +kernel) 53 rfl
        refine y_val (v := .bool false) ?_ rfl
        simp [execOp, go_sem, e53]
      · intro ρ wx hρ hbx hl
        have e54 : ρ (.tmp 54) = .bool false := hl 2 (by decide +kernel) 54 rfl
        have e60 : ρ (.tmp 60) = undef := hl 8 (by decide +kernel) 60 rfl
        refine y_val (v := .bool false) ?_ rfl
        simp [execOp, hρ.const, go_sem, e54]
      · intro ρ wx hρ hbx hl
        have e61 : ρ (.tmp 61) = .bool false := hl 9 (by decide +kernel) 61 rfl
        refine y_val (v := .bool false) ?_ rfl
        simp [execOp, go_sem, e61]
      · intro ρ wx hρ hbx hl
        have e12 : ρ (.tmp 12) = .int .i64 9 := hρ.tmp 12 (by decide +kernel)
        refine y_val (v := .int .i64 9) ?_ rfl
        simp [execOp, go_sem, e12]
      · intro ρ wx hρ hbx hl
        have e63 : ρ (.tmp 63) = .int .i64 9 := hl 11 (by decide +kernel) 63 rfl
        refine y_val (v := .bool false) ?_ rfl
        simp [execOp, hρ.const, go_sem, e63]
      · intro ρ wx hρ hbx hl
        have e64 : ρ (.tmp 64) = .bool false := hl 12 (by decide +kernel) 64 rfl
        refine y_val (v := .bool false) ?_ rfl
        simp [execOp, go_sem, e64]
      · intro ρ wx hρ hbx hl
        have e65 : ρ (.tmp 65) = .bool false := hl 13 (by decide +kernel) 65 rfl
        have e71 : ρ (.tmp 71) = undef := hl 19 (by decide +kernel) 71 rfl
        refine y_val (v := .bool false) ?_ rfl
        simp [execOp, hρ.const, go_sem, e65]
      · intro ρ wx hρ hbx hl
        have e62 : ρ (.tmp 62) = .bool false := hl 10 (by decide +kernel) 62 rfl
        have e72 : ρ (.tmp 72) = .bool false := hl 20 (by decide +kernel) 72 rfl
        refine y_val (v := .bool false) ?_ rfl
        simp [execOp, go_sem, e62, e72]
      intro aa wz hdef hsz hlk hbz hf
      have ha := act_of_like hdef hsz hlk [52, 53, 54, 55, 56, 57, 58, 59, 60, 61, 62, 63, 64, 65, 66, 67, 68, 69, 70, 71, 72, 73] 103 rfl (by decide +kernel)
      have e52 : aa.tmps.getD 52 undef = .int .i64 9 := hf 0 _ 52 rfl rfl
      have e53 : aa.tmps.getD 53 undef = .bool false := hf 1 _ 53 rfl rfl
      have e54 : aa.tmps.getD 54 undef = .bool false := hf 2 _ 54 rfl rfl
      have e55 : aa.tmps.getD 55 undef = undef := hf 3 _ 55 rfl rfl
      have e56 : aa.tmps.getD 56 undef = undef := hf 4 _ 56 rfl rfl
      have e57 : aa.tmps.getD 57 undef = undef := hf 5 _ 57 rfl rfl
      have e58 : aa.tmps.getD 58 undef = undef := hf 6 _ 58 rfl rfl
      have e59 : aa.tmps.getD 59 undef = undef := hf 7 _ 59 rfl rfl
      have e60 : aa.tmps.getD 60 undef = undef := hf 8 _ 60 rfl rfl
      have e61 : aa.tmps.getD 61 undef = .bool false := hf 9 _ 61 rfl rfl
      have e62 : aa.tmps.getD 62 undef = .bool false := hf 10 _ 62 rfl rfl
      have e63 : aa.tmps.getD 63 undef = .int .i64 9 := hf 11 _ 63 rfl rfl
      have e64 : aa.tmps.getD 64 undef = .bool false := hf 12 _ 64 rfl rfl
      have e65 : aa.tmps.getD 65 undef = .bool false := hf 13 _ 65 rfl rfl
      have e66 : aa.tmps.getD 66 undef = undef := hf 14 _ 66 rfl rfl
      have e67 : aa.tmps.getD 67 undef = undef := hf 15 _ 67 rfl rfl
      have e68 : aa.tmps.getD 68 undef = undef := hf 16 _ 68 rfl rfl
      have e69 : aa.tmps.getD 69 undef = undef := hf 17 _ 69 rfl rfl
      have e70 : aa.tmps.getD 70 undef = undef := hf 18 _ 70 rfl rfl
      have e71 : aa.tmps.getD 71 undef = undef := hf 19 _ 71 rfl rfl
      have e72 : aa.tmps.getD 72 undef = .bool false := hf 20 _ 72 rfl rfl
      have e73 : aa.tmps.getD 73 undef = .bool false := hf 21 _ 73 rfl rfl
      simp only [putAll, List.foldl_cons, List.foldl_nil, e52, e53, e54, e55, e56, e57, e58, e59, e60, e61, e62, e63, e64, e65, e66, e67, e68, e69, e70, e71, e72, e73] at ha
      simp [Act.put] at ha
      subst ha
      clear hdef hsz hlk hf e52 e53 e54 e55 e56 e57 e58 e59 e60 e61 e62 e63 e64 e65 e66 e67 e68 e69 e70 e71 e72 e73
      have HQ := Lib.hid (HQ.out.below hbz)
      have HX := Lib.hid ((hbz.block gx (Array.getElem?_eq_some_iff.1 HX.out).1).trans HX.out)
      have HB := Lib.hid (HB.out.trans (hbz.mono HB.out.size))
      clear hbz HS HL
      have k0 := Lib.cell_of_heap HX.out 0
      have k1 := Lib.cell_of_heap HX.out 1
      have k2 := Lib.cell_of_heap HX.out 2
      have k3 := Lib.cell_of_heap HX.out 3
      have k4 := Lib.cell_of_heap HX.out 4
      have k5 := Lib.cell_of_heap HX.out 5
      have k6 := Lib.cell_of_heap HX.out 6
      have k7 := Lib.cell_of_heap HX.out 7
      have k8 := Lib.cell_of_heap HX.out 8
      have k9 := Lib.cell_of_heap HX.out 9
      have k10 := Lib.cell_of_heap HX.out 10
      have k11 := Lib.cell_of_heap HX.out 11
      have k12 := Lib.cell_of_heap HX.out 12
      have k13 := Lib.cell_of_heap HX.out 13
      simp at k0 k1 k2 k3 k4 k5 k6 k7 k8 k9 k10 k11 k12 k13
      have hgxl := (Array.getElem?_eq_some_iff.1 HX.out).1
      go_wp2_with (go_at_call 10; go_must (refine (HRf.out _ HQ.out).mono ?_))
      rintro e w7 ⟨v7, rfl, o7, b7⟩
      have HB := Lib.hid (HB.out.trans (b7.mono HB.out.size))
      have HSl := Lib.hid (own_sl o7)
      have HR7 := Lib.hid (ownsRow.reads o7)
      obtain ⟨g7, p7, rfl⟩ : ∃ g cp, v7 = .slice (some ⟨g, 0, none⟩) L.length cp := by
        obtain ⟨_, ⟨_, h0⟩ | ⟨g, cp, cur, hv, _⟩⟩ := o7
        · have := HPs.out
          omega
        · exact ⟨g, cp, hv⟩
      obtain ⟨_, _, hv7, hc7, _⟩ := HR7.out.le
      cases hv7
      have hcp := hc7
      clear o7 b7 HRf HQ HX k0 k1 k2 k3 k4 k5 k6 k7 k8 k9 k10 k11 k12 k13 hgxl
      have hpos := HPs.out
      have hrem : (wrap64 (cut : Int)).tmod (L.length : Int) = ((cut % L.length : Nat) : Int) := by
        have h1 := HCut.out
        rw [show wrap64 (cut : Int) = cut by unfold wrap64; omega, Int.tmod_eq_emod_of_nonneg (by omega)]
        exact (Int.natCast_emod _ _).symm
      have hklt := Nat.mod_lt cut hpos
      have hnz : ¬ (L.length : Int) = 0 := by omega
      obtain ⟨k, hk⟩ : ∃ k, cut % L.length = k := ⟨_, rfl⟩
      rw [hk] at hrem hklt
      have HKl := Lib.hid hklt
      have h0k : (0 : Int) ≤ k := by omega
      have hkc : (k : Int) ≤ p7 := by omega
      have hC := getrequest_any w7 w7.heap.size _ _ (slf HSl.out (Nat.le_of_lt hklt)) (Nat.le_refl _) (by rw [List.length_take]; have := HLen.out; omega)
      rw [HCt.out k hklt] at hC
      have HC := Lib.hid hC
      clear hC hklt hpos
      go_wp2_with (go_at_call 9; go_must (refine HC.out.mono ?_))
      intro e w8 hp
      obtain ⟨b8, ⟨_, rfl⟩ | ⟨_, _, _, _, _, hx, _⟩⟩ := hp
      case inr => cases hx
      have hba : Below w8.heap.size w8 (w8.alloc (.cells #[.string ⟨#[]⟩, .int .u64 0, .int .i64 0, .int .i64 0, .string ⟨#[]⟩, .int .u64 0, .string ⟨#[]⟩, .string ⟨#[]⟩, .string ⟨#[]⟩, .string ⟨#[]⟩, .slice none 0 0, .slice none 0 0, .slice none 0 0, .slice none 0 0] 30)) := (Below.refl _ _).alloc (Nat.le_refl _) _
      have hb9 := b8.trans (hba.mono b8.size)
      have HB := Lib.hid (HB.out.trans (hb9.mono HB.out.size))
      have HR := Lib.hid (HR7.out.below' hb9)
      clear b8 hba hb9 HC hrem hnz h0k hkc hk HKl hcp HSl HR7 hc7
      go_upto_region 13 with fail
      generalize w8.alloc (.cells #[.string ⟨#[]⟩, .int .u64 0, .int .i64 0, .int .i64 0, .string ⟨#[]⟩, .int .u64 0, .string ⟨#[]⟩, .string ⟨#[]⟩, .string ⟨#[]⟩, .string ⟨#[]⟩, .slice none 0 0, .slice none 0 0, .slice none 0 0, .slice none 0 0] 30) = w9 at *
      obtain ⟨i0, hi, hz0, hz1, hz2⟩ := info_parts info5
      have hsrc := Reads.src (P := Try.prog) (tx := 33) Try.underlying33 (HR.out.alloc (.cells #[] 5)) (bcells_one L)
      have hf0 := fresh_empty w9 5 1
      have HLn := Lib.hid (show L.length ≤ 1000000 from HLen.out)
      go_wp2_with (at_builtin; go_must (refine wpList_append_fresh rfl _ _ 33 33 rfl w9.heap.size 5 i0 (.int .u8 0) 1 1 Try.underlying33 hi hz0 hz1 hz2 rfl _ _ _ rfl hf0 _ _ _ rfl hsrc ?_ ?_ ?_ ?_))
      · have := HLn.out
        unfold maxLen; omega
      · have := HLn.out
        omega
      · simp
      intro va wa fa _ ba _
      have b3 : Below w9.heap.size w9 wa := ((Below.refl _ _).alloc (Nat.le_refl _) _).trans ba
      have hszA := b3.size
      have FA : Fresh w9.heap.size wa 5 1 va L.length (bcells L) := by simpa using fa
      clear hsrc hf0 ba fa
      go_wp2_with (at_builtin; go_must (refine wpList_append_one (w0 := wa) rfl _ _ 33 rfl w9.heap.size 5 i0 (.int .u8 0) 1 Try.underlying33 hi hz0 hz1 hz2 rfl FA rfl rfl rfl ?_ ?_ hszA ?_))
      · have := HLn.out
        unfold maxLen; omega
      · have := HLn.out
        omega
      intro vb wb fb2 _ bb _
      have hbt := b3.trans bb
      have HB := Lib.hid (HB.out.trans (hbt.mono HB.out.size))
      have hRB : Reads wb 1 vb (L ++ [UInt8.ofNat m]).length (bcells (L ++ [UInt8.ofNat m])) := by
        have h1 := HM.out
        have h2 := fb2.1
        rw [bcells_append]
        rw [List.length_append]
        have h3 : bcells [UInt8.ofNat m] = [Value.int .u8 (m : Int)] := by simp [bcells]; omega
        rw [h3]
        exact h2
      have hC := getrequest_any wb wb.heap.size vb _ (Sl.of_reads hRB (by simp)) (Nat.le_refl _) (by rw [List.length_append]; have := HL9.out; simp; omega)
      rw [HLg.out] at hC
      have HC := Lib.hid hC
      clear hC hRB hbt bb fb2 FA b3 hszA HR
      go_wp2_with (go_at_call 9; go_must (refine HC.out.mono ?_))
      intro e wc hp
      obtain ⟨b8, ⟨_, rfl⟩ | ⟨_, _, _, _, _, hx, _⟩⟩ := hp
      case inr => cases hx
      have hba : Below wc.heap.size wc (wc.alloc (.cells #[.string ⟨#[]⟩, .int .u64 0, .int .i64 0, .int .i64 0, .string ⟨#[]⟩, .int .u64 0, .string ⟨#[]⟩, .string ⟨#[]⟩, .string ⟨#[]⟩, .string ⟨#[]⟩, .slice none 0 0, .slice none 0 0, .slice none 0 0, .slice none 0 0] 30)) := (Below.refl _ _).alloc (Nat.le_refl _) _
      have HB := Lib.hid ((HB.out.trans (b8.mono HB.out.size)).trans (hba.mono (Nat.le_trans HB.out.size b8.size)))
      clear b8 hba HC
      go_wp2
      go_ret
      exact ⟨rfl, HB.out⟩
    · have hba : Below w5.heap.size w5 (w5.alloc (.cells #[.int .u64 (p.id : Int), .int .i64 p.err, .int .u64 (p.rev : Int), .string p.token, .slice u1 p.flags.length x1, .slice u2 p.tuples.length x2, .slice u3 p.objs.length x3, .slice u4 p.events.length x4, .slice u5 p.steps.length x5, .int .i64 p.th.kind, .string p.th.o, .string p.th.i, .string p.th.rel, .slice ys p.th.subs.length yc, .slice ya p.tps.length yp] 54)) := (Below.refl _ _).alloc (Nat.le_refl _) _
      have HS := Lib.hid (HS.out.below (hba.mono HB.out.size))
      have HQ := Lib.hid (HQ.out.below hba)
      have HX := Lib.hid ((hba.block gx (Array.getElem?_eq_some_iff.1 HX.out).1).trans HX.out)
      have HB := Lib.hid (HB.out.trans (hba.mono HB.out.size))
      have HZ := Lib.hid ((hr9.keep (Keeps.of_below_size hba)).mono (fun x hx _ => hx))
      have HY0 := Lib.hid (heap_alloc_new w5 (.cells #[.int .u64 (p.id : Int), .int .i64 p.err, .int .u64 (p.rev : Int), .string p.token, .slice u1 p.flags.length x1, .slice u2 p.tuples.length x2, .slice u3 p.objs.length x3, .slice u4 p.events.length x4, .slice u5 p.steps.length x5, .int .i64 p.th.kind, .string p.th.o, .string p.th.i, .string p.th.rel, .slice ys p.th.subs.length yc, .slice ya p.tps.length yp] 54))
      have hR9 := fun W (h : RespR (· < W.heap.size) W p u1 u2 u3 u4 u5 ys ya x1 x2 x3 x4 x5 yc yp) => refresponse_any W p u1 u2 u3 u4 u5 ys ya x1 x2 x3 x4 x5 yc yp h hin9 (by rw [hp9]; exact HL.out)
      rw [hp9] at hR9
      have HR9 := Lib.hid hR9
      clear hba hr9 hR9 hp9 hin9
      go_upto_region 9 with fail
      obtain ⟨g11, hg11⟩ : ∃ g, w5.heap.size = g := ⟨_, rfl⟩
      rw [hg11] at HY0
      rw [hg11]
      clear hg11
      generalize w5.alloc (.cells #[.int .u64 (p.id : Int), .int .i64 p.err, .int .u64 (p.rev : Int), .string p.token, .slice u1 p.flags.length x1, .slice u2 p.tuples.length x2, .slice u3 p.objs.length x3, .slice u4 p.events.length x4, .slice u5 p.steps.length x5, .int .i64 p.th.kind, .string p.th.o, .string p.th.i, .string p.th.rel, .slice ys p.th.subs.length yc, .slice ya p.tps.length yp] 54) = w6 at *
      have HY := Lib.hid HY0.out
      clear HY0
      have hg11l := (Array.getElem?_eq_some_iff.1 HY.out).1
      refine wp_region_some (by kernel_rfl) [3, 4, 5, 6, 7, 8] [eqF (.int .i64 9), eqF (.bool false), eqF (.bool false), eqF (undef), eqF (undef), eqF (undef), eqF (undef), eqF (undef), eqF (undef), eqF (.bool false), eqF (.bool false), eqF (.int .i64 0), eqF (.bool true), eqF (.bool true), eqF (.agg #[.int .u64 (p.id : Int), .int .i64 p.err, .int .u64 (p.rev : Int), .string p.token, .slice u1 p.flags.length x1, .slice u2 p.tuples.length x2, .slice u3 p.objs.length x3, .slice u4 p.events.length x4, .slice u5 p.steps.length x5, .int .i64 p.th.kind, .string p.th.o, .string p.th.i, .string p.th.rel, .slice ys p.th.subs.length yc, .slice ya p.tps.length yp]), ownsF w.heap.size 5 1 L0.length (bcells L0), eqF (.string ⟨L0.toArray⟩), eqF (.slice b0 L0.length cap0), eqF (.string ⟨L0.toArray⟩), eqF (.bool false), eqF (.bool false), eqF (.bool false)] (by kernel_rfl) ⟨on_goal (by decide) ?_, on_goal (by decide) ?_, on_goal (by decide) ?_, off_goal (by decide) fun _ => rfl, off_goal (by decide) fun _ => rfl, off_goal (by decide) fun _ => rfl, off_goal (by decide) fun _ => rfl, off_goal (by decide) fun _ => rfl, off_goal (by decide) fun _ => rfl, on_goal (by decide) ?_, on_goal (by decide) ?_, on_goal (by decide) ?_, on_goal (by decide) ?_, on_goal (by decide) ?_, on_goal (by decide) ?_, on_goal (by decide) ?_, on_goal (by decide) ?_, on_goal (by decide) ?_, on_goal (by decide) ?_, on_goal (by decide) ?_, on_goal (by decide) ?_, on_goal (by decide) ?_, trivial⟩ ⟨rfl, rfl, rfl, fun _ _ h => h, fun _ _ h => h, fun _ _ h => h, fun _ _ h => h, fun _ _ h => h, fun _ _ h => h, rfl, rfl, fun _ _ h => h, fun _ _ h => h, fun _ _ h => h, fun _ _ h => h, fun _ _ h => h, fun _ _ h => h, fun _ _ h => h, fun _ _ h => h, fun _ _ h => h, fun _ _ h => h, rfl, trivial⟩ ?_
      · intro ρ wx hρ hbx hl
        have e10 : ρ (.tmp 10) = .int .i64 9 := hρ.tmp 10 (by decide +kernel)
        refine y_val (v := .int .i64 9) ?_ rfl
        simp [execOp, go_sem, e10]
      · intro ρ wx hρ hbx hl
        have e52 : ρ (.tmp 52) = .int .i64 9 := hl 0 (by decide +kernel) 52 rfl
        refine y_val (v := .bool false) ?_ rfl
        simp [execOp, hρ.const, go_sem, e52]
      · intro ρ wx hρ hbx hl
        have e53 : ρ (.tmp 53) = .bool false := hl 1 (by decide +kernel) 53 rfl
        refine y_val (v := .bool false) ?_ rfl
        simp [execOp, go_sem, e53]
      · intro ρ wx hρ hbx hl
        have e54 : ρ (.tmp 54) = .bool false := hl 2 (by decide +kernel) 54 rfl
        have e60 : ρ (.tmp 60) = undef := hl 8 (by decide +kernel) 60 rfl
        refine y_val (v := .bool false) ?_ rfl
        simp [execOp, hρ.const, go_sem, e54]
      · intro ρ wx hρ hbx hl
        have e61 : ρ (.tmp 61) = .bool false := hl 9 (by decide +kernel) 61 rfl
        refine y_val (v := .bool false) ?_ rfl
        simp [execOp, go_sem, e61]
      · intro ρ wx hρ hbx hl
        have e12 : ρ (.tmp 12) = .int .i64 0 := hρ.tmp 12 (by decide +kernel)
        refine y_val (v := .int .i64 0) ?_ rfl
        simp [execOp, go_sem, e12]
      · intro ρ wx hρ hbx hl
        have e63 : ρ (.tmp 63) = .int .i64 0 := hl 11 (by decide +kernel) 63 rfl
        refine y_val (v := .bool true) ?_ rfl
        simp [execOp, hρ.const, go_sem, e63]
      · intro ρ wx hρ hbx hl
        have e64 : ρ (.tmp 64) = .bool true := hl 12 (by decide +kernel) 64 rfl
        refine y_val (v := .bool true) ?_ rfl
        simp [execOp, go_sem, e64]
      · intro ρ wx hρ hbx hl
        have e11 : ρ (.tmp 11) = .pointer (some ⟨g11, 0, none⟩) := hρ.tmp 11 (by decide +kernel)
        exact y_load_row _ _ rfl g11 e11 _ _ _ _ ((hbx.block g11 hg11l).trans HY.out) Try.underlying54 rfl (by kernel_rfl) rfl
      · intro ρ wx hρ hbx hl
        have e66 : ρ (.tmp 66) = .agg #[.int .u64 (p.id : Int), .int .i64 p.err, .int .u64 (p.rev : Int), .string p.token, .slice u1 p.flags.length x1, .slice u2 p.tuples.length x2, .slice u3 p.objs.length x3, .slice u4 p.events.length x4, .slice u5 p.steps.length x5, .int .i64 p.th.kind, .string p.th.o, .string p.th.i, .string p.th.rel, .slice ys p.th.subs.length yc, .slice ya p.tps.length yp] := hl 14 (by decide +kernel) 66 rfl
        refine y_call (f := 13) (args := #[.agg #[.int .u64 (p.id : Int), .int .i64 p.err, .int .u64 (p.rev : Int), .string p.token, .slice u1 p.flags.length x1, .slice u2 p.tuples.length x2, .slice u3 p.objs.length x3, .slice u4 p.events.length x4, .slice u5 p.steps.length x5, .int .i64 p.th.kind, .string p.th.o, .string p.th.i, .string p.th.rel, .slice ys p.th.subs.length yc, .slice ya p.tps.length yp]]) (by simp [execOp, resolve, invoke, hρ.func, go_sem, e66]) ?_
        refine (HR9.out wx (HZ.out.keep (Keeps.of_below_size hbx) |>.mono (fun x hx _ => hx))).mono ?_
        rintro e w6 ⟨v7, rfl, f7, b7⟩
        exact ⟨v7, rfl, owns_less f7 (Nat.le_trans HB.out.size hbx.size), b7⟩
      · intro ρ wx hρ hbx hl
        have e67 := hl 15 (by decide +kernel) 67 rfl
        obtain ⟨sa, sc, hsv, _, _⟩ := (ownsRow.reads e67).le
        have hc := Reads.conv (P := Try.prog) (w := wx) (src := 33) (e := 5) (dst := 9) Try.underlying33 Try.underlying5 Try.underlying9 (ownsRow.reads e67)
        refine y_val (v := .string ⟨L0.toArray⟩) ?_ rfl
        rw [hsv] at hc
        simp [execOp, hsv, hc]
      · intro ρ wx hρ hbx hl
        have e0 : ρ (.tmp 0) = .slice b0 L0.length cap0 := hρ.tmp 0 (by decide +kernel)
        refine y_val (v := .slice b0 L0.length cap0) ?_ rfl
        simp [execOp, go_sem, e0]
      · intro ρ wx hρ hbx hl
        have e69 : ρ (.tmp 69) = .slice b0 L0.length cap0 := hl 17 (by decide +kernel) 69 rfl
        have hc := Reads.conv (P := Try.prog) (w := wx) (src := 33) (e := 5) (dst := 9) Try.underlying33 Try.underlying5 Try.underlying9 (HS.out.below (hbx.mono HB.out.size)).reads
        refine y_val (v := .string ⟨L0.toArray⟩) ?_ rfl
        simp [execOp, e69, hc]
      · intro ρ wx hρ hbx hl
        have e68 : ρ (.tmp 68) = .string ⟨L0.toArray⟩ := hl 16 (by decide +kernel) 68 rfl
        have e70 : ρ (.tmp 70) = .string ⟨L0.toArray⟩ := hl 18 (by decide +kernel) 70 rfl
        refine y_val (v := .bool false) ?_ rfl
        simp [execOp, go_sem, e68, e70]
      · intro ρ wx hρ hbx hl
        have e65 : ρ (.tmp 65) = .bool true := hl 13 (by decide +kernel) 65 rfl
        have e71 : ρ (.tmp 71) = .bool false := hl 19 (by decide +kernel) 71 rfl
        refine y_val (v := .bool false) ?_ rfl
        simp [execOp, go_sem, e65, e71]
      · intro ρ wx hρ hbx hl
        have e62 : ρ (.tmp 62) = .bool false := hl 10 (by decide +kernel) 62 rfl
        have e72 : ρ (.tmp 72) = .bool false := hl 20 (by decide +kernel) 72 rfl
        refine y_val (v := .bool false) ?_ rfl
        simp [execOp, go_sem, e62, e72]
      intro aa wz hdef hsz hlk hbz hf
      have ha := act_of_like hdef hsz hlk [52, 53, 54, 55, 56, 57, 58, 59, 60, 61, 62, 63, 64, 65, 66, 67, 68, 69, 70, 71, 72, 73] 103 rfl (by decide +kernel)
      have e52 : aa.tmps.getD 52 undef = .int .i64 9 := hf 0 _ 52 rfl rfl
      have e53 : aa.tmps.getD 53 undef = .bool false := hf 1 _ 53 rfl rfl
      have e54 : aa.tmps.getD 54 undef = .bool false := hf 2 _ 54 rfl rfl
      have e55 : aa.tmps.getD 55 undef = undef := hf 3 _ 55 rfl rfl
      have e56 : aa.tmps.getD 56 undef = undef := hf 4 _ 56 rfl rfl
      have e57 : aa.tmps.getD 57 undef = undef := hf 5 _ 57 rfl rfl
      have e58 : aa.tmps.getD 58 undef = undef := hf 6 _ 58 rfl rfl
      have e59 : aa.tmps.getD 59 undef = undef := hf 7 _ 59 rfl rfl
      have e60 : aa.tmps.getD 60 undef = undef := hf 8 _ 60 rfl rfl
      have e61 : aa.tmps.getD 61 undef = .bool false := hf 9 _ 61 rfl rfl
      have e62 : aa.tmps.getD 62 undef = .bool false := hf 10 _ 62 rfl rfl
      have e63 : aa.tmps.getD 63 undef = .int .i64 0 := hf 11 _ 63 rfl rfl
      have e64 : aa.tmps.getD 64 undef = .bool true := hf 12 _ 64 rfl rfl
      have e65 : aa.tmps.getD 65 undef = .bool true := hf 13 _ 65 rfl rfl
      have e66 : aa.tmps.getD 66 undef = .agg #[.int .u64 (p.id : Int), .int .i64 p.err, .int .u64 (p.rev : Int), .string p.token, .slice u1 p.flags.length x1, .slice u2 p.tuples.length x2, .slice u3 p.objs.length x3, .slice u4 p.events.length x4, .slice u5 p.steps.length x5, .int .i64 p.th.kind, .string p.th.o, .string p.th.i, .string p.th.rel, .slice ys p.th.subs.length yc, .slice ya p.tps.length yp] := hf 14 _ 66 rfl rfl
      have e68 : aa.tmps.getD 68 undef = .string ⟨L0.toArray⟩ := hf 16 _ 68 rfl rfl
      have e69 : aa.tmps.getD 69 undef = .slice b0 L0.length cap0 := hf 17 _ 69 rfl rfl
      have e70 : aa.tmps.getD 70 undef = .string ⟨L0.toArray⟩ := hf 18 _ 70 rfl rfl
      have e71 : aa.tmps.getD 71 undef = .bool false := hf 19 _ 71 rfl rfl
      have e72 : aa.tmps.getD 72 undef = .bool false := hf 20 _ 72 rfl rfl
      have e73 : aa.tmps.getD 73 undef = .bool false := hf 21 _ 73 rfl rfl
      simp only [putAll, List.foldl_cons, List.foldl_nil, e52, e53, e54, e55, e56, e57, e58, e59, e60, e61, e62, e63, e64, e65, e66, e68, e69, e70, e71, e72, e73] at ha
      generalize aa.tmps.getD 67 undef = v67 at ha
      simp [Act.put] at ha
      subst ha
      clear hdef hsz hlk hf e52 e53 e54 e55 e56 e57 e58 e59 e60 e61 e62 e63 e64 e65 e66 e68 e69 e70 e71 e72 e73
      clear HY HZ HR9 hg11l
      have HQ := Lib.hid (HQ.out.below hbz)
      have HX := Lib.hid ((hbz.block gx (Array.getElem?_eq_some_iff.1 HX.out).1).trans HX.out)
      have HB := Lib.hid (HB.out.trans (hbz.mono HB.out.size))
      clear hbz HS HL
      have k0 := Lib.cell_of_heap HX.out 0
      have k1 := Lib.cell_of_heap HX.out 1
      have k2 := Lib.cell_of_heap HX.out 2
      have k3 := Lib.cell_of_heap HX.out 3
      have k4 := Lib.cell_of_heap HX.out 4
      have k5 := Lib.cell_of_heap HX.out 5
      have k6 := Lib.cell_of_heap HX.out 6
      have k7 := Lib.cell_of_heap HX.out 7
      have k8 := Lib.cell_of_heap HX.out 8
      have k9 := Lib.cell_of_heap HX.out 9
      have k10 := Lib.cell_of_heap HX.out 10
      have k11 := Lib.cell_of_heap HX.out 11
      have k12 := Lib.cell_of_heap HX.out 12
      have k13 := Lib.cell_of_heap HX.out 13
      simp at k0 k1 k2 k3 k4 k5 k6 k7 k8 k9 k10 k11 k12 k13
      have hgxl := (Array.getElem?_eq_some_iff.1 HX.out).1
      go_wp2_with (go_at_call 10; go_must (refine (HRf.out _ HQ.out).mono ?_))
      rintro e w7 ⟨v7, rfl, o7, b7⟩
      have HB := Lib.hid (HB.out.trans (b7.mono HB.out.size))
      have HSl := Lib.hid (own_sl o7)
      have HR7 := Lib.hid (ownsRow.reads o7)
      obtain ⟨g7, p7, rfl⟩ : ∃ g cp, v7 = .slice (some ⟨g, 0, none⟩) L.length cp := by
        obtain ⟨_, ⟨_, h0⟩ | ⟨g, cp, cur, hv, _⟩⟩ := o7
        · have := HPs.out
          omega
        · exact ⟨g, cp, hv⟩
      obtain ⟨_, _, hv7, hc7, _⟩ := HR7.out.le
      cases hv7
      have hcp := hc7
      clear o7 b7 HRf HQ HX k0 k1 k2 k3 k4 k5 k6 k7 k8 k9 k10 k11 k12 k13 hgxl
      have hpos := HPs.out
      have hrem : (wrap64 (cut : Int)).tmod (L.length : Int) = ((cut % L.length : Nat) : Int) := by
        have h1 := HCut.out
        rw [show wrap64 (cut : Int) = cut by unfold wrap64; omega, Int.tmod_eq_emod_of_nonneg (by omega)]
        exact (Int.natCast_emod _ _).symm
      have hklt := Nat.mod_lt cut hpos
      have hnz : ¬ (L.length : Int) = 0 := by omega
      obtain ⟨k, hk⟩ : ∃ k, cut % L.length = k := ⟨_, rfl⟩
      rw [hk] at hrem hklt
      have HKl := Lib.hid hklt
      have h0k : (0 : Int) ≤ k := by omega
      have hkc : (k : Int) ≤ p7 := by omega
      have hC := getrequest_any w7 w7.heap.size _ _ (slf HSl.out (Nat.le_of_lt hklt)) (Nat.le_refl _) (by rw [List.length_take]; have := HLen.out; omega)
      rw [HCt.out k hklt] at hC
      have HC := Lib.hid hC
      clear hC hklt hpos
      go_wp2_with (go_at_call 9; go_must (refine HC.out.mono ?_))
      intro e w8 hp
      obtain ⟨b8, ⟨_, rfl⟩ | ⟨_, _, _, _, _, hx, _⟩⟩ := hp
      case inr => cases hx
      have hba : Below w8.heap.size w8 (w8.alloc (.cells #[.string ⟨#[]⟩, .int .u64 0, .int .i64 0, .int .i64 0, .string ⟨#[]⟩, .int .u64 0, .string ⟨#[]⟩, .string ⟨#[]⟩, .string ⟨#[]⟩, .string ⟨#[]⟩, .slice none 0 0, .slice none 0 0, .slice none 0 0, .slice none 0 0] 30)) := (Below.refl _ _).alloc (Nat.le_refl _) _
      have hb9 := b8.trans (hba.mono b8.size)
      have HB := Lib.hid (HB.out.trans (hb9.mono HB.out.size))
      have HR := Lib.hid (HR7.out.below' hb9)
      clear b8 hba hb9 HC hrem hnz h0k hkc hk HKl hcp HSl HR7 hc7
      go_upto_region 13 with fail
      generalize w8.alloc (.cells #[.string ⟨#[]⟩, .int .u64 0, .int .i64 0, .int .i64 0, .string ⟨#[]⟩, .int .u64 0, .string ⟨#[]⟩, .string ⟨#[]⟩, .string ⟨#[]⟩, .string ⟨#[]⟩, .slice none 0 0, .slice none 0 0, .slice none 0 0, .slice none 0 0] 30) = w9 at *
      obtain ⟨i0, hi, hz0, hz1, hz2⟩ := info_parts info5
      have hsrc := Reads.src (P := Try.prog) (tx := 33) Try.underlying33 (HR.out.alloc (.cells #[] 5)) (bcells_one L)
      have hf0 := fresh_empty w9 5 1
      have HLn := Lib.hid (show L.length ≤ 1000000 from HLen.out)
      go_wp2_with (at_builtin; go_must (refine wpList_append_fresh rfl _ _ 33 33 rfl w9.heap.size 5 i0 (.int .u8 0) 1 1 Try.underlying33 hi hz0 hz1 hz2 rfl _ _ _ rfl hf0 _ _ _ rfl hsrc ?_ ?_ ?_ ?_))
      · have := HLn.out
        unfold maxLen; omega
      · have := HLn.out
        omega
      · simp
      intro va wa fa _ ba _
      have b3 : Below w9.heap.size w9 wa := ((Below.refl _ _).alloc (Nat.le_refl _) _).trans ba
      have hszA := b3.size
      have FA : Fresh w9.heap.size wa 5 1 va L.length (bcells L) := by simpa using fa
      clear hsrc hf0 ba fa
      go_wp2_with (at_builtin; go_must (refine wpList_append_one (w0 := wa) rfl _ _ 33 rfl w9.heap.size 5 i0 (.int .u8 0) 1 Try.underlying33 hi hz0 hz1 hz2 rfl FA rfl rfl rfl ?_ ?_ hszA ?_))
      · have := HLn.out
        unfold maxLen; omega
      · have := HLn.out
        omega
      intro vb wb fb2 _ bb _
      have hbt := b3.trans bb
      have HB := Lib.hid (HB.out.trans (hbt.mono HB.out.size))
      have hRB : Reads wb 1 vb (L ++ [UInt8.ofNat m]).length (bcells (L ++ [UInt8.ofNat m])) := by
        have h1 := HM.out
        have h2 := fb2.1
        rw [bcells_append]
        rw [List.length_append]
        have h3 : bcells [UInt8.ofNat m] = [Value.int .u8 (m : Int)] := by simp [bcells]; omega
        rw [h3]
        exact h2
      have hC := getrequest_any wb wb.heap.size vb _ (Sl.of_reads hRB (by simp)) (Nat.le_refl _) (by rw [List.length_append]; have := HL9.out; simp; omega)
      rw [HLg.out] at hC
      have HC := Lib.hid hC
      clear hC hRB hbt bb fb2 FA b3 hszA HR
      go_wp2_with (go_at_call 9; go_must (refine HC.out.mono ?_))
      intro e wc hp
      obtain ⟨b8, ⟨_, rfl⟩ | ⟨_, _, _, _, _, hx, _⟩⟩ := hp
      case inr => cases hx
      have hba : Below wc.heap.size wc (wc.alloc (.cells #[.string ⟨#[]⟩, .int .u64 0, .int .i64 0, .int .i64 0, .string ⟨#[]⟩, .int .u64 0, .string ⟨#[]⟩, .string ⟨#[]⟩, .string ⟨#[]⟩, .string ⟨#[]⟩, .slice none 0 0, .slice none 0 0, .slice none 0 0, .slice none 0 0] 30)) := (Below.refl _ _).alloc (Nat.le_refl _) _
      have HB := Lib.hid ((HB.out.trans (b8.mono HB.out.size)).trans (hba.mono (Nat.le_trans HB.out.size b8.size)))
      clear b8 hba HC
      go_wp2
      go_ret
      exact ⟨rfl, HB.out⟩
  · have hba : Below w3.heap.size w3 (w3.alloc (.cells #[.string q9.client, .int .u64 (q9.id : Int), .int .i64 q9.kind, .int .i64 q9.how, .string q9.token, .int .u64 (q9.n : Int), .string q9.typ, .string q9.f1, .string q9.f2, .string q9.f3, .slice e1 q9.writes.length d1, .slice e2 q9.pres.length d2, .slice e3 q9.asks.length d3, .slice e4 q9.args.length d4] 30)) := (Below.refl _ _).alloc (Nat.le_refl _) _
    have HS := Lib.hid (HS.out.below (hba.mono HB.out.size))
    have HQ := Lib.hid (HQ.out.below hba)
    have HX := Lib.hid ((hba.block gx (Array.getElem?_eq_some_iff.1 HX.out).1).trans HX.out)
    have HB := Lib.hid (HB.out.trans (hba.mono HB.out.size))
    have HZ := Lib.hid (hr9.below hba)
    have HY0 := Lib.hid (heap_alloc_new w3 (.cells #[.string q9.client, .int .u64 (q9.id : Int), .int .i64 q9.kind, .int .i64 q9.how, .string q9.token, .int .u64 (q9.n : Int), .string q9.typ, .string q9.f1, .string q9.f2, .string q9.f3, .slice e1 q9.writes.length d1, .slice e2 q9.pres.length d2, .slice e3 q9.asks.length d3, .slice e4 q9.args.length d4] 30))
    have hR9 := fun W (h : ReqR W q9 e1 e2 e3 e4 q9.writes.length q9.pres.length q9.asks.length q9.args.length d1 d2 d3 d4) => refreq_v h hlow9
    rw [hq9] at hR9
    have HR9 := Lib.hid hR9
    have HE := Lib.hid hq9
    clear hba hr9 hR9 hq9 hlow9
    go_upto_region 6 with fail
    obtain ⟨g9, hg9⟩ : ∃ g, w3.heap.size = g := ⟨_, rfl⟩
    rw [hg9] at HY0
    rw [hg9]
    clear hg9
    generalize w3.alloc (.cells #[.string q9.client, .int .u64 (q9.id : Int), .int .i64 q9.kind, .int .i64 q9.how, .string q9.token, .int .u64 (q9.n : Int), .string q9.typ, .string q9.f1, .string q9.f2, .string q9.f3, .slice e1 q9.writes.length d1, .slice e2 q9.pres.length d2, .slice e3 q9.asks.length d3, .slice e4 q9.args.length d4] 30) = w4 at *
    have HY := Lib.hid HY0.out
    clear HY0
    have HG := Lib.hid (getresponse_any w4 w.heap.size _ L0 HS.out HB.out.size HL.out)
    go_wp2_with (go_at_call 12; go_must (refine HG.out.mono ?_))
    intro e w5 hp
    obtain ⟨b5, hp9⟩ := getresp_told hp HL.out
    have HS := Lib.hid (HS.out.below (b5.mono HB.out.size))
    have HQ := Lib.hid (HQ.out.below b5)
    have HZ := Lib.hid (HZ.out.below b5)
    have HX := Lib.hid ((b5.block gx (Array.getElem?_eq_some_iff.1 HX.out).1).trans HX.out)
    have HY := Lib.hid ((b5.block g9 (Array.getElem?_eq_some_iff.1 HY.out).1).trans HY.out)
    have HB := Lib.hid (HB.out.trans (b5.mono HB.out.size))
    clear hp b5 HG
    rcases hp9 with ⟨_, rfl⟩ | ⟨p, u1, u2, u3, u4, u5, ys, ya, x1, x2, x3, x4, x5, yc, yp, hp9, hin9, rfl, hr9⟩
    · have hba : Below w5.heap.size w5 (w5.alloc (.cells #[.int .u64 0, .int .i64 0, .int .u64 0, .string ⟨#[]⟩, .slice none 0 0, .slice none 0 0, .slice none 0 0, .slice none 0 0, .slice none 0 0, .int .i64 0, .string ⟨#[]⟩, .string ⟨#[]⟩, .string ⟨#[]⟩, .slice none 0 0, .slice none 0 0] 54)) := (Below.refl _ _).alloc (Nat.le_refl _) _
      have HS := Lib.hid (HS.out.below (hba.mono HB.out.size))
      have HQ := Lib.hid (HQ.out.below hba)
      have HZ := Lib.hid (HZ.out.below hba)
      have HX := Lib.hid ((hba.block gx (Array.getElem?_eq_some_iff.1 HX.out).1).trans HX.out)
      have HY := Lib.hid ((hba.block g9 (Array.getElem?_eq_some_iff.1 HY.out).1).trans HY.out)
      have HB := Lib.hid (HB.out.trans (hba.mono HB.out.size))
      clear hba HE
      go_upto_region 9 with fail
      obtain ⟨g11, hg11⟩ : ∃ g, w5.heap.size = g := ⟨_, rfl⟩
      rw [hg11]
      clear hg11
      generalize w5.alloc (.cells #[.int .u64 0, .int .i64 0, .int .u64 0, .string ⟨#[]⟩, .slice none 0 0, .slice none 0 0, .slice none 0 0, .slice none 0 0, .slice none 0 0, .int .i64 0, .string ⟨#[]⟩, .string ⟨#[]⟩, .string ⟨#[]⟩, .slice none 0 0, .slice none 0 0] 54) = w6 at *
      have hg9l := (Array.getElem?_eq_some_iff.1 HY.out).1
      refine wp_region_some (by kernel_rfl) [14, 15, 16, 17, 18, 19] [eqF (.int .i64 0), eqF (.bool true), eqF (.bool true), eqF (.agg #[.string q9.client, .int .u64 (q9.id : Int), .int .i64 q9.kind, .int .i64 q9.how, .string q9.token, .int .u64 (q9.n : Int), .string q9.typ, .string q9.f1, .string q9.f2, .string q9.f3, .slice e1 q9.writes.length d1, .slice e2 q9.pres.length d2, .slice e3 q9.asks.length d3, .slice e4 q9.args.length d4]), ownsF w.heap.size 5 1 L0.length (bcells L0), eqF (.string ⟨L0.toArray⟩), eqF (.slice b0 L0.length cap0), eqF (.string ⟨L0.toArray⟩), eqF (.bool false), eqF (.bool false), eqF (.bool false), eqF (.int .i64 9), eqF (.bool false), eqF (.bool false), eqF (undef), eqF (undef), eqF (undef), eqF (undef), eqF (undef), eqF (undef), eqF (.bool false), eqF (.bool false)] (by kernel_rfl) ⟨on_goal (by decide) ?_, on_goal (by decide) ?_, on_goal (by decide) ?_, on_goal (by decide) ?_, on_goal (by decide) ?_, on_goal (by decide) ?_, on_goal (by decide) ?_, on_goal (by decide) ?_, on_goal (by decide) ?_, on_goal (by decide) ?_, on_goal (by decide) ?_, on_goal (by decide) ?_, on_goal (by decide) ?_, on_goal (by decide) ?_, off_goal (by decide) fun _ => rfl, off_goal (by decide) fun _ => rfl, off_goal (by decide) fun _ => rfl, off_goal (by decide) fun _ => rfl, off_goal (by decide) fun _ => rfl, off_goal (by decide) fun _ => rfl, on_goal (by decide) ?_, on_goal (by decide) ?_, trivial⟩ ⟨rfl, rfl, rfl, fun _ _ h => h, fun _ _ h => h, fun _ _ h => h, fun _ _ h => h, fun _ _ h => h, fun _ _ h => h, rfl, rfl, fun _ _ h => h, fun _ _ h => h, fun _ _ h => h, fun _ _ h => h, fun _ _ h => h, fun _ _ h => h, fun _ _ h => h, fun _ _ h => h, fun _ _ h => h, fun _ _ h => h, rfl, trivial⟩ ?_
      · intro ρ wx hρ hbx hl
        have e10 : ρ (.tmp 10) = .int .i64 0 := hρ.tmp 10 (by decide +kernel)
        refine y_val (v := .int .i64 0) ?_ rfl
        simp [execOp, go_sem, e10]
      · intro ρ wx hρ hbx hl
        have e52 : ρ (.tmp 52) = .int .i64 0 := hl 0 (by decide +kernel) 52 rfl
        refine y_val (v := .bool true) ?_ rfl
        simp [execOp, hρ.const, go_sem, e52]
      · intro ρ wx hρ hbx hl
        have e53 : ρ (.tmp 53) = .bool true := hl 1 (by decide +kernel) 53 rfl
        refine y_val (v := .bool true) ?_ rfl
        simp [execOp, go_sem, e53]
      · intro ρ wx hρ hbx hl
        have e9 : ρ (.tmp 9) = .pointer (some ⟨g9, 0, none⟩) := hρ.tmp 9 (by decide +kernel)
        exact y_load_row _ _ rfl g9 e9 _ _ _ _ ((hbx.block g9 hg9l).trans HY.out) Try.underlying30 rfl (by kernel_rfl) rfl
      · intro ρ wx hρ hbx hl
        have e55 : ρ (.tmp 55) = .agg #[.string q9.client, .int .u64 (q9.id : Int), .int .i64 q9.kind, .int .i64 q9.how, .string q9.token, .int .u64 (q9.n : Int), .string q9.typ, .string q9.f1, .string q9.f2, .string q9.f3, .slice e1 q9.writes.length d1, .slice e2 q9.pres.length d2, .slice e3 q9.asks.length d3, .slice e4 q9.args.length d4] := hl 3 (by decide +kernel) 55 rfl
        refine y_call (f := 10) (args := #[.agg #[.string q9.client, .int .u64 (q9.id : Int), .int .i64 q9.kind, .int .i64 q9.how, .string q9.token, .int .u64 (q9.n : Int), .string q9.typ, .string q9.f1, .string q9.f2, .string q9.f3, .slice e1 q9.writes.length d1, .slice e2 q9.pres.length d2, .slice e3 q9.asks.length d3, .slice e4 q9.args.length d4]]) (by simp [execOp, resolve, invoke, hρ.func, go_sem, e55]) ?_
        refine (HR9.out wx (HZ.out.below hbx)).mono ?_
        rintro e w6 ⟨v7, rfl, f7, b7⟩
        exact ⟨v7, rfl, owns_less f7 (Nat.le_trans HB.out.size hbx.size), b7⟩
      · intro ρ wx hρ hbx hl
        have e56 := hl 4 (by decide +kernel) 56 rfl
        obtain ⟨sa, sc, hsv, _, _⟩ := (ownsRow.reads e56).le
        have hc := Reads.conv (P := Try.prog) (w := wx) (src := 33) (e := 5) (dst := 9) Try.underlying33 Try.underlying5 Try.underlying9 (ownsRow.reads e56)
        refine y_val (v := .string ⟨L0.toArray⟩) ?_ rfl
        rw [hsv] at hc
        simp [execOp, hsv, hc]
      · intro ρ wx hρ hbx hl
        have e0 : ρ (.tmp 0) = .slice b0 L0.length cap0 := hρ.tmp 0 (by decide +kernel)
        refine y_val (v := .slice b0 L0.length cap0) ?_ rfl
        simp [execOp, go_sem, e0]
      · intro ρ wx hρ hbx hl
        have e58 : ρ (.tmp 58) = .slice b0 L0.length cap0 := hl 6 (by decide +kernel) 58 rfl
        have hc := Reads.conv (P := Try.prog) (w := wx) (src := 33) (e := 5) (dst := 9) Try.underlying33 Try.underlying5 Try.underlying9 (HS.out.below (hbx.mono HB.out.size)).reads
        refine y_val (v := .string ⟨L0.toArray⟩) ?_ rfl
        simp [execOp, e58, hc]
      · intro ρ wx hρ hbx hl
        have e57 : ρ (.tmp 57) = .string ⟨L0.toArray⟩ := hl 5 (by decide +kernel) 57 rfl
        have e59 : ρ (.tmp 59) = .string ⟨L0.toArray⟩ := hl 7 (by decide +kernel) 59 rfl
        refine y_val (v := .bool false) ?_ rfl
        simp [execOp, go_sem, e57, e59]
      · intro ρ wx hρ hbx hl
        have e54 : ρ (.tmp 54) = .bool true := hl 2 (by decide +kernel) 54 rfl
        have e60 : ρ (.tmp 60) = .bool false := hl 8 (by decide +kernel) 60 rfl
        refine y_val (v := .bool false) ?_ rfl
        simp [execOp, go_sem, e54, e60]
      · intro ρ wx hρ hbx hl
        have e61 : ρ (.tmp 61) = .bool false := hl 9 (by decide +kernel) 61 rfl
        refine y_val (v := .bool false) ?_ rfl
        simp [execOp, go_sem, e61]
      · intro ρ wx hρ hbx hl
        have e12 : ρ (.tmp 12) = .int .i64 9 := hρ.tmp 12 (by decide +kernel)
        refine y_val (v := .int .i64 9) ?_ rfl
        simp [execOp, go_sem, e12]
      · intro ρ wx hρ hbx hl
        have e63 : ρ (.tmp 63) = .int .i64 9 := hl 11 (by decide +kernel) 63 rfl
        refine y_val (v := .bool false) ?_ rfl
        simp [execOp, hρ.const, go_sem, e63]
      · intro ρ wx hρ hbx hl
        have e64 : ρ (.tmp 64) = .bool false := hl 12 (by decide +kernel) 64 rfl
        refine y_val (v := .bool false) ?_ rfl
        simp [execOp, go_sem, e64]
      · intro ρ wx hρ hbx hl
        have e65 : ρ (.tmp 65) = .bool false := hl 13 (by decide +kernel) 65 rfl
        have e71 : ρ (.tmp 71) = undef := hl 19 (by decide +kernel) 71 rfl
        refine y_val (v := .bool false) ?_ rfl
        simp [execOp, hρ.const, go_sem, e65]
      · intro ρ wx hρ hbx hl
        have e62 : ρ (.tmp 62) = .bool false := hl 10 (by decide +kernel) 62 rfl
        have e72 : ρ (.tmp 72) = .bool false := hl 20 (by decide +kernel) 72 rfl
        refine y_val (v := .bool false) ?_ rfl
        simp [execOp, go_sem, e62, e72]
      intro aa wz hdef hsz hlk hbz hf
      have ha := act_of_like hdef hsz hlk [52, 53, 54, 55, 56, 57, 58, 59, 60, 61, 62, 63, 64, 65, 66, 67, 68, 69, 70, 71, 72, 73] 103 rfl (by decide +kernel)
      have e52 : aa.tmps.getD 52 undef = .int .i64 0 := hf 0 _ 52 rfl rfl
      have e53 : aa.tmps.getD 53 undef = .bool true := hf 1 _ 53 rfl rfl
      have e54 : aa.tmps.getD 54 undef = .bool true := hf 2 _ 54 rfl rfl
      have e55 : aa.tmps.getD 55 undef = .agg #[.string q9.client, .int .u64 (q9.id : Int), .int .i64 q9.kind, .int .i64 q9.how, .string q9.token, .int .u64 (q9.n : Int), .string q9.typ, .string q9.f1, .string q9.f2, .string q9.f3, .slice e1 q9.writes.length d1, .slice e2 q9.pres.length d2, .slice e3 q9.asks.length d3, .slice e4 q9.args.length d4] := hf 3 _ 55 rfl rfl
      have e57 : aa.tmps.getD 57 undef = .string ⟨L0.toArray⟩ := hf 5 _ 57 rfl rfl
      have e58 : aa.tmps.getD 58 undef = .slice b0 L0.length cap0 := hf 6 _ 58 rfl rfl
      have e59 : aa.tmps.getD 59 undef = .string ⟨L0.toArray⟩ := hf 7 _ 59 rfl rfl
      have e60 : aa.tmps.getD 60 undef = .bool false := hf 8 _ 60 rfl rfl
      have e61 : aa.tmps.getD 61 undef = .bool false := hf 9 _ 61 rfl rfl
      have e62 : aa.tmps.getD 62 undef = .bool false := hf 10 _ 62 rfl rfl
      have e63 : aa.tmps.getD 63 undef = .int .i64 9 := hf 11 _ 63 rfl rfl
      have e64 : aa.tmps.getD 64 undef = .bool false := hf 12 _ 64 rfl rfl
      have e65 : aa.tmps.getD 65 undef = .bool false := hf 13 _ 65 rfl rfl
      have e66 : aa.tmps.getD 66 undef = undef := hf 14 _ 66 rfl rfl
      have e67 : aa.tmps.getD 67 undef = undef := hf 15 _ 67 rfl rfl
      have e68 : aa.tmps.getD 68 undef = undef := hf 16 _ 68 rfl rfl
      have e69 : aa.tmps.getD 69 undef = undef := hf 17 _ 69 rfl rfl
      have e70 : aa.tmps.getD 70 undef = undef := hf 18 _ 70 rfl rfl
      have e71 : aa.tmps.getD 71 undef = undef := hf 19 _ 71 rfl rfl
      have e72 : aa.tmps.getD 72 undef = .bool false := hf 20 _ 72 rfl rfl
      have e73 : aa.tmps.getD 73 undef = .bool false := hf 21 _ 73 rfl rfl
      simp only [putAll, List.foldl_cons, List.foldl_nil, e52, e53, e54, e55, e57, e58, e59, e60, e61, e62, e63, e64, e65, e66, e67, e68, e69, e70, e71, e72, e73] at ha
      generalize aa.tmps.getD 56 undef = v56 at ha
      simp [Act.put] at ha
      subst ha
      clear hdef hsz hlk hf e52 e53 e54 e55 e57 e58 e59 e60 e61 e62 e63 e64 e65 e66 e67 e68 e69 e70 e71 e72 e73
      clear HY HZ HR9 hg9l
      have HQ := Lib.hid (HQ.out.below hbz)
      have HX := Lib.hid ((hbz.block gx (Array.getElem?_eq_some_iff.1 HX.out).1).trans HX.out)
      have HB := Lib.hid (HB.out.trans (hbz.mono HB.out.size))
      clear hbz HS HL
      have k0 := Lib.cell_of_heap HX.out 0
      have k1 := Lib.cell_of_heap HX.out 1
      have k2 := Lib.cell_of_heap HX.out 2
      have k3 := Lib.cell_of_heap HX.out 3
      have k4 := Lib.cell_of_heap HX.out 4
      have k5 := Lib.cell_of_heap HX.out 5
      have k6 := Lib.cell_of_heap HX.out 6
      have k7 := Lib.cell_of_heap HX.out 7
      have k8 := Lib.cell_of_heap HX.out 8
      have k9 := Lib.cell_of_heap HX.out 9
      have k10 := Lib.cell_of_heap HX.out 10
      have k11 := Lib.cell_of_heap HX.out 11
      have k12 := Lib.cell_of_heap HX.out 12
      have k13 := Lib.cell_of_heap HX.out 13
      simp at k0 k1 k2 k3 k4 k5 k6 k7 k8 k9 k10 k11 k12 k13
      have hgxl := (Array.getElem?_eq_some_iff.1 HX.out).1
      go_wp2_with (go_at_call 10; go_must (refine (HRf.out _ HQ.out).mono ?_))
      rintro e w7 ⟨v7, rfl, o7, b7⟩
      have HB := Lib.hid (HB.out.trans (b7.mono HB.out.size))
      have HSl := Lib.hid (own_sl o7)
      have HR7 := Lib.hid (ownsRow.reads o7)
      obtain ⟨g7, p7, rfl⟩ : ∃ g cp, v7 = .slice (some ⟨g, 0, none⟩) L.length cp := by
        obtain ⟨_, ⟨_, h0⟩ | ⟨g, cp, cur, hv, _⟩⟩ := o7
        · have := HPs.out
          omega
        · exact ⟨g, cp, hv⟩
      obtain ⟨_, _, hv7, hc7, _⟩ := HR7.out.le
      cases hv7
      have hcp := hc7
      clear o7 b7 HRf HQ HX k0 k1 k2 k3 k4 k5 k6 k7 k8 k9 k10 k11 k12 k13 hgxl
      have hpos := HPs.out
      have hrem : (wrap64 (cut : Int)).tmod (L.length : Int) = ((cut % L.length : Nat) : Int) := by
        have h1 := HCut.out
        rw [show wrap64 (cut : Int) = cut by unfold wrap64; omega, Int.tmod_eq_emod_of_nonneg (by omega)]
        exact (Int.natCast_emod _ _).symm
      have hklt := Nat.mod_lt cut hpos
      have hnz : ¬ (L.length : Int) = 0 := by omega
      obtain ⟨k, hk⟩ : ∃ k, cut % L.length = k := ⟨_, rfl⟩
      rw [hk] at hrem hklt
      have HKl := Lib.hid hklt
      have h0k : (0 : Int) ≤ k := by omega
      have hkc : (k : Int) ≤ p7 := by omega
      have hC := getrequest_any w7 w7.heap.size _ _ (slf HSl.out (Nat.le_of_lt hklt)) (Nat.le_refl _) (by rw [List.length_take]; have := HLen.out; omega)
      rw [HCt.out k hklt] at hC
      have HC := Lib.hid hC
      clear hC hklt hpos
      go_wp2_with (go_at_call 9; go_must (refine HC.out.mono ?_))
      intro e w8 hp
      obtain ⟨b8, ⟨_, rfl⟩ | ⟨_, _, _, _, _, hx, _⟩⟩ := hp
      case inr => cases hx
      have hba : Below w8.heap.size w8 (w8.alloc (.cells #[.string ⟨#[]⟩, .int .u64 0, .int .i64 0, .int .i64 0, .string ⟨#[]⟩, .int .u64 0, .string ⟨#[]⟩, .string ⟨#[]⟩, .string ⟨#[]⟩, .string ⟨#[]⟩, .slice none 0 0, .slice none 0 0, .slice none 0 0, .slice none 0 0] 30)) := (Below.refl _ _).alloc (Nat.le_refl _) _
      have hb9 := b8.trans (hba.mono b8.size)
      have HB := Lib.hid (HB.out.trans (hb9.mono HB.out.size))
      have HR := Lib.hid (HR7.out.below' hb9)
      clear b8 hba hb9 HC hrem hnz h0k hkc hk HKl hcp HSl HR7 hc7
      go_upto_region 13 with fail
      generalize w8.alloc (.cells #[.string ⟨#[]⟩, .int .u64 0, .int .i64 0, .int .i64 0, .string ⟨#[]⟩, .int .u64 0, .string ⟨#[]⟩, .string ⟨#[]⟩, .string ⟨#[]⟩, .string ⟨#[]⟩, .slice none 0 0, .slice none 0 0, .slice none 0 0, .slice none 0 0] 30) = w9 at *
      obtain ⟨i0, hi, hz0, hz1, hz2⟩ := info_parts info5
      have hsrc := Reads.src (P := Try.prog) (tx := 33) Try.underlying33 (HR.out.alloc (.cells #[] 5)) (bcells_one L)
      have hf0 := fresh_empty w9 5 1
      have HLn := Lib.hid (show L.length ≤ 1000000 from HLen.out)
      go_wp2_with (at_builtin; go_must (refine wpList_append_fresh rfl _ _ 33 33 rfl w9.heap.size 5 i0 (.int .u8 0) 1 1 Try.underlying33 hi hz0 hz1 hz2 rfl _ _ _ rfl hf0 _ _ _ rfl hsrc ?_ ?_ ?_ ?_))
      · have := HLn.out
        unfold maxLen; omega
      · have := HLn.out
        omega
      · simp
      intro va wa fa _ ba _
      have b3 : Below w9.heap.size w9 wa := ((Below.refl _ _).alloc (Nat.le_refl _) _).trans ba
      have hszA := b3.size
      have FA : Fresh w9.heap.size wa 5 1 va L.length (bcells L) := by simpa using fa
      clear hsrc hf0 ba fa
      go_wp2_with (at_builtin; go_must (refine wpList_append_one (w0 := wa) rfl _ _ 33 rfl w9.heap.size 5 i0 (.int .u8 0) 1 Try.underlying33 hi hz0 hz1 hz2 rfl FA rfl rfl rfl ?_ ?_ hszA ?_))
      · have := HLn.out
        unfold maxLen; omega
      · have := HLn.out
        omega
      intro vb wb fb2 _ bb _
      have hbt := b3.trans bb
      have HB := Lib.hid (HB.out.trans (hbt.mono HB.out.size))
      have hRB : Reads wb 1 vb (L ++ [UInt8.ofNat m]).length (bcells (L ++ [UInt8.ofNat m])) := by
        have h1 := HM.out
        have h2 := fb2.1
        rw [bcells_append]
        rw [List.length_append]
        have h3 : bcells [UInt8.ofNat m] = [Value.int .u8 (m : Int)] := by simp [bcells]; omega
        rw [h3]
        exact h2
      have hC := getrequest_any wb wb.heap.size vb _ (Sl.of_reads hRB (by simp)) (Nat.le_refl _) (by rw [List.length_append]; have := HL9.out; simp; omega)
      rw [HLg.out] at hC
      have HC := Lib.hid hC
      clear hC hRB hbt bb fb2 FA b3 hszA HR
      go_wp2_with (go_at_call 9; go_must (refine HC.out.mono ?_))
      intro e wc hp
      obtain ⟨b8, ⟨_, rfl⟩ | ⟨_, _, _, _, _, hx, _⟩⟩ := hp
      case inr => cases hx
      have hba : Below wc.heap.size wc (wc.alloc (.cells #[.string ⟨#[]⟩, .int .u64 0, .int .i64 0, .int .i64 0, .string ⟨#[]⟩, .int .u64 0, .string ⟨#[]⟩, .string ⟨#[]⟩, .string ⟨#[]⟩, .string ⟨#[]⟩, .slice none 0 0, .slice none 0 0, .slice none 0 0, .slice none 0 0] 30)) := (Below.refl _ _).alloc (Nat.le_refl _) _
      have HB := Lib.hid ((HB.out.trans (b8.mono HB.out.size)).trans (hba.mono (Nat.le_trans HB.out.size b8.size)))
      clear b8 hba HC
      go_wp2
      go_ret
      exact ⟨rfl, HB.out⟩
    · exact (reqB_respB HE.out hp9).elim
end Go.Proofs.Ytkhjfaghemjcoaa
