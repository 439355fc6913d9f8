/- wire.GetResponse of any bytes (written by gen_wiregr.py). -/
import Derived.Test.YtdonibkkdhokpaaGreatZWireRw
import Derived.Test.YtdonibkkdhokpaaGreatZWirePr
import Derived.Test.YtdonibkkdhokpaaGreatZWireGr0
namespace Go.Proofs.YtdonibkkdhokpaaGreat
open Go Go.RowKit

def getResp (l0 : List UInt8) (b0 : Bool) : Resp × List UInt8 × Bool :=
  let r1 := rnum l0 b0
  let r2 := rlong r1.2.1 r1.2.2
  let r3 := rnum r2.2.1 r2.2.2
  let r4 := rtxt r3.2.1 r3.2.2
  let r5 := rlist rtru r4.2.1 r4.2.2
  let r6 := rlist rtup r5.2.1 r5.2.2
  let r7 := rlist robj2 r6.2.1 r6.2.2
  let r8 := rlist revt r7.2.1 r7.2.2
  let r9 := rlist rstp r8.2.1 r8.2.2
  let r10 := rtree rno noZero 64 r9.2.1 r9.2.2
  (⟨r1.1, r2.1, r3.1, r4.1, r5.1, r6.1, r7.1, r8.1, r9.1, r10.1.head, r10.1.parts⟩, r10.2)

def startP (l : List UInt8) : List UInt8 := if starts2 [112, 49] l = true then l.drop 2 else l

/-- The response that these bytes tell, if they do. -/
def readResp (l : List UInt8) : Option Resp :=
  if (getResp (startP l) (!starts2 [112, 49] l)).2.2 = false ∧ (getResp (startP l) (!starts2 [112, 49] l)).2.1 = [] then some (getResp (startP l) (!starts2 [112, 49] l)).1 else none

def GotResp (w : World) (rr : Option Resp) (e : Ending) (w' : World) : Prop :=
  Below w.heap.size w w' ∧ ((rr = none ∧ e = .returned (.tuple #[.agg #[.int .u64 0, .int .i64 0, .int .u64 0, .string ⟨#[]⟩, .slice none 0 0, .slice none 0 0, .slice none 0 0, .slice none 0 0, .slice none 0 0, .int .i64 0, .string ⟨#[]⟩, .string ⟨#[]⟩, .string ⟨#[]⟩, .slice none 0 0, .slice none 0 0], .int .i64 9])) ∨
    ∃ p a1 a2 a3 a4 a5 sa a c1 c2 c3 c4 c5 sc cap, rr = some p ∧ e = .returned (.tuple #[.agg #[.int .u64 (p.id : Int), .int .i64 p.err, .int .u64 (p.rev : Int), .string p.token, .slice a1 p.flags.length c1, .slice a2 p.tuples.length c2, .slice a3 p.objs.length c3, .slice a4 p.events.length c4, .slice a5 p.steps.length c5, .int .i64 p.th.kind, .string p.th.o, .string p.th.i, .string p.th.rel, .slice sa p.th.subs.length sc, .slice a p.tps.length cap], .int .i64 0]) ∧ RespR (fun b => w.heap.size ≤ b) w' p a1 a2 a3 a4 a5 sa a c1 c2 c3 c4 c5 sc cap)

theorem EOwn.sts {w : World} {B0 : Nat} {v : Value} {es : List StE} {ss : List Stp} (h : EOwn StE.cells stEAt 74 11 B0 w v es) (hm : es.map StE.y = ss) : StsAt (fun b => B0 ≤ b) w v ss.length ss := by
  obtain ⟨a, cap, hv, h1, h2⟩ := (ownsRow.reads h.1).le
  have hl : ss.length = es.length := by rw [← hm, List.length_map]
  refine ⟨a, cap, by rw [hl]; exact hv, by rw [hl]; exact h1, h2, fun i y hi => ?_⟩
  rw [← hm, List.getElem?_map] at hi
  obtain ⟨e, he, rfl⟩ := Option.map_eq_some_iff.1 hi
  subst hv
  obtain ⟨b, off, rfl, hb, hc⟩ := rows_at StE.cells 11 (fun _ => rfl) (ownsRow.reads h.1) he (by decide)
  have hbB : B0 ≤ b := by
    obtain ⟨_, ⟨h3, _⟩ | ⟨k, c2, cur, h3, h4, _⟩⟩ := h.1
    · cases h3
    · cases h3
      exact h4
  have hst := stE_keep.mono _ (fun b => B0 ≤ b) _ _ (fun _ _ hx => hx.1) (h.2 e (List.mem_of_getElem? he))
  exact ⟨b, off, e.cells, rfl, hbB, hb, hc, e.a, e.cap, e.ba, e.bc, rfl, hst⟩

set_option maxRecDepth 100000 in
set_option maxHeartbeats 8000000 in
theorem getresponse_any (w : World) (B : Nat) (u : Value) (l : List UInt8) (hx : Sl B w u l) (hB : B ≤ w.heap.size) (hl : l.length ≤ 20000000) :
    Calls Tryz.prog 8 #[u] w (GotResp w (readResp l)) := by
  have hmf : ∀ (fn : Fn) (first cap : Array Value) (w : World), (Instr.makeFunc fn first cap).run Tryz.prog w = .ok (.func fn first cap) w := fun _ _ _ _ => rfl
  have hba : Below w.heap.size w (w.alloc (.cells #[.int .u64 0, .int .i64 0, .int .u64 0, .string ⟨#[]⟩, .slice none 0 0, .slice none 0 0, .slice none 0 0, .slice none 0 0, .slice none 0 0, .int .i64 0, .string ⟨#[]⟩, .string ⟨#[]⟩, .string ⟨#[]⟩, .slice none 0 0, .slice none 0 0] 36)) := (Below.refl _ _).alloc (Nat.le_refl _) _
  have HX := Lib.hid (show (w.alloc (.cells #[.int .u64 0, .int .i64 0, .int .u64 0, .string ⟨#[]⟩, .slice none 0 0, .slice none 0 0, .slice none 0 0, .slice none 0 0, .slice none 0 0, .int .i64 0, .string ⟨#[]⟩, .string ⟨#[]⟩, .string ⟨#[]⟩, .slice none 0 0, .slice none 0 0] 36)).heap[w.heap.size]? = some (.cells #[.int .u64 0, .int .i64 0, .int .u64 0, .string ⟨#[]⟩, .slice none 0 0, .slice none 0 0, .slice none 0 0, .slice none 0 0, .slice none 0 0, .int .i64 0, .string ⟨#[]⟩, .string ⟨#[]⟩, .string ⟨#[]⟩, .slice none 0 0, .slice none 0 0] 36 (0, 0)) from heap_alloc_new _ _)
  have hBg := begin_any (w.alloc (.cells #[.int .u64 0, .int .i64 0, .int .u64 0, .string ⟨#[]⟩, .slice none 0 0, .slice none 0 0, .slice none 0 0, .slice none 0 0, .slice none 0 0, .int .i64 0, .string ⟨#[]⟩, .string ⟨#[]⟩, .string ⟨#[]⟩, .slice none 0 0, .slice none 0 0] 36)) B u l ⟨#[112, 49]⟩ rfl (hx.below (hba.mono hB)) (Nat.le_trans hB hba.size)
  have hrd : readResp l = if (getResp (startP l) (!starts2 [112, 49] l)).2.2 = false ∧ (getResp (startP l) (!starts2 [112, 49] l)).2.1 = [] then some (getResp (startP l) (!starts2 [112, 49] l)).1 else none := rfl
  have hl0 : (startP l).length ≤ 20000000 := by
    unfold startP
    split
    · rw [List.length_drop]; omega
    · exact hl
  rw [show (if starts2 (⟨#[112, 49]⟩ : ByteArray).data.toList l = true then l.drop 2 else l) = startP l from rfl, show starts2 (⟨#[112, 49]⟩ : ByteArray).data.toList l = starts2 [112, 49] l from rfl] at hBg
  obtain ⟨rr, hrr⟩ : ∃ rr, readResp l = rr := ⟨_, rfl⟩
  rw [hrr] at hrd ⊢
  have HRd := Lib.hid hrd
  clear hrr hrd hl
  generalize startP l = l0 at *
  generalize (!starts2 [112, 49] l) = b0 at *
  obtain ⟨res, hres⟩ : ∃ res, getResp l0 b0 = res := ⟨_, rfl⟩
  rw [hres] at HRd
  unfold getResp at hres
  dsimp only at hres
  have hl1 : (rnum l0 b0).2.1.length ≤ 20000000 := Nat.le_trans (eats_num.1 l0 b0) hl0
  have C1 := fun W g (h : RAt B W g l0 0 b0) (hW : B ≤ W.heap.size) => rnumber_any B W g l0 0 b0 h
  generalize rnum l0 b0 = r1 at *
  obtain ⟨x1, l1, b1⟩ := r1
  dsimp only at *
  have hl2 : (rlong l1 b1).2.1.length ≤ 20000000 := Nat.le_trans (eats_long.1 l1 b1) hl1
  have C2 := fun W g (h : RAt B W g l1 0 b1) (hW : B ≤ W.heap.size) => rwhole_b B W g l1 0 b1 h hW
  generalize rlong l1 b1 = r2 at *
  obtain ⟨x2, l2, b2⟩ := r2
  dsimp only at *
  have hl3 : (rnum l2 b2).2.1.length ≤ 20000000 := Nat.le_trans (eats_num.1 l2 b2) hl2
  have C3 := fun W g (h : RAt B W g l2 0 b2) (hW : B ≤ W.heap.size) => rnumber_any B W g l2 0 b2 h
  generalize rnum l2 b2 = r3 at *
  obtain ⟨x3, l3, b3⟩ := r3
  dsimp only at *
  have hl4 : (rtxt l3 b3).2.1.length ≤ 20000000 := Nat.le_trans (eats_txt.1 l3 b3) hl3
  have C4 := fun W g (h : RAt B W g l3 0 b3) (hW : B ≤ W.heap.size) => rtext_any B W g l3 0 b3 h
  generalize rtxt l3 b3 = r4 at *
  obtain ⟨x4, l4, b4⟩ := r4
  dsimp only at *
  have hl5 : (rlist rtru l4 b4).2.1.length ≤ 20000000 := Nat.le_trans ((eats_list eats_tru).1 l4 b4) hl4
  have C5 := fun W g (h : RAt B W g l4 0 b4) (hW : B ≤ W.heap.size) => getFlags_any B W g l4 0 b4 h hW hl4
  generalize rlist rtru l4 b4 = r5 at *
  obtain ⟨x5, l5, b5⟩ := r5
  dsimp only at *
  have hl6 : (rlist rtup l5 b5).2.1.length ≤ 20000000 := Nat.le_trans ((eats_list eats_tup).1 l5 b5) hl5
  have C6 := fun W g (h : RAt B W g l5 0 b5) (hW : B ≤ W.heap.size) => getTuples_any B W g l5 0 b5 h hW hl5
  generalize rlist rtup l5 b5 = r6 at *
  obtain ⟨x6, l6, b6⟩ := r6
  dsimp only at *
  have hl7 : (rlist robj2 l6 b6).2.1.length ≤ 20000000 := Nat.le_trans ((eats_list eats_obj2).1 l6 b6) hl6
  have C7 := fun W g (h : RAt B W g l6 0 b6) (hW : B ≤ W.heap.size) => getObjs_any B W g l6 0 b6 h hW hl6
  generalize rlist robj2 l6 b6 = r7 at *
  obtain ⟨x7, l7, b7⟩ := r7
  dsimp only at *
  have hl8 : (rlist revt l7 b7).2.1.length ≤ 20000000 := Nat.le_trans ((eats_list eats_evt).1 l7 b7) hl7
  have C8 := fun W g (h : RAt B W g l7 0 b7) (hW : B ≤ W.heap.size) => getEvents_any B W g l7 0 b7 h hW hl7
  generalize rlist revt l7 b7 = r8 at *
  obtain ⟨x8, l8, b8⟩ := r8
  dsimp only at *
  have hl9 : (rlist rstp l8 b8).2.1.length ≤ 20000000 := Nat.le_trans ((eats_list eats_stp).1 l8 b8) hl8
  have C9 := fun W g (h : RAt B W g l8 0 b8) (hW : B ≤ W.heap.size) => getSts_any rstp eats_stp B W g l8 0 b8 h hW hl8 (fun W l b h hB hl => rstep_any B W g l b h hB hl)
  generalize rlist rstp l8 b8 = r9 at *
  obtain ⟨x9, l9, b9⟩ := r9
  dsimp only at *
  have C10 := fun W g (h : RAt B W g l9 0 b9) (hW : B ≤ W.heap.size) => rno_ok 64 B W g l9 0 b9 h hW hl9 (by omega) (Nat.le_refl _)
  generalize rtree rno noZero 64 l9 b9 = r10 at *
  obtain ⟨⟨h, ps⟩, l10, b10⟩ := r10
  dsimp only [Tr.head, Tr.parts] at *
  have HC1 := Lib.hid C1
  have HC2 := Lib.hid C2
  have HC3 := Lib.hid C3
  have HC4 := Lib.hid C4
  have HC5 := Lib.hid C5
  have HC6 := Lib.hid C6
  have HC7 := Lib.hid C7
  have HC8 := Lib.hid C8
  have HC9 := Lib.hid C9
  have HC10 := Lib.hid C10
  have HBg := Lib.hid hBg
  have HB0 := Lib.hid hba
  have HRes := Lib.hid hres
  have hs0 : (w.alloc (.cells #[.int .u64 0, .int .i64 0, .int .u64 0, .string ⟨#[]⟩, .slice none 0 0, .slice none 0 0, .slice none 0 0, .slice none 0 0, .slice none 0 0, .int .i64 0, .string ⟨#[]⟩, .string ⟨#[]⟩, .string ⟨#[]⟩, .slice none 0 0, .slice none 0 0] 36)).heap.size = w.heap.size + 1 := by simp
  clear hba hBg hx hres C1 C2 C3 C4 C5 C6 C7 C8 C9 C10 hl0 hl1 hl2 hl3 hl4 hl5 hl6 hl7 hl8 hl9
  go_enter Tryz.func8, Tryz.ntmps8
  go_upto_region 1 with fail
  generalize (w.alloc (.cells #[.int .u64 0, .int .i64 0, .int .u64 0, .string ⟨#[]⟩, .slice none 0 0, .slice none 0 0, .slice none 0 0, .slice none 0 0, .slice none 0 0, .int .i64 0, .string ⟨#[]⟩, .string ⟨#[]⟩, .string ⟨#[]⟩, .slice none 0 0, .slice none 0 0] 36)) = w0 at *
  go_wp2_with (go_at_call 34; go_must (refine HBg.out.mono ?_))
  rintro e wb ⟨g, rfl, hr, hb, hgs⟩
  have hne : w.heap.size ≠ g := by omega
  have hnm : w.heap.size ∉ [g] := by simp; omega
  have HR := Lib.hid hr
  have HX := Lib.hid ((hb.block w.heap.size (by omega)).trans HX.out)
  have HT := Lib.hid (Touch.refl wb [g])
  have hbw : Below w.heap.size w wb := HB0.out.trans (hb.mono (by omega))
  have hBw : B ≤ wb.heap.size := Nat.le_trans hB hbw.size
  have hgw : g < wb.heap.size := hr.lt
  have HBw := Lib.hid hbw
  obtain ⟨K, hK⟩ : ∃ K, K = wb.heap.size := ⟨_, rfl⟩
  have hKw : w.heap.size + 1 ≤ K := by have := hb.size; omega
  have hgK : g < K := by omega
  have HK := Lib.hid hK
  clear hr hb HB0 HBg hK
  go_wp2_with (go_at_call 35; go_must (refine (HC1.out _ _ HR.out (Nat.le_trans hBw HT.out.size)).mono ?_))
  rintro e w1 ⟨rfl, hr, ht⟩
  have HR := Lib.hid hr
  have HX := Lib.hid (ht.keep HX.out hnm)
  have HT := Lib.hid (HT.out.same ht)
  clear hr ht HC1
  go_wp2_with (go_at_call 36; go_must (refine (HC2.out _ _ HR.out (Nat.le_trans hBw HT.out.size)).mono ?_))
  rintro e w2 ⟨rfl, hr, ht⟩
  have HR := Lib.hid hr
  have HX := Lib.hid (ht.keep HX.out hnm)
  have HT := Lib.hid (HT.out.same ht)
  clear hr ht HC2
  go_wp2_with (go_at_call 35; go_must (refine (HC3.out _ _ HR.out (Nat.le_trans hBw HT.out.size)).mono ?_))
  rintro e w3 ⟨rfl, hr, ht⟩
  have HR := Lib.hid hr
  have HX := Lib.hid (ht.keep HX.out hnm)
  have HT := Lib.hid (HT.out.same ht)
  clear hr ht HC3
  go_wp2_with (go_at_call 37; go_must (refine (HC4.out _ _ HR.out (Nat.le_trans hBw HT.out.size)).mono ?_))
  rintro e w4 ⟨rfl, hr, ht⟩
  have HR := Lib.hid hr
  have HX := Lib.hid (ht.keep HX.out hnm)
  have HT := Lib.hid (HT.out.same ht)
  clear hr ht HC4
  go_wp2_with (go_at_call 38; go_must (refine (HC5.out _ _ HR.out (Nat.le_trans hBw HT.out.size)).mono ?_))
  rintro e w5 ⟨v, rfl, ho, hr, ht⟩
  obtain ⟨a1, c1, rfl, _, _⟩ := (ownsRow.reads ho).le
  have HF1 := Lib.hid ((own_rowsAt ho).mono (ok' := fun b => K ≤ b) (fun b _ hb => by have := HK.out; have := HT.out.size; omega))
  clear ho
  have HR := Lib.hid hr
  have HX := Lib.hid (ht.keep HX.out hnm)
  have HT := Lib.hid (HT.out.same ht)
  clear hr ht HC5
  go_wp2_with (go_at_call 40; go_must (refine (HC6.out _ _ HR.out (Nat.le_trans hBw HT.out.size)).mono ?_))
  rintro e w6 ⟨v, rfl, ho, hr, ht⟩
  obtain ⟨a2, c2, rfl, _, _⟩ := (ownsRow.reads ho).le
  have hk : Keeps (fun b => K ≤ b) w5 w6 := ⟨ht.size, fun b hb hl => ht.block b hl (by simp; omega)⟩
  have HF1 := Lib.hid (HF1.out.keep hk)
  clear hk
  have HF2 := Lib.hid ((own_rowsAt ho).mono (ok' := fun b => K ≤ b) (fun b _ hb => by have := HK.out; have := HT.out.size; omega))
  clear ho
  have HR := Lib.hid hr
  have HX := Lib.hid (ht.keep HX.out hnm)
  have HT := Lib.hid (HT.out.same ht)
  clear hr ht HC6
  go_wp2_with (go_at_call 42; go_must (refine (HC7.out _ _ HR.out (Nat.le_trans hBw HT.out.size)).mono ?_))
  rintro e w7 ⟨v, rfl, ho, hr, ht⟩
  obtain ⟨a3, c3, rfl, _, _⟩ := (ownsRow.reads ho).le
  have hk : Keeps (fun b => K ≤ b) w6 w7 := ⟨ht.size, fun b hb hl => ht.block b hl (by simp; omega)⟩
  have HF1 := Lib.hid (HF1.out.keep hk)
  have HF2 := Lib.hid (HF2.out.keep hk)
  clear hk
  have HF3 := Lib.hid ((own_rowsAt ho).mono (ok' := fun b => K ≤ b) (fun b _ hb => by have := HK.out; have := HT.out.size; omega))
  clear ho
  have HR := Lib.hid hr
  have HX := Lib.hid (ht.keep HX.out hnm)
  have HT := Lib.hid (HT.out.same ht)
  clear hr ht HC7
  go_wp2_with (go_at_call 44; go_must (refine (HC8.out _ _ HR.out (Nat.le_trans hBw HT.out.size)).mono ?_))
  rintro e w8 ⟨v, rfl, ho, hr, ht⟩
  obtain ⟨a4, c4, rfl, _, _⟩ := (ownsRow.reads ho).le
  have hk : Keeps (fun b => K ≤ b) w7 w8 := ⟨ht.size, fun b hb hl => ht.block b hl (by simp; omega)⟩
  have HF1 := Lib.hid (HF1.out.keep hk)
  have HF2 := Lib.hid (HF2.out.keep hk)
  have HF3 := Lib.hid (HF3.out.keep hk)
  clear hk
  have HF4 := Lib.hid ((own_rowsAt ho).mono (ok' := fun b => K ≤ b) (fun b _ hb => by have := HK.out; have := HT.out.size; omega))
  clear ho
  have HR := Lib.hid hr
  have HX := Lib.hid (ht.keep HX.out hnm)
  have HT := Lib.hid (HT.out.same ht)
  clear hr ht HC8
  go_wp2_with (go_at_call 46; go_must (refine (HC9.out _ _ HR.out (Nat.le_trans hBw HT.out.size)).mono ?_))
  rintro e w9 ⟨v, es, rfl, ho, hes, hr, ht⟩
  have hsts := ho.sts hes
  obtain ⟨a5, c5, rfl, _, _, _⟩ := id hsts
  have hk : Keeps (fun b => K ≤ b) w8 w9 := ⟨ht.size, fun b hb hl => ht.block b hl (by simp; omega)⟩
  have HF1 := Lib.hid (HF1.out.keep hk)
  have HF2 := Lib.hid (HF2.out.keep hk)
  have HF3 := Lib.hid (HF3.out.keep hk)
  have HF4 := Lib.hid (HF4.out.keep hk)
  clear hk
  have HF5 := Lib.hid (hsts.mono (ok' := fun b => K ≤ b) (fun b _ hb => by have := HK.out; have := HT.out.size; omega))
  clear ho hes hsts
  have HR := Lib.hid hr
  have HX := Lib.hid (ht.keep HX.out hnm)
  have HT := Lib.hid (HT.out.same ht)
  clear hr ht HC9
  go_wp2_with (go_at_call 48; go_must (refine (HC10.out _ _ HR.out (Nat.le_trans hBw HT.out.size)).mono ?_))
  rintro e w10 ⟨x, rfl, hx, hat, hr, ht⟩
  obtain ⟨xh, xps, sa, sc, a, cap⟩ := x
  obtain ⟨rfl, rfl⟩ : xh = h ∧ xps = ps := by unfold NoE.tree at hx; injection hx with h1 h2; exact ⟨h1, h2⟩
  have hk : Keeps (fun b => K ≤ b) w9 w10 := ⟨ht.size, fun b hb hl => ht.block b hl (by simp; omega)⟩
  have HF1 := Lib.hid (HF1.out.keep hk)
  have HF2 := Lib.hid (HF2.out.keep hk)
  have HF3 := Lib.hid (HF3.out.keep hk)
  have HF4 := Lib.hid (HF4.out.keep hk)
  have HF5 := Lib.hid (HF5.out.keep hk)
  clear hk
  have HN6 := Lib.hid (noE_keep.mono _ (fun b => K ≤ b) _ _ (fun b _ hb => by have := HK.out; have := HT.out.size; omega) hat)
  clear hat hx
  have HR := Lib.hid hr
  have HX := Lib.hid (ht.keep HX.out hnm)
  have HT := Lib.hid (HT.out.same ht)
  clear hr ht HC10
  have HNw := Lib.hid (heap_alloc_new w10 (.cells #[.int .u64 (x1 : Int), .int .i64 x2, .int .u64 (x3 : Int), .string x4, .slice a1 x5.length c1, .slice a2 x6.length c2, .slice a3 x7.length c3, .slice a4 x8.length c4, .slice a5 x9.length c5, .int .i64 xh.kind, .string xh.o, .string xh.i, .string xh.rel, .slice sa xh.subs.length sc, .slice a xps.length cap] 36))
  have HBs := Lib.hid (show Below w10.heap.size w10 (w10.alloc (.cells #[.int .u64 (x1 : Int), .int .i64 x2, .int .u64 (x3 : Int), .string x4, .slice a1 x5.length c1, .slice a2 x6.length c2, .slice a3 x7.length c3, .slice a4 x8.length c4, .slice a5 x9.length c5, .int .i64 xh.kind, .string xh.o, .string xh.i, .string xh.rel, .slice sa xh.subs.length sc, .slice a xps.length cap] 36)) from (Below.refl _ _).alloc (Nat.le_refl _) _)
  obtain ⟨N, hNe⟩ : ∃ N, w10.heap.size = N := ⟨_, rfl⟩
  have hRw : w.heap.size < w10.heap.size := (Array.getElem?_eq_some_iff.1 HX.out).1
  have hgW : g < w10.heap.size := HR.out.lt
  have hNw := Lib.hid hNe
  clear hNe
  go_upto_region 3 with fail
  rw [hNw.out] at hRw hgW HNw
  rw [hNw.out]
  have HB14 := Lib.hid HBs.out
  generalize (w10.alloc (.cells #[.int .u64 (x1 : Int), .int .i64 x2, .int .u64 (x3 : Int), .string x4, .slice a1 x5.length c1, .slice a2 x6.length c2, .slice a3 x7.length c3, .slice a4 x8.length c4, .slice a5 x9.length c5, .int .i64 xh.kind, .string xh.o, .string xh.i, .string xh.rel, .slice sa xh.subs.length sc, .slice a xps.length cap] 36)) = ws at *
  have HBs := Lib.hid (show Below N w10 ws by rw [← hNw.out]; exact HB14.out)
  have hk : Keeps (fun b => K ≤ b) w10 ws := Keeps.of_below_size HB14.out
  have HF1 := Lib.hid (HF1.out.keep hk)
  have HF2 := Lib.hid (HF2.out.keep hk)
  have HF3 := Lib.hid (HF3.out.keep hk)
  have HF4 := Lib.hid (HF4.out.keep hk)
  have HF5 := Lib.hid (HF5.out.keep hk)
  have HN6 := Lib.hid (noE_keep.keep _ _ _ _ hk HN6.out)
  clear HB14 hk
  have HR := Lib.hid (HR.out.below (by rw [hNw.out]; exact HBs.out) (Nat.le_trans hBw HT.out.size))
  have HX := Lib.hid ((HBs.out.block w.heap.size hRw).trans HX.out)
  have hRb : w.heap.size < wb.heap.size := by omega
  have HBf := Lib.hid ((HBw.out.trans ((HT.out.below (B := w.heap.size) (Nat.le_of_lt hRb) (fun x hx => by simp at hx; omega)))).trans (HBs.out.mono (Nat.le_of_lt hRw)))
  clear HT HBs HBw
  have HE := Lib.hid (ended_any B ws g l10 0 b10 HR.out)
  obtain ⟨ok, hok⟩ : ∃ ok, (!b10 && decide (l10 = [])) = ok := ⟨_, rfl⟩
  rw [hok] at HE
  have HOk := Lib.hid hok
  clear hok HR
  cases ok with
  | false =>
    have HS := Lib.hid (setRow_heap ws w.heap.size #[.int .u64 0, .int .i64 0, .int .u64 0, .string ⟨#[]⟩, .slice none 0 0, .slice none 0 0, .slice none 0 0, .slice none 0 0, .slice none 0 0, .int .i64 0, .string ⟨#[]⟩, .string ⟨#[]⟩, .string ⟨#[]⟩, .slice none 0 0, .slice none 0 0] #[.int .u64 0, .int .i64 0, .int .u64 0, .string ⟨#[]⟩, .slice none 0 0, .slice none 0 0, .slice none 0 0, .slice none 0 0, .slice none 0 0, .int .i64 0, .string ⟨#[]⟩, .string ⟨#[]⟩, .string ⟨#[]⟩, .slice none 0 0, .slice none 0 0] 36 (0, 0) HX.out)
    have HBz := Lib.hid (below_setRow HBf.out (Nat.le_refl _) #[.int .u64 0, .int .i64 0, .int .u64 0, .string ⟨#[]⟩, .slice none 0 0, .slice none 0 0, .slice none 0 0, .slice none 0 0, .slice none 0 0, .int .i64 0, .string ⟨#[]⟩, .string ⟨#[]⟩, .string ⟨#[]⟩, .slice none 0 0, .slice none 0 0])
    go_wp2_with (go_at_call 49; go_must (refine HE.out.mono ?_))
    rintro e wx ⟨rfl, rfl⟩
    go_upto_region 4 with fail
    iterate 5 go_step
    refine wp_store_row 36 _ _ rfl w.heap.size #[.int .u64 0, .int .i64 0, .int .u64 0, .string ⟨#[]⟩, .slice none 0 0, .slice none 0 0, .slice none 0 0, .slice none 0 0, .slice none 0 0, .int .i64 0, .string ⟨#[]⟩, .string ⟨#[]⟩, .string ⟨#[]⟩, .slice none 0 0, .slice none 0 0] rfl rfl 36 #[.int .u64 0, .int .i64 0, .int .u64 0, .string ⟨#[]⟩, .slice none 0 0, .slice none 0 0, .slice none 0 0, .slice none 0 0, .slice none 0 0, .int .i64 0, .string ⟨#[]⟩, .string ⟨#[]⟩, .string ⟨#[]⟩, .slice none 0 0, .slice none 0 0] HX.out (by kernel_rfl) rfl (by kernel_rfl) ?_
    go_wp2
    have hl := run_loadVar_row (P := Tryz.prog) _ w.heap.size _ 36 _ _ _ HS.out Tryz.underlying36 rfl (by kernel_rfl)
    refine bodyPost_ret (v := .tuple #[.agg #[.int .u64 0, .int .i64 0, .int .u64 0, .string ⟨#[]⟩, .slice none 0 0, .slice none 0 0, .slice none 0 0, .slice none 0 0, .slice none 0 0, .int .i64 0, .string ⟨#[]⟩, .string ⟨#[]⟩, .string ⟨#[]⟩, .slice none 0 0, .slice none 0 0], .int .i64 9]) ?_ rfl ⟨HBz.out, .inl ⟨?_, rfl⟩⟩
    · simp [results, Tryz.results8, asAddr, hl]
    · rw [HRd.out, ← HRes.out]
      have hok := HOk.out
      rw [if_neg]
      rintro ⟨h1, h2⟩
      dsimp only at h1 h2
      subst h1
      subst h2
      cases hok
  | true =>
    have HS := Lib.hid (setRow_heap ws w.heap.size #[.int .u64 0, .int .i64 0, .int .u64 0, .string ⟨#[]⟩, .slice none 0 0, .slice none 0 0, .slice none 0 0, .slice none 0 0, .slice none 0 0, .int .i64 0, .string ⟨#[]⟩, .string ⟨#[]⟩, .string ⟨#[]⟩, .slice none 0 0, .slice none 0 0] #[.int .u64 (x1 : Int), .int .i64 x2, .int .u64 (x3 : Int), .string x4, .slice a1 x5.length c1, .slice a2 x6.length c2, .slice a3 x7.length c3, .slice a4 x8.length c4, .slice a5 x9.length c5, .int .i64 xh.kind, .string xh.o, .string xh.i, .string xh.rel, .slice sa xh.subs.length sc, .slice a xps.length cap] 36 (0, 0) HX.out)
    have HBz := Lib.hid (below_setRow HBf.out (Nat.le_refl _) #[.int .u64 (x1 : Int), .int .i64 x2, .int .u64 (x3 : Int), .string x4, .slice a1 x5.length c1, .slice a2 x6.length c2, .slice a3 x7.length c3, .slice a4 x8.length c4, .slice a5 x9.length c5, .int .i64 xh.kind, .string xh.o, .string xh.i, .string xh.rel, .slice sa xh.subs.length sc, .slice a xps.length cap])
    have hk : Keeps (fun b => K ≤ b) ws (ws.setRow w.heap.size #[.int .u64 (x1 : Int), .int .i64 x2, .int .u64 (x3 : Int), .string x4, .slice a1 x5.length c1, .slice a2 x6.length c2, .slice a3 x7.length c3, .slice a4 x8.length c4, .slice a5 x9.length c5, .int .i64 xh.kind, .string xh.o, .string xh.i, .string xh.rel, .slice sa xh.subs.length sc, .slice a xps.length cap]) := ⟨Nat.le_of_eq (setRow_size _ _ _).symm, fun b hb _ => setRow_other _ _ _ _ (by omega)⟩
    have hn := noE_keep.keep _ _ _ _ hk HN6.out
    have HRR := Lib.hid (show RespR (fun b => w.heap.size ≤ b) (ws.setRow w.heap.size #[.int .u64 (x1 : Int), .int .i64 x2, .int .u64 (x3 : Int), .string x4, .slice a1 x5.length c1, .slice a2 x6.length c2, .slice a3 x7.length c3, .slice a4 x8.length c4, .slice a5 x9.length c5, .int .i64 xh.kind, .string xh.o, .string xh.i, .string xh.rel, .slice sa xh.subs.length sc, .slice a xps.length cap]) ⟨x1, x2, x3, x4, x5, x6, x7, x8, x9, xh, xps⟩ a1 a2 a3 a4 a5 sa a c1 c2 c3 c4 c5 sc cap from
      RespR.mono (ok := fun b => K ≤ b) ⟨flagL_map x5 ▸ HF1.out.keep hk, HF2.out.keep hk, HF3.out.keep hk, HF4.out.keep hk, HF5.out.keep hk, hn.2.2.2, hn.1, hn.2.1, hn.2.2.1⟩ (fun b _ hb => by omega))
    clear hk hn HF1 HF2 HF3 HF4 HF5 HN6
    go_wp2_with (go_at_call 49; go_must (refine HE.out.mono ?_))
    rintro e wx ⟨rfl, rfl⟩
    go_upto_region 5 with fail
    go_step
    go_step
    refine wp_load_row 36 _ rfl N rfl 36 #[.int .u64 (x1 : Int), .int .i64 x2, .int .u64 (x3 : Int), .string x4, .slice a1 x5.length c1, .slice a2 x6.length c2, .slice a3 x7.length c3, .slice a4 x8.length c4, .slice a5 x9.length c5, .int .i64 xh.kind, .string xh.o, .string xh.i, .string xh.rel, .slice sa xh.subs.length sc, .slice a xps.length cap] (0, 0) _ HNw.out Tryz.underlying36 rfl (by kernel_rfl) ?_
    go_step
    go_step
    refine wp_store_row 36 _ _ rfl w.heap.size #[.int .u64 (x1 : Int), .int .i64 x2, .int .u64 (x3 : Int), .string x4, .slice a1 x5.length c1, .slice a2 x6.length c2, .slice a3 x7.length c3, .slice a4 x8.length c4, .slice a5 x9.length c5, .int .i64 xh.kind, .string xh.o, .string xh.i, .string xh.rel, .slice sa xh.subs.length sc, .slice a xps.length cap] rfl rfl 36 #[.int .u64 0, .int .i64 0, .int .u64 0, .string ⟨#[]⟩, .slice none 0 0, .slice none 0 0, .slice none 0 0, .slice none 0 0, .slice none 0 0, .int .i64 0, .string ⟨#[]⟩, .string ⟨#[]⟩, .string ⟨#[]⟩, .slice none 0 0, .slice none 0 0] HX.out (by kernel_rfl) rfl (by kernel_rfl) ?_
    go_wp2
    have hl := run_loadVar_row (P := Tryz.prog) _ w.heap.size _ 36 _ _ _ HS.out Tryz.underlying36 rfl (by kernel_rfl)
    refine bodyPost_ret (v := .tuple #[.agg #[.int .u64 (x1 : Int), .int .i64 x2, .int .u64 (x3 : Int), .string x4, .slice a1 x5.length c1, .slice a2 x6.length c2, .slice a3 x7.length c3, .slice a4 x8.length c4, .slice a5 x9.length c5, .int .i64 xh.kind, .string xh.o, .string xh.i, .string xh.rel, .slice sa xh.subs.length sc, .slice a xps.length cap], .int .i64 0]) ?_ rfl ⟨HBz.out, .inr ⟨⟨x1, x2, x3, x4, x5, x6, x7, x8, x9, xh, xps⟩, a1, a2, a3, a4, a5, sa, a, c1, c2, c3, c4, c5, sc, cap, ?_, rfl, HRR.out⟩⟩
    · simp [results, Tryz.results8, asAddr, hl]
    · rw [HRd.out, ← HRes.out]
      have hok := HOk.out
      rw [Bool.and_eq_true, Bool.not_eq_true', decide_eq_true_eq] at hok
      rw [if_pos hok]
end Go.Proofs.YtdonibkkdhokpaaGreat
