/- wire.GetRequest, of any bytes (written by gen_wireget.py). -/
import Derived.Test.YtdonibkkdhokpaaGreatZWireRl
import Derived.Test.YtdonibkkdhokpaaGreatZWireBegin
import Derived.Test.YtdonibkkdhokpaaGreatZWireEnd
import Derived.Deep.WholeRow
import Derived.Laws.CopyOwn
namespace Go.Proofs.YtdonibkkdhokpaaGreat
open Go Go.RowKit

def getReq (l0 : List UInt8) (b0 : Bool) : Req × List UInt8 × Bool :=
  let r1 := rtxt l0 b0
  let r2 := rnum r1.2.1 r1.2.2
  let r3 := rlong r2.2.1 r2.2.2
  let r4 := rlong r3.2.1 r3.2.2
  let r5 := rtxt r4.2.1 r4.2.2
  let r6 := rnum r5.2.1 r5.2.2
  let r7 := rtxt r6.2.1 r6.2.2
  let r8 := rtxt r7.2.1 r7.2.2
  let r9 := rtxt r8.2.1 r8.2.2
  let r10 := rtxt r9.2.1 r9.2.2
  let r11 := (rlist rwri) r10.2.1 r10.2.2
  let r12 := (rlist rpre) r11.2.1 r11.2.2
  let r13 := (rlist rask) r12.2.1 r12.2.2
  let r14 := (rlist rarg) r13.2.1 r13.2.2
  (⟨r1.1, r2.1, r3.1, r4.1, r5.1, r6.1, r7.1, r8.1, r9.1, r10.1, r11.1, r12.1, r13.1, r14.1⟩, r14.2)

def startL (l : List UInt8) : List UInt8 := if starts2 [113, 49] l = true then l.drop 2 else l

/-- The request that these bytes tell, if they do. -/
def readReq (l : List UInt8) : Option Req :=
  if (getReq (startL l) (!starts2 [113, 49] l)).2.2 = false ∧ (getReq (startL l) (!starts2 [113, 49] l)).2.1 = [] then some (getReq (startL l) (!starts2 [113, 49] l)).1 else none

def reqV (q : Req) (v1 v2 v3 v4 : Value) : Value := .agg #[.string q.client, .int .u64 (q.id : Int), .int .i64 q.kind, .int .i64 q.how, .string q.token, .int .u64 (q.n : Int), .string q.typ, .string q.f1, .string q.f2, .string q.f3, v1, v2, v3, v4]

/-- A request's four lists, each in a block of its own. -/
structure ReqOwn (B : Nat) (w : World) (q : Req) (v1 v2 v3 v4 : Value) : Prop where
  writes : w.ownsRow B 65 7 v1 q.writes.length (q.writes.flatMap Wri.cells)
  pres : w.ownsRow B 131 7 v2 q.pres.length (q.pres.flatMap Wri.cells)
  asks : w.ownsRow B 135 6 v3 q.asks.length (q.asks.flatMap T6.cells)
  args : w.ownsRow B 141 4 v4 q.args.length (q.args.flatMap Arg4.cells)

def GotReq (w : World) (rr : Option Req) (e : Ending) (w' : World) : Prop :=
  Below w.heap.size w w' ∧ ((rr = none ∧ e = .returned (.tuple #[.agg #[.string ⟨#[]⟩, .int .u64 0, .int .i64 0, .int .i64 0, .string ⟨#[]⟩, .int .u64 0, .string ⟨#[]⟩, .string ⟨#[]⟩, .string ⟨#[]⟩, .string ⟨#[]⟩, .slice none 0 0, .slice none 0 0, .slice none 0 0, .slice none 0 0], .int .i64 9])) ∨
    ∃ q v1 v2 v3 v4, rr = some q ∧ e = .returned (.tuple #[reqV q v1 v2 v3 v4, .int .i64 0]) ∧ ReqOwn w.heap.size w' q v1 v2 v3 v4)

theorem ownsRow_base {w : World} {B C k n : Nat} {e : TypeId} {v : Value} {xs : List Value} (h : w.ownsRow C e k v n xs) (hB : B ≤ C) : w.ownsRow B e k v n xs := by
  refine ⟨h.1, ?_⟩
  rcases h.2 with h | ⟨g, cap, cur, hv, hb, rest⟩
  · exact .inl h
  · exact .inr ⟨g, cap, cur, hv, Nat.le_trans hB hb, rest⟩

theorem owns_cell {w : World} {B k n : Nat} {e : TypeId} {v : Value} {xs : List Value} (h : w.ownsRow B e k v n xs) {c : Nat} (hc : v.ownBlock ≠ some c) (i : Nat) (u : Value) : (w.setCell ⟨c, i, none⟩ u).ownsRow B e k v n xs :=
  ownsRow_setCell_other h (a := ⟨c, i, none⟩) hc u

set_option maxRecDepth 100000 in
set_option maxHeartbeats 8000000 in
theorem getrequest_any (w : World) (B : Nat) (u : Value) (l : List UInt8) (hx : Sl B w u l) (hB : B ≤ w.heap.size) (hl : l.length ≤ 20000000) :
    Calls Tryz.prog 12 #[u] w (GotReq w (readReq l)) := by
  have hba : Below w.heap.size w (w.alloc (.cells #[.string ⟨#[]⟩, .int .u64 0, .int .i64 0, .int .i64 0, .string ⟨#[]⟩, .int .u64 0, .string ⟨#[]⟩, .string ⟨#[]⟩, .string ⟨#[]⟩, .string ⟨#[]⟩, .slice none 0 0, .slice none 0 0, .slice none 0 0, .slice none 0 0] 54)) := (Below.refl _ _).alloc (Nat.le_refl _) _
  have HX := Lib.hid (show (w.alloc (.cells #[.string ⟨#[]⟩, .int .u64 0, .int .i64 0, .int .i64 0, .string ⟨#[]⟩, .int .u64 0, .string ⟨#[]⟩, .string ⟨#[]⟩, .string ⟨#[]⟩, .string ⟨#[]⟩, .slice none 0 0, .slice none 0 0, .slice none 0 0, .slice none 0 0] 54)).heap[w.heap.size]? = some (.cells #[.string ⟨#[]⟩, .int .u64 0, .int .i64 0, .int .i64 0, .string ⟨#[]⟩, .int .u64 0, .string ⟨#[]⟩, .string ⟨#[]⟩, .string ⟨#[]⟩, .string ⟨#[]⟩, .slice none 0 0, .slice none 0 0, .slice none 0 0, .slice none 0 0] 54 (0, 0)) from heap_alloc_new _ _)
  have hBg := begin_any (w.alloc (.cells #[.string ⟨#[]⟩, .int .u64 0, .int .i64 0, .int .i64 0, .string ⟨#[]⟩, .int .u64 0, .string ⟨#[]⟩, .string ⟨#[]⟩, .string ⟨#[]⟩, .string ⟨#[]⟩, .slice none 0 0, .slice none 0 0, .slice none 0 0, .slice none 0 0] 54)) B u l ⟨#[113, 49]⟩ rfl (hx.below (hba.mono hB)) (Nat.le_trans hB hba.size)
  have hrd : readReq l = if (getReq (startL l) (!starts2 [113, 49] l)).2.2 = false ∧ (getReq (startL l) (!starts2 [113, 49] l)).2.1 = [] then some (getReq (startL l) (!starts2 [113, 49] l)).1 else none := rfl
  have hl0 : (startL l).length ≤ 20000000 := by
    unfold startL
    split
    · rw [List.length_drop]; omega
    · exact hl
  rw [show (if starts2 (⟨#[113, 49]⟩ : ByteArray).data.toList l = true then l.drop 2 else l) = startL l from rfl, show starts2 (⟨#[113, 49]⟩ : ByteArray).data.toList l = starts2 [113, 49] l from rfl] at hBg
  obtain ⟨rr, hrr⟩ : ∃ rr, readReq l = rr := ⟨_, rfl⟩
  rw [hrr] at hrd ⊢
  clear hrr
  generalize startL l = l0 at *
  generalize (!starts2 [113, 49] l) = b0 at *
  obtain ⟨res, hres⟩ : ∃ res, getReq l0 b0 = res := ⟨_, rfl⟩
  rw [hres] at hrd
  have HRd := Lib.hid hrd
  clear hrd
  unfold getReq at hres
  dsimp only at hres
  have hl1 : (rtxt l0 b0).2.1.length ≤ 20000000 := Nat.le_trans (eats_txt.1 l0 b0) hl0
  have C1 := fun W g (h : RAt B W g l0 0 b0) => rtext_any B W g l0 0 b0 h
  generalize rtxt l0 b0 = r1 at *
  obtain ⟨x1, l1, b1⟩ := r1
  dsimp only at *
  have hl2 : (rnum l1 b1).2.1.length ≤ 20000000 := Nat.le_trans (eats_num.1 l1 b1) hl1
  have C2 := fun W g (h : RAt B W g l1 0 b1) => rnumber_any B W g l1 0 b1 h
  generalize rnum l1 b1 = r2 at *
  obtain ⟨x2, l2, b2⟩ := r2
  dsimp only at *
  have hl3 : (rlong l2 b2).2.1.length ≤ 20000000 := Nat.le_trans (eats_long.1 l2 b2) hl2
  have C3 := fun W g (h : RAt B W g l2 0 b2) => rwhole_any2 B W g l2 0 b2 h
  generalize rlong l2 b2 = r3 at *
  obtain ⟨x3, l3, b3⟩ := r3
  dsimp only at *
  have hl4 : (rlong l3 b3).2.1.length ≤ 20000000 := Nat.le_trans (eats_long.1 l3 b3) hl3
  have C4 := fun W g (h : RAt B W g l3 0 b3) => rwhole_any2 B W g l3 0 b3 h
  generalize rlong l3 b3 = r4 at *
  obtain ⟨x4, l4, b4⟩ := r4
  dsimp only at *
  have hl5 : (rtxt l4 b4).2.1.length ≤ 20000000 := Nat.le_trans (eats_txt.1 l4 b4) hl4
  have C5 := fun W g (h : RAt B W g l4 0 b4) => rtext_any B W g l4 0 b4 h
  generalize rtxt l4 b4 = r5 at *
  obtain ⟨x5, l5, b5⟩ := r5
  dsimp only at *
  have hl6 : (rnum l5 b5).2.1.length ≤ 20000000 := Nat.le_trans (eats_num.1 l5 b5) hl5
  have C6 := fun W g (h : RAt B W g l5 0 b5) => rnumber_any B W g l5 0 b5 h
  generalize rnum l5 b5 = r6 at *
  obtain ⟨x6, l6, b6⟩ := r6
  dsimp only at *
  have hl7 : (rtxt l6 b6).2.1.length ≤ 20000000 := Nat.le_trans (eats_txt.1 l6 b6) hl6
  have C7 := fun W g (h : RAt B W g l6 0 b6) => rtext_any B W g l6 0 b6 h
  generalize rtxt l6 b6 = r7 at *
  obtain ⟨x7, l7, b7⟩ := r7
  dsimp only at *
  have hl8 : (rtxt l7 b7).2.1.length ≤ 20000000 := Nat.le_trans (eats_txt.1 l7 b7) hl7
  have C8 := fun W g (h : RAt B W g l7 0 b7) => rtext_any B W g l7 0 b7 h
  generalize rtxt l7 b7 = r8 at *
  obtain ⟨x8, l8, b8⟩ := r8
  dsimp only at *
  have hl9 : (rtxt l8 b8).2.1.length ≤ 20000000 := Nat.le_trans (eats_txt.1 l8 b8) hl8
  have C9 := fun W g (h : RAt B W g l8 0 b8) => rtext_any B W g l8 0 b8 h
  generalize rtxt l8 b8 = r9 at *
  obtain ⟨x9, l9, b9⟩ := r9
  dsimp only at *
  have hl10 : (rtxt l9 b9).2.1.length ≤ 20000000 := Nat.le_trans (eats_txt.1 l9 b9) hl9
  have C10 := fun W g (h : RAt B W g l9 0 b9) => rtext_any B W g l9 0 b9 h
  generalize rtxt l9 b9 = r10 at *
  obtain ⟨x10, l10, b10⟩ := r10
  dsimp only at *
  have hl11 : ((rlist rwri) l10 b10).2.1.length ≤ 20000000 := Nat.le_trans ((eats_list eats_wri).1 l10 b10) hl10
  have C11 := fun W g (h : RAt B W g l10 0 b10) (hW : B ≤ W.heap.size) => getWrites_any B W g l10 0 b10 h hW hl10
  generalize rlist rwri l10 b10 = r11 at *
  obtain ⟨x11, l11, b11⟩ := r11
  dsimp only at *
  have hl12 : ((rlist rpre) l11 b11).2.1.length ≤ 20000000 := Nat.le_trans ((eats_list eats_pre).1 l11 b11) hl11
  have C12 := fun W g (h : RAt B W g l11 0 b11) (hW : B ≤ W.heap.size) => getPres_any B W g l11 0 b11 h hW hl11
  generalize rlist rpre l11 b11 = r12 at *
  obtain ⟨x12, l12, b12⟩ := r12
  dsimp only at *
  have hl13 : ((rlist rask) l12 b12).2.1.length ≤ 20000000 := Nat.le_trans ((eats_list eats_ask).1 l12 b12) hl12
  have C13 := fun W g (h : RAt B W g l12 0 b12) (hW : B ≤ W.heap.size) => getAsks_any B W g l12 0 b12 h hW hl12
  generalize rlist rask l12 b12 = r13 at *
  obtain ⟨x13, l13, b13⟩ := r13
  dsimp only at *
  have hl14 : ((rlist rarg) l13 b13).2.1.length ≤ 20000000 := Nat.le_trans ((eats_list eats_arg).1 l13 b13) hl13
  have C14 := fun W g (h : RAt B W g l13 0 b13) (hW : B ≤ W.heap.size) => getArgs_any B W g l13 0 b13 h hW hl13
  generalize rlist rarg l13 b13 = r14 at *
  obtain ⟨x14, l14, b14⟩ := r14
  dsimp only at *
  have HBg := Lib.hid hBg
  have HC1 := Lib.hid C1
  have HC2 := Lib.hid C2
  have HC3 := Lib.hid C3
  have HC4 := Lib.hid C4
  have HC5 := Lib.hid C5
  have HC6 := Lib.hid C6
  have HC7 := Lib.hid C7
  have HC8 := Lib.hid C8
  have HC9 := Lib.hid C9
  have HC10 := Lib.hid C10
  have HC11 := Lib.hid C11
  have HC12 := Lib.hid C12
  have HC13 := Lib.hid C13
  have HC14 := Lib.hid C14
  clear hBg hx C1 C2 C3 C4 C5 C6 C7 C8 C9 C10 C11 C12 C13 C14 hl0 hl1 hl2 hl3 hl4 hl5 hl6 hl7 hl8 hl9 hl10 hl11 hl12 hl13 hl14
  have HB0 := Lib.hid hba
  have HRes := Lib.hid hres
  clear hres
  have hs0 : (w.alloc (.cells #[.string ⟨#[]⟩, .int .u64 0, .int .i64 0, .int .i64 0, .string ⟨#[]⟩, .int .u64 0, .string ⟨#[]⟩, .string ⟨#[]⟩, .string ⟨#[]⟩, .string ⟨#[]⟩, .slice none 0 0, .slice none 0 0, .slice none 0 0, .slice none 0 0] 54)).heap.size = w.heap.size + 1 := by simp
  clear hba
  go_enter Tryz.func12, Tryz.ntmps12
  go_upto_region 1 with fail
  generalize w.alloc (.cells #[.string ⟨#[]⟩, .int .u64 0, .int .i64 0, .int .i64 0, .string ⟨#[]⟩, .int .u64 0, .string ⟨#[]⟩, .string ⟨#[]⟩, .string ⟨#[]⟩, .string ⟨#[]⟩, .slice none 0 0, .slice none 0 0, .slice none 0 0, .slice none 0 0] 54) = w0 at *
  go_wp2_with (go_at_call 34; go_must (refine HBg.out.mono ?_))
  rintro e wb ⟨g, rfl, hr, hb, hgs⟩
  have hne : w.heap.size ≠ g := by omega
  have hnm : w.heap.size ∉ [g] := by simp; omega
  have HR := Lib.hid hr
  have HX := Lib.hid ((hb.block w.heap.size (by omega)).trans HX.out)
  have HT := Lib.hid (Touch.refl wb [g])
  have hbw : Below w.heap.size w wb := HB0.out.trans (hb.mono (by omega))
  have hBw : B ≤ wb.heap.size := Nat.le_trans hB hbw.size
  have hgw : g < wb.heap.size := hr.lt
  have HBw := Lib.hid hbw
  clear hr hb HB0 HBg
  go_wp2_with (go_at_call 37; go_must (refine (HC1.out _ _ HR.out).mono ?_))
  rintro e w1 ⟨rfl, hr, ht⟩
  have HR := Lib.hid hr
  have HX := Lib.hid (ht.keep HX.out hnm)
  have HT := Lib.hid (HT.out.same ht)
  clear hr ht HC1
  go_wp2_with (go_at_call 35; go_must (refine (HC2.out _ _ HR.out).mono ?_))
  rintro e w2 ⟨rfl, hr, ht⟩
  have HR := Lib.hid hr
  have HX := Lib.hid (ht.keep HX.out hnm)
  have HT := Lib.hid (HT.out.same ht)
  clear hr ht HC2
  go_wp2_with (go_at_call 36; go_must (refine (HC3.out _ _ HR.out).mono ?_))
  rintro e w3 ⟨rfl, hr, ht⟩
  have HR := Lib.hid hr
  have HX := Lib.hid (ht.keep HX.out hnm)
  have HT := Lib.hid (HT.out.same ht)
  clear hr ht HC3
  go_wp2_with (go_at_call 36; go_must (refine (HC4.out _ _ HR.out).mono ?_))
  rintro e w4 ⟨rfl, hr, ht⟩
  have HR := Lib.hid hr
  have HX := Lib.hid (ht.keep HX.out hnm)
  have HT := Lib.hid (HT.out.same ht)
  clear hr ht HC4
  go_wp2_with (go_at_call 37; go_must (refine (HC5.out _ _ HR.out).mono ?_))
  rintro e w5 ⟨rfl, hr, ht⟩
  have HR := Lib.hid hr
  have HX := Lib.hid (ht.keep HX.out hnm)
  have HT := Lib.hid (HT.out.same ht)
  clear hr ht HC5
  go_wp2_with (go_at_call 35; go_must (refine (HC6.out _ _ HR.out).mono ?_))
  rintro e w6 ⟨rfl, hr, ht⟩
  have HR := Lib.hid hr
  have HX := Lib.hid (ht.keep HX.out hnm)
  have HT := Lib.hid (HT.out.same ht)
  clear hr ht HC6
  go_wp2_with (go_at_call 37; go_must (refine (HC7.out _ _ HR.out).mono ?_))
  rintro e w7 ⟨rfl, hr, ht⟩
  have HR := Lib.hid hr
  have HX := Lib.hid (ht.keep HX.out hnm)
  have HT := Lib.hid (HT.out.same ht)
  clear hr ht HC7
  go_wp2_with (go_at_call 37; go_must (refine (HC8.out _ _ HR.out).mono ?_))
  rintro e w8 ⟨rfl, hr, ht⟩
  have HR := Lib.hid hr
  have HX := Lib.hid (ht.keep HX.out hnm)
  have HT := Lib.hid (HT.out.same ht)
  clear hr ht HC8
  go_wp2_with (go_at_call 37; go_must (refine (HC9.out _ _ HR.out).mono ?_))
  rintro e w9 ⟨rfl, hr, ht⟩
  have HR := Lib.hid hr
  have HX := Lib.hid (ht.keep HX.out hnm)
  have HT := Lib.hid (HT.out.same ht)
  clear hr ht HC9
  go_wp2_with (go_at_call 37; go_must (refine (HC10.out _ _ HR.out).mono ?_))
  rintro e w10 ⟨rfl, hr, ht⟩
  have HR := Lib.hid hr
  have HX := Lib.hid (ht.keep HX.out hnm)
  have HT := Lib.hid (HT.out.same ht)
  clear hr ht HC10
  go_wp2_with (go_at_call 74; go_must (refine (HC11.out _ _ HR.out (Nat.le_trans hBw HT.out.size)).mono ?_))
  rintro e w11 ⟨v11, rfl, ho, hr, ht⟩
  obtain ⟨a11, c11, rfl, _, _⟩ := (ownsRow.reads ho).le
  have HO11 := Lib.hid (ownsRow_base ho HT.out.size)
  clear ho
  have HR := Lib.hid hr
  have HX := Lib.hid (ht.keep HX.out hnm)
  have HT := Lib.hid (HT.out.same ht)
  clear hr ht HC11
  go_wp2_with (go_at_call 76; go_must (refine (HC12.out _ _ HR.out (Nat.le_trans hBw HT.out.size)).mono ?_))
  rintro e w12 ⟨v12, rfl, ho, hr, ht⟩
  obtain ⟨a12, c12, rfl, _, _⟩ := (ownsRow.reads ho).le
  have HO11 := Lib.hid (Touch.owns HO11.out ht hgw)
  have HO12 := Lib.hid (ownsRow_base ho HT.out.size)
  clear ho
  have HR := Lib.hid hr
  have HX := Lib.hid (ht.keep HX.out hnm)
  have HT := Lib.hid (HT.out.same ht)
  clear hr ht HC12
  go_wp2_with (go_at_call 78; go_must (refine (HC13.out _ _ HR.out (Nat.le_trans hBw HT.out.size)).mono ?_))
  rintro e w13 ⟨v13, rfl, ho, hr, ht⟩
  obtain ⟨a13, c13, rfl, _, _⟩ := (ownsRow.reads ho).le
  have HO11 := Lib.hid (Touch.owns HO11.out ht hgw)
  have HO12 := Lib.hid (Touch.owns HO12.out ht hgw)
  have HO13 := Lib.hid (ownsRow_base ho HT.out.size)
  clear ho
  have HR := Lib.hid hr
  have HX := Lib.hid (ht.keep HX.out hnm)
  have HT := Lib.hid (HT.out.same ht)
  clear hr ht HC13
  go_wp2_with (go_at_call 80; go_must (refine (HC14.out _ _ HR.out (Nat.le_trans hBw HT.out.size)).mono ?_))
  rintro e w14 ⟨v14, rfl, ho, hr, ht⟩
  obtain ⟨a14, c14, rfl, _, _⟩ := (ownsRow.reads ho).le
  have HO11 := Lib.hid (Touch.owns HO11.out ht hgw)
  have HO12 := Lib.hid (Touch.owns HO12.out ht hgw)
  have HO13 := Lib.hid (Touch.owns HO13.out ht hgw)
  have HO14 := Lib.hid (ownsRow_base ho HT.out.size)
  clear ho
  have HR := Lib.hid hr
  have HX := Lib.hid (ht.keep HX.out hnm)
  have HT := Lib.hid (HT.out.same ht)
  clear hr ht HC14
  have HN := Lib.hid (heap_alloc_new w14 (.cells #[.string x1, .int .u64 (x2 : Int), .int .i64 x3, .int .i64 x4, .string x5, .int .u64 (x6 : Int), .string x7, .string x8, .string x9, .string x10, .slice a11 x11.length c11, .slice a12 x12.length c12, .slice a13 x13.length c13, .slice a14 x14.length c14] 54))
  have HBs := Lib.hid (show Below w14.heap.size w14 (w14.alloc (.cells #[.string x1, .int .u64 (x2 : Int), .int .i64 x3, .int .i64 x4, .string x5, .int .u64 (x6 : Int), .string x7, .string x8, .string x9, .string x10, .slice a11 x11.length c11, .slice a12 x12.length c12, .slice a13 x13.length c13, .slice a14 x14.length c14] 54)) from (Below.refl _ _).alloc (Nat.le_refl _) _)
  obtain ⟨N, hNe⟩ : ∃ N, w14.heap.size = N := ⟨_, rfl⟩
  have hRw : w.heap.size < w14.heap.size := (Array.getElem?_eq_some_iff.1 HX.out).1
  have hgW : g < w14.heap.size := HR.out.lt
  have hNw := Lib.hid hNe
  clear hNe
  go_upto_region 3 with fail
  rw [hNw.out] at hRw hgW HN
  rw [hNw.out]
  have HB14 := Lib.hid HBs.out
  generalize (w14.alloc (.cells #[.string x1, .int .u64 (x2 : Int), .int .i64 x3, .int .i64 x4, .string x5, .int .u64 (x6 : Int), .string x7, .string x8, .string x9, .string x10, .slice a11 x11.length c11, .slice a12 x12.length c12, .slice a13 x13.length c13, .slice a14 x14.length c14] 54)) = ws at *
  have HBs := Lib.hid (show Below N w14 ws by rw [← hNw.out]; exact HB14.out)
  clear HB14
  have HR := Lib.hid (HR.out.below (by rw [hNw.out]; exact HBs.out) (Nat.le_trans hBw HT.out.size))
  have HX := Lib.hid ((HBs.out.block w.heap.size hRw).trans HX.out)
  have HO11 := Lib.hid (owns_below HO11.out (by rw [hNw.out]; exact HBs.out))
  have HO12 := Lib.hid (owns_below HO12.out (by rw [hNw.out]; exact HBs.out))
  have HO13 := Lib.hid (owns_below HO13.out (by rw [hNw.out]; exact HBs.out))
  have HO14 := Lib.hid (owns_below HO14.out (by rw [hNw.out]; exact HBs.out))
  have hRb : w.heap.size < wb.heap.size := by omega
  have HBf := Lib.hid ((HBw.out.trans ((HT.out.below (B := w.heap.size) (Nat.le_of_lt hRb) (fun x hx => by simp at hx; omega)))).trans (HBs.out.mono (Nat.le_of_lt hRw)))
  clear HT HBs HBw
  have HE := Lib.hid (ended_any B ws g l14 0 b14 HR.out)
  obtain ⟨ok, hok⟩ : ∃ ok, (!b14 && decide (l14 = [])) = ok := ⟨_, rfl⟩
  rw [hok] at HE
  have HOk := Lib.hid hok
  clear hok HR
  cases ok with
  | false =>
    have HS := Lib.hid (setRow_heap ws w.heap.size #[.string ⟨#[]⟩, .int .u64 0, .int .i64 0, .int .i64 0, .string ⟨#[]⟩, .int .u64 0, .string ⟨#[]⟩, .string ⟨#[]⟩, .string ⟨#[]⟩, .string ⟨#[]⟩, .slice none 0 0, .slice none 0 0, .slice none 0 0, .slice none 0 0] #[.string ⟨#[]⟩, .int .u64 0, .int .i64 0, .int .i64 0, .string ⟨#[]⟩, .int .u64 0, .string ⟨#[]⟩, .string ⟨#[]⟩, .string ⟨#[]⟩, .string ⟨#[]⟩, .slice none 0 0, .slice none 0 0, .slice none 0 0, .slice none 0 0] 54 (0, 0) HX.out)
    have HBz := Lib.hid (below_setRow HBf.out (Nat.le_refl _) #[.string ⟨#[]⟩, .int .u64 0, .int .i64 0, .int .i64 0, .string ⟨#[]⟩, .int .u64 0, .string ⟨#[]⟩, .string ⟨#[]⟩, .string ⟨#[]⟩, .string ⟨#[]⟩, .slice none 0 0, .slice none 0 0, .slice none 0 0, .slice none 0 0])
    go_wp2_with (go_at_call 49; go_must (refine HE.out.mono ?_))
    rintro e wx ⟨rfl, rfl⟩
    go_upto_region 4 with fail
    iterate 5 go_step
    refine wp_store_row 54 _ _ rfl w.heap.size #[.string ⟨#[]⟩, .int .u64 0, .int .i64 0, .int .i64 0, .string ⟨#[]⟩, .int .u64 0, .string ⟨#[]⟩, .string ⟨#[]⟩, .string ⟨#[]⟩, .string ⟨#[]⟩, .slice none 0 0, .slice none 0 0, .slice none 0 0, .slice none 0 0] rfl rfl 54 #[.string ⟨#[]⟩, .int .u64 0, .int .i64 0, .int .i64 0, .string ⟨#[]⟩, .int .u64 0, .string ⟨#[]⟩, .string ⟨#[]⟩, .string ⟨#[]⟩, .string ⟨#[]⟩, .slice none 0 0, .slice none 0 0, .slice none 0 0, .slice none 0 0] HX.out (by kernel_rfl) rfl (by kernel_rfl) ?_
    go_wp2
    have hl := run_loadVar_row (P := Tryz.prog) _ w.heap.size _ 54 _ _ _ HS.out Tryz.underlying54 rfl (by kernel_rfl)
    refine bodyPost_ret (v := .tuple #[.agg #[.string ⟨#[]⟩, .int .u64 0, .int .i64 0, .int .i64 0, .string ⟨#[]⟩, .int .u64 0, .string ⟨#[]⟩, .string ⟨#[]⟩, .string ⟨#[]⟩, .string ⟨#[]⟩, .slice none 0 0, .slice none 0 0, .slice none 0 0, .slice none 0 0], .int .i64 9]) ?_ rfl ⟨HBz.out, .inl ⟨?_, rfl⟩⟩
    · simp [results, Tryz.results12, asAddr, hl]
    · rw [HRd.out, ← HRes.out]
      have hok := HOk.out
      rw [if_neg]
      rintro ⟨h1, h2⟩
      dsimp only at h1 h2
      subst h1
      subst h2
      cases hok
  | true =>
    have HS := Lib.hid (setRow_heap ws w.heap.size #[.string ⟨#[]⟩, .int .u64 0, .int .i64 0, .int .i64 0, .string ⟨#[]⟩, .int .u64 0, .string ⟨#[]⟩, .string ⟨#[]⟩, .string ⟨#[]⟩, .string ⟨#[]⟩, .slice none 0 0, .slice none 0 0, .slice none 0 0, .slice none 0 0] #[.string x1, .int .u64 (x2 : Int), .int .i64 x3, .int .i64 x4, .string x5, .int .u64 (x6 : Int), .string x7, .string x8, .string x9, .string x10, .slice a11 x11.length c11, .slice a12 x12.length c12, .slice a13 x13.length c13, .slice a14 x14.length c14] 54 (0, 0) HX.out)
    have HBz := Lib.hid (below_setRow HBf.out (Nat.le_refl _) #[.string x1, .int .u64 (x2 : Int), .int .i64 x3, .int .i64 x4, .string x5, .int .u64 (x6 : Int), .string x7, .string x8, .string x9, .string x10, .slice a11 x11.length c11, .slice a12 x12.length c12, .slice a13 x13.length c13, .slice a14 x14.length c14])
    have HTz := Lib.hid (show Touch ws (ws.setRow w.heap.size #[.string x1, .int .u64 (x2 : Int), .int .i64 x3, .int .i64 x4, .string x5, .int .u64 (x6 : Int), .string x7, .string x8, .string x9, .string x10, .slice a11 x11.length c11, .slice a12 x12.length c12, .slice a13 x13.length c13, .slice a14 x14.length c14]) [w.heap.size] from ⟨rfl, rfl, rfl, Nat.le_of_eq (setRow_size _ _ _).symm, fun k _ hk => setRow_other _ _ _ _ (by simpa using hk)⟩)
    go_wp2_with (go_at_call 49; go_must (refine HE.out.mono ?_))
    rintro e wx ⟨rfl, rfl⟩
    go_upto_region 5 with fail
    go_step
    go_step
    refine wp_load_row 54 _ rfl N rfl 54 #[.string x1, .int .u64 (x2 : Int), .int .i64 x3, .int .i64 x4, .string x5, .int .u64 (x6 : Int), .string x7, .string x8, .string x9, .string x10, .slice a11 x11.length c11, .slice a12 x12.length c12, .slice a13 x13.length c13, .slice a14 x14.length c14] (0, 0) _ HN.out Tryz.underlying54 rfl (by kernel_rfl) ?_
    go_step
    go_step
    refine wp_store_row 54 _ _ rfl w.heap.size #[.string x1, .int .u64 (x2 : Int), .int .i64 x3, .int .i64 x4, .string x5, .int .u64 (x6 : Int), .string x7, .string x8, .string x9, .string x10, .slice a11 x11.length c11, .slice a12 x12.length c12, .slice a13 x13.length c13, .slice a14 x14.length c14] rfl rfl 54 #[.string ⟨#[]⟩, .int .u64 0, .int .i64 0, .int .i64 0, .string ⟨#[]⟩, .int .u64 0, .string ⟨#[]⟩, .string ⟨#[]⟩, .string ⟨#[]⟩, .string ⟨#[]⟩, .slice none 0 0, .slice none 0 0, .slice none 0 0, .slice none 0 0] HX.out (by kernel_rfl) rfl (by kernel_rfl) ?_
    go_wp2
    have hl := run_loadVar_row (P := Tryz.prog) _ w.heap.size _ 54 _ _ _ HS.out Tryz.underlying54 rfl (by kernel_rfl)
    refine bodyPost_ret (v := .tuple #[.agg #[.string x1, .int .u64 (x2 : Int), .int .i64 x3, .int .i64 x4, .string x5, .int .u64 (x6 : Int), .string x7, .string x8, .string x9, .string x10, .slice a11 x11.length c11, .slice a12 x12.length c12, .slice a13 x13.length c13, .slice a14 x14.length c14], .int .i64 0]) ?_ rfl ⟨HBz.out, .inr ⟨⟨x1, x2, x3, x4, x5, x6, x7, x8, x9, x10, x11, x12, x13, x14⟩, .slice a11 x11.length c11, .slice a12 x12.length c12, .slice a13 x13.length c13, .slice a14 x14.length c14, ?_, rfl, ?_⟩⟩
    · simp [results, Tryz.results12, asAddr, hl]
    · rw [HRd.out, ← HRes.out]
      have hok := HOk.out
      rw [Bool.and_eq_true, Bool.not_eq_true', decide_eq_true_eq] at hok
      rw [if_pos hok]
    · exact ⟨ownsRow_base (Touch.owns HO11.out HTz.out hRb) (Nat.le_of_lt hRb), ownsRow_base (Touch.owns HO12.out HTz.out hRb) (Nat.le_of_lt hRb), ownsRow_base (Touch.owns HO13.out HTz.out hRb) (Nat.le_of_lt hRb), ownsRow_base (Touch.owns HO14.out HTz.out hRb) (Nat.le_of_lt hRb)⟩
end Go.Proofs.YtdonibkkdhokpaaGreat
