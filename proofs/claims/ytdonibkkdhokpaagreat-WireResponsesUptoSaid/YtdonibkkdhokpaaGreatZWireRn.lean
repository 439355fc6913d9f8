/- sentryref37.rule, node (written by gen_wirern.py). -/
import Derived.Test.YtdonibkkdhokpaaGreatZWireWu
import Derived.Test.YtdonibkkdhokpaaGreatZWireRq
namespace Go.Proofs.YtdonibkkdhokpaaGreat
open Go Go.RowKit

def RfRel {α : Type} (f : α → List UInt8) (B : Nat) (w : World) (p : List UInt8) (xs : List α) (bv iv : Value) (wr : World) : Prop :=
  ∃ i : Nat, iv = .int .i64 (i : Int) ∧ i ≤ xs.length ∧ wr.ownsRow B 5 1 bv (p ++ (xs.take i).flatMap f).length (bcells (p ++ (xs.take i).flatMap f)) ∧ Below B w wr

theorem rsub_t3r (w : World) (v : Value) (L : List UInt8) (t : T3) (h : Reads w 1 v L.length (bcells L)) (hl : L.length + (t3B t).length ≤ 1000000000) :
    Calls Tryz.prog 56 #[v, .agg #[.string t.a, .string t.b, .string t.c]] w (GivesOwn w (L ++ t3B t)) := rsub_any w v L t.a t.b t.c h hl

def RRefRu (n : Nat) : Prop := ∀ (h : RuH) (ps : List (Tr RuH)), (Tr.mk h ps).depth ≤ n → (Tr.mk h ps).all ruIn → ∀ (w : World) (v : Value) (L : List UInt8) (a : Option Addr) (cap : Nat), Reads w 1 v L.length (bcells L) → ps.length ≤ cap → cap ≤ maxLen → TrsAt ruHd (· < w.heap.size) 4 w a 0 ps → L.length + ((Tr.mk h ps).bytes ruB).length ≤ 1000000000 →
  Calls Tryz.prog 57 #[v, .agg #[.int .i64 h.kind, .string h.a, .string h.b, .slice a ps.length cap]] w (GivesOwn w (L ++ (Tr.mk h ps).bytes ruB))

set_option maxRecDepth 100000 in
set_option maxHeartbeats 8000000 in
theorem refrule_ok : ∀ n : Nat, RRefRu n
  | 0 => fun h ps hd => by rw [Tr.depth_mk] at hd; omega
  | n + 1 => by
    have ih := refrule_ok n
    intro h ps hd hal w v L a cap hL hcap hcm hr hl
    rw [Tr.depth_mk] at hd
    obtain ⟨hin, hals⟩ := (Tr.all_mk _ _ _).1 hal
    have hps : ∀ p ∈ ps, p.depth ≤ n ∧ p.all ruIn := fun p hp => ⟨(Tr.depthL_le ps).1 (by omega) p hp, hals p hp⟩
    obtain ⟨f, hf⟩ : ∃ f, Tr.bytes ruB = f := ⟨_, rfl⟩
    have heq : L ++ (Tr.mk h ps).bytes ruB = L ++ enc (zig h.kind) ++ txts [h.a, h.b] ++ enc ps.length ++ ps.flatMap f := by
      rw [Tr.bytes_mk, hf]
      simp [ruB, listB, txts]
    have hlen := congrArg List.length heq
    simp only [List.length_append] at hlen hl
    have hpsl : ps.length ≤ 1000000000 := by
      have := flat_many (Tr.bytes ruB) (Tr.bytes_pos ruB) ps
      rw [hf] at this
      omega
    rw [heq]
    obtain ⟨p1, hp1⟩ : ∃ z, L ++ enc (zig h.kind) = z := ⟨_, rfl⟩
    rw [hp1]
    have hz1 : p1.length = L.length + (enc (zig h.kind)).length := by rw [← hp1, List.length_append]
    have Hp1 := Lib.hid hp1
    obtain ⟨p2, hp2⟩ : ∃ z, p1 ++ txts [h.a, h.b] = z := ⟨_, rfl⟩
    rw [hp2]
    have hz2 : p2.length = p1.length + (txts [h.a, h.b]).length := by rw [← hp2, List.length_append]
    have Hp2 := Lib.hid hp2
    obtain ⟨p3, hp3⟩ : ∃ z, p2 ++ enc ps.length = z := ⟨_, rfl⟩
    rw [hp3]
    have hz3 : p3.length = p2.length + (enc ps.length).length := by rw [← hp3, List.length_append]
    have Hp3 := Lib.hid hp3
    obtain ⟨FIN, hF⟩ : ∃ F, p3 ++ ps.flatMap f = F := ⟨_, rfl⟩
    rw [hF]
    have HF := Lib.hid hF
    have Hf := Lib.hid hf
    have HIh := Lib.hid ih
    have HPs := Lib.hid hps
    have HL := Lib.hid hL
    have HT := Lib.hid (fun (W : World) (k : Below w.heap.size w W) => TrsAt.keep (Keeps.of_below k) (ruHd_keep (Keeps.of_below k)) ps hr)
    have hb0 : Below w.heap.size w (w.alloc (.cells #[.int .i64 h.kind, .string h.a, .string h.b, .slice a ps.length cap] 71)) := (Below.refl _ _).alloc (Nat.le_refl _) _
    have HX := Lib.hid (heap_alloc_new w (.cells #[.int .i64 h.kind, .string h.a, .string h.b, .slice a ps.length cap] 71))
    have HB := Lib.hid hb0
    clear hL hr hb0 hF hf ih hps hals hal hd heq hp1 hp2 hp3
    go_enter Tryz.func57, Tryz.ntmps57
    go_upto_region 1 with fail
    obtain ⟨gx, hgxe⟩ : ∃ gx, w.heap.size = gx := ⟨_, rfl⟩
    have HGe := Lib.hid hgxe
    rw [hgxe] at HX
    rw [hgxe]
    generalize w.alloc (.cells #[.int .i64 h.kind, .string h.a, .string h.b, .slice a ps.length cap] 71) = w0 at *
    clear hgxe
    have k0 := Lib.cell_of_heap HX.out 0
    have k1 := Lib.cell_of_heap HX.out 1
    have k2 := Lib.cell_of_heap HX.out 2
    have k3 := Lib.cell_of_heap HX.out 3
    simp at k0 k1 k2 k3
    have hgx := (Array.getElem?_eq_some_iff.1 HX.out).1
    refine wp_region_last (l := [_, _, _, _, _, _, _, _, _, _, _, _, _, _]) (by kernel_rfl) [eqF (v), eqF (.pointer (some ⟨gx, 0, none⟩)), eqF (.int .i64 h.kind), ownsF w.heap.size 5 1 p1.length (bcells p1), eqF (.pointer (some ⟨gx, 1, none⟩)), eqF (.string h.a), eqF (.pointer (some ⟨gx, 2, none⟩)), eqF (.string h.b), litF 9 #[.string h.a, .string h.b] 2, ownsF w.heap.size 5 1 p2.length (bcells p2), eqF (.pointer (some ⟨gx, 3, none⟩)), eqF (.slice a ps.length cap), eqF (.int .i64 (ps.length : Int)), ownsF w.heap.size 5 1 p3.length (bcells p3)] (by kernel_rfl) (by kernel_rfl) (by kernel_rfl) ⟨?_, ?_, ?_, ?_, ?_, ?_, ?_, ?_, ?_, ?_, ?_, ?_, ?_, ?_, trivial⟩ ?_
    · intro ρ wx hρ hbx hl
      have e0 : ρ (.tmp 0) = v := hρ.tmp 0 (by decide +kernel)
      refine y_val (v := v) ?_ rfl
      simp [execOp, go_sem, e0]
    · intro ρ wx hρ hbx hl
      have e3 : ρ (.tmp 3) = .pointer (some ⟨gx, 0, none⟩) := hρ.tmp 3 (by decide +kernel)
      refine y_val (v := .pointer (some ⟨gx, 0, none⟩)) ?_ rfl
      simp [execOp, go_sem, e3]
    · intro ρ wx hρ hbx hl
      have e8 : ρ (.tmp 8) = .pointer (some ⟨gx, 0, none⟩) := hl 1 (by decide +kernel) 8 rfl
      have kk := (hbx.cell (hgx)).trans k0
      refine y_val (v := .int .i64 h.kind) ?_ rfl
      simp [execOp, go_sem, e8, kk]
    · intro ρ wx hρ hbx hl
      have e7 : ρ (.tmp 7) = v := hl 0 (by decide +kernel) 7 rfl
      have e9 : ρ (.tmp 9) = .int .i64 h.kind := hl 2 (by decide +kernel) 9 rfl
      refine y_call (f := 50) (args := #[v, .int .i64 h.kind]) (by simp [execOp, resolve, invoke, hρ.func, go_sem, e7, e9]) ?_
      refine (rwhole_any wx v L h.kind (HL.out.below' (HB.out.trans (hbx.mono HB.out.size))) hin (by omega)).mono ?_
      rintro e w6 ⟨v7, rfl, f7, b7⟩
      rw [Hp1.out] at f7
      exact ⟨v7, rfl, owns_less f7 (Nat.le_trans HB.out.size hbx.size), b7⟩
    · intro ρ wx hρ hbx hl
      have e3 : ρ (.tmp 3) = .pointer (some ⟨gx, 0, none⟩) := hρ.tmp 3 (by decide +kernel)
      refine y_val (v := .pointer (some ⟨gx, 1, none⟩)) ?_ rfl
      simp [execOp, go_sem, e3]
    · intro ρ wx hρ hbx hl
      have e11 : ρ (.tmp 11) = .pointer (some ⟨gx, 1, none⟩) := hl 4 (by decide +kernel) 11 rfl
      have kk := (hbx.cell (hgx)).trans k1
      refine y_val (v := .string h.a) ?_ rfl
      simp [execOp, go_sem, e11, kk]
    · intro ρ wx hρ hbx hl
      have e3 : ρ (.tmp 3) = .pointer (some ⟨gx, 0, none⟩) := hρ.tmp 3 (by decide +kernel)
      refine y_val (v := .pointer (some ⟨gx, 2, none⟩)) ?_ rfl
      simp [execOp, go_sem, e3]
    · intro ρ wx hρ hbx hl
      have e13 : ρ (.tmp 13) = .pointer (some ⟨gx, 2, none⟩) := hl 6 (by decide +kernel) 13 rfl
      have kk := (hbx.cell (hgx)).trans k2
      refine y_val (v := .string h.b) ?_ rfl
      simp [execOp, go_sem, e13, kk]
    · intro ρ wx hρ hbx hl
      have e12 : ρ (.tmp 12) = .string h.a := hl 5 (by decide +kernel) 12 rfl
      have e14 : ρ (.tmp 14) = .string h.b := hl 7 (by decide +kernel) 14 rfl
      refine y_litF ?_
      simp [execOp, go_sem, e12, e14]
    · intro ρ wx hρ hbx hl
      have e10 := hl 3 (by decide +kernel) 10 rfl
      have e15 := hl 8 (by decide +kernel) 15 rfl
      obtain ⟨g1, h1, hg1⟩ := e15
      refine y_call (f := 52) (args := #[ρ (.tmp 10), .slice (some ⟨g1, 0, none⟩) 2 2]) (by simp [execOp, resolve, invoke, hρ.func, go_sem, h1]) ?_
      refine (rtexts_any wx _ p1 g1 2 [h.a, h.b] (ownsRow.reads e10) hg1 rfl (by decide) (by decide) (by omega)).mono ?_
      rintro e w6 ⟨v7, rfl, f7, b7⟩
      rw [Hp2.out] at f7
      exact ⟨v7, rfl, owns_less f7 (Nat.le_trans HB.out.size hbx.size), b7⟩
    · intro ρ wx hρ hbx hl
      have e3 : ρ (.tmp 3) = .pointer (some ⟨gx, 0, none⟩) := hρ.tmp 3 (by decide +kernel)
      refine y_val (v := .pointer (some ⟨gx, 3, none⟩)) ?_ rfl
      simp [execOp, go_sem, e3]
    · intro ρ wx hρ hbx hl
      have e17 : ρ (.tmp 17) = .pointer (some ⟨gx, 3, none⟩) := hl 10 (by decide +kernel) 17 rfl
      have kk := (hbx.cell (hgx)).trans k3
      refine y_val (v := .slice a ps.length cap) ?_ rfl
      simp [execOp, go_sem, e17, kk]
    · intro ρ wx hρ hbx hl
      have e18 : ρ (.tmp 18) = .slice a ps.length cap := hl 11 (by decide +kernel) 18 rfl
      refine y_val (v := .int .i64 (ps.length : Int)) ?_ rfl
      simp [go_sem, e18]
    · intro ρ wx hρ hbx hl
      have e16 := hl 9 (by decide +kernel) 16 rfl
      have e19 : ρ (.tmp 19) = .int .i64 (ps.length : Int) := hl 12 (by decide +kernel) 19 rfl
      refine y_call (f := 53) (args := #[ρ (.tmp 16), .int .i64 (ps.length : Int)]) (by simp [execOp, resolve, invoke, hρ.func, go_sem, e19]) ?_
      refine (rmany_any wx _ p2 ps.length (ownsRow.reads e16) (by omega) (by omega)).mono ?_
      rintro e w6 ⟨v7, rfl, f7, b7⟩
      rw [Hp3.out] at f7
      exact ⟨v7, rfl, owns_less f7 (Nat.le_trans HB.out.size hbx.size), b7⟩
    intro aa w1 hdef hsz hlk hbz hf
    have ha := act_of_like hdef hsz hlk [7, 8, 9, 10, 11, 12, 13, 14, 15, 16, 17, 18, 19, 20] 33 rfl (by decide +kernel)
    have e7 : aa.tmps.getD 7 undef = v := hf 0 _ 7 rfl rfl
    have e8 : aa.tmps.getD 8 undef = .pointer (some ⟨gx, 0, none⟩) := hf 1 _ 8 rfl rfl
    have e9 : aa.tmps.getD 9 undef = .int .i64 h.kind := hf 2 _ 9 rfl rfl
    have e11 : aa.tmps.getD 11 undef = .pointer (some ⟨gx, 1, none⟩) := hf 4 _ 11 rfl rfl
    have e12 : aa.tmps.getD 12 undef = .string h.a := hf 5 _ 12 rfl rfl
    have e13 : aa.tmps.getD 13 undef = .pointer (some ⟨gx, 2, none⟩) := hf 6 _ 13 rfl rfl
    have e14 : aa.tmps.getD 14 undef = .string h.b := hf 7 _ 14 rfl rfl
    have e17 : aa.tmps.getD 17 undef = .pointer (some ⟨gx, 3, none⟩) := hf 10 _ 17 rfl rfl
    have e18 : aa.tmps.getD 18 undef = .slice a ps.length cap := hf 11 _ 18 rfl rfl
    have e19 : aa.tmps.getD 19 undef = .int .i64 (ps.length : Int) := hf 12 _ 19 rfl rfl
    have e20 : (ownsF w.heap.size 5 1 p3.length (bcells p3)).1 (aa.tmps.getD 20 undef) w1 := hf 13 _ 20 rfl rfl
    generalize hv20 : aa.tmps.getD 20 undef = v20 at e20
    simp only [putAll, List.foldl_cons, List.foldl_nil, e7, e8, e9, e11, e12, e13, e14, e17, e18, e19, hv20] at ha
    generalize aa.tmps.getD 10 undef = v10 at ha
    generalize aa.tmps.getD 15 undef = v15 at ha
    generalize aa.tmps.getD 16 undef = v16 at ha
    simp [Act.put] at ha
    subst ha
    clear hdef hsz hlk hf e7 e8 e9 e11 e12 e13 e14 e17 e18 e19 hv20
    have HO := Lib.hid (show w1.ownsRow w.heap.size 5 1 v20 p3.length (bcells p3) from e20)
    have HX := Lib.hid ((hbz.block gx hgx).trans HX.out)
    have HB := Lib.hid (HB.out.trans (hbz.mono HB.out.size))
    clear e20 hbz k0 k1 k2 k3 hgx
    have k3 := Lib.cell_of_heap HX.out 3
    simp at k3
    have hgx := (Array.getElem?_eq_some_iff.1 HX.out).1
    have hcm2 : cap ≤ 9223372036854775807 := by unfold maxLen at hcm; omega
    go_wp2_with fail
    go_loopw [0, 24] (fun bv iv wr => RfRel f w.heap.size w p3 ps bv iv wr) (fun _ iv _ => ps.length - (intOf iv).toNat)
    case atStart => exact ⟨0, rfl, Nat.zero_le _, by simpa using HO.out, HB.out⟩
    case round =>
      obtain ⟨i, rfl, hin_, ho, hb⟩ := hrel
      by_cases hlt : i < ps.length
      · have hltI : (i : Int) < (ps.length : Nat) := by omega
        obtain ⟨x, hx⟩ : ∃ x, ps[i]? = some x := ⟨ps[i]'hlt, List.getElem?_eq_getElem _⟩
        have hxm := List.mem_of_getElem? hx
        obtain ⟨b, off, cs, rfl, hbB, hbl, hcl0, hcs, htr⟩ := (HT.out wr hb).get hx
        obtain ⟨xh, xp⟩ := x
        obtain ⟨xa, xcap, rfl, hxc1, hxc2, hxt⟩ := trRu_open htr
        clear hcl0 htr
        have d0 := hcs 0 _ rfl
        have d1 := hcs 1 _ rfl
        have d2 := hcs 2 _ rfl
        have d3 := hcs 3 _ rfl
        simp only [Nat.zero_add, Nat.add_zero] at d0 d1 d2 d3
        have hne := flat_next f hx
        have htk := flat_take f ps (i + 1)
        rw [hne, List.length_append] at htk
        obtain ⟨bv, hbv⟩ : ∃ bv, bv = u0 := ⟨_, rfl⟩
        obtain ⟨c, hc⟩ : ∃ c, p3 ++ (ps.take i).flatMap f = c := ⟨_, rfl⟩
        have hcl : c.length + (f (Tr.mk xh xp)).length ≤ 1000000000 := by rw [← hc, List.length_append]; omega
        have hfin : p3 ++ (ps.take (i + 1)).flatMap f = c ++ f (Tr.mk xh xp) := by rw [hne, ← hc, List.append_assoc]
        rw [hc, ← hbv] at ho
        rw [← hbv]
        clear hbv
        have hba : Below wr.heap.size wr (wr.alloc (.cells #[.int .i64 xh.kind, .string xh.a, .string xh.b, .slice xa xp.length xcap] 71)) := (Below.refl _ _).alloc (Nat.le_refl _) _
        have hbz := hb.trans (hba.mono hb.size)
        have HBx := Lib.hid (show (wr.alloc (.cells #[.int .i64 xh.kind, .string xh.a, .string xh.b, .slice xa xp.length xcap] 71)).heap[wr.heap.size]? = some (.cells #[.int .i64 xh.kind, .string xh.a, .string xh.b, .slice xa xp.length xcap] 71 (0, 0)) from heap_alloc_new _ _)
        have HB2 := Lib.hid hbz
        have HO2 := Lib.hid (owns_below ho hba)
        have HFn := Lib.hid hfin
        have hkk : Keeps (· < w.heap.size) wr (wr.alloc (.cells #[.int .i64 xh.kind, .string xh.a, .string xh.b, .slice xa xp.length xcap] 71)) := Keeps.of_below_size hba
        have hmo : ∀ x, x < (wr.alloc (.cells #[.int .i64 xh.kind, .string xh.a, .string xh.b, .slice xa xp.length xcap] 71)).heap.size → x < w.heap.size → x < (wr.alloc (.cells #[.int .i64 xh.kind, .string xh.a, .string xh.b, .slice xa xp.length xcap] 71)).heap.size := fun _ h _ => h
        have HXt := Lib.hid (TrsAt.mono hmo (ruHd_mono hmo) xp (TrsAt.keep hkk (ruHd_keep hkk) xp hxt))
        have HIt := Lib.hid (HIh.out xh xp (HPs.out _ hxm).1 (HPs.out _ hxm).2)
        have hcl2 := hcl
        clear ho hb hba hbz hfin hne htk hx hc hcs hcl HO HX HB hkk hmo hxt
        go_upto_region 5 with fail
        generalize (wr.alloc (.cells #[.int .i64 xh.kind, .string xh.a, .string xh.b, .slice xa xp.length xcap] 71)) = w2 at *
        clear d0 d1 d2 d3
        have d0 := Lib.cell_of_heap HBx.out 0
        have d1 := Lib.cell_of_heap HBx.out 1
        have d2 := Lib.cell_of_heap HBx.out 2
        have d3 := Lib.cell_of_heap HBx.out 3
        simp at d0 d1 d2 d3
        have hdl : wr.heap.size < w2.heap.size := (Array.getElem?_eq_some_iff.1 HBx.out).1
        have hC := HIt.out w2 bv c xa xcap (ownsRow.reads HO2.out) hxc1 hxc2 HXt.out (by rw [Hf.out]; omega)
        rw [Hf.out] at hC
        have HC := Lib.hid hC
        clear hC
        go_wp2_with (go_at_call 57; go_must (refine HC.out.mono ?_))
        rintro e w3 ⟨v3, rfl, o3, b3⟩
        have HO3 := Lib.hid (owns_less o3 HB2.out.size)
        have HB3 := Lib.hid (HB2.out.trans (b3.mono HB2.out.size))
        clear o3 b3 HC d0 d1 d2 d3 hdl
        go_wp2
        exact ⟨⟨i + 1, by go_num, by omega, by rw [HFn.out]; exact HO3.out, HB3.out⟩, by simp [intOf]; omega⟩
      · obtain rfl : ps.length = i := by omega
        have hltI : ¬ ((ps.length : Nat) : Int) < (ps.length : Nat) := by omega
        rw [List.take_of_length_le (Nat.le_refl _), HF.out] at ho
        have HO := Lib.hid ho
        have HB := Lib.hid hb
        clear ho hb
        go_wp2
        go_ret
        exact ⟨_, rfl, HO.out, HB.out⟩

def RRefNo (n : Nat) : Prop := ∀ (h : NoH) (ps : List (Tr NoH)), (Tr.mk h ps).depth ≤ n → (Tr.mk h ps).all noIn → ∀ (w : World) (v : Value) (L : List UInt8) (a : Option Addr) (cap : Nat) (sa : Option Addr) (sc : Nat), Reads w 1 v L.length (bcells L) → ps.length ≤ cap → cap ≤ maxLen → TrsAt noHd (· < w.heap.size) 6 w a 0 ps → RowsAt (· < w.heap.size) w (.slice sa h.subs.length sc) h.subs.length (h.subs.flatMap T3.cells) → L.length + ((Tr.mk h ps).bytes noB).length ≤ 1000000000 →
  Calls Tryz.prog 59 #[v, .agg #[.int .i64 h.kind, .string h.o, .string h.i, .string h.rel, .slice sa h.subs.length sc, .slice a ps.length cap]] w (GivesOwn w (L ++ (Tr.mk h ps).bytes noB))

set_option maxRecDepth 100000 in
set_option maxHeartbeats 8000000 in
theorem refnode_ok : ∀ n : Nat, RRefNo n
  | 0 => fun h ps hd => by rw [Tr.depth_mk] at hd; omega
  | n + 1 => by
    have ih := refnode_ok n
    intro h ps hd hal w v L a cap sa sc hL hcap hcm hr hrw hl
    rw [Tr.depth_mk] at hd
    obtain ⟨hin, hals⟩ := (Tr.all_mk _ _ _).1 hal
    have hps : ∀ p ∈ ps, p.depth ≤ n ∧ p.all noIn := fun p hp => ⟨(Tr.depthL_le ps).1 (by omega) p hp, hals p hp⟩
    obtain ⟨f, hf⟩ : ∃ f, Tr.bytes noB = f := ⟨_, rfl⟩
    have heq : L ++ (Tr.mk h ps).bytes noB = L ++ enc (zig h.kind) ++ txts [h.o, h.i, h.rel] ++ enc h.subs.length ++ h.subs.flatMap t3B ++ enc ps.length ++ ps.flatMap f := by
      rw [Tr.bytes_mk, hf]
      simp [noB, listB, txts]
    have hlen := congrArg List.length heq
    simp only [List.length_append] at hlen hl
    have hpsl : ps.length ≤ 1000000000 := by
      have := flat_many (Tr.bytes noB) (Tr.bytes_pos noB) ps
      rw [hf] at this
      omega
    rw [heq]
    obtain ⟨p1, hp1⟩ : ∃ z, L ++ enc (zig h.kind) = z := ⟨_, rfl⟩
    rw [hp1]
    have hz1 : p1.length = L.length + (enc (zig h.kind)).length := by rw [← hp1, List.length_append]
    have Hp1 := Lib.hid hp1
    obtain ⟨p2, hp2⟩ : ∃ z, p1 ++ txts [h.o, h.i, h.rel] = z := ⟨_, rfl⟩
    rw [hp2]
    have hz2 : p2.length = p1.length + (txts [h.o, h.i, h.rel]).length := by rw [← hp2, List.length_append]
    have Hp2 := Lib.hid hp2
    obtain ⟨p3, hp3⟩ : ∃ z, p2 ++ enc h.subs.length = z := ⟨_, rfl⟩
    rw [hp3]
    have hz3 : p3.length = p2.length + (enc h.subs.length).length := by rw [← hp3, List.length_append]
    have Hp3 := Lib.hid hp3
    obtain ⟨p4, hp4⟩ : ∃ z, p3 ++ h.subs.flatMap t3B = z := ⟨_, rfl⟩
    rw [hp4]
    have hz4 : p4.length = p3.length + (h.subs.flatMap t3B).length := by rw [← hp4, List.length_append]
    have Hp4 := Lib.hid hp4
    obtain ⟨p5, hp5⟩ : ∃ z, p4 ++ enc ps.length = z := ⟨_, rfl⟩
    rw [hp5]
    have hz5 : p5.length = p4.length + (enc ps.length).length := by rw [← hp5, List.length_append]
    have Hp5 := Lib.hid hp5
    obtain ⟨FIN, hF⟩ : ∃ F, p5 ++ ps.flatMap f = F := ⟨_, rfl⟩
    rw [hF]
    have HF := Lib.hid hF
    have Hf := Lib.hid hf
    have HIh := Lib.hid ih
    have HPs := Lib.hid hps
    have HL := Lib.hid hL
    have HT := Lib.hid (fun (W : World) (k : Below w.heap.size w W) => TrsAt.keep (Keeps.of_below k) (noHd_keep (Keeps.of_below k)) ps hr)
    have HS := Lib.hid (fun (W : World) (k : Below w.heap.size w W) => (hrw.keep (Keeps.of_below k)).reads (flat_len3 h.subs))
    have hsl : h.subs.length ≤ 20000000 := hin.2
    have hb0 : Below w.heap.size w (w.alloc (.cells #[.int .i64 h.kind, .string h.o, .string h.i, .string h.rel, .slice sa h.subs.length sc, .slice a ps.length cap] 34)) := (Below.refl _ _).alloc (Nat.le_refl _) _
    have HX := Lib.hid (heap_alloc_new w (.cells #[.int .i64 h.kind, .string h.o, .string h.i, .string h.rel, .slice sa h.subs.length sc, .slice a ps.length cap] 34))
    have HB := Lib.hid hb0
    clear hL hr hb0 hF hf ih hps hals hal hd heq hrw hp1 hp2 hp3 hp4 hp5
    go_enter Tryz.func59, Tryz.ntmps59
    go_upto_region 1 with fail
    obtain ⟨gx, hgxe⟩ : ∃ gx, w.heap.size = gx := ⟨_, rfl⟩
    have HGe := Lib.hid hgxe
    rw [hgxe] at HX
    rw [hgxe]
    generalize w.alloc (.cells #[.int .i64 h.kind, .string h.o, .string h.i, .string h.rel, .slice sa h.subs.length sc, .slice a ps.length cap] 34) = w0 at *
    clear hgxe
    have k0 := Lib.cell_of_heap HX.out 0
    have k1 := Lib.cell_of_heap HX.out 1
    have k2 := Lib.cell_of_heap HX.out 2
    have k3 := Lib.cell_of_heap HX.out 3
    have k4 := Lib.cell_of_heap HX.out 4
    simp at k0 k1 k2 k3 k4
    have hgx := (Array.getElem?_eq_some_iff.1 HX.out).1
    refine wp_region_last (l := [_, _, _, _, _, _, _, _, _, _, _, _, _, _, _, _, _, _]) (by kernel_rfl) [eqF (v), eqF (.pointer (some ⟨gx, 0, none⟩)), eqF (.int .i64 h.kind), ownsF w.heap.size 5 1 p1.length (bcells p1), eqF (.pointer (some ⟨gx, 1, none⟩)), eqF (.pointer (some ⟨gx, 1, none⟩)), eqF (.string h.o), eqF (.pointer (some ⟨gx, 1, none⟩)), eqF (.pointer (some ⟨gx, 2, none⟩)), eqF (.string h.i), eqF (.pointer (some ⟨gx, 3, none⟩)), eqF (.string h.rel), litF 9 #[.string h.o, .string h.i, .string h.rel] 3, ownsF w.heap.size 5 1 p2.length (bcells p2), eqF (.pointer (some ⟨gx, 4, none⟩)), eqF (.slice sa h.subs.length sc), eqF (.int .i64 (h.subs.length : Int)), ownsF w.heap.size 5 1 p3.length (bcells p3)] (by kernel_rfl) (by kernel_rfl) (by kernel_rfl) ⟨?_, ?_, ?_, ?_, ?_, ?_, ?_, ?_, ?_, ?_, ?_, ?_, ?_, ?_, ?_, ?_, ?_, ?_, trivial⟩ ?_
    · intro ρ wx hρ hbx hl
      have e0 : ρ (.tmp 0) = v := hρ.tmp 0 (by decide +kernel)
      refine y_val (v := v) ?_ rfl
      simp [execOp, go_sem, e0]
    · intro ρ wx hρ hbx hl
      have e3 : ρ (.tmp 3) = .pointer (some ⟨gx, 0, none⟩) := hρ.tmp 3 (by decide +kernel)
      refine y_val (v := .pointer (some ⟨gx, 0, none⟩)) ?_ rfl
      simp [execOp, go_sem, e3]
    · intro ρ wx hρ hbx hl
      have e10 : ρ (.tmp 10) = .pointer (some ⟨gx, 0, none⟩) := hl 1 (by decide +kernel) 10 rfl
      have kk := (hbx.cell (hgx)).trans k0
      refine y_val (v := .int .i64 h.kind) ?_ rfl
      simp [execOp, go_sem, e10, kk]
    · intro ρ wx hρ hbx hl
      have e9 : ρ (.tmp 9) = v := hl 0 (by decide +kernel) 9 rfl
      have e11 : ρ (.tmp 11) = .int .i64 h.kind := hl 2 (by decide +kernel) 11 rfl
      refine y_call (f := 50) (args := #[v, .int .i64 h.kind]) (by simp [execOp, resolve, invoke, hρ.func, go_sem, e9, e11]) ?_
      refine (rwhole_any wx v L h.kind (HL.out.below' (HB.out.trans (hbx.mono HB.out.size))) hin.1 (by omega)).mono ?_
      rintro e w6 ⟨v7, rfl, f7, b7⟩
      rw [Hp1.out] at f7
      exact ⟨v7, rfl, owns_less f7 (Nat.le_trans HB.out.size hbx.size), b7⟩
    · intro ρ wx hρ hbx hl
      have e3 : ρ (.tmp 3) = .pointer (some ⟨gx, 0, none⟩) := hρ.tmp 3 (by decide +kernel)
      refine y_val (v := .pointer (some ⟨gx, 1, none⟩)) ?_ rfl
      simp [execOp, go_sem, e3]
    · intro ρ wx hρ hbx hl
      have e13 : ρ (.tmp 13) = .pointer (some ⟨gx, 1, none⟩) := hl 4 (by decide +kernel) 13 rfl
      refine y_val (v := .pointer (some ⟨gx, 1, none⟩)) ?_ rfl
      simp [execOp, go_sem, e13]
    · intro ρ wx hρ hbx hl
      have e14 : ρ (.tmp 14) = .pointer (some ⟨gx, 1, none⟩) := hl 5 (by decide +kernel) 14 rfl
      have kk := (hbx.cell (hgx)).trans k1
      refine y_val (v := .string h.o) ?_ rfl
      simp [execOp, go_sem, e14, kk]
    · intro ρ wx hρ hbx hl
      have e3 : ρ (.tmp 3) = .pointer (some ⟨gx, 0, none⟩) := hρ.tmp 3 (by decide +kernel)
      refine y_val (v := .pointer (some ⟨gx, 1, none⟩)) ?_ rfl
      simp [execOp, go_sem, e3]
    · intro ρ wx hρ hbx hl
      have e16 : ρ (.tmp 16) = .pointer (some ⟨gx, 1, none⟩) := hl 7 (by decide +kernel) 16 rfl
      refine y_val (v := .pointer (some ⟨gx, 2, none⟩)) ?_ rfl
      simp [execOp, go_sem, e16]
    · intro ρ wx hρ hbx hl
      have e17 : ρ (.tmp 17) = .pointer (some ⟨gx, 2, none⟩) := hl 8 (by decide +kernel) 17 rfl
      have kk := (hbx.cell (hgx)).trans k2
      refine y_val (v := .string h.i) ?_ rfl
      simp [execOp, go_sem, e17, kk]
    · intro ρ wx hρ hbx hl
      have e3 : ρ (.tmp 3) = .pointer (some ⟨gx, 0, none⟩) := hρ.tmp 3 (by decide +kernel)
      refine y_val (v := .pointer (some ⟨gx, 3, none⟩)) ?_ rfl
      simp [execOp, go_sem, e3]
    · intro ρ wx hρ hbx hl
      have e19 : ρ (.tmp 19) = .pointer (some ⟨gx, 3, none⟩) := hl 10 (by decide +kernel) 19 rfl
      have kk := (hbx.cell (hgx)).trans k3
      refine y_val (v := .string h.rel) ?_ rfl
      simp [execOp, go_sem, e19, kk]
    · intro ρ wx hρ hbx hl
      have e15 : ρ (.tmp 15) = .string h.o := hl 6 (by decide +kernel) 15 rfl
      have e18 : ρ (.tmp 18) = .string h.i := hl 9 (by decide +kernel) 18 rfl
      have e20 : ρ (.tmp 20) = .string h.rel := hl 11 (by decide +kernel) 20 rfl
      refine y_litF ?_
      simp [execOp, go_sem, e15, e18, e20]
    · intro ρ wx hρ hbx hl
      have e12 := hl 3 (by decide +kernel) 12 rfl
      have e21 := hl 12 (by decide +kernel) 21 rfl
      obtain ⟨g1, h1, hg1⟩ := e21
      refine y_call (f := 52) (args := #[ρ (.tmp 12), .slice (some ⟨g1, 0, none⟩) 3 3]) (by simp [execOp, resolve, invoke, hρ.func, go_sem, h1]) ?_
      refine (rtexts_any wx _ p1 g1 3 [h.o, h.i, h.rel] (ownsRow.reads e12) hg1 rfl (by decide) (by decide) (by omega)).mono ?_
      rintro e w6 ⟨v7, rfl, f7, b7⟩
      rw [Hp2.out] at f7
      exact ⟨v7, rfl, owns_less f7 (Nat.le_trans HB.out.size hbx.size), b7⟩
    · intro ρ wx hρ hbx hl
      have e3 : ρ (.tmp 3) = .pointer (some ⟨gx, 0, none⟩) := hρ.tmp 3 (by decide +kernel)
      refine y_val (v := .pointer (some ⟨gx, 4, none⟩)) ?_ rfl
      simp [execOp, go_sem, e3]
    · intro ρ wx hρ hbx hl
      have e23 : ρ (.tmp 23) = .pointer (some ⟨gx, 4, none⟩) := hl 14 (by decide +kernel) 23 rfl
      have kk := (hbx.cell (hgx)).trans k4
      refine y_val (v := .slice sa h.subs.length sc) ?_ rfl
      simp [execOp, go_sem, e23, kk]
    · intro ρ wx hρ hbx hl
      have e24 : ρ (.tmp 24) = .slice sa h.subs.length sc := hl 15 (by decide +kernel) 24 rfl
      refine y_val (v := .int .i64 (h.subs.length : Int)) ?_ rfl
      simp [go_sem, e24]
    · intro ρ wx hρ hbx hl
      have e22 := hl 13 (by decide +kernel) 22 rfl
      have e25 : ρ (.tmp 25) = .int .i64 (h.subs.length : Int) := hl 16 (by decide +kernel) 25 rfl
      refine y_call (f := 53) (args := #[ρ (.tmp 22), .int .i64 (h.subs.length : Int)]) (by simp [execOp, resolve, invoke, hρ.func, go_sem, e25]) ?_
      refine (rmany_any wx _ p2 h.subs.length (ownsRow.reads e22) (by omega) (by omega)).mono ?_
      rintro e w6 ⟨v7, rfl, f7, b7⟩
      rw [Hp3.out] at f7
      exact ⟨v7, rfl, owns_less f7 (Nat.le_trans HB.out.size hbx.size), b7⟩
    intro aa w1 hdef hsz hlk hbz hf
    have ha := act_of_like hdef hsz hlk [9, 10, 11, 12, 13, 14, 15, 16, 17, 18, 19, 20, 21, 22, 23, 24, 25, 26] 55 rfl (by decide +kernel)
    have e9 : aa.tmps.getD 9 undef = v := hf 0 _ 9 rfl rfl
    have e10 : aa.tmps.getD 10 undef = .pointer (some ⟨gx, 0, none⟩) := hf 1 _ 10 rfl rfl
    have e11 : aa.tmps.getD 11 undef = .int .i64 h.kind := hf 2 _ 11 rfl rfl
    have e13 : aa.tmps.getD 13 undef = .pointer (some ⟨gx, 1, none⟩) := hf 4 _ 13 rfl rfl
    have e14 : aa.tmps.getD 14 undef = .pointer (some ⟨gx, 1, none⟩) := hf 5 _ 14 rfl rfl
    have e15 : aa.tmps.getD 15 undef = .string h.o := hf 6 _ 15 rfl rfl
    have e16 : aa.tmps.getD 16 undef = .pointer (some ⟨gx, 1, none⟩) := hf 7 _ 16 rfl rfl
    have e17 : aa.tmps.getD 17 undef = .pointer (some ⟨gx, 2, none⟩) := hf 8 _ 17 rfl rfl
    have e18 : aa.tmps.getD 18 undef = .string h.i := hf 9 _ 18 rfl rfl
    have e19 : aa.tmps.getD 19 undef = .pointer (some ⟨gx, 3, none⟩) := hf 10 _ 19 rfl rfl
    have e20 : aa.tmps.getD 20 undef = .string h.rel := hf 11 _ 20 rfl rfl
    have e23 : aa.tmps.getD 23 undef = .pointer (some ⟨gx, 4, none⟩) := hf 14 _ 23 rfl rfl
    have e24 : aa.tmps.getD 24 undef = .slice sa h.subs.length sc := hf 15 _ 24 rfl rfl
    have e25 : aa.tmps.getD 25 undef = .int .i64 (h.subs.length : Int) := hf 16 _ 25 rfl rfl
    have e26 : (ownsF w.heap.size 5 1 p3.length (bcells p3)).1 (aa.tmps.getD 26 undef) w1 := hf 17 _ 26 rfl rfl
    generalize hv26 : aa.tmps.getD 26 undef = v26 at e26
    simp only [putAll, List.foldl_cons, List.foldl_nil, e9, e10, e11, e13, e14, e15, e16, e17, e18, e19, e20, e23, e24, e25, hv26] at ha
    generalize aa.tmps.getD 12 undef = v12 at ha
    generalize aa.tmps.getD 21 undef = v21 at ha
    generalize aa.tmps.getD 22 undef = v22 at ha
    simp [Act.put] at ha
    subst ha
    clear hdef hsz hlk hf e9 e10 e11 e13 e14 e15 e16 e17 e18 e19 e20 e23 e24 e25 hv26
    have HO := Lib.hid (show w1.ownsRow w.heap.size 5 1 v26 p3.length (bcells p3) from e26)
    have HX := Lib.hid ((hbz.block gx hgx).trans HX.out)
    have HB := Lib.hid (HB.out.trans (hbz.mono HB.out.size))
    clear e26 hbz k0 k1 k2 k3 k4 hgx
    have k4 := Lib.cell_of_heap HX.out 4
    simp at k4
    have hgx := (Array.getElem?_eq_some_iff.1 HX.out).1
    have hsc : h.subs.length ≤ sc := by
      obtain ⟨_, _, hv, h1, _⟩ := (HS.out w (Below.refl _ _)).le
      cases hv
      exact h1
    go_wp2_with fail
    go_loopw [0, 30] (fun bv iv wr => RfRel t3B w.heap.size w p3 h.subs bv iv wr ∧ wr.heap[gx]? = some (.cells #[.int .i64 h.kind, .string h.o, .string h.i, .string h.rel, .slice sa h.subs.length sc, .slice a ps.length cap] 34 (0, 0))) (fun _ iv _ => h.subs.length - (intOf iv).toNat)
    case atStart => exact ⟨⟨0, rfl, Nat.zero_le _, by simpa using HO.out, HB.out⟩, HX.out⟩
    case round =>
      obtain ⟨⟨i, rfl, hin_, ho, hb⟩, hx0⟩ := hrel
      by_cases hlt : i < h.subs.length
      · have hltI : (i : Int) < (h.subs.length : Nat) := by omega
        obtain ⟨x, hx⟩ : ∃ x, h.subs[i]? = some x := ⟨h.subs[i]'hlt, List.getElem?_eq_getElem _⟩
        have hxm := List.mem_of_getElem? hx
        obtain ⟨b, off, rfl, hb2, hcs⟩ := rows_at T3.cells 3 (fun _ => rfl) (HS.out wr hb) hx (by decide)
        have d0 := hcs 0 _ rfl
        have d1 := hcs 1 _ rfl
        have d2 := hcs 2 _ rfl
        simp only [Nat.add_zero] at d0
        have hne := flat_next t3B hx
        have htk := flat_take t3B h.subs (i + 1)
        rw [hne, List.length_append] at htk
        obtain ⟨bv, hbv⟩ : ∃ bv, bv = u0 := ⟨_, rfl⟩
        obtain ⟨c, hc⟩ : ∃ c, p3 ++ (h.subs.take i).flatMap t3B = c := ⟨_, rfl⟩
        have hcl : c.length + (t3B x).length ≤ 1000000000 := by rw [← hc, List.length_append]; omega
        have hfin : p3 ++ (h.subs.take (i + 1)).flatMap t3B = c ++ t3B x := by rw [hne, ← hc, List.append_assoc]
        rw [hc, ← hbv] at ho
        rw [← hbv]
        clear hbv
        have hba : Below wr.heap.size wr (wr.alloc (.cells #[.string x.a, .string x.b, .string x.c] 60)) := (Below.refl _ _).alloc (Nat.le_refl _) _
        have hbz := hb.trans (hba.mono hb.size)
        have HBx := Lib.hid (show (wr.alloc (.cells #[.string x.a, .string x.b, .string x.c] 60)).heap[wr.heap.size]? = some (.cells #[.string x.a, .string x.b, .string x.c] 60 (0, 0)) from heap_alloc_new _ _)
        have HB2 := Lib.hid hbz
        have HO2 := Lib.hid (owns_below ho hba)
        have HFn := Lib.hid hfin
        have HXk := Lib.hid ((hba.block gx (Array.getElem?_eq_some_iff.1 hx0).1).trans hx0)
        have hcl2 := hcl
        clear ho hb hba hbz hfin hne htk hx hc hcs hcl HO HX HB hx0
        go_upto_region 5 with fail
        generalize (wr.alloc (.cells #[.string x.a, .string x.b, .string x.c] 60)) = w2 at *
        clear d0 d1 d2
        have d0 := Lib.cell_of_heap HBx.out 0
        have d1 := Lib.cell_of_heap HBx.out 1
        have d2 := Lib.cell_of_heap HBx.out 2
        simp at d0 d1 d2
        have hdl : wr.heap.size < w2.heap.size := (Array.getElem?_eq_some_iff.1 HBx.out).1
        have hC := rsub_t3r w2 bv c x (ownsRow.reads HO2.out) (by omega)
        have HC := Lib.hid hC
        clear hC
        go_wp2_with (go_at_call 56; go_must (refine HC.out.mono ?_))
        rintro e w3 ⟨v3, rfl, o3, b3⟩
        have HO3 := Lib.hid (owns_less o3 HB2.out.size)
        have HB3 := Lib.hid (HB2.out.trans (b3.mono HB2.out.size))
        have HXk := Lib.hid ((b3.block gx (Array.getElem?_eq_some_iff.1 HXk.out).1).trans HXk.out)
        clear o3 b3 HC d0 d1 d2 hdl
        go_wp2
        exact ⟨⟨⟨i + 1, by go_num, by omega, by rw [HFn.out]; exact HO3.out, HB3.out⟩, HXk.out⟩, by simp [intOf]; omega⟩
      · obtain rfl : h.subs.length = i := by omega
        have hltI : ¬ ((h.subs.length : Nat) : Int) < (h.subs.length : Nat) := by omega
        rw [List.take_of_length_le (Nat.le_refl _), Hp4.out] at ho
        have HO := Lib.hid ho
        have HX := Lib.hid hx0
        have HB := Lib.hid hb
        clear ho hb hx0
        have k5 := Lib.cell_of_heap HX.out 5
        simp at k5
        have hgx := (Array.getElem?_eq_some_iff.1 HX.out).1
        have hC := rmany_any wr u0 p4 ps.length (ownsRow.reads HO.out) (by omega) (by omega)
        rw [Hp5.out] at hC
        have HC := Lib.hid hC
        clear hC
        go_wp2_with (go_at_call 53; go_must (refine HC.out.mono ?_))
        rintro e w5 ⟨v5, rfl, o4, b4⟩
        have HX := Lib.hid ((b4.block gx hgx).trans HX.out)
        have HO := Lib.hid (owns_less o4 HB.out.size)
        have HB := Lib.hid (HB.out.trans (b4.mono HB.out.size))
        clear o4 b4 HC hgx k5
        have k5 := Lib.cell_of_heap HX.out 5
        simp at k5
        have hgx := (Array.getElem?_eq_some_iff.1 HX.out).1
        have hcm2 : cap ≤ 9223372036854775807 := by unfold maxLen at hcm; omega
        go_wp2_with fail
        go_loopw [0, 46] (fun bv iv wr => RfRel f w.heap.size w p5 ps bv iv wr) (fun _ iv _ => ps.length - (intOf iv).toNat)
        case atStart => exact ⟨0, rfl, Nat.zero_le _, by simpa using HO.out, HB.out⟩
        case round =>
          obtain ⟨i, rfl, hin_, ho, hb⟩ := hrel
          by_cases hlt : i < ps.length
          · have hltI : (i : Int) < (ps.length : Nat) := by omega
            obtain ⟨x, hx⟩ : ∃ x, ps[i]? = some x := ⟨ps[i]'hlt, List.getElem?_eq_getElem _⟩
            have hxm := List.mem_of_getElem? hx
            obtain ⟨b, off, cs, rfl, hbB, hbl, hcl0, hcs, htr⟩ := (HT.out wr hb).get hx
            obtain ⟨xh, xp⟩ := x
            obtain ⟨xa, xcap, xsa, xsc, rfl, hxc1, hxc2, hxt, hxs⟩ := trNo_open htr
            clear hcl0 htr
            have d0 := hcs 0 _ rfl
            have d1 := hcs 1 _ rfl
            have d2 := hcs 2 _ rfl
            have d3 := hcs 3 _ rfl
            have d4 := hcs 4 _ rfl
            have d5 := hcs 5 _ rfl
            simp only [Nat.zero_add, Nat.add_zero] at d0 d1 d2 d3 d4 d5
            have hne := flat_next f hx
            have htk := flat_take f ps (i + 1)
            rw [hne, List.length_append] at htk
            obtain ⟨bv, hbv⟩ : ∃ bv, bv = u0 := ⟨_, rfl⟩
            obtain ⟨c, hc⟩ : ∃ c, p5 ++ (ps.take i).flatMap f = c := ⟨_, rfl⟩
            have hcl : c.length + (f (Tr.mk xh xp)).length ≤ 1000000000 := by rw [← hc, List.length_append]; omega
            have hfin : p5 ++ (ps.take (i + 1)).flatMap f = c ++ f (Tr.mk xh xp) := by rw [hne, ← hc, List.append_assoc]
            rw [hc, ← hbv] at ho
            rw [← hbv]
            clear hbv
            have hba : Below wr.heap.size wr (wr.alloc (.cells #[.int .i64 xh.kind, .string xh.o, .string xh.i, .string xh.rel, .slice xsa xh.subs.length xsc, .slice xa xp.length xcap] 34)) := (Below.refl _ _).alloc (Nat.le_refl _) _
            have hbz := hb.trans (hba.mono hb.size)
            have HBx := Lib.hid (show (wr.alloc (.cells #[.int .i64 xh.kind, .string xh.o, .string xh.i, .string xh.rel, .slice xsa xh.subs.length xsc, .slice xa xp.length xcap] 34)).heap[wr.heap.size]? = some (.cells #[.int .i64 xh.kind, .string xh.o, .string xh.i, .string xh.rel, .slice xsa xh.subs.length xsc, .slice xa xp.length xcap] 34 (0, 0)) from heap_alloc_new _ _)
            have HB2 := Lib.hid hbz
            have HO2 := Lib.hid (owns_below ho hba)
            have HFn := Lib.hid hfin
            have hkk : Keeps (· < w.heap.size) wr (wr.alloc (.cells #[.int .i64 xh.kind, .string xh.o, .string xh.i, .string xh.rel, .slice xsa xh.subs.length xsc, .slice xa xp.length xcap] 34)) := Keeps.of_below_size hba
            have hmo : ∀ x, x < (wr.alloc (.cells #[.int .i64 xh.kind, .string xh.o, .string xh.i, .string xh.rel, .slice xsa xh.subs.length xsc, .slice xa xp.length xcap] 34)).heap.size → x < w.heap.size → x < (wr.alloc (.cells #[.int .i64 xh.kind, .string xh.o, .string xh.i, .string xh.rel, .slice xsa xh.subs.length xsc, .slice xa xp.length xcap] 34)).heap.size := fun _ h _ => h
            have HXt := Lib.hid (TrsAt.mono hmo (noHd_mono hmo) xp (TrsAt.keep hkk (noHd_keep hkk) xp hxt))
            have HXs := Lib.hid ((hxs.keep hkk).mono hmo)
            have HIt := Lib.hid (HIh.out xh xp (HPs.out _ hxm).1 (HPs.out _ hxm).2)
            have hcl2 := hcl
            clear ho hb hba hbz hfin hne htk hx hc hcs hcl HO HX HB hkk hmo hxt hxs
            go_upto_region 11 with fail
            generalize (wr.alloc (.cells #[.int .i64 xh.kind, .string xh.o, .string xh.i, .string xh.rel, .slice xsa xh.subs.length xsc, .slice xa xp.length xcap] 34)) = w2 at *
            clear d0 d1 d2 d3 d4 d5
            have d0 := Lib.cell_of_heap HBx.out 0
            have d1 := Lib.cell_of_heap HBx.out 1
            have d2 := Lib.cell_of_heap HBx.out 2
            have d3 := Lib.cell_of_heap HBx.out 3
            have d4 := Lib.cell_of_heap HBx.out 4
            have d5 := Lib.cell_of_heap HBx.out 5
            simp at d0 d1 d2 d3 d4 d5
            have hdl : wr.heap.size < w2.heap.size := (Array.getElem?_eq_some_iff.1 HBx.out).1
            have hC := HIt.out w2 bv c xa xcap xsa xsc (ownsRow.reads HO2.out) hxc1 hxc2 HXt.out HXs.out (by rw [Hf.out]; omega)
            rw [Hf.out] at hC
            have HC := Lib.hid hC
            clear hC
            go_wp2_with (go_at_call 59; go_must (refine HC.out.mono ?_))
            rintro e w3 ⟨v3, rfl, o3, b3⟩
            have HO3 := Lib.hid (owns_less o3 HB2.out.size)
            have HB3 := Lib.hid (HB2.out.trans (b3.mono HB2.out.size))
            clear o3 b3 HC d0 d1 d2 d3 d4 d5 hdl
            go_wp2
            exact ⟨⟨i + 1, by go_num, by omega, by rw [HFn.out]; exact HO3.out, HB3.out⟩, by simp [intOf]; omega⟩
          · obtain rfl : ps.length = i := by omega
            have hltI : ¬ ((ps.length : Nat) : Int) < (ps.length : Nat) := by omega
            rw [List.take_of_length_le (Nat.le_refl _), HF.out] at ho
            have HO := Lib.hid ho
            have HB := Lib.hid hb
            clear ho hb
            go_wp2
            go_ret
            exact ⟨_, rfl, HO.out, HB.out⟩
end Go.Proofs.YtdonibkkdhokpaaGreat
