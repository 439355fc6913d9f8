/- The reader's lists of rules, nodes, steps (written by gen_wirert.py). -/
import Derived.Test.YtdonibkkdhokpaaGreatZWireRt0
namespace Go.Proofs.YtdonibkkdhokpaaGreat
open Go Go.RowKit

def ELRel {ε τ : Type} (f : List UInt8 → Bool → τ × List UInt8 × Bool) (ec : ε → List Value) (eat : (Nat → Prop) → World → ε → Prop) (et : ε → τ) (ty : TypeId) (k B : Nat) (w : World) (g : Nat) (d : Int) (L : Nat) (res : List τ × List UInt8 × Bool) (v c : Value) (wr : World) : Prop :=
  ∃ (es : List ε) (m : Nat) (li : List UInt8) (bi : Bool), c = .int .u64 (m : Int) ∧ m < 18446744073709551616 ∧ EOwn ec eat ty k w.heap.size wr v es ∧ RAt B wr g li d bi ∧ Touch w wr [g] ∧
    res = (es.map et ++ (rmany f m li bi).1, (rmany f m li bi).2) ∧ (bi = false → es.length + li.length ≤ L) ∧ es.length ≤ L + 1

def EPost {ε τ : Type} (ec : ε → List Value) (eat : (Nat → Prop) → World → ε → Prop) (et : ε → τ) (ty : TypeId) (k B : Nat) (w : World) (g : Nat) (d : Int) (res : List τ × List UInt8 × Bool) (e : Ending) (w' : World) : Prop :=
  ∃ v es, e = .returned v ∧ EOwn ec eat ty k w.heap.size w' v es ∧ es.map et = res.1 ∧ RAt B w' g res.2.1 d res.2.2 ∧ Touch w w' [g]

theorem Touch.two {w w' : World} {g : Nat} (h : Touch w w' [g]) (c : Nat) : Touch w w' [g, c] := h.mono (fun x hx => by simp at hx; simp [hx])

def RuIPost (B : Nat) (w : World) (g : Nat) (res : Tr RuH × List UInt8 × Bool) (d : Int) (e : Ending) (w' : World) : Prop :=
  ∃ x : RuE, e = .returned (.agg #[.int .i64 x.h.kind, .string x.h.a, .string x.h.b, .slice x.a x.ps.length x.cap]) ∧ RuE.tree x = res.1 ∧ ruEAt (fun b => w.heap.size ≤ b) w' x ∧ RAt B w' g res.2.1 d res.2.2 ∧ Touch w w' [g]

theorem infoE_Ru : (Tryz.prog.info? 71).map (fun i => (i.zero, i.size, i.bytes)) = some (some (.agg #[.int .i64 0, .string ⟨#[]⟩, .string ⟨#[]⟩, .slice none 0 0]), 4, 64) := by kernel_rfl

set_option maxRecDepth 100000 in
set_option maxHeartbeats 2000000 in
theorem getRus_any (f : List UInt8 → Bool → Tr RuH × List UInt8 × Bool) (heats : Eats (fun l b => (f l b).2)) (B : Nat) (w : World) (g : Nat) (l : List UInt8) (d : Int) (b : Bool) (h : RAt B w g l d b) (hB : B ≤ w.heap.size) (hl : l.length ≤ 20000000)
    (hit : ∀ (W : World) (l : List UInt8) (b : Bool), RAt B W g l d b → B ≤ W.heap.size → l.length ≤ 20000000 → Calls Tryz.prog 101 #[.pointer (some ⟨g, 0, none⟩)] W (RuIPost B W g (f l b) d)) :
    Calls Tryz.prog 114 #[.pointer (some ⟨g, 0, none⟩), .func (.func 101) #[.pointer (some ⟨g, 0, none⟩)] #[]] w (EPost RuE.cells ruEAt RuE.tree 71 4 B w g d (rlist f l b)) := by
  obtain ⟨j0, hj, hy0, hy1, hy2⟩ := info_parts infoE_Ru
  have hen : ∀ (args : Array Value) (w : World), (callFunc 101 args).run Tryz.prog w = .ok (.enter 101 args) w := fun _ _ => by kernel_rfl
  have hg := h.lt
  have hm := rnum_lt l b
  have hln := Nat.le_trans (eats_num.1 l b) hl
  dsimp only at hln
  have HNum := Lib.hid (rnumber_any B w g l d b h)
  have HIt0 := Lib.hid hit
  unfold rlist
  generalize rnum l b = r at *
  obtain ⟨n1, l1, b1⟩ := r
  dsimp only at *
  obtain ⟨res, hres⟩ : ∃ res, rmany f n1 l1 b1 = res := ⟨_, rfl⟩
  rw [hres]
  have HRes := Lib.hid hres
  clear h hres hit
  go_enter Tryz.func114, Tryz.ntmps114
  go_wp2_with (go_at_call 35; go_must (refine HNum.out.mono ?_))
  rintro e w1 ⟨rfl, hr1, ht1⟩
  have HR1 := Lib.hid hr1
  have HT1 := Lib.hid ht1
  clear hr1 ht1 HNum
  go_wp2
  go_loopw [5, 6] (fun v c wr => ELRel f RuE.cells ruEAt RuE.tree 71 4 B w g d l1.length res v c wr) (fun _ c _ => (intOf c).toNat)
  case atStart => exact ⟨[], n1, l1, b1, rfl, hm, EOwn.nil _, HR1.out, HT1.out, by rw [HRes.out]; rfl, fun _ => by simp, Nat.zero_le _⟩
  case round =>
    obtain ⟨es, m, li, bi, rfl, hmm, hown, hr, ht, hrs, hlt, hxl⟩ := hrel
    clear HR1 HT1 HRes
    obtain ⟨la, lcap, rfl, hl1, hl2⟩ := (ownsRow.reads hown.1).le
    unfold maxLen at hl2
    have hgr := hr.lt
    have hbad : wr.cell? ⟨g, 2, none⟩ = some (.bool bi) := by
      obtain ⟨_, q1, _, _⟩ := hr
      have := Lib.cell_of_heap q1 2
      simpa using this
    by_cases hm0 : 0 < m
    · have hm0I : (0 : Int) < (m : Int) := by omega
      cases bi with
      | true =>
        rw [rmany_bad, List.append_nil] at hrs
        subst hrs
        have HO := Lib.hid hown
        have HR := Lib.hid hr
        have HT := Lib.hid ht
        clear hown hr ht
        go_wp2
        go_ret
        exact ⟨_, es, rfl, HO.out, rfl, HR.out, HT.out⟩
      | false =>
        obtain ⟨m', rfl⟩ : ∃ m', m = m' + 1 := ⟨m - 1, by omega⟩
        rw [rmany_next] at hrs
        have hlt' := hlt rfl
        have hea : (f li false).2.2 = false → (f li false).2.1.length < li.length := heats.2.2 li
        have hwm : IntKind.u64.wrap (((m' + 1 : Nat) : Int) - 1) = (m' : Int) := by rw [IntKind.wrap_u64]; omega
        have hwB : B ≤ wr.heap.size := Nat.le_trans hB ht.size
        have HIt := Lib.hid (HIt0.out wr li false hr hwB (by omega))
        generalize f li false = r at *
        obtain ⟨y, l2, b2⟩ := r
        dsimp only at *
        have HO := Lib.hid hown
        have HT := Lib.hid ht
        have HRs := Lib.hid hrs
        clear hown hr ht hrs
        go_wp2_with (go_at_call 101; go_must (refine HIt.out.mono ?_))
        rintro e w2 ⟨x, rfl, hxy, hat, hr2, ht2⟩
        have ht3 := HT.out.same ht2
        have hs3 : w.heap.size ≤ w2.heap.size := ht3.size
        have HO3 := Lib.hid (HO.out.touch ruE_keep (ht2.two g) hg hg)
        have hown1 := HO3.out.1
        have hvl : ∀ c, (Value.slice la es.length lcap).ownBlock = some c → c < wr.heap.size := fun c hc => (HO.out.1.lt c hc).2
        have HVl := Lib.hid hvl
        have HAt := Lib.hid hat
        have HXy := Lib.hid hxy
        have HR3 := Lib.hid hr2
        have HT4 := Lib.hid ht3
        have hwr3 : w.heap.size ≤ wr.heap.size := HT.out.size
        clear ht3 hr2 ht2 HO HT HIt hat hxy hvl
        go_wp2_with (at_builtin; go_must (refine wpList_append_rows_own (w0 := w2) rfl _ _ 69 rfl w.heap.size 71 j0 _ 4 64 Tryz.underlying69 hj hy0 hy1 hy2 rfl (RuE.cells x) 1 rfl hown1 rfl rfl ?_ ?_ ?_ hs3 ?_))
        · intro u hu
          simp [RuE.cells] at hu
          rcases hu with rfl | rfl | rfl | rfl <;> rfl
        · unfold maxLen; omega
        · omega
        intro v6 w6 o6 g6 b6 m6
        have hr6 : RAt B w6 g l2 d b2 := by
          obtain ⟨u, q1, q2, q3⟩ := HR3.out
          exact ⟨u, (b6.block g hg).trans q1, q2.below (b6.mono hB), q3⟩
        have ht6 : Touch w w6 [g] := ⟨b6.os.trans HT4.out.os, b6.tape.trans HT4.out.tape, b6.output.trans HT4.out.output, Nat.le_trans HT4.out.size b6.size, fun i hi hn => (b6.block i hi).trans (HT4.out.block i hi hn)⟩
        have HO6 := Lib.hid (EOwn.push ruE_keep HO3.out HAt.out hwr3 HVl.out o6 g6 m6)
        have HR6 := Lib.hid hr6
        have HT6 := Lib.hid ht6
        clear o6 g6 b6 m6 HR3 HT4 HO3 hr6 ht6 hs3 hown1 HAt HVl
        go_wp2
        refine ⟨⟨es ++ [x], m', l2, b2, rfl, by omega, HO6.out, HR6.out, HT6.out, by rw [HRs.out]; simp [HXy.out], fun hb => ?_, ?_⟩, by simp [intOf]⟩
        · have := hea hb
          rw [List.length_append, List.length_singleton]
          omega
        · rw [List.length_append, List.length_singleton]
          omega
    · obtain rfl : m = 0 := by omega
      have hrs' : res = (es.map RuE.tree, li, bi) := by rw [hrs]; simp [rmany]
      subst hrs'
      have HO := Lib.hid hown
      have HR := Lib.hid hr
      have HT := Lib.hid ht
      clear hown hr ht hrs
      go_wp2
      go_ret
      exact ⟨_, es, rfl, HO.out, rfl, HR.out, HT.out⟩

def NoIPost (B : Nat) (w : World) (g : Nat) (res : Tr NoH × List UInt8 × Bool) (d : Int) (e : Ending) (w' : World) : Prop :=
  ∃ x : NoE, e = .returned (.agg #[.int .i64 x.h.kind, .string x.h.o, .string x.h.i, .string x.h.rel, .slice x.sa x.h.subs.length x.sc, .slice x.a x.ps.length x.cap]) ∧ NoE.tree x = res.1 ∧ noEAt (fun b => w.heap.size ≤ b) w' x ∧ RAt B w' g res.2.1 d res.2.2 ∧ Touch w w' [g]

theorem infoE_No : (Tryz.prog.info? 34).map (fun i => (i.zero, i.size, i.bytes)) = some (some (.agg #[.int .i64 0, .string ⟨#[]⟩, .string ⟨#[]⟩, .string ⟨#[]⟩, .slice none 0 0, .slice none 0 0]), 6, 104) := by kernel_rfl

set_option maxRecDepth 100000 in
set_option maxHeartbeats 2000000 in
theorem getNos_any (f : List UInt8 → Bool → Tr NoH × List UInt8 × Bool) (heats : Eats (fun l b => (f l b).2)) (B : Nat) (w : World) (g : Nat) (l : List UInt8) (d : Int) (b : Bool) (h : RAt B w g l d b) (hB : B ≤ w.heap.size) (hl : l.length ≤ 20000000)
    (hit : ∀ (W : World) (l : List UInt8) (b : Bool), RAt B W g l d b → B ≤ W.heap.size → l.length ≤ 20000000 → Calls Tryz.prog 48 #[.pointer (some ⟨g, 0, none⟩)] W (NoIPost B W g (f l b) d)) :
    Calls Tryz.prog 106 #[.pointer (some ⟨g, 0, none⟩), .func (.func 48) #[.pointer (some ⟨g, 0, none⟩)] #[]] w (EPost NoE.cells noEAt NoE.tree 34 6 B w g d (rlist f l b)) := by
  obtain ⟨j0, hj, hy0, hy1, hy2⟩ := info_parts infoE_No
  have hen : ∀ (args : Array Value) (w : World), (callFunc 48 args).run Tryz.prog w = .ok (.enter 48 args) w := fun _ _ => by kernel_rfl
  have hg := h.lt
  have hm := rnum_lt l b
  have hln := Nat.le_trans (eats_num.1 l b) hl
  dsimp only at hln
  have HNum := Lib.hid (rnumber_any B w g l d b h)
  have HIt0 := Lib.hid hit
  unfold rlist
  generalize rnum l b = r at *
  obtain ⟨n1, l1, b1⟩ := r
  dsimp only at *
  obtain ⟨res, hres⟩ : ∃ res, rmany f n1 l1 b1 = res := ⟨_, rfl⟩
  rw [hres]
  have HRes := Lib.hid hres
  clear h hres hit
  go_enter Tryz.func106, Tryz.ntmps106
  go_wp2_with (go_at_call 35; go_must (refine HNum.out.mono ?_))
  rintro e w1 ⟨rfl, hr1, ht1⟩
  have HR1 := Lib.hid hr1
  have HT1 := Lib.hid ht1
  clear hr1 ht1 HNum
  go_wp2
  go_loopw [5, 6] (fun v c wr => ELRel f NoE.cells noEAt NoE.tree 34 6 B w g d l1.length res v c wr) (fun _ c _ => (intOf c).toNat)
  case atStart => exact ⟨[], n1, l1, b1, rfl, hm, EOwn.nil _, HR1.out, HT1.out, by rw [HRes.out]; rfl, fun _ => by simp, Nat.zero_le _⟩
  case round =>
    obtain ⟨es, m, li, bi, rfl, hmm, hown, hr, ht, hrs, hlt, hxl⟩ := hrel
    clear HR1 HT1 HRes
    obtain ⟨la, lcap, rfl, hl1, hl2⟩ := (ownsRow.reads hown.1).le
    unfold maxLen at hl2
    have hgr := hr.lt
    have hbad : wr.cell? ⟨g, 2, none⟩ = some (.bool bi) := by
      obtain ⟨_, q1, _, _⟩ := hr
      have := Lib.cell_of_heap q1 2
      simpa using this
    by_cases hm0 : 0 < m
    · have hm0I : (0 : Int) < (m : Int) := by omega
      cases bi with
      | true =>
        rw [rmany_bad, List.append_nil] at hrs
        subst hrs
        have HO := Lib.hid hown
        have HR := Lib.hid hr
        have HT := Lib.hid ht
        clear hown hr ht
        go_wp2
        go_ret
        exact ⟨_, es, rfl, HO.out, rfl, HR.out, HT.out⟩
      | false =>
        obtain ⟨m', rfl⟩ : ∃ m', m = m' + 1 := ⟨m - 1, by omega⟩
        rw [rmany_next] at hrs
        have hlt' := hlt rfl
        have hea : (f li false).2.2 = false → (f li false).2.1.length < li.length := heats.2.2 li
        have hwm : IntKind.u64.wrap (((m' + 1 : Nat) : Int) - 1) = (m' : Int) := by rw [IntKind.wrap_u64]; omega
        have hwB : B ≤ wr.heap.size := Nat.le_trans hB ht.size
        have HIt := Lib.hid (HIt0.out wr li false hr hwB (by omega))
        generalize f li false = r at *
        obtain ⟨y, l2, b2⟩ := r
        dsimp only at *
        have HO := Lib.hid hown
        have HT := Lib.hid ht
        have HRs := Lib.hid hrs
        clear hown hr ht hrs
        go_wp2_with (go_at_call 48; go_must (refine HIt.out.mono ?_))
        rintro e w2 ⟨x, rfl, hxy, hat, hr2, ht2⟩
        have ht3 := HT.out.same ht2
        have hs3 : w.heap.size ≤ w2.heap.size := ht3.size
        have HO3 := Lib.hid (HO.out.touch noE_keep (ht2.two g) hg hg)
        have hown1 := HO3.out.1
        have hvl : ∀ c, (Value.slice la es.length lcap).ownBlock = some c → c < wr.heap.size := fun c hc => (HO.out.1.lt c hc).2
        have HVl := Lib.hid hvl
        have HAt := Lib.hid hat
        have HXy := Lib.hid hxy
        have HR3 := Lib.hid hr2
        have HT4 := Lib.hid ht3
        have hwr3 : w.heap.size ≤ wr.heap.size := HT.out.size
        clear ht3 hr2 ht2 HO HT HIt hat hxy hvl
        go_wp2_with (at_builtin; go_must (refine wpList_append_rows_own (w0 := w2) rfl _ _ 32 rfl w.heap.size 34 j0 _ 6 104 Tryz.underlying32 hj hy0 hy1 hy2 rfl (NoE.cells x) 1 rfl hown1 rfl rfl ?_ ?_ ?_ hs3 ?_))
        · intro u hu
          simp [NoE.cells] at hu
          rcases hu with rfl | rfl | rfl | rfl | rfl | rfl <;> rfl
        · unfold maxLen; omega
        · omega
        intro v6 w6 o6 g6 b6 m6
        have hr6 : RAt B w6 g l2 d b2 := by
          obtain ⟨u, q1, q2, q3⟩ := HR3.out
          exact ⟨u, (b6.block g hg).trans q1, q2.below (b6.mono hB), q3⟩
        have ht6 : Touch w w6 [g] := ⟨b6.os.trans HT4.out.os, b6.tape.trans HT4.out.tape, b6.output.trans HT4.out.output, Nat.le_trans HT4.out.size b6.size, fun i hi hn => (b6.block i hi).trans (HT4.out.block i hi hn)⟩
        have HO6 := Lib.hid (EOwn.push noE_keep HO3.out HAt.out hwr3 HVl.out o6 g6 m6)
        have HR6 := Lib.hid hr6
        have HT6 := Lib.hid ht6
        clear o6 g6 b6 m6 HR3 HT4 HO3 hr6 ht6 hs3 hown1 HAt HVl
        go_wp2
        refine ⟨⟨es ++ [x], m', l2, b2, rfl, by omega, HO6.out, HR6.out, HT6.out, by rw [HRs.out]; simp [HXy.out], fun hb => ?_, ?_⟩, by simp [intOf]⟩
        · have := hea hb
          rw [List.length_append, List.length_singleton]
          omega
        · rw [List.length_append, List.length_singleton]
          omega
    · obtain rfl : m = 0 := by omega
      have hrs' : res = (es.map NoE.tree, li, bi) := by rw [hrs]; simp [rmany]
      subst hrs'
      have HO := Lib.hid hown
      have HR := Lib.hid hr
      have HT := Lib.hid ht
      clear hown hr ht hrs
      go_wp2
      go_ret
      exact ⟨_, es, rfl, HO.out, rfl, HR.out, HT.out⟩

def StIPost (B : Nat) (w : World) (g : Nat) (res : Stp × List UInt8 × Bool) (d : Int) (e : Ending) (w' : World) : Prop :=
  ∃ x : StE, e = .returned (.agg #[.string x.y.p.a, .string x.y.p.b, .string x.y.p.c, .int .i64 x.y.h.kind, .string x.y.h.a, .string x.y.h.b, .slice x.a x.y.ps.length x.cap, .string x.y.s.a, .string x.y.s.b, .string x.y.s.c, .slice x.ba x.y.ys.length x.bc]) ∧ StE.y x = res.1 ∧ stEAt (fun b => w.heap.size ≤ b) w' x ∧ RAt B w' g res.2.1 d res.2.2 ∧ Touch w w' [g]

theorem infoE_St : (Tryz.prog.info? 74).map (fun i => (i.zero, i.size, i.bytes)) = some (some (.agg #[.string ⟨#[]⟩, .string ⟨#[]⟩, .string ⟨#[]⟩, .int .i64 0, .string ⟨#[]⟩, .string ⟨#[]⟩, .slice none 0 0, .string ⟨#[]⟩, .string ⟨#[]⟩, .string ⟨#[]⟩, .slice none 0 0]), 11, 184) := by kernel_rfl

set_option maxRecDepth 100000 in
set_option maxHeartbeats 2000000 in
theorem getSts_any (f : List UInt8 → Bool → Stp × List UInt8 × Bool) (heats : Eats (fun l b => (f l b).2)) (B : Nat) (w : World) (g : Nat) (l : List UInt8) (d : Int) (b : Bool) (h : RAt B w g l d b) (hB : B ≤ w.heap.size) (hl : l.length ≤ 20000000)
    (hit : ∀ (W : World) (l : List UInt8) (b : Bool), RAt B W g l d b → B ≤ W.heap.size → l.length ≤ 20000000 → Calls Tryz.prog 47 #[.pointer (some ⟨g, 0, none⟩)] W (StIPost B W g (f l b) d)) :
    Calls Tryz.prog 46 #[.pointer (some ⟨g, 0, none⟩), .func (.func 47) #[.pointer (some ⟨g, 0, none⟩)] #[]] w (EPost StE.cells stEAt StE.y 74 11 B w g d (rlist f l b)) := by
  obtain ⟨j0, hj, hy0, hy1, hy2⟩ := info_parts infoE_St
  have hen : ∀ (args : Array Value) (w : World), (callFunc 47 args).run Tryz.prog w = .ok (.enter 47 args) w := fun _ _ => by kernel_rfl
  have hg := h.lt
  have hm := rnum_lt l b
  have hln := Nat.le_trans (eats_num.1 l b) hl
  dsimp only at hln
  have HNum := Lib.hid (rnumber_any B w g l d b h)
  have HIt0 := Lib.hid hit
  unfold rlist
  generalize rnum l b = r at *
  obtain ⟨n1, l1, b1⟩ := r
  dsimp only at *
  obtain ⟨res, hres⟩ : ∃ res, rmany f n1 l1 b1 = res := ⟨_, rfl⟩
  rw [hres]
  have HRes := Lib.hid hres
  clear h hres hit
  go_enter Tryz.func46, Tryz.ntmps46
  go_wp2_with (go_at_call 35; go_must (refine HNum.out.mono ?_))
  rintro e w1 ⟨rfl, hr1, ht1⟩
  have HR1 := Lib.hid hr1
  have HT1 := Lib.hid ht1
  clear hr1 ht1 HNum
  go_wp2
  go_loopw [5, 6] (fun v c wr => ELRel f StE.cells stEAt StE.y 74 11 B w g d l1.length res v c wr) (fun _ c _ => (intOf c).toNat)
  case atStart => exact ⟨[], n1, l1, b1, rfl, hm, EOwn.nil _, HR1.out, HT1.out, by rw [HRes.out]; rfl, fun _ => by simp, Nat.zero_le _⟩
  case round =>
    obtain ⟨es, m, li, bi, rfl, hmm, hown, hr, ht, hrs, hlt, hxl⟩ := hrel
    clear HR1 HT1 HRes
    obtain ⟨la, lcap, rfl, hl1, hl2⟩ := (ownsRow.reads hown.1).le
    unfold maxLen at hl2
    have hgr := hr.lt
    have hbad : wr.cell? ⟨g, 2, none⟩ = some (.bool bi) := by
      obtain ⟨_, q1, _, _⟩ := hr
      have := Lib.cell_of_heap q1 2
      simpa using this
    by_cases hm0 : 0 < m
    · have hm0I : (0 : Int) < (m : Int) := by omega
      cases bi with
      | true =>
        rw [rmany_bad, List.append_nil] at hrs
        subst hrs
        have HO := Lib.hid hown
        have HR := Lib.hid hr
        have HT := Lib.hid ht
        clear hown hr ht
        go_wp2
        go_ret
        exact ⟨_, es, rfl, HO.out, rfl, HR.out, HT.out⟩
      | false =>
        obtain ⟨m', rfl⟩ : ∃ m', m = m' + 1 := ⟨m - 1, by omega⟩
        rw [rmany_next] at hrs
        have hlt' := hlt rfl
        have hea : (f li false).2.2 = false → (f li false).2.1.length < li.length := heats.2.2 li
        have hwm : IntKind.u64.wrap (((m' + 1 : Nat) : Int) - 1) = (m' : Int) := by rw [IntKind.wrap_u64]; omega
        have hwB : B ≤ wr.heap.size := Nat.le_trans hB ht.size
        have HIt := Lib.hid (HIt0.out wr li false hr hwB (by omega))
        generalize f li false = r at *
        obtain ⟨y, l2, b2⟩ := r
        dsimp only at *
        have HO := Lib.hid hown
        have HT := Lib.hid ht
        have HRs := Lib.hid hrs
        clear hown hr ht hrs
        go_wp2_with (go_at_call 47; go_must (refine HIt.out.mono ?_))
        rintro e w2 ⟨x, rfl, hxy, hat, hr2, ht2⟩
        have ht3 := HT.out.same ht2
        have hs3 : w.heap.size ≤ w2.heap.size := ht3.size
        have HO3 := Lib.hid (HO.out.touch stE_keep (ht2.two g) hg hg)
        have hown1 := HO3.out.1
        have hvl : ∀ c, (Value.slice la es.length lcap).ownBlock = some c → c < wr.heap.size := fun c hc => (HO.out.1.lt c hc).2
        have HVl := Lib.hid hvl
        have HAt := Lib.hid hat
        have HXy := Lib.hid hxy
        have HR3 := Lib.hid hr2
        have HT4 := Lib.hid ht3
        have hwr3 : w.heap.size ≤ wr.heap.size := HT.out.size
        clear ht3 hr2 ht2 HO HT HIt hat hxy hvl
        go_wp2_with (at_builtin; go_must (refine wpList_append_rows_own (w0 := w2) rfl _ _ 28 rfl w.heap.size 74 j0 _ 11 184 Tryz.underlying28 hj hy0 hy1 hy2 rfl (StE.cells x) 1 rfl hown1 rfl rfl ?_ ?_ ?_ hs3 ?_))
        · intro u hu
          simp [StE.cells] at hu
          rcases hu with rfl | rfl | rfl | rfl | rfl | rfl | rfl | rfl | rfl | rfl | rfl <;> rfl
        · unfold maxLen; omega
        · omega
        intro v6 w6 o6 g6 b6 m6
        have hr6 : RAt B w6 g l2 d b2 := by
          obtain ⟨u, q1, q2, q3⟩ := HR3.out
          exact ⟨u, (b6.block g hg).trans q1, q2.below (b6.mono hB), q3⟩
        have ht6 : Touch w w6 [g] := ⟨b6.os.trans HT4.out.os, b6.tape.trans HT4.out.tape, b6.output.trans HT4.out.output, Nat.le_trans HT4.out.size b6.size, fun i hi hn => (b6.block i hi).trans (HT4.out.block i hi hn)⟩
        have HO6 := Lib.hid (EOwn.push stE_keep HO3.out HAt.out hwr3 HVl.out o6 g6 m6)
        have HR6 := Lib.hid hr6
        have HT6 := Lib.hid ht6
        clear o6 g6 b6 m6 HR3 HT4 HO3 hr6 ht6 hs3 hown1 HAt HVl
        go_wp2
        refine ⟨⟨es ++ [x], m', l2, b2, rfl, by omega, HO6.out, HR6.out, HT6.out, by rw [HRs.out]; simp [HXy.out], fun hb => ?_, ?_⟩, by simp [intOf]⟩
        · have := hea hb
          rw [List.length_append, List.length_singleton]
          omega
        · rw [List.length_append, List.length_singleton]
          omega
    · obtain rfl : m = 0 := by omega
      have hrs' : res = (es.map StE.y, li, bi) := by rw [hrs]; simp [rmany]
      subst hrs'
      have HO := Lib.hid hown
      have HR := Lib.hid hr
      have HT := Lib.hid ht
      clear hown hr ht hrs
      go_wp2
      go_ret
      exact ⟨_, es, rfl, HO.out, rfl, HR.out, HT.out⟩

end Go.Proofs.YtdonibkkdhokpaaGreat
