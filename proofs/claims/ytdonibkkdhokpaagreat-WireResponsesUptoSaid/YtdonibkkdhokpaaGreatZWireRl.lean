/- The reader: lists (written by gen_wirerl.py). -/
import Derived.Test.YtdonibkkdhokpaaGreatZWireRm
import Derived.Test.YtdonibkkdhokpaaGreatZWireQ
import Derived.Test.YtdonibkkdhokpaaGreatMga
namespace Go.Proofs.YtdonibkkdhokpaaGreat
open Go Go.RowKit

theorem Touch.owns {w w' : World} {B g n k : Nat} {e : TypeId} {v : Value} {xs : List Value} (h : w.ownsRow B e k v n xs) (ht : Touch w w' [g]) (hg : g < B) : w'.ownsRow B e k v n xs :=
  h.kept (row := some g) ⟨ht.os, ht.tape, ht.output, ht.size, fun j hj hn => ht.block j hj (by simpa using hn)⟩ (by
    cases hv : v.ownBlock with
    | none => exact .inl rfl
    | some c =>
      refine .inr fun h' => ?_
      have := (h.lt c hv).1
      cases h'
      omega)

def GLRel {α : Type} (f : List UInt8 → Bool → α × List UInt8 × Bool) (cells : α → List Value) (ty : TypeId) (k B : Nat) (w : World) (g : Nat) (d : Int) (L : Nat) (res : List α × List UInt8 × Bool) (v c : Value) (wr : World) : Prop :=
  ∃ (xs : List α) (m : Nat) (li : List UInt8) (bi : Bool), c = .int .u64 (m : Int) ∧ m < 18446744073709551616 ∧ wr.ownsRow w.heap.size ty k v xs.length (xs.flatMap cells) ∧ RAt B wr g li d bi ∧ Touch w wr [g] ∧
    res = (xs ++ (rmany f m li bi).1, (rmany f m li bi).2) ∧ (bi = false → xs.length + li.length ≤ L) ∧ xs.length ≤ L + 1

def GPost {α : Type} (cells : α → List Value) (ty : TypeId) (k B : Nat) (w : World) (g : Nat) (d : Int) (res : List α × List UInt8 × Bool) (e : Ending) (w' : World) : Prop :=
  ∃ v, e = .returned v ∧ w'.ownsRow w.heap.size ty k v res.1.length (res.1.flatMap cells) ∧ RAt B w' g res.2.1 d res.2.2 ∧ Touch w w' [g]

theorem infoG_getWrites_any : (Tryz.prog.info? 65).map (fun i => (i.zero, i.size, i.bytes)) = some (some (.agg #[.bool false, .string ⟨#[]⟩, .string ⟨#[]⟩, .string ⟨#[]⟩, .string ⟨#[]⟩, .string ⟨#[]⟩, .string ⟨#[]⟩]), 7, 104) := by kernel_rfl

set_option maxRecDepth 100000 in
set_option maxHeartbeats 2000000 in
theorem getWrites_any (B : Nat) (w : World) (g : Nat) (l : List UInt8) (d : Int) (b : Bool) (h : RAt B w g l d b) (hB : B ≤ w.heap.size) (hl : l.length ≤ 20000000) :
    Calls Tryz.prog 74 #[.pointer (some ⟨g, 0, none⟩), .func (.func 75) #[.pointer (some ⟨g, 0, none⟩)] #[]] w (GPost Wri.cells 65 7 B w g d (rlist rwri l b)) := by
  obtain ⟨j0, hj, hy0, hy1, hy2⟩ := info_parts infoG_getWrites_any
  have hen : ∀ (args : Array Value) (w : World), (callFunc 75 args).run Tryz.prog w = .ok (.enter 75 args) w := fun _ _ => by kernel_rfl
  have hg := h.lt
  have hm := rnum_lt l b
  have hln := Nat.le_trans (eats_num.1 l b) hl
  dsimp only at hln
  have HNum := Lib.hid (rnumber_any B w g l d b h)
  unfold rlist
  generalize rnum l b = r at *
  obtain ⟨n1, l1, b1⟩ := r
  dsimp only at *
  obtain ⟨res, hres⟩ : ∃ res, rmany rwri n1 l1 b1 = res := ⟨_, rfl⟩
  rw [hres]
  have HRes := Lib.hid hres
  clear h hres
  go_enter Tryz.func74, Tryz.ntmps74
  go_wp2_with (go_at_call 35; go_must (refine HNum.out.mono ?_))
  rintro e w1 ⟨rfl, hr1, ht1⟩
  have HR1 := Lib.hid hr1
  have HT1 := Lib.hid ht1
  clear hr1 ht1 HNum
  go_wp2
  go_loopw [5, 6] (fun v c wr => GLRel rwri Wri.cells 65 7 B w g d l1.length res v c wr) (fun _ c _ => (intOf c).toNat)
  case atStart => exact ⟨[], n1, l1, b1, rfl, hm, owns_nil _ _ _ _, HR1.out, HT1.out, by rw [HRes.out]; rfl, fun _ => by simp, Nat.zero_le _⟩
  case round =>
    obtain ⟨xs, m, li, bi, rfl, hmm, hown, hr, ht, hrs, hlt, hxl⟩ := hrel
    clear HR1 HT1 HRes
    obtain ⟨la, lcap, rfl, hl1, hl2⟩ := (ownsRow.reads hown).le
    unfold maxLen at hl2
    have hgr := hr.lt
    have hbad : wr.cell? ⟨g, 2, none⟩ = some (.bool bi) := by
      obtain ⟨_, q1, _, _⟩ := hr
      have := Lib.cell_of_heap q1 2
      simpa using this
    by_cases hm0 : 0 < m
    · have hm0I : (0 : Int) < (m : Int) := by omega
      cases bi with
      | true =>
        rw [rmany_bad, List.append_nil] at hrs
        subst hrs
        have HO := Lib.hid hown
        have HR := Lib.hid hr
        have HT := Lib.hid ht
        clear hown hr ht
        go_wp2
        go_ret
        exact ⟨_, rfl, HO.out, HR.out, HT.out⟩
      | false =>
        obtain ⟨m', rfl⟩ : ∃ m', m = m' + 1 := ⟨m - 1, by omega⟩
        rw [rmany_next] at hrs
        have hlt' := hlt rfl
        have hea : (rwri li false).2.2 = false → (rwri li false).2.1.length < li.length := eats_wri.2.2 li
        have hwm : IntKind.u64.wrap (((m' + 1 : Nat) : Int) - 1) = (m' : Int) := by rw [IntKind.wrap_u64]; omega
        have hwB : B ≤ wr.heap.size := Nat.le_trans hB ht.size
        have HIt := Lib.hid (rwrite_any2 B wr g li d false hr hwB)
        generalize rwri li false = r at *
        obtain ⟨x, l2, b2⟩ := r
        dsimp only at *
        have HO := Lib.hid hown
        have HT := Lib.hid ht
        have HRs := Lib.hid hrs
        clear hown hr ht hrs
        go_wp2_with (go_at_call 75; go_must (refine HIt.out.mono ?_))
        rintro e w2 ⟨rfl, hr2, ht2⟩
        have ht3 := HT.out.same ht2
        have hs3 : w.heap.size ≤ w2.heap.size := ht3.size
        have HO3 := Lib.hid (Touch.owns HO.out ht2 hg)
        have HR3 := Lib.hid hr2
        have HT4 := Lib.hid ht3
        clear ht3 hr2 ht2 HO HT HIt
        go_wp2_with (at_builtin; go_must (refine wpList_append_rows_own (w0 := w2) rfl _ _ 49 rfl w.heap.size 65 j0 _ 7 104 Tryz.underlying49 hj hy0 hy1 hy2 rfl (Wri.cells x) 1 rfl HO3.out rfl rfl ?_ ?_ ?_ hs3 ?_))
        · intro u hu
          simp [Wri.cells] at hu
          rcases hu with rfl | rfl | rfl | rfl | rfl | rfl | rfl <;> rfl
        · unfold maxLen; omega
        · omega
        intro v6 w6 o6 g6 b6 _
        have hr6 : RAt B w6 g l2 d b2 := by
          obtain ⟨u, q1, q2, q3⟩ := HR3.out
          exact ⟨u, (b6.block g hg).trans q1, q2.below (b6.mono hB), q3⟩
        have ht6 : Touch w w6 [g] := ⟨b6.os.trans HT4.out.os, b6.tape.trans HT4.out.tape, b6.output.trans HT4.out.output, Nat.le_trans HT4.out.size b6.size, fun i hi hn => (b6.block i hi).trans (HT4.out.block i hi hn)⟩
        have ho6 : w6.ownsRow w.heap.size 65 7 v6 (xs ++ [x]).length ((xs ++ [x]).flatMap Wri.cells) := by
          rw [List.length_append, List.flatMap_append, List.flatMap_cons, List.flatMap_nil, List.append_nil]
          exact o6
        have HO6 := Lib.hid ho6
        have HR6 := Lib.hid hr6
        have HT6 := Lib.hid ht6
        clear o6 g6 b6 HR3 HT4 HO3 hr6 ht6 ho6 hs3
        go_wp2
        refine ⟨⟨xs ++ [x], m', l2, b2, rfl, by omega, HO6.out, HR6.out, HT6.out, by rw [HRs.out]; simp, fun hb => ?_, ?_⟩, by simp [intOf]⟩
        · have := hea hb
          rw [List.length_append, List.length_singleton]
          omega
        · rw [List.length_append, List.length_singleton]
          omega
    · obtain rfl : m = 0 := by omega
      have hrs' : res = (xs, li, bi) := by rw [hrs]; simp [rmany]
      subst hrs'
      have HO := Lib.hid hown
      have HR := Lib.hid hr
      have HT := Lib.hid ht
      clear hown hr ht hrs
      go_wp2
      go_ret
      exact ⟨_, rfl, HO.out, HR.out, HT.out⟩

theorem infoG_getPres_any : (Tryz.prog.info? 131).map (fun i => (i.zero, i.size, i.bytes)) = some (some (.agg #[.bool false, .string ⟨#[]⟩, .string ⟨#[]⟩, .string ⟨#[]⟩, .string ⟨#[]⟩, .string ⟨#[]⟩, .string ⟨#[]⟩]), 7, 104) := by kernel_rfl

set_option maxRecDepth 100000 in
set_option maxHeartbeats 2000000 in
theorem getPres_any (B : Nat) (w : World) (g : Nat) (l : List UInt8) (d : Int) (b : Bool) (h : RAt B w g l d b) (hB : B ≤ w.heap.size) (hl : l.length ≤ 20000000) :
    Calls Tryz.prog 76 #[.pointer (some ⟨g, 0, none⟩), .func (.func 77) #[.pointer (some ⟨g, 0, none⟩)] #[]] w (GPost Wri.cells 131 7 B w g d (rlist rpre l b)) := by
  obtain ⟨j0, hj, hy0, hy1, hy2⟩ := info_parts infoG_getPres_any
  have hen : ∀ (args : Array Value) (w : World), (callFunc 77 args).run Tryz.prog w = .ok (.enter 77 args) w := fun _ _ => by kernel_rfl
  have hg := h.lt
  have hm := rnum_lt l b
  have hln := Nat.le_trans (eats_num.1 l b) hl
  dsimp only at hln
  have HNum := Lib.hid (rnumber_any B w g l d b h)
  unfold rlist
  generalize rnum l b = r at *
  obtain ⟨n1, l1, b1⟩ := r
  dsimp only at *
  obtain ⟨res, hres⟩ : ∃ res, rmany rpre n1 l1 b1 = res := ⟨_, rfl⟩
  rw [hres]
  have HRes := Lib.hid hres
  clear h hres
  go_enter Tryz.func76, Tryz.ntmps76
  go_wp2_with (go_at_call 35; go_must (refine HNum.out.mono ?_))
  rintro e w1 ⟨rfl, hr1, ht1⟩
  have HR1 := Lib.hid hr1
  have HT1 := Lib.hid ht1
  clear hr1 ht1 HNum
  go_wp2
  go_loopw [5, 6] (fun v c wr => GLRel rpre Wri.cells 131 7 B w g d l1.length res v c wr) (fun _ c _ => (intOf c).toNat)
  case atStart => exact ⟨[], n1, l1, b1, rfl, hm, owns_nil _ _ _ _, HR1.out, HT1.out, by rw [HRes.out]; rfl, fun _ => by simp, Nat.zero_le _⟩
  case round =>
    obtain ⟨xs, m, li, bi, rfl, hmm, hown, hr, ht, hrs, hlt, hxl⟩ := hrel
    clear HR1 HT1 HRes
    obtain ⟨la, lcap, rfl, hl1, hl2⟩ := (ownsRow.reads hown).le
    unfold maxLen at hl2
    have hgr := hr.lt
    have hbad : wr.cell? ⟨g, 2, none⟩ = some (.bool bi) := by
      obtain ⟨_, q1, _, _⟩ := hr
      have := Lib.cell_of_heap q1 2
      simpa using this
    by_cases hm0 : 0 < m
    · have hm0I : (0 : Int) < (m : Int) := by omega
      cases bi with
      | true =>
        rw [rmany_bad, List.append_nil] at hrs
        subst hrs
        have HO := Lib.hid hown
        have HR := Lib.hid hr
        have HT := Lib.hid ht
        clear hown hr ht
        go_wp2
        go_ret
        exact ⟨_, rfl, HO.out, HR.out, HT.out⟩
      | false =>
        obtain ⟨m', rfl⟩ : ∃ m', m = m' + 1 := ⟨m - 1, by omega⟩
        rw [rmany_next] at hrs
        have hlt' := hlt rfl
        have hea : (rpre li false).2.2 = false → (rpre li false).2.1.length < li.length := eats_pre.2.2 li
        have hwm : IntKind.u64.wrap (((m' + 1 : Nat) : Int) - 1) = (m' : Int) := by rw [IntKind.wrap_u64]; omega
        have hwB : B ≤ wr.heap.size := Nat.le_trans hB ht.size
        have HIt := Lib.hid (rpre_any2 B wr g li d false hr hwB)
        generalize rpre li false = r at *
        obtain ⟨x, l2, b2⟩ := r
        dsimp only at *
        have HO := Lib.hid hown
        have HT := Lib.hid ht
        have HRs := Lib.hid hrs
        clear hown hr ht hrs
        go_wp2_with (go_at_call 77; go_must (refine HIt.out.mono ?_))
        rintro e w2 ⟨rfl, hr2, ht2⟩
        have ht3 := HT.out.same ht2
        have hs3 : w.heap.size ≤ w2.heap.size := ht3.size
        have HO3 := Lib.hid (Touch.owns HO.out ht2 hg)
        have HR3 := Lib.hid hr2
        have HT4 := Lib.hid ht3
        clear ht3 hr2 ht2 HO HT HIt
        go_wp2_with (at_builtin; go_must (refine wpList_append_rows_own (w0 := w2) rfl _ _ 50 rfl w.heap.size 131 j0 _ 7 104 Tryz.underlying50 hj hy0 hy1 hy2 rfl (Wri.cells x) 1 rfl HO3.out rfl rfl ?_ ?_ ?_ hs3 ?_))
        · intro u hu
          simp [Wri.cells] at hu
          rcases hu with rfl | rfl | rfl | rfl | rfl | rfl | rfl <;> rfl
        · unfold maxLen; omega
        · omega
        intro v6 w6 o6 g6 b6 _
        have hr6 : RAt B w6 g l2 d b2 := by
          obtain ⟨u, q1, q2, q3⟩ := HR3.out
          exact ⟨u, (b6.block g hg).trans q1, q2.below (b6.mono hB), q3⟩
        have ht6 : Touch w w6 [g] := ⟨b6.os.trans HT4.out.os, b6.tape.trans HT4.out.tape, b6.output.trans HT4.out.output, Nat.le_trans HT4.out.size b6.size, fun i hi hn => (b6.block i hi).trans (HT4.out.block i hi hn)⟩
        have ho6 : w6.ownsRow w.heap.size 131 7 v6 (xs ++ [x]).length ((xs ++ [x]).flatMap Wri.cells) := by
          rw [List.length_append, List.flatMap_append, List.flatMap_cons, List.flatMap_nil, List.append_nil]
          exact o6
        have HO6 := Lib.hid ho6
        have HR6 := Lib.hid hr6
        have HT6 := Lib.hid ht6
        clear o6 g6 b6 HR3 HT4 HO3 hr6 ht6 ho6 hs3
        go_wp2
        refine ⟨⟨xs ++ [x], m', l2, b2, rfl, by omega, HO6.out, HR6.out, HT6.out, by rw [HRs.out]; simp, fun hb => ?_, ?_⟩, by simp [intOf]⟩
        · have := hea hb
          rw [List.length_append, List.length_singleton]
          omega
        · rw [List.length_append, List.length_singleton]
          omega
    · obtain rfl : m = 0 := by omega
      have hrs' : res = (xs, li, bi) := by rw [hrs]; simp [rmany]
      subst hrs'
      have HO := Lib.hid hown
      have HR := Lib.hid hr
      have HT := Lib.hid ht
      clear hown hr ht hrs
      go_wp2
      go_ret
      exact ⟨_, rfl, HO.out, HR.out, HT.out⟩

theorem infoG_getAsks_any : (Tryz.prog.info? 135).map (fun i => (i.zero, i.size, i.bytes)) = some (some (.agg #[.string ⟨#[]⟩, .string ⟨#[]⟩, .string ⟨#[]⟩, .string ⟨#[]⟩, .string ⟨#[]⟩, .string ⟨#[]⟩]), 6, 96) := by kernel_rfl

set_option maxRecDepth 100000 in
set_option maxHeartbeats 2000000 in
theorem getAsks_any (B : Nat) (w : World) (g : Nat) (l : List UInt8) (d : Int) (b : Bool) (h : RAt B w g l d b) (hB : B ≤ w.heap.size) (hl : l.length ≤ 20000000) :
    Calls Tryz.prog 78 #[.pointer (some ⟨g, 0, none⟩), .func (.func 79) #[.pointer (some ⟨g, 0, none⟩)] #[]] w (GPost T6.cells 135 6 B w g d (rlist rask l b)) := by
  obtain ⟨j0, hj, hy0, hy1, hy2⟩ := info_parts infoG_getAsks_any
  have hen : ∀ (args : Array Value) (w : World), (callFunc 79 args).run Tryz.prog w = .ok (.enter 79 args) w := fun _ _ => by kernel_rfl
  have hg := h.lt
  have hm := rnum_lt l b
  have hln := Nat.le_trans (eats_num.1 l b) hl
  dsimp only at hln
  have HNum := Lib.hid (rnumber_any B w g l d b h)
  unfold rlist
  generalize rnum l b = r at *
  obtain ⟨n1, l1, b1⟩ := r
  dsimp only at *
  obtain ⟨res, hres⟩ : ∃ res, rmany rask n1 l1 b1 = res := ⟨_, rfl⟩
  rw [hres]
  have HRes := Lib.hid hres
  clear h hres
  go_enter Tryz.func78, Tryz.ntmps78
  go_wp2_with (go_at_call 35; go_must (refine HNum.out.mono ?_))
  rintro e w1 ⟨rfl, hr1, ht1⟩
  have HR1 := Lib.hid hr1
  have HT1 := Lib.hid ht1
  clear hr1 ht1 HNum
  go_wp2
  go_loopw [5, 6] (fun v c wr => GLRel rask T6.cells 135 6 B w g d l1.length res v c wr) (fun _ c _ => (intOf c).toNat)
  case atStart => exact ⟨[], n1, l1, b1, rfl, hm, owns_nil _ _ _ _, HR1.out, HT1.out, by rw [HRes.out]; rfl, fun _ => by simp, Nat.zero_le _⟩
  case round =>
    obtain ⟨xs, m, li, bi, rfl, hmm, hown, hr, ht, hrs, hlt, hxl⟩ := hrel
    clear HR1 HT1 HRes
    obtain ⟨la, lcap, rfl, hl1, hl2⟩ := (ownsRow.reads hown).le
    unfold maxLen at hl2
    have hgr := hr.lt
    have hbad : wr.cell? ⟨g, 2, none⟩ = some (.bool bi) := by
      obtain ⟨_, q1, _, _⟩ := hr
      have := Lib.cell_of_heap q1 2
      simpa using this
    by_cases hm0 : 0 < m
    · have hm0I : (0 : Int) < (m : Int) := by omega
      cases bi with
      | true =>
        rw [rmany_bad, List.append_nil] at hrs
        subst hrs
        have HO := Lib.hid hown
        have HR := Lib.hid hr
        have HT := Lib.hid ht
        clear hown hr ht
        go_wp2
        go_ret
        exact ⟨_, rfl, HO.out, HR.out, HT.out⟩
      | false =>
        obtain ⟨m', rfl⟩ : ∃ m', m = m' + 1 := ⟨m - 1, by omega⟩
        rw [rmany_next] at hrs
        have hlt' := hlt rfl
        have hea : (rask li false).2.2 = false → (rask li false).2.1.length < li.length := eats_ask.2.2 li
        have hwm : IntKind.u64.wrap (((m' + 1 : Nat) : Int) - 1) = (m' : Int) := by rw [IntKind.wrap_u64]; omega
        have hwB : B ≤ wr.heap.size := Nat.le_trans hB ht.size
        have HIt := Lib.hid (rask_any2 B wr g li d false hr hwB)
        generalize rask li false = r at *
        obtain ⟨x, l2, b2⟩ := r
        dsimp only at *
        have HO := Lib.hid hown
        have HT := Lib.hid ht
        have HRs := Lib.hid hrs
        clear hown hr ht hrs
        go_wp2_with (go_at_call 79; go_must (refine HIt.out.mono ?_))
        rintro e w2 ⟨rfl, hr2, ht2⟩
        have ht3 := HT.out.same ht2
        have hs3 : w.heap.size ≤ w2.heap.size := ht3.size
        have HO3 := Lib.hid (Touch.owns HO.out ht2 hg)
        have HR3 := Lib.hid hr2
        have HT4 := Lib.hid ht3
        clear ht3 hr2 ht2 HO HT HIt
        go_wp2_with (at_builtin; go_must (refine wpList_append_rows_own (w0 := w2) rfl _ _ 51 rfl w.heap.size 135 j0 _ 6 96 Tryz.underlying51 hj hy0 hy1 hy2 rfl (T6.cells x) 1 rfl HO3.out rfl rfl ?_ ?_ ?_ hs3 ?_))
        · intro u hu
          simp [T6.cells] at hu
          rcases hu with rfl | rfl | rfl | rfl | rfl | rfl <;> rfl
        · unfold maxLen; omega
        · omega
        intro v6 w6 o6 g6 b6 _
        have hr6 : RAt B w6 g l2 d b2 := by
          obtain ⟨u, q1, q2, q3⟩ := HR3.out
          exact ⟨u, (b6.block g hg).trans q1, q2.below (b6.mono hB), q3⟩
        have ht6 : Touch w w6 [g] := ⟨b6.os.trans HT4.out.os, b6.tape.trans HT4.out.tape, b6.output.trans HT4.out.output, Nat.le_trans HT4.out.size b6.size, fun i hi hn => (b6.block i hi).trans (HT4.out.block i hi hn)⟩
        have ho6 : w6.ownsRow w.heap.size 135 6 v6 (xs ++ [x]).length ((xs ++ [x]).flatMap T6.cells) := by
          rw [List.length_append, List.flatMap_append, List.flatMap_cons, List.flatMap_nil, List.append_nil]
          exact o6
        have HO6 := Lib.hid ho6
        have HR6 := Lib.hid hr6
        have HT6 := Lib.hid ht6
        clear o6 g6 b6 HR3 HT4 HO3 hr6 ht6 ho6 hs3
        go_wp2
        refine ⟨⟨xs ++ [x], m', l2, b2, rfl, by omega, HO6.out, HR6.out, HT6.out, by rw [HRs.out]; simp, fun hb => ?_, ?_⟩, by simp [intOf]⟩
        · have := hea hb
          rw [List.length_append, List.length_singleton]
          omega
        · rw [List.length_append, List.length_singleton]
          omega
    · obtain rfl : m = 0 := by omega
      have hrs' : res = (xs, li, bi) := by rw [hrs]; simp [rmany]
      subst hrs'
      have HO := Lib.hid hown
      have HR := Lib.hid hr
      have HT := Lib.hid ht
      clear hown hr ht hrs
      go_wp2
      go_ret
      exact ⟨_, rfl, HO.out, HR.out, HT.out⟩

theorem infoG_getArgs_any : (Tryz.prog.info? 141).map (fun i => (i.zero, i.size, i.bytes)) = some (some (.agg #[.string ⟨#[]⟩, .int .i64 0, .int .i64 0, .string ⟨#[]⟩]), 4, 48) := by kernel_rfl

set_option maxRecDepth 100000 in
set_option maxHeartbeats 2000000 in
theorem getArgs_any (B : Nat) (w : World) (g : Nat) (l : List UInt8) (d : Int) (b : Bool) (h : RAt B w g l d b) (hB : B ≤ w.heap.size) (hl : l.length ≤ 20000000) :
    Calls Tryz.prog 80 #[.pointer (some ⟨g, 0, none⟩), .func (.func 81) #[.pointer (some ⟨g, 0, none⟩)] #[]] w (GPost Arg4.cells 141 4 B w g d (rlist rarg l b)) := by
  obtain ⟨j0, hj, hy0, hy1, hy2⟩ := info_parts infoG_getArgs_any
  have hen : ∀ (args : Array Value) (w : World), (callFunc 81 args).run Tryz.prog w = .ok (.enter 81 args) w := fun _ _ => by kernel_rfl
  have hg := h.lt
  have hm := rnum_lt l b
  have hln := Nat.le_trans (eats_num.1 l b) hl
  dsimp only at hln
  have HNum := Lib.hid (rnumber_any B w g l d b h)
  unfold rlist
  generalize rnum l b = r at *
  obtain ⟨n1, l1, b1⟩ := r
  dsimp only at *
  obtain ⟨res, hres⟩ : ∃ res, rmany rarg n1 l1 b1 = res := ⟨_, rfl⟩
  rw [hres]
  have HRes := Lib.hid hres
  clear h hres
  go_enter Tryz.func80, Tryz.ntmps80
  go_wp2_with (go_at_call 35; go_must (refine HNum.out.mono ?_))
  rintro e w1 ⟨rfl, hr1, ht1⟩
  have HR1 := Lib.hid hr1
  have HT1 := Lib.hid ht1
  clear hr1 ht1 HNum
  go_wp2
  go_loopw [5, 6] (fun v c wr => GLRel rarg Arg4.cells 141 4 B w g d l1.length res v c wr) (fun _ c _ => (intOf c).toNat)
  case atStart => exact ⟨[], n1, l1, b1, rfl, hm, owns_nil _ _ _ _, HR1.out, HT1.out, by rw [HRes.out]; rfl, fun _ => by simp, Nat.zero_le _⟩
  case round =>
    obtain ⟨xs, m, li, bi, rfl, hmm, hown, hr, ht, hrs, hlt, hxl⟩ := hrel
    clear HR1 HT1 HRes
    obtain ⟨la, lcap, rfl, hl1, hl2⟩ := (ownsRow.reads hown).le
    unfold maxLen at hl2
    have hgr := hr.lt
    have hbad : wr.cell? ⟨g, 2, none⟩ = some (.bool bi) := by
      obtain ⟨_, q1, _, _⟩ := hr
      have := Lib.cell_of_heap q1 2
      simpa using this
    by_cases hm0 : 0 < m
    · have hm0I : (0 : Int) < (m : Int) := by omega
      cases bi with
      | true =>
        rw [rmany_bad, List.append_nil] at hrs
        subst hrs
        have HO := Lib.hid hown
        have HR := Lib.hid hr
        have HT := Lib.hid ht
        clear hown hr ht
        go_wp2
        go_ret
        exact ⟨_, rfl, HO.out, HR.out, HT.out⟩
      | false =>
        obtain ⟨m', rfl⟩ : ∃ m', m = m' + 1 := ⟨m - 1, by omega⟩
        rw [rmany_next] at hrs
        have hlt' := hlt rfl
        have hea : (rarg li false).2.2 = false → (rarg li false).2.1.length < li.length := eats_arg.2.2 li
        have hwm : IntKind.u64.wrap (((m' + 1 : Nat) : Int) - 1) = (m' : Int) := by rw [IntKind.wrap_u64]; omega
        have hwB : B ≤ wr.heap.size := Nat.le_trans hB ht.size
        have HIt := Lib.hid (rarg_any2 B wr g li d false hr hwB)
        generalize rarg li false = r at *
        obtain ⟨x, l2, b2⟩ := r
        dsimp only at *
        have HO := Lib.hid hown
        have HT := Lib.hid ht
        have HRs := Lib.hid hrs
        clear hown hr ht hrs
        go_wp2_with (go_at_call 81; go_must (refine HIt.out.mono ?_))
        rintro e w2 ⟨rfl, hr2, ht2⟩
        have ht3 := HT.out.same ht2
        have hs3 : w.heap.size ≤ w2.heap.size := ht3.size
        have HO3 := Lib.hid (Touch.owns HO.out ht2 hg)
        have HR3 := Lib.hid hr2
        have HT4 := Lib.hid ht3
        clear ht3 hr2 ht2 HO HT HIt
        go_wp2_with (at_builtin; go_must (refine wpList_append_rows_own (w0 := w2) rfl _ _ 52 rfl w.heap.size 141 j0 _ 4 48 Tryz.underlying52 hj hy0 hy1 hy2 rfl (Arg4.cells x) 1 rfl HO3.out rfl rfl ?_ ?_ ?_ hs3 ?_))
        · intro u hu
          simp [Arg4.cells] at hu
          rcases hu with rfl | rfl | rfl | rfl <;> rfl
        · unfold maxLen; omega
        · omega
        intro v6 w6 o6 g6 b6 _
        have hr6 : RAt B w6 g l2 d b2 := by
          obtain ⟨u, q1, q2, q3⟩ := HR3.out
          exact ⟨u, (b6.block g hg).trans q1, q2.below (b6.mono hB), q3⟩
        have ht6 : Touch w w6 [g] := ⟨b6.os.trans HT4.out.os, b6.tape.trans HT4.out.tape, b6.output.trans HT4.out.output, Nat.le_trans HT4.out.size b6.size, fun i hi hn => (b6.block i hi).trans (HT4.out.block i hi hn)⟩
        have ho6 : w6.ownsRow w.heap.size 141 4 v6 (xs ++ [x]).length ((xs ++ [x]).flatMap Arg4.cells) := by
          rw [List.length_append, List.flatMap_append, List.flatMap_cons, List.flatMap_nil, List.append_nil]
          exact o6
        have HO6 := Lib.hid ho6
        have HR6 := Lib.hid hr6
        have HT6 := Lib.hid ht6
        clear o6 g6 b6 HR3 HT4 HO3 hr6 ht6 ho6 hs3
        go_wp2
        refine ⟨⟨xs ++ [x], m', l2, b2, rfl, by omega, HO6.out, HR6.out, HT6.out, by rw [HRs.out]; simp, fun hb => ?_, ?_⟩, by simp [intOf]⟩
        · have := hea hb
          rw [List.length_append, List.length_singleton]
          omega
        · rw [List.length_append, List.length_singleton]
          omega
    · obtain rfl : m = 0 := by omega
      have hrs' : res = (xs, li, bi) := by rw [hrs]; simp [rmany]
      subst hrs'
      have HO := Lib.hid hown
      have HR := Lib.hid hr
      have HT := Lib.hid ht
      clear hown hr ht hrs
      go_wp2
      go_ret
      exact ⟨_, rfl, HO.out, HR.out, HT.out⟩

end Go.Proofs.YtdonibkkdhokpaaGreat
