/- The reader: a table, lists of tables and of numbers. -/
import Derived.Test.YthjimldojdhccaaZEditRw
import Derived.Test.YthjimldojdhccaaZEditV
import Derived.Test.YthjimldojdhccaaMga
namespace Go.Proofs.Ythjimldojdhccaa
open Go Go.RowKit

/-- What a reader's step leaves: never more than there was; less, where it went well; nothing is read where something was wrong. -/
def EEats (s : List UInt8 → Nat → List UInt8 × Nat) : Prop :=
  (∀ l e, (s l e).1.length ≤ l.length) ∧ (∀ l e, e ≠ 0 → s l e = (l, e)) ∧ ∀ l, (s l 0).2 = 0 → (s l 0).1.length < l.length

theorem EEats.seq {s t : List UInt8 → Nat → List UInt8 × Nat} (h : EEats s) (k : EEats t) : EEats (fun l e => t (s l e).1 (s l e).2) := by
  obtain ⟨h1, h2, h3⟩ := h
  obtain ⟨k1, k2, k3⟩ := k
  refine ⟨fun l b => Nat.le_trans (k1 _ _) (h1 _ _), fun l e he => ?_, fun l hl => ?_⟩
  · show t (s l e).1 (s l e).2 = _
    rw [h2 l e he]
    exact k2 _ _ he
  · dsimp only at hl ⊢
    by_cases hb : (s l 0).2 = 0
    · rw [hb] at hl ⊢
      exact Nat.lt_of_lt_of_le (k3 _ hl) (h1 _ _)
    · rw [k2 _ _ hb] at hl
      exact absurd hl hb

theorem eats_num : EEats (fun l e => (ernum l e).2) := by
  refine ⟨fun l e => ?_, fun l e he => ?_, fun l hl => ?_⟩
  · show (ernum l e).2.1.length ≤ l.length
    unfold ernum
    split
    · exact Nat.le_refl _
    · simp
  · show (ernum l e).2 = (l, e)
    unfold ernum
    rw [if_pos he]
  · have hz : ernum l 0 = ((getGo 0 0 l).1, l.drop (getGo 0 0 l).2.1, (getGo 0 0 l).2.2) := rfl
    dsimp only at hl ⊢
    rw [hz] at hl ⊢
    dsimp only at hl ⊢
    have := getGo_ok l 0 0 (getGo 0 0 l).1 (getGo 0 0 l).2.1 (by decide) (Prod.ext rfl (Prod.ext rfl hl))
    rw [List.length_drop]
    omega

theorem getText_pos (l : List UInt8) (h : (getText l).2.2 = 0) : 0 < (getText l).2.1 ∧ (getText l).2.1 ≤ l.length := by
  refine ⟨?_, getText_used l h⟩
  unfold getText at h ⊢
  split at h
  · rename_i h0
    rw [if_pos h0]
    split at h
    · simp at h
    · rename_i h1
      rw [if_neg h1]
      have := getGo_ok l 0 0 (getGo 0 0 l).1 (getGo 0 0 l).2.1 (by decide) (Prod.ext rfl (Prod.ext rfl h0))
      dsimp only
      omega
  · rename_i h0
    exact absurd h h0

theorem eats_txt : EEats (fun l e => (ertxt l e).2) := by
  refine ⟨fun l e => ?_, fun l e he => ?_, fun l hl => ?_⟩
  · show (ertxt l e).2.1.length ≤ l.length
    unfold ertxt
    split
    · exact Nat.le_refl _
    · simp
  · show (ertxt l e).2 = (l, e)
    unfold ertxt
    rw [if_pos he]
  · have hz : ertxt l 0 = (⟨(getText l).1.toArray⟩, l.drop (getText l).2.1, (getText l).2.2) := rfl
    dsimp only at hl ⊢
    rw [hz] at hl ⊢
    dsimp only at hl ⊢
    have := getText_pos l hl
    rw [List.length_drop]
    omega

theorem eats_wh : EEats (fun l e => (erwh l e).2) := by
  obtain ⟨h1, h2, h3⟩ := eats_num
  refine ⟨fun l e => ?_, fun l e he => ?_, fun l hl => ?_⟩
  · show (erwh l e).2.1.length ≤ l.length
    unfold erwh
    split
    · exact h1 l e
    · exact h1 l e
  · have h := h2 l e he
    have hn := ernum_none (l := l) (e := e) (by rw [show (ernum l e).2 = (l, e) from h]; exact he)
    show (erwh l e).2 = (l, e)
    unfold erwh
    rw [if_neg (by rw [hn]; decide)]
    exact h
  · dsimp only at hl ⊢
    unfold erwh at hl ⊢
    split at hl
    · cases hl
    · rename_i hx
      rw [if_neg hx]
      exact h3 l hl

def eseq {α β : Type} (f : List UInt8 → Nat → α × List UInt8 × Nat) (k : List UInt8 → Nat → β × List UInt8 × Nat) (l : List UInt8) (e : Nat) : (α × β) × List UInt8 × Nat :=
  (((f l e).1, (k (f l e).2.1 (f l e).2.2).1), (k (f l e).2.1 (f l e).2.2).2)
theorem eats_eseq {α β : Type} {f : List UInt8 → Nat → α × List UInt8 × Nat} {k : List UInt8 → Nat → β × List UInt8 × Nat} (hf : EEats (fun l e => (f l e).2)) (hk : EEats (fun l e => (k l e).2)) : EEats (fun l e => (eseq f k l e).2) := hf.seq hk
def er5 (l : List UInt8) (e : Nat) : ((((Int × Int) × Int) × ByteArray) × ByteArray) × List UInt8 × Nat := eseq (eseq (eseq (eseq erwh erwh) erwh) ertxt) ertxt l e
theorem eats_er5 : EEats (fun l e => (er5 l e).2) := eats_eseq (eats_eseq (eats_eseq (eats_eseq eats_wh eats_wh) eats_wh) eats_txt) eats_txt
def ertab (l : List UInt8) (e : Nat) : Tb × List UInt8 × Nat :=
  (⟨(er5 l e).1.1.1.1.1, (er5 l e).1.1.1.1.2, (er5 l e).1.1.1.2, (er5 l e).1.1.2, (er5 l e).1.2⟩, (er5 l e).2)
theorem eats_tab : EEats (fun l e => (ertab l e).2) := by
  simp only [ertab]
  exact eats_er5

def emany {α : Type} (f : List UInt8 → Nat → α × List UInt8 × Nat) : Nat → List UInt8 → Nat → List α × List UInt8 × Nat
  | 0, l, e => ([], l, e)
  | n + 1, l, e => if e ≠ 0 then ([], l, e) else ((f l 0).1 :: (emany f n (f l 0).2.1 (f l 0).2.2).1, (emany f n (f l 0).2.1 (f l 0).2.2).2)
def elist {α : Type} (f : List UInt8 → Nat → α × List UInt8 × Nat) (l : List UInt8) (e : Nat) : List α × List UInt8 × Nat := emany f (ernum l e).1 (ernum l e).2.1 (ernum l e).2.2
theorem emany_bad {α : Type} (f : List UInt8 → Nat → α × List UInt8 × Nat) (n : Nat) (l : List UInt8) {e : Nat} (he : e ≠ 0) : emany f n l e = ([], l, e) := by
  cases n with
  | zero => rfl
  | succ n => exact if_pos he
theorem emany_next {α : Type} (f : List UInt8 → Nat → α × List UInt8 × Nat) (n : Nat) (l : List UInt8) : emany f (n + 1) l 0 = ((f l 0).1 :: (emany f n (f l 0).2.1 (f l 0).2.2).1, (emany f n (f l 0).2.1 (f l 0).2.2).2) := rfl
theorem ernum_lt (l : List UInt8) (e : Nat) : (ernum l e).1 < 18446744073709551616 := by
  by_cases h : (ernum l e).2.2 = 0
  · unfold ernum at h ⊢
    split
    · show (0 : Nat) < 18446744073709551616
      decide
    · rename_i he
      rw [if_neg he] at h
      exact (getGo_ok l 0 0 (getGo 0 0 l).1 (getGo 0 0 l).2.1 (by decide) (Prod.ext rfl (Prod.ext rfl h))).2.2.2
  · rw [ernum_none h]
    decide

theorem ERAt.lt {ty : TypeId} {B : Nat} {w : World} {g : Nat} {l : List UInt8} {e : Nat} (h : ERAt ty B w g l e) : g < w.heap.size := by
  obtain ⟨v, h1, _, _⟩ := h
  exact (Array.getElem?_eq_some_iff.1 h1).1
theorem ERAt.below {ty : TypeId} {B : Nat} {w w' : World} {g : Nat} {l : List UInt8} {e : Nat} (h : ERAt ty B w g l e) (hb : Below w.heap.size w w') (hB : B ≤ w.heap.size) : ERAt ty B w' g l e := by
  obtain ⟨v, h1, h2, h3⟩ := h
  exact ⟨v, (hb.block g (Array.getElem?_eq_some_iff.1 h1).1).trans h1, h2.below (hb.mono hB), h3⟩
theorem ERAt.set {ty : TypeId} {B : Nat} {w : World} {g c : Nat} {l : List UInt8} {e : Nat} (h : ERAt ty B w g l e) (hne : c ≠ g) (hB : B ≤ c) (i : Nat) (v : Value) : ERAt ty B (w.setCell ⟨c, i, none⟩ v) g l e := by
  obtain ⟨u, h1, h2, h3⟩ := h
  exact ⟨u, (heap_setCell_other _ _ g _ (fun e => hne e.symm)).trans h1, h2.below ((Below.refl B w).setCell (p := ⟨c, i, none⟩) hB v), h3⟩
theorem etouch_owns {w w' : World} {B n s g : Nat} {e : TypeId} {v : Value} {xs : List Value} (h : w.ownsRow B e s v n xs) (ht : Touch w w' [g]) (hg : g < B) : w'.ownsRow B e s v n xs :=
  ⟨h.1, h.2.imp_right fun ⟨g', cap, cur, q1, q2, q3, q4⟩ => ⟨g', cap, cur, q1, q2, ht.keep q3 (by simp; omega), q4⟩⟩

def EGRel {α : Type} (f : List UInt8 → Nat → α × List UInt8 × Nat) (cells : α → List Value) (rt ty : TypeId) (k B : Nat) (w : World) (g : Nat) (L : Nat) (res : List α × List UInt8 × Nat) (v c : Value) (wr : World) : Prop :=
  ∃ (xs : List α) (m : Nat) (li : List UInt8) (bi : Nat), c = .int .u64 (m : Int) ∧ m < 18446744073709551616 ∧ wr.ownsRow w.heap.size ty k v xs.length (xs.flatMap cells) ∧ ERAt rt B wr g li bi ∧ Touch w wr [g] ∧
    res = (xs ++ (emany f m li bi).1, (emany f m li bi).2) ∧ (bi = 0 → xs.length + li.length ≤ L) ∧ xs.length ≤ L + 1
def EGPost {α : Type} (cells : α → List Value) (rt ty : TypeId) (k B : Nat) (w : World) (g : Nat) (res : List α × List UInt8 × Nat) (e : Ending) (w' : World) : Prop :=
  ∃ v, e = .returned v ∧ w'.ownsRow w.heap.size ty k v res.1.length (res.1.flatMap cells) ∧ ERAt rt B w' g res.2.1 res.2.2 ∧ Touch w w' [g]
def numL (n : Int) : List Value := [.int .i64 n]

set_option maxRecDepth 100000 in
set_option maxHeartbeats 2000000 in
theorem etable_any (B : Nat) (w : World) (g : Nat) (l0 : List UInt8) (e0 : Nat) (h : ERAt 59 B w g l0 e0) (hB : B ≤ w.heap.size) :
    Calls Try.prog 26 #[.pointer (some ⟨g, 0, none⟩)] w (ERPost 59 B w g (ertab l0 e0).2.1 (ertab l0 e0).2.2 (.agg #[.int .i64 (ertab l0 e0).1.num, .int .i64 (ertab l0 e0).1.lev, .int .i64 (ertab l0 e0).1.size, .string (ertab l0 e0).1.first, .string (ertab l0 e0).1.last])) := by
  have hg := h.lt
  have hba : Below w.heap.size w (w.alloc (.cells #[.int .i64 0, .int .i64 0, .int .i64 0, .string ⟨#[]⟩, .string ⟨#[]⟩] 45)) := (Below.refl _ _).alloc (Nat.le_refl _) _
  have HR := Lib.hid (h.below hba hB)
  have HT := Lib.hid ((Touch.refl w [g]).alloc (.cells #[.int .i64 0, .int .i64 0, .int .i64 0, .string ⟨#[]⟩, .string ⟨#[]⟩] 45))
  have HX := Lib.hid (heap_alloc_new w (.cells #[.int .i64 0, .int .i64 0, .int .i64 0, .string ⟨#[]⟩, .string ⟨#[]⟩] 45))
  have hne : w.heap.size ≠ g := by omega
  have hnm : w.heap.size ∉ [g] := by simp; omega
  simp only [ertab, er5, eseq]
  have C1 := fun W (h : ERAt 59 B W g l0 e0) => ewhole_any B W g l0 e0 h
  generalize erwh l0 e0 = r1 at *
  obtain ⟨x1, l1, e1⟩ := r1
  dsimp only at *
  have C2 := fun W (h : ERAt 59 B W g l1 e1) => ewhole_any B W g l1 e1 h
  generalize erwh l1 e1 = r2 at *
  obtain ⟨x2, l2, e2⟩ := r2
  dsimp only at *
  have C3 := fun W (h : ERAt 59 B W g l2 e2) => ewhole_any B W g l2 e2 h
  generalize erwh l2 e2 = r3 at *
  obtain ⟨x3, l3, e3⟩ := r3
  dsimp only at *
  have C4 := fun W (h : ERAt 59 B W g l3 e3) => etext_any B W g l3 e3 h
  generalize ertxt l3 e3 = r4 at *
  obtain ⟨x4, l4, e4⟩ := r4
  dsimp only at *
  have C5 := fun W (h : ERAt 59 B W g l4 e4) => etext_any B W g l4 e4 h
  generalize ertxt l4 e4 = r5 at *
  obtain ⟨x5, l5, e5⟩ := r5
  dsimp only at *
  have HC1 := Lib.hid C1
  have HC2 := Lib.hid C2
  have HC3 := Lib.hid C3
  have HC4 := Lib.hid C4
  have HC5 := Lib.hid C5
  clear h hba C1 C2 C3 C4 C5
  go_enter Try.func26, Try.ntmps26
  go_upto_region 1 with fail
  generalize w.alloc (.cells #[.int .i64 0, .int .i64 0, .int .i64 0, .string ⟨#[]⟩, .string ⟨#[]⟩] 45) = w0 at *
  go_wp2_with (go_at_call 28; go_must (refine (HC1.out _ HR.out).mono ?_))
  rintro e w1 ⟨rfl, hr, ht⟩
  have HR := Lib.hid hr
  have HX := Lib.hid (ht.keep HX.out hnm)
  have HT := Lib.hid (HT.out.same ht)
  clear hr ht
  go_wp2_with (go_at_call 28; go_must (refine (HC2.out _ HR.out).mono ?_))
  rintro e w2 ⟨rfl, hr, ht⟩
  have HR := Lib.hid hr
  have HX := Lib.hid (ht.keep HX.out hnm)
  have HT := Lib.hid (HT.out.same ht)
  clear hr ht
  go_wp2_with (go_at_call 28; go_must (refine (HC3.out _ HR.out).mono ?_))
  rintro e w3 ⟨rfl, hr, ht⟩
  have HR := Lib.hid hr
  have HX := Lib.hid (ht.keep HX.out hnm)
  have HT := Lib.hid (HT.out.same ht)
  clear hr ht
  go_wp2_with (go_at_call 42; go_must (refine (HC4.out _ HR.out).mono ?_))
  rintro e w4 ⟨rfl, hr, ht⟩
  have HR := Lib.hid hr
  have HX := Lib.hid (ht.keep HX.out hnm)
  have HT := Lib.hid (HT.out.same ht)
  clear hr ht
  go_wp2_with (go_at_call 42; go_must (refine (HC5.out _ HR.out).mono ?_))
  rintro e w5 ⟨rfl, hr, ht⟩
  have HR := Lib.hid hr
  have HX := Lib.hid (ht.keep HX.out hnm)
  have HT := Lib.hid (HT.out.same ht)
  clear hr ht
  have c0 := Lib.cell_of_heap HX.out 0
  have c1 := Lib.cell_of_heap HX.out 1
  have c2 := Lib.cell_of_heap HX.out 2
  have c3 := Lib.cell_of_heap HX.out 3
  have c4 := Lib.cell_of_heap HX.out 4
  have f0 := Lib.frozen_of_heap HX.out
  simp at c0 c1 c2 c3 c4
  have hlt : w.heap.size < w5.heap.size := (Array.getElem?_eq_some_iff.1 HX.out).1
  have s0 := HX.out
  have s1 := heap_setCell_same _ _ 0 _ _ (.int .i64 x1) s0
  have s2 := heap_setCell_same _ _ 1 _ _ (.int .i64 x2) s1
  have s3 := heap_setCell_same _ _ 2 _ _ (.int .i64 x3) s2
  have s4 := heap_setCell_same _ _ 3 _ _ (.string x4) s3
  have s5 := heap_setCell_same _ _ 4 _ _ (.string x5) s4
  simp at s5
  have HS := Lib.hid s5
  have HRz := Lib.hid (ERAt.set (ERAt.set (ERAt.set (ERAt.set (ERAt.set (HR.out) hne hB 0 (.int .i64 x1)) hne hB 1 (.int .i64 x2)) hne hB 2 (.int .i64 x3)) hne hB 3 (.string x4)) hne hB 4 (.string x5))
  have HTz := Lib.hid (Touch.setCell (Touch.setCell (Touch.setCell (Touch.setCell (Touch.setCell (HT.out) (p := ⟨w.heap.size, 0, none⟩) (.inr (Nat.le_refl _)) (.int .i64 x1)) (p := ⟨w.heap.size, 1, none⟩) (.inr (Nat.le_refl _)) (.int .i64 x2)) (p := ⟨w.heap.size, 2, none⟩) (.inr (Nat.le_refl _)) (.int .i64 x3)) (p := ⟨w.heap.size, 3, none⟩) (.inr (Nat.le_refl _)) (.string x4)) (p := ⟨w.heap.size, 4, none⟩) (.inr (Nat.le_refl _)) (.string x5))
  clear s0 s1 s2 s3 s4 s5
  go_wp2
  have hl := run_loadVar_row (P := Try.prog) _ w.heap.size _ 45 _ _ _ HS.out Try.underlying45 rfl (by kernel_rfl)
  refine bodyPost_ret (v := .agg #[.int .i64 x1, .int .i64 x2, .int .i64 x3, .string x4, .string x5]) ?_ rfl ⟨rfl, HRz.out, HTz.out⟩
  simp [results, Try.results26, asAddr, hl]

theorem infoG_etables_any : (Try.prog.info? 45).map (fun i => (i.zero, i.size, i.bytes)) = some (some (tv ⟨0, 0, 0, ⟨#[]⟩, ⟨#[]⟩⟩), 5, 56) := by kernel_rfl
set_option maxRecDepth 100000 in
set_option maxHeartbeats 2000000 in
theorem etables_any (B : Nat) (w : World) (g : Nat) (l : List UInt8) (b : Nat) (h : ERAt 59 B w g l b) (hB : B ≤ w.heap.size) (hl : l.length ≤ 1000000) :
    Calls Try.prog 25 #[.pointer (some ⟨g, 0, none⟩), .func (.func 26) #[.pointer (some ⟨g, 0, none⟩)] #[]] w (EGPost Tb.cells 59 45 5 B w g (elist ertab l b)) := by
  obtain ⟨j0, hj, hy0, hy1, hy2⟩ := info_parts infoG_etables_any
  have hen : ∀ (args : Array Value) (w : World), (callFunc 26 args).run Try.prog w = .ok (.enter 26 args) w := fun _ _ => by kernel_rfl
  have hg := h.lt
  have hm := ernum_lt l b
  have hln := Nat.le_trans (eats_num.1 l b) hl
  dsimp only at hln
  have HNum := Lib.hid (enumber_any B w g l b h)
  unfold elist
  generalize ernum l b = r at *
  obtain ⟨n1, l1, b1⟩ := r
  dsimp only at *
  obtain ⟨res, hres⟩ : ∃ res, emany ertab n1 l1 b1 = res := ⟨_, rfl⟩
  rw [hres]
  have HRes := Lib.hid hres
  clear h hres
  go_enter Try.func25, Try.ntmps25
  go_wp2_with (go_at_call 29; go_must (refine HNum.out.mono ?_))
  rintro e w1 ⟨rfl, hr1, ht1⟩
  have HR1 := Lib.hid hr1
  have HT1 := Lib.hid ht1
  clear hr1 ht1 HNum
  go_wp2
  go_loopw [5, 6] (fun v c wr => EGRel ertab Tb.cells 59 45 5 B w g l1.length res v c wr) (fun _ c _ => (intOf c).toNat)
  case atStart => exact ⟨[], n1, l1, b1, rfl, hm, owns_nil _ _ _ _, HR1.out, HT1.out, by rw [HRes.out]; rfl, fun _ => by simp, Nat.zero_le _⟩
  case round =>
    obtain ⟨xs, m, li, bi, rfl, hmm, hown, hr, ht, hrs, hlt, hxl⟩ := hrel
    clear HR1 HT1 HRes
    obtain ⟨la, lcap, rfl, hl1, hl2⟩ := (ownsRow.reads hown).le
    unfold maxLen at hl2
    have hgr := hr.lt
    have hbad : wr.cell? ⟨g, 1, none⟩ = some (.int .i64 (bi : Int)) := by
      obtain ⟨_, q1, _, _⟩ := hr
      have := Lib.cell_of_heap q1 1
      simpa using this
    by_cases hm0 : 0 < m
    · have hm0I : (0 : Int) < (m : Int) := by omega
      by_cases hbi : bi = 0
      · subst hbi
        obtain ⟨m', rfl⟩ : ∃ m', m = m' + 1 := ⟨m - 1, by omega⟩
        rw [emany_next] at hrs
        have hlt' := hlt rfl
        have hea : (ertab li 0).2.2 = 0 → (ertab li 0).2.1.length < li.length := eats_tab.2.2 li
        have hwm : IntKind.u64.wrap (((m' + 1 : Nat) : Int) - 1) = (m' : Int) := by rw [IntKind.wrap_u64]; omega
        have hwB : B ≤ wr.heap.size := Nat.le_trans hB ht.size
        have HIt := Lib.hid (etable_any B wr g li 0 hr hwB)
        generalize ertab li 0 = r at *
        obtain ⟨x, l2, b2⟩ := r
        dsimp only at *
        have HO := Lib.hid hown
        have HT := Lib.hid ht
        have HRs := Lib.hid hrs
        clear hown hr ht hrs
        go_wp2_with (go_at_call 26; go_must (refine HIt.out.mono ?_))
        rintro e w2 ⟨rfl, hr2, ht2⟩
        have ht3 := HT.out.same ht2
        have hs3 : w.heap.size ≤ w2.heap.size := ht3.size
        have HO3 := Lib.hid (etouch_owns HO.out ht2 hg)
        have HR3 := Lib.hid hr2
        have HT4 := Lib.hid ht3
        clear ht3 hr2 ht2 HO HT HIt
        go_wp2_with (at_builtin; go_must (refine wpList_append_rows_own (w0 := w2) rfl _ _ 22 rfl w.heap.size 45 j0 _ 5 56 Try.underlying22 hj hy0 hy1 hy2 rfl (Tb.cells x) 1 rfl HO3.out rfl rfl ?_ ?_ ?_ hs3 ?_))
        · intro u hu
          simp [Tb.cells] at hu
          rcases hu with rfl | rfl | rfl | rfl | rfl <;> rfl
        · unfold maxLen; omega
        · omega
        intro v6 w6 o6 g6 b6 _
        have hr6 : ERAt 59 B w6 g l2 b2 := by
          obtain ⟨u, q1, q2, q3⟩ := HR3.out
          exact ⟨u, (b6.block g hg).trans q1, q2.below (b6.mono hB), q3⟩
        have ht6 : Touch w w6 [g] := ⟨b6.os.trans HT4.out.os, b6.tape.trans HT4.out.tape, b6.output.trans HT4.out.output, Nat.le_trans HT4.out.size b6.size, fun i hi hn => (b6.block i hi).trans (HT4.out.block i hi hn)⟩
        have ho6 : w6.ownsRow w.heap.size 45 5 v6 (xs ++ [x]).length ((xs ++ [x]).flatMap Tb.cells) := by
          rw [List.length_append, List.flatMap_append, List.flatMap_cons, List.flatMap_nil, List.append_nil]
          exact o6
        have HO6 := Lib.hid ho6
        have HR6 := Lib.hid hr6
        have HT6 := Lib.hid ht6
        clear o6 g6 b6 HR3 HT4 HO3 hr6 ht6 ho6 hs3
        go_wp2
        refine ⟨⟨xs ++ [x], m', l2, b2, rfl, by omega, HO6.out, HR6.out, HT6.out, by rw [HRs.out]; simp, fun hb => ?_, ?_⟩, by simp [intOf]⟩
        · have := hea hb
          rw [List.length_append, List.length_singleton]
          omega
        · rw [List.length_append, List.length_singleton]
          omega
      · rw [emany_bad _ _ _ hbi, List.append_nil] at hrs
        subst hrs
        have hbiI : ((bi : Int) == 0) = false := by simp [hbi]
        have HO := Lib.hid hown
        have HR := Lib.hid hr
        have HT := Lib.hid ht
        clear hown hr ht hbi
        go_wp2
        go_ret
        exact ⟨_, rfl, HO.out, HR.out, HT.out⟩
    · obtain rfl : m = 0 := by omega
      have hrs' : res = (xs, li, bi) := by rw [hrs]; simp [emany]
      subst hrs'
      have HO := Lib.hid hown
      have HR := Lib.hid hr
      have HT := Lib.hid ht
      clear hown hr ht hrs
      go_wp2
      go_ret
      exact ⟨_, rfl, HO.out, HR.out, HT.out⟩

theorem infoG_ewholes_any : (Try.prog.info? 3).map (fun i => (i.zero, i.size, i.bytes)) = some (some (.int .i64 0), 1, 8) := by kernel_rfl
set_option maxRecDepth 100000 in
set_option maxHeartbeats 2000000 in
theorem ewholes_any (B : Nat) (w : World) (g : Nat) (l : List UInt8) (b : Nat) (h : ERAt 59 B w g l b) (hB : B ≤ w.heap.size) (hl : l.length ≤ 1000000) :
    Calls Try.prog 27 #[.pointer (some ⟨g, 0, none⟩), .func (.func 28) #[.pointer (some ⟨g, 0, none⟩)] #[]] w (EGPost numL 59 3 1 B w g (elist erwh l b)) := by
  obtain ⟨j0, hj, hy0, hy1, hy2⟩ := info_parts infoG_ewholes_any
  have hen : ∀ (args : Array Value) (w : World), (callFunc 28 args).run Try.prog w = .ok (.enter 28 args) w := fun _ _ => by kernel_rfl
  have hg := h.lt
  have hm := ernum_lt l b
  have hln := Nat.le_trans (eats_num.1 l b) hl
  dsimp only at hln
  have HNum := Lib.hid (enumber_any B w g l b h)
  unfold elist
  generalize ernum l b = r at *
  obtain ⟨n1, l1, b1⟩ := r
  dsimp only at *
  obtain ⟨res, hres⟩ : ∃ res, emany erwh n1 l1 b1 = res := ⟨_, rfl⟩
  rw [hres]
  have HRes := Lib.hid hres
  clear h hres
  go_enter Try.func27, Try.ntmps27
  go_wp2_with (go_at_call 29; go_must (refine HNum.out.mono ?_))
  rintro e w1 ⟨rfl, hr1, ht1⟩
  have HR1 := Lib.hid hr1
  have HT1 := Lib.hid ht1
  clear hr1 ht1 HNum
  go_wp2
  go_loopw [5, 6] (fun v c wr => EGRel erwh numL 59 3 1 B w g l1.length res v c wr) (fun _ c _ => (intOf c).toNat)
  case atStart => exact ⟨[], n1, l1, b1, rfl, hm, owns_nil _ _ _ _, HR1.out, HT1.out, by rw [HRes.out]; rfl, fun _ => by simp, Nat.zero_le _⟩
  case round =>
    obtain ⟨xs, m, li, bi, rfl, hmm, hown, hr, ht, hrs, hlt, hxl⟩ := hrel
    clear HR1 HT1 HRes
    obtain ⟨la, lcap, rfl, hl1, hl2⟩ := (ownsRow.reads hown).le
    unfold maxLen at hl2
    have hgr := hr.lt
    have hbad : wr.cell? ⟨g, 1, none⟩ = some (.int .i64 (bi : Int)) := by
      obtain ⟨_, q1, _, _⟩ := hr
      have := Lib.cell_of_heap q1 1
      simpa using this
    by_cases hm0 : 0 < m
    · have hm0I : (0 : Int) < (m : Int) := by omega
      by_cases hbi : bi = 0
      · subst hbi
        obtain ⟨m', rfl⟩ : ∃ m', m = m' + 1 := ⟨m - 1, by omega⟩
        rw [emany_next] at hrs
        have hlt' := hlt rfl
        have hea : (erwh li 0).2.2 = 0 → (erwh li 0).2.1.length < li.length := eats_wh.2.2 li
        have hwm : IntKind.u64.wrap (((m' + 1 : Nat) : Int) - 1) = (m' : Int) := by rw [IntKind.wrap_u64]; omega
        have hwB : B ≤ wr.heap.size := Nat.le_trans hB ht.size
        have HIt := Lib.hid (ewhole_any B wr g li 0 hr)
        generalize erwh li 0 = r at *
        obtain ⟨x, l2, b2⟩ := r
        dsimp only at *
        have HO := Lib.hid hown
        have HT := Lib.hid ht
        have HRs := Lib.hid hrs
        clear hown hr ht hrs
        go_wp2_with (go_at_call 28; go_must (refine HIt.out.mono ?_))
        rintro e w2 ⟨rfl, hr2, ht2⟩
        have ht3 := HT.out.same ht2
        have hs3 : w.heap.size ≤ w2.heap.size := ht3.size
        have HO3 := Lib.hid (etouch_owns HO.out ht2 hg)
        have HR3 := Lib.hid hr2
        have HT4 := Lib.hid ht3
        clear ht3 hr2 ht2 HO HT HIt
        go_wp2_with (at_builtin; go_must (refine wpList_append_rows_own (w0 := w2) rfl _ _ 23 rfl w.heap.size 3 j0 _ 1 8 Try.underlying23 hj hy0 hy1 hy2 rfl (numL x) 1 rfl HO3.out rfl rfl ?_ ?_ ?_ hs3 ?_))
        · intro u hu
          simp [numL] at hu
          subst hu; rfl
        · unfold maxLen; omega
        · omega
        intro v6 w6 o6 g6 b6 _
        have hr6 : ERAt 59 B w6 g l2 b2 := by
          obtain ⟨u, q1, q2, q3⟩ := HR3.out
          exact ⟨u, (b6.block g hg).trans q1, q2.below (b6.mono hB), q3⟩
        have ht6 : Touch w w6 [g] := ⟨b6.os.trans HT4.out.os, b6.tape.trans HT4.out.tape, b6.output.trans HT4.out.output, Nat.le_trans HT4.out.size b6.size, fun i hi hn => (b6.block i hi).trans (HT4.out.block i hi hn)⟩
        have ho6 : w6.ownsRow w.heap.size 3 1 v6 (xs ++ [x]).length ((xs ++ [x]).flatMap numL) := by
          rw [List.length_append, List.flatMap_append, List.flatMap_cons, List.flatMap_nil, List.append_nil]
          exact o6
        have HO6 := Lib.hid ho6
        have HR6 := Lib.hid hr6
        have HT6 := Lib.hid ht6
        clear o6 g6 b6 HR3 HT4 HO3 hr6 ht6 ho6 hs3
        go_wp2
        refine ⟨⟨xs ++ [x], m', l2, b2, rfl, by omega, HO6.out, HR6.out, HT6.out, by rw [HRs.out]; simp, fun hb => ?_, ?_⟩, by simp [intOf]⟩
        · have := hea hb
          rw [List.length_append, List.length_singleton]
          omega
        · rw [List.length_append, List.length_singleton]
          omega
      · rw [emany_bad _ _ _ hbi, List.append_nil] at hrs
        subst hrs
        have hbiI : ((bi : Int) == 0) = false := by simp [hbi]
        have HO := Lib.hid hown
        have HR := Lib.hid hr
        have HT := Lib.hid ht
        clear hown hr ht hbi
        go_wp2
        go_ret
        exact ⟨_, rfl, HO.out, HR.out, HT.out⟩
    · obtain rfl : m = 0 := by omega
      have hrs' : res = (xs, li, bi) := by rw [hrs]; simp [emany]
      subst hrs'
      have HO := Lib.hid hown
      have HR := Lib.hid hr
      have HT := Lib.hid ht
      clear hown hr ht hrs
      go_wp2
      go_ret
      exact ⟨_, rfl, HO.out, HR.out, HT.out⟩
end Go.Proofs.Ythjimldojdhccaa
