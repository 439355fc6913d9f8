import Derived.Test.YtoibhkmlebcepaaDoorWalDecM
namespace Go.Proofs.YtoibhkmlebcepaaDoor
open Go Go.RowKit

theorem info48 : (Tryd.prog.info? 48).map (fun i => (i.zero, i.size, i.bytes)) = some (some (.agg #[.string ⟨#[]⟩, .int .u64 0, .bool false]), 3, 32) := by kernel_rfl

theorem Touch.grown {w w' : World} {g : Nat} (h : Touch w w' [g]) : w.grownBy w' (some g) := ⟨h.os, h.tape, h.output, h.size, fun k hk hn => h.block k hk (fun e => hn (by simp at e; rw [e]))⟩

theorem owns_ne {w : World} {B n s g : Nat} {e : TypeId} {v : Value} {xs : List Value} (h : w.ownsRow B e s v n xs) (hg : g < B) : v.ownBlock ≠ some g := by
  rcases h.2 with ⟨rfl, _⟩ | ⟨g', cap, cur, rfl, hb, _⟩
  · simp [Value.ownBlock]
  · simp [Value.ownBlock]; omega

theorem owns_lt {w : World} {B n s g : Nat} {e : TypeId} {v : Value} {xs : List Value} (h : w.ownsRow B e s v n xs) (hg : v.ownBlock = some g) : g < w.heap.size := by
  rcases h.2 with ⟨rfl, _⟩ | ⟨g', cap, cur, rfl, hb, hh, _⟩
  · simp [Value.ownBlock] at hg
  · simp [Value.ownBlock] at hg
    subst hg
    exact (Array.getElem?_eq_some_iff.1 hh).1

theorem owns_mono {w : World} {B B' n s : Nat} {e : TypeId} {v : Value} {xs : List Value} (h : w.ownsRow B' e s v n xs) (hb : B ≤ B') : w.ownsRow B e s v n xs := by
  refine ⟨h.1, ?_⟩
  rcases h.2 with h2 | ⟨g, cap, cur, hv, hg, r⟩
  · exact .inl h2
  · exact .inr ⟨g, cap, cur, hv, Nat.le_trans hb hg, r⟩

theorem Touch.owns {w w' : World} {B n s g : Nat} {e : TypeId} {v : Value} {xs : List Value} (h : w.ownsRow B e s v n xs) (ht : Touch w w' [g]) (hg : g < B) : w'.ownsRow B e s v n xs :=
  h.kept ht.grown (.inr (owns_ne h hg))

theorem RdrAt.alloc {B g : Nat} {w : World} {l : List UInt8} {bad : Bool} (h : RdrAt B w g l bad) (o : Obj) : RdrAt B (w.alloc o) g l bad := by
  obtain ⟨v, hg, hs, hB⟩ := h
  have hlt := (Array.getElem?_eq_some_iff.1 hg).1
  exact ⟨v, (heap_alloc_old w o hlt).trans hg, hs.below (((Below.refl _ w).alloc (Nat.le_refl _) o).mono (by omega)), hB⟩

theorem RdrAt.setCell {B g : Nat} {w : World} {l : List UInt8} {bad : Bool} (h : RdrAt B w g l bad) {p : Addr} (hp : p.block ≠ g) (hpB : B ≤ p.block) (u : Value) : RdrAt B (w.setCell p u) g l bad := by
  obtain ⟨v, hg, hs, hB⟩ := h
  have ht : Touch w (w.setCell p u) [p.block] := (Touch.refl w [p.block]).setCell (.inl (by simp)) u
  exact ⟨v, ht.keep hg (by simpa using fun e => hp e.symm), ht.sl hs hpB, hB⟩

theorem RdrAt.grown {B g : Nat} {w w' : World} {l : List UInt8} {bad : Bool} {row : Option Nat} (h : RdrAt B w g l bad) (hg : w.grownBy w' row) (hr : row ≠ some g) (hrB : ∀ b, row = some b → B ≤ b) : RdrAt B w' g l bad := by
  obtain ⟨v, hh, hs, hB⟩ := h
  have hlt := (Array.getElem?_eq_some_iff.1 hh).1
  refine ⟨v, (hg.block g hlt (fun e => hr e.symm)).trans hh, ?_, hB⟩
  rcases hs with hs | ⟨b, off, cap, rfl, h1, h2, h3⟩
  · exact .inl hs
  · refine .inr ⟨b, off, cap, rfl, h1, fun hl => Nat.lt_of_lt_of_le (h2 hl) hg.size, ?_⟩
    by_cases hl : l = []
    · subst hl
      exact reads_none h3
    refine h3.grown hg (.inr ?_)
    intro e
    have := hrB b (by rw [← e]; simp [Value.ownBlock])
    have := h1 hl
    omega

theorem RdrAt.below {B B' g : Nat} {w w' : World} {l : List UInt8} {bad : Bool} (h : RdrAt B w g l bad) (hb : Below B' w w') (hg : g < B') : RdrAt B w' g l bad := by
  obtain ⟨v, hh, hs, hB⟩ := h
  exact ⟨v, (hb.block g hg).trans hh, hs.below (hb.mono (by omega)), hB⟩

theorem RdrAt.cell {B g : Nat} {w : World} {l : List UInt8} {bad : Bool} (h : RdrAt B w g l bad) : w.cell? ⟨g, 1, none⟩ = some (.bool bad) ∧ g < w.heap.size ∧ ∃ a cap, w.cell? ⟨g, 0, none⟩ = some (.slice a l.length cap) := by
  obtain ⟨v, hg, hs, hB⟩ := h
  refine ⟨Lib.cell_of_heap hg 1, (Array.getElem?_eq_some_iff.1 hg).1, ?_⟩
  rcases hs with ⟨⟨ax, rfl⟩, rfl⟩ | ⟨b, off, cap, rfl, _⟩
  · exact ⟨ax, 0, Lib.cell_of_heap hg 0⟩
  · exact ⟨_, cap, Lib.cell_of_heap hg 0⟩

/-- 'append(s, x)' of structs that have just been laid in block N. -/
theorem wpList_append_rows_at {P : Program} {w0 : World} {ops : Array Oper} {rest : List Oper} {o : Oper} {a : Act} {Q : Exit → Act → World → Prop} (hgd : o.guard = none) (s x : Operand) (t : TypeId)
    (ho : o.op = .call { callee := .builtin .append, args := #[s, x], argTypes := #[t, t] })
    (B : Nat) (e : TypeId) (i : TypeInfo) (z : Value) (size bytes : Nat) (ht : P.underlying t = some (.slice e)) (hi : P.info? e = some i) (hz : i.zero = some z)
    (hsize : i.size = size) (hby : i.bytes = bytes) (hzs : z.cells.size = size)
    {v : Value} {n : Nat} {xs : List Value} (us : List Value) (m : Nat) (hl : us.length = m * size) {N : Nat} (hN : w0.heap.size = N) (hown : w0.ownsRow B e size v n xs) (hs : a.eval s = v) (hx : a.eval x = .slice (some ⟨N, 0, none⟩) m m) (h1 : ∀ u ∈ us, u.oneCell' = true)
    (h63 : n + m ≤ maxLen) (hbytes : (n + m) * bytes ≤ 140737488355328) (hB : B ≤ w0.heap.size)
    (h : ∀ v' w', w'.ownsRow B e size v' (n + m) (xs ++ us) → w0.grownBy w' v.ownBlock → Below B w0 w' → Moves w0 v v' → wpList P ops Q rest (a.put o.dst v') w') : wpList P ops Q (o :: rest) a (w0.alloc (.cells us.toArray e)) := by
  subst hN
  exact wpList_append_rows_own hgd s x t ho B e i z size bytes ht hi hz hsize hby hzs us m hl hown hs hx h1 h63 hbytes hB h

def DecRel (w : World) (b : List UInt8) (rev gc : Nat) (mv : Value) (wr : World) : Prop :=
  ∃ (M : Nat) (bad : Bool) (es : List Ent) (l : List UInt8) (lv : Value), mv = .int .u64 (M : Int) ∧ M < 18446744073709551616 ∧ DecInv b rev M bad es l ∧ RdrAt w.heap.size wr (w.heap.size + 1) l bad ∧
    wr.heap[gc]? = some (.cells #[.int .u64 (rev : Int), lv] 25 (0, 0)) ∧ wr.ownsRow (gc + 1) 48 3 lv es.length (ecells es) ∧ Below w.heap.size w wr ∧
    wr.heap[w.heap.size]? = some (.cells #[.int .u64 0, .slice none 0 0] 25 (0, 0))

def DecYes (w : World) (rev : Nat) (es : List Ent) (e : Ending) (w' : World) : Prop :=
  ∃ a cap, e = .returned (.tuple #[.agg #[.int .u64 (rev : Int), .slice a es.length cap], .int .i64 0]) ∧ w'.ownsRow w.heap.size 48 3 (.slice a es.length cap) es.length (ecells es) ∧ Below w.heap.size w w'

def DecPost (w : World) (o : Option (Nat × List Ent)) (e : Ending) (w' : World) : Prop :=
  match o with
  | none => GivesVal w (.tuple #[.agg #[.int .u64 0, .slice none 0 0], .int .i64 9]) e w'
  | some (rev, es) => DecYes w rev es e w'

theorem Sl.form {B : Nat} {w : World} {v : Value} {l : List UInt8} (h : Sl B w v l) : ∃ a cap, v = .slice a l.length cap := by
  rcases h with ⟨⟨ax, rfl⟩, rfl⟩ | ⟨b, off, cap, rfl, _⟩
  · exact ⟨_, _, rfl⟩
  · exact ⟨_, _, rfl⟩

theorem getGo_lt (l : List UInt8) : (getGo 0 0 l).1 < 18446744073709551616 := by
  by_cases h : (getGo 0 0 l).2.2 = 0
  · have he : getGo 0 0 l = ((getGo 0 0 l).1, (getGo 0 0 l).2.1, 0) := Prod.ext rfl (Prod.ext rfl h)
    exact (getGo_ok l 0 0 _ _ (by decide) he).2.2.2
  · have : ∀ (l : List UInt8) (i V : Nat), ¬ (getGo i V l).2.2 = 0 → (getGo i V l).1 = 0 := by
      intro l
      induction l with
      | nil => intro i V _; rw [getGo]
      | cons c r ih =>
        intro i V h
        rw [getGo] at h ⊢
        split
        · rfl
        · rename_i h10
          rw [if_neg h10] at h
          split
          · rename_i hc
            rw [if_pos hc] at h
            exact ih _ _ h
          · rename_i hc
            rw [if_neg hc] at h
            split
            · rfl
            · rename_i hb
              rw [if_neg hb] at h
              exact absurd rfl h
    rw [this l 0 0 h]
    decide

theorem ret_commit {w' : World} {g n cap : Nat} {x : Int} {a : Option Addr} {fn : Func} {p q : Tmp} {tmps : Array Value} (hf : fn.results = #[.cell p 25, .tmp q]) (hp : tmps.getD p undef = .pointer (some ⟨g, 0, none⟩))
    (ht : w'.heap[g]? = some (.cells #[.int .u64 x, .slice a n cap] 25 (0, 0))) :
    (results fn tmps).run Tryd.prog w' = .ok (.tuple #[.agg #[.int .u64 x, .slice a n cap], tmps.getD q undef]) w' := by
  have hp' : tmps[p]?.getD undef = .pointer (some ⟨g, 0, none⟩) := by simpa using hp
  have hl := run_loadVar_row (P := Tryd.prog) w' g _ 25 _ _ _ ht Tryd.underlying25 rfl (by kernel_rfl)
  simp [results, hf, hp', asAddr, hl]

theorem dec_no {b : List UInt8} {rev M : Nat} {bad : Bool} {es : List Ent} {l : List UInt8} (h : DecInv b rev M bad es l) (hb : bad = true ∨ (0 < M ∧ 256 < es.length) ∨ (M = 0 ∧ ¬ (l = [] ∧ rightB rev es = true))) : decL b = none := by
  obtain ⟨h1, h2, _, _, _⟩ := h
  rcases hb with hb | hb
  · exact h1 hb
  · cases bad with
    | true => exact h1 rfl
    | false =>
      rw [h2 rfl]
      rcases hb with ⟨_, hb⟩ | ⟨rfl, hb⟩
      · exact fin_long _ hb
      · rw [fin_end, if_neg hb]

theorem dec_yes {b : List UInt8} {rev : Nat} {es : List Ent} (h : DecInv b rev 0 false es []) (hr : rightB rev es = true) : decL b = some (rev, es) := by
  rw [h.2.1 rfl, fin_end, if_pos ⟨rfl, hr⟩]

set_option maxRecDepth 100000 in
set_option maxHeartbeats 4000000 in
theorem decode_any (w : World) (v : Value) (b : List UInt8) (hs : Sl w.heap.size w v b) (hb : b.length ≤ 1000000) :
    Calls Tryd.prog 13 #[v] w (DecPost w (decL b)) := by
  obtain ⟨i0, hi, hz0, hz1, hz2⟩ := info_parts info48
  obtain ⟨va, vcap, rfl⟩ := hs.form
  have hz := heap_alloc_new w (.cells #[.int .u64 0, .slice none 0 0] 25)
  have hz1' := (heap_alloc_old (w.alloc (.cells #[.int .u64 0, .slice none 0 0] 25)) (.cells #[.slice va b.length vcap, .bool false] 57) (Array.getElem?_eq_some_iff.1 hz).1).trans hz
  have hb0 : Below w.heap.size w ((w.alloc (.cells #[.int .u64 0, .slice none 0 0] 25)).alloc (.cells #[.slice va b.length vcap, .bool false] 57)) := ((Below.refl _ w).alloc (Nat.le_refl _) _).alloc (by simp) _
  have hr0 : RdrAt w.heap.size ((w.alloc (.cells #[.int .u64 0, .slice none 0 0] 25)).alloc (.cells #[.slice va b.length vcap, .bool false] 57)) (w.heap.size + 1) b false :=
    ⟨.slice va b.length vcap, by
      have := heap_alloc_new (w.alloc (.cells #[.int .u64 0, .slice none 0 0] 25)) (.cells #[.slice va b.length vcap, .bool false] 57)
      simpa using this, hs.below hb0, by omega⟩
  have hstart := DecInv.start (b := b)
  have hlt1 := getGo_lt b
  have hlt2 := getGo_lt (b.drop (getGo 0 0 b).2.1)
  have hu1 := getGo_used b
  have HZ := Lib.hid hz1'
  have HB := Lib.hid hb0
  have HR := Lib.hid hr0
  have HSt := Lib.hid hstart
  clear hz hz1' hb0 hr0 hstart hs
  go_enter Tryd.func13, Tryd.ntmps13
  go_wp2_with (go_at_call 28; go_must (refine (rdnumber_any _ _ _ _ _ HR.out (by omega)).mono ?_))
  rintro e w1 ⟨rfl, r1, t1⟩
  have HR1 := Lib.hid r1
  have HZ1 := Lib.hid (t1.keep HZ.out (by simp))
  have HB1 := Lib.hid (HB.out.trans (t1.below (B := w.heap.size) HB.out.size (fun x hx => by simp at hx; omega)))
  have hlt0 : w.heap.size + 1 < w1.heap.size := r1.cell.2.1
  clear r1 t1 HR HZ HB
  generalize hrv : (getGo 0 0 b).1 = rev at *
  generalize hl1 : b.drop (getGo 0 0 b).2.1 = l1 at *
  have hl1l : l1.length ≤ b.length := by rw [← hl1, List.length_drop]; omega
  have hlt0' : w.heap.size < w1.heap.size := by omega
  have hr2 := HR1.out.alloc (.cells #[.int .u64 (rev : Int), .slice none 0 0] 25)
  have hg2 := heap_alloc_new w1 (.cells #[.int .u64 (rev : Int), .slice none 0 0] 25)
  have hz2 := (heap_alloc_old w1 (.cells #[.int .u64 (rev : Int), .slice none 0 0] 25) hlt0').trans HZ1.out
  have hb2 := HB1.out.alloc HB1.out.size (.cells #[.int .u64 (rev : Int), .slice none 0 0] 25)
  have HR2 := Lib.hid hr2
  have HG2 := Lib.hid hg2
  have HZ2 := Lib.hid hz2
  have HB2 := Lib.hid hb2
  have hgc : w.heap.size + 1 < w1.heap.size := hlt0
  clear hr2 hg2 hz2 hb2 HR1 HZ1 HB1
  go_wp2_with (go_at_call 28; go_must (refine (rdnumber_any _ _ _ _ _ HR2.out (by omega)).mono ?_))
  rintro e w3 ⟨rfl, r3, t3⟩
  have HR3 := Lib.hid r3
  have HG3 := Lib.hid (t3.keep HG2.out (by simp; omega))
  have HZ3 := Lib.hid (t3.keep HZ2.out (by simp))
  have HB3 := Lib.hid (HB2.out.trans (t3.below (B := w.heap.size) HB2.out.size (fun x hx => by simp at hx; omega)))
  clear r3 t3 HR2 HG2 HZ2 HB2
  generalize w1.heap.size = gc at *
  generalize hM0 : (getGo 0 0 l1).1 = M0 at *
  go_wp2
  go_loopw [6] (fun mv wr => DecRel w b rev gc mv wr) (fun mv _ => (intOf mv).toNat)
  case atStart =>
    exact ⟨M0, _, [], _, .slice none 0 0, rfl, hlt2, HSt.out, HR3.out, HG3.out, owns_nil _ _ _ _, HB3.out, HZ3.out⟩
  case round =>
    obtain ⟨M, bad, es, l, lv, rfl, hM, hinv, hrd, hg, hown, hbw, hzz⟩ := hrel
    obtain ⟨rc1, rlt, ra, rcap, rc0⟩ := hrd.cell
    have glt : gc < wr.heap.size := (Array.getElem?_eq_some_iff.1 hg).1
    have q0 := Lib.cell_of_heap hg 0
    have q1 := Lib.cell_of_heap hg 1
    have f1 := Lib.frozen_of_heap hg
    simp at q0 q1
    obtain ⟨la, lcap, rfl, hlc1, hlc2⟩ := (ownsRow.reads hown).le
    have hesl : es.length ≤ 257 := hinv.2.2.2.1
    have hll : l.length ≤ b.length := hinv.2.2.2.2
    unfold maxLen at hlc2
    have HI := Lib.hid hinv
    have HR := Lib.hid hrd
    have HG := Lib.hid hg
    have HO := Lib.hid hown
    have HB := Lib.hid hbw
    have HZ := Lib.hid hzz
    clear hinv hrd hg hown hbw hzz HSt HR3 HG3 HZ3 HB3
    by_cases hM0 : M = 0
    · subst hM0
      cases bad with
      | true =>
        have HN := Lib.hid (dec_no HI.out (.inl rfl))
        have z0 := Lib.cell_of_heap HZ.out 0
        have z1 := Lib.cell_of_heap HZ.out 1
        have zf := Lib.frozen_of_heap HZ.out
        simp at z0 z1
        clear HI HR HG HO
        go_wp2
        have hst := two_stored HZ.out (.int .u64 0) (.slice none 0 0)
        refine bodyPost_ret (ret_commit rfl rfl hst) rfl ?_
        rw [HN.out]
        exact ⟨rfl, (HB.out.setCell (p := ⟨w.heap.size, 0, none⟩) (Nat.le_refl _) _).setCell (p := ⟨w.heap.size, 1, none⟩) (Nat.le_refl _) _⟩
      | false =>
        by_cases hl0 : l.length = 0
        · obtain rfl : l = [] := List.eq_nil_of_length_eq_zero hl0
          have hks : ∀ x ∈ es, x.key.size ≤ maxLen := fun x hx => by
            have := HI.out.2.2.1 x hx
            unfold maxLen
            omega
          have hmay := maybe_any wr rev la es.length lcap es (ownsRow.reads HO.out) rfl ⟨hlc1, by unfold maxLen; omega⟩ hks
          have HMa := Lib.hid hmay
          clear hmay hks
          go_wp2_with (go_at_call 20; go_must (refine HMa.out.mono ?_))
          rintro e w7 ⟨rfl, b7⟩
          have HZ7 := Lib.hid (below_block b7 HZ.out (by omega))
          have HG7 := Lib.hid (below_block b7 HG.out glt)
          have HO7 := Lib.hid (owns_below HO.out b7)
          have HB7 := Lib.hid (HB.out.trans (b7.mono HB.out.size))
          have z0 := Lib.cell_of_heap HZ7.out 0
          have z1 := Lib.cell_of_heap HZ7.out 1
          have zf := Lib.frozen_of_heap HZ7.out
          have y0 := Lib.cell_of_heap HG7.out 0
          have y1 := Lib.cell_of_heap HG7.out 1
          simp at z0 z1 y0 y1
          clear b7 HZ HG HO HB HR rc0 rc1 q0 q1 f1
          cases hrb : rightB rev es with
          | false =>
            have HN := Lib.hid (dec_no HI.out (.inr (.inr ⟨rfl, fun h => by rw [hrb] at h; exact absurd h.2 (by decide)⟩)))
            clear hrb HI
            go_wp2
            have hst := two_stored HZ7.out (.int .u64 0) (.slice none 0 0)
            refine bodyPost_ret (ret_commit rfl rfl hst) rfl ?_
            rw [HN.out]
            exact ⟨rfl, (HB7.out.setCell (p := ⟨w.heap.size, 0, none⟩) (Nat.le_refl _) _).setCell (p := ⟨w.heap.size, 1, none⟩) (Nat.le_refl _) _⟩
          | true =>
            have HY := Lib.hid (dec_yes HI.out hrb)
            clear hrb HI
            go_wp2
            have hst := two_stored HZ7.out (.int .u64 (rev : Int)) (.slice la es.length lcap)
            refine bodyPost_ret (ret_commit rfl rfl hst) rfl ?_
            rw [HY.out]
            have ho := ownsRow_setCell_other (ownsRow_setCell_other HO7.out (a := ⟨w.heap.size, 0, none⟩) (owns_ne HO7.out (show w.heap.size < gc + 1 by omega)) (.int .u64 (rev : Int))) (a := ⟨w.heap.size, 1, none⟩) (owns_ne HO7.out (show w.heap.size < gc + 1 by omega)) (.slice la es.length lcap)
            exact ⟨la, lcap, rfl, owns_mono ho (by omega), (HB7.out.setCell (p := ⟨w.heap.size, 0, none⟩) (Nat.le_refl _) _).setCell (p := ⟨w.heap.size, 1, none⟩) (Nat.le_refl _) _⟩
        · have hl0I : (0 : Int) < l.length := by omega
          have HN := Lib.hid (dec_no HI.out (.inr (.inr ⟨rfl, fun h => hl0 (by rw [h.1]; rfl)⟩)))
          have z0 := Lib.cell_of_heap HZ.out 0
          have z1 := Lib.cell_of_heap HZ.out 1
          have zf := Lib.frozen_of_heap HZ.out
          simp at z0 z1
          clear HI HR HG HO
          go_wp2
          have hst := two_stored HZ.out (.int .u64 0) (.slice none 0 0)
          refine bodyPost_ret (ret_commit rfl rfl hst) rfl ?_
          rw [HN.out]
          exact ⟨rfl, (HB.out.setCell (p := ⟨w.heap.size, 0, none⟩) (Nat.le_refl _) _).setCell (p := ⟨w.heap.size, 1, none⟩) (Nat.le_refl _) _⟩
    · have hMI : (0 : Int) < M := by omega
      cases bad with
      | true =>
        have HN := Lib.hid (dec_no HI.out (.inl rfl))
        have z0 := Lib.cell_of_heap HZ.out 0
        have z1 := Lib.cell_of_heap HZ.out 1
        have zf := Lib.frozen_of_heap HZ.out
        simp at z0 z1
        clear HI HR HG HO
        go_wp2
        have hst := two_stored HZ.out (.int .u64 0) (.slice none 0 0)
        refine bodyPost_ret (ret_commit rfl rfl hst) rfl ?_
        rw [HN.out]
        exact ⟨rfl, (HB.out.setCell (p := ⟨w.heap.size, 0, none⟩) (Nat.le_refl _) _).setCell (p := ⟨w.heap.size, 1, none⟩) (Nat.le_refl _) _⟩
      | false =>
        by_cases h256 : es.length ≤ 256
        · have h256I : (es.length : Int) ≤ 256 := by omega
          clear hlt0'
          obtain ⟨m, rfl⟩ : ∃ m, M = m + 1 := ⟨M - 1, by omega⟩
          have hinv := HI.out.step h256
          have htu := truth_used l
          have HR4 := Lib.hid (HR.out.alloc (.cells #[.string ⟨#[]⟩, .int .u64 (rev : Int), .bool false] 48))
          have HG4 := Lib.hid ((heap_alloc_old wr (.cells #[.string ⟨#[]⟩, .int .u64 (rev : Int), .bool false] 48) glt).trans HG.out)
          have HX4 := Lib.hid (heap_alloc_new wr (.cells #[.string ⟨#[]⟩, .int .u64 (rev : Int), .bool false] 48))
          have HO4 := Lib.hid (HO.out.alloc (.cells #[.string ⟨#[]⟩, .int .u64 (rev : Int), .bool false] 48))
          have HZ4 := Lib.hid ((heap_alloc_old wr (.cells #[.string ⟨#[]⟩, .int .u64 (rev : Int), .bool false] 48) (by omega)).trans HZ.out)
          have HB4 := Lib.hid (HB.out.alloc HB.out.size (.cells #[.string ⟨#[]⟩, .int .u64 (rev : Int), .bool false] 48))
          have hol := fun g (h : (Value.slice la es.length lcap).ownBlock = some g) => owns_lt HO.out h
          have HOl := Lib.hid hol
          have HI5 := Lib.hid hinv
          clear hinv hol HI HR HG HO HB HZ
          go_wp2_with (go_at_call 29; go_must (refine (truth_any _ _ _ _ _ HR4.out (by omega)).mono ?_))
          rintro e w4 ⟨rfl, r4, t4⟩
          have hge : wr.heap.size ≠ w.heap.size + 1 := by omega
          have HR5 := Lib.hid r4
          have HG5 := Lib.hid (t4.keep HG4.out (by simp; omega))
          have HX5 := Lib.hid (t4.keep HX4.out (by simp; omega))
          have HO5 := Lib.hid (t4.owns HO4.out (by omega))
          have HZ5 := Lib.hid (t4.keep HZ4.out (by simp))
          have HB5 := Lib.hid (HB4.out.trans (t4.below (B := w.heap.size) HB4.out.size (fun x hx => by simp at hx; omega)))
          clear r4 t4 HR4 HG4 HX4 HO4 HZ4 HB4 rc1 rlt rc0 q0 q1 f1
          generalize hge' : wr.heap.size = ge at *
          have hx5 := HX5.out
          have d1 := Lib.cell_of_heap hx5 1
          have d2 := Lib.cell_of_heap hx5 2
          have df := Lib.frozen_of_heap hx5
          simp at d1 d2
          generalize htl : truthL l = tl at *
          obtain ⟨tb, k1, wb⟩ := tl
          dsimp only at HR5 HI5 htu ⊢
          generalize hl5 : l.drop k1 = l5 at *
          have hl5l : l5.length ≤ b.length := by rw [← hl5, List.length_drop]; omega
          have HR6 := Lib.hid (HR5.out.setCell (p := ⟨ge, 2, none⟩) hge (show w.heap.size ≤ ge by omega) (.bool tb))
          have HG6 := Lib.hid ((heap_setCell_other w4 ⟨ge, 2, none⟩ gc (.bool tb) (show gc ≠ ge by omega)).trans HG5.out)
          have HX6 := Lib.hid (heap_setCell_same w4 ge 2 _ _ (.bool tb) hx5)
          have HO6 := Lib.hid (ownsRow_setCell_other HO5.out (a := ⟨ge, 2, none⟩) (fun h => absurd (HOl.out _ h) (Nat.lt_irrefl _)) (.bool tb))
          have HZ6 := Lib.hid ((heap_setCell_other w4 ⟨ge, 2, none⟩ w.heap.size (.bool tb) (show w.heap.size ≠ ge by omega)).trans HZ5.out)
          have HB6 := Lib.hid (HB5.out.setCell (p := ⟨ge, 2, none⟩) (show w.heap.size ≤ ge by omega) (.bool tb))
          clear hx5 HR5 HG5 HX5 HO5 HZ5 HB5
          go_wp2_with (go_at_call 30; go_must (refine (text_any _ _ _ _ _ HR6.out (by omega)).mono ?_))
          rintro e w5 ⟨rfl, r5, t5⟩
          have HR7 := Lib.hid r5
          have HG7 := Lib.hid (t5.keep HG6.out (by simp; omega))
          have HX7 := Lib.hid (t5.keep HX6.out (by simp; omega))
          have HO7 := Lib.hid (t5.owns HO6.out (by omega))
          have HZ7 := Lib.hid (t5.keep HZ6.out (by simp))
          have HB7 := Lib.hid (HB6.out.trans (t5.below (B := w.heap.size) HB6.out.size (fun x hx => by simp at hx; omega)))
          clear r5 t5 HR6 HG6 HX6 HO6 HZ6 HB6 d1 d2 df
          generalize htx : getText l5 = tx at *
          obtain ⟨S, k2, te⟩ := tx
          dsimp only at HR7 HI5 ⊢
          generalize hSb : (⟨S.toArray⟩ : ByteArray) = SB at *
          have hx7 := HX7.out
          have d0 := Lib.cell_of_heap hx7 0
          have d1 := Lib.cell_of_heap hx7 1
          have d2 := Lib.cell_of_heap hx7 2
          have df := Lib.frozen_of_heap hx7
          simp at d0 d1 d2
          have hg7 := HG7.out
          have q0 := Lib.cell_of_heap hg7 0
          have q1 := Lib.cell_of_heap hg7 1
          have qf := Lib.frozen_of_heap hg7
          simp at q0 q1
          have hgne : gc ≠ ge := by omega
          have hgel : ge < w5.heap.size := (Array.getElem?_eq_some_iff.1 hx7).1
          have hgcl : gc < w5.heap.size := by omega
          have HR8 := Lib.hid (HR7.out.setCell (p := ⟨ge, 0, none⟩) hge (show w.heap.size ≤ ge by omega) (.string SB))
          have HG8 := Lib.hid ((heap_setCell_other w5 ⟨ge, 0, none⟩ gc (.string SB) (show gc ≠ ge by omega)).trans HG7.out)
          have HO8 := Lib.hid (ownsRow_setCell_other HO7.out (a := ⟨ge, 0, none⟩) (fun h => absurd (HOl.out _ h) (Nat.lt_irrefl _)) (.string SB))
          have HZ8 := Lib.hid ((heap_setCell_other w5 ⟨ge, 0, none⟩ w.heap.size (.string SB) (show w.heap.size ≠ ge by omega)).trans HZ7.out)
          have HB8 := Lib.hid (HB7.out.setCell (p := ⟨ge, 0, none⟩) (show w.heap.size ≤ ge by omega) (.string SB))
          have hN : (w5.setCell ⟨ge, 0, none⟩ (.string SB)).heap.size = w5.heap.size := by simp [World.setCell]
          have HN := Lib.hid hN
          have hBN : gc + 1 ≤ (w5.setCell ⟨ge, 0, none⟩ (.string SB)).heap.size := by rw [hN]; omega
          clear hx7 hg7 HR7 HG7 HX7 HO7 HZ7 HB7 hN
          go_wp2_with (at_builtin; go_must (refine wpList_append_rows_at (w0 := w5.setCell ⟨ge, 0, none⟩ (.string SB)) rfl _ _ 23 rfl (gc + 1) 48 i0 _ 3 32 Tryd.underlying23 hi hz0 hz1 hz2 rfl (ecell ⟨SB, rev, tb⟩) 1 rfl HN.out HO8.out rfl rfl ?_ ?_ ?_ hBN ?_))
          · intro u hu
            simp [ecell] at hu
            rcases hu with rfl | rfl | rfl <;> rfl
          · unfold maxLen; omega
          · omega
          intro v6 w6 o6 g6 b6 _
          have e6 : ecells es ++ ecell ⟨SB, rev, tb⟩ = ecells (es ++ [⟨SB, rev, tb⟩]) := by simp [ecells]
          have e7 : (es ++ [(⟨SB, rev, tb⟩ : Ent)]).length = es.length + 1 := by simp
          have E7 := Lib.hid e7
          rw [e6] at o6
          obtain ⟨na, ncap, rfl, _, _⟩ := (ownsRow.reads o6).le
          have hno := owns_ne HO8.out (g := gc) (by omega)
          have hno1 := owns_ne HO8.out (g := w.heap.size + 1) (by omega)
          have hno0 := owns_ne HO8.out (g := w.heap.size) (by omega)
          have hgB : ∀ bb, (Value.slice la es.length lcap).ownBlock = some bb → w.heap.size ≤ bb := fun bb hbb => by
            rcases Nat.lt_or_ge bb (gc + 1) with h | h
            · exact absurd hbb (owns_ne HO8.out h)
            · omega
          have hg9 := (g6.block gc (by omega) (fun h => hno h.symm)).trans HG8.out
          have hz9 := (g6.block w.heap.size (by omega) (fun h => hno0 h.symm)).trans HZ8.out
          have hr9 := HR8.out.grown g6 hno1 hgB
          have hb9 := HB8.out.trans (b6.mono (by omega))
          have hgl9 : gc < w6.heap.size := (Array.getElem?_eq_some_iff.1 hg9).1
          have HR10 := Lib.hid (hr9.setCell (p := ⟨gc, 1, none⟩) (show gc ≠ w.heap.size + 1 by omega) (show w.heap.size ≤ gc by omega) (.slice na (es.length + 1) ncap))
          have HG10 := Lib.hid (heap_setCell_same w6 gc 1 _ _ (.slice na (es.length + 1) ncap) hg9)
          have HO10 := Lib.hid (ownsRow_setCell_other o6 (a := ⟨gc, 1, none⟩) (owns_ne o6 (show gc < gc + 1 by omega)) (.slice na (es.length + 1) ncap))
          have HZ10 := Lib.hid ((heap_setCell_other w6 ⟨gc, 1, none⟩ w.heap.size (.slice na (es.length + 1) ncap) (show w.heap.size ≠ gc by omega)).trans hz9)
          have HB10 := Lib.hid (hb9.setCell (p := ⟨gc, 1, none⟩) (show w.heap.size ≤ gc by omega) (.slice na (es.length + 1) ncap))
          have x1 := Lib.cell_of_heap hg9 1
          have xf := Lib.frozen_of_heap hg9
          simp at x1
          clear e6 e7 hno hno1 hno0 hgB hz9 hr9 hb9 o6 g6 b6 HR8 HG8 HO8 HZ8 HB8 d0 d1 d2 df q0 q1 qf hg9
          go_wp2
          refine ⟨⟨m, _, _, _, _, by simp, by omega, HI5.out, HR10.out, HG10.out, by rw [E7.out]; exact HO10.out, HB10.out, HZ10.out⟩, by simp [intOf]⟩
        · have h256I : ¬ (es.length : Int) ≤ 256 := by omega
          have HN := Lib.hid (dec_no HI.out (.inr (.inl ⟨by omega, by omega⟩)))
          have z0 := Lib.cell_of_heap HZ.out 0
          have z1 := Lib.cell_of_heap HZ.out 1
          have zf := Lib.frozen_of_heap HZ.out
          simp at z0 z1
          clear HI HR HG HO
          go_wp2
          have hst := two_stored HZ.out (.int .u64 0) (.slice none 0 0)
          refine bodyPost_ret (ret_commit rfl rfl hst) rfl ?_
          rw [HN.out]
          exact ⟨rfl, (HB.out.setCell (p := ⟨w.heap.size, 0, none⟩) (Nat.le_refl _) _).setCell (p := ⟨w.heap.size, 1, none⟩) (Nat.le_refl _) _⟩
end Go.Proofs.YtoibhkmlebcepaaDoor
