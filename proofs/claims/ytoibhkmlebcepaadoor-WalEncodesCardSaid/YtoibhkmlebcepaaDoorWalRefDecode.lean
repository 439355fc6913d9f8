import Derived.Test.YtoibhkmlebcepaaDoorWalDecode
import Derived.Test.YtoibhkmlebcepaaDoorWalRefMay
import Derived.Test.YtoibhkmlebcepaaDoorCodecRefGet
import Derived.Test.YtoibhkmlebcepaaDoorDrawnTail
namespace Go.Proofs.YtoibhkmlebcepaaDoor
open Go Go.RowKit

/-- the slot holds a slice of a row of its own, of so many structs -/
def rowsF (s n : Nat) (xs : List Value) : SlotFact := ⟨fun v w => ∃ g, v = .slice (some ⟨g, 0, none⟩) n n ∧ Reads w s (.slice (some ⟨g, 0, none⟩) n n) n xs,
  fun _ _ _ ⟨g, h1, h2⟩ hb => ⟨g, h1, h2.below' hb⟩⟩

theorem rows_new (w : World) {x : Ent} : Reads (w.alloc (.cells #[.string x.key, .int .u64 (x.rev : Int), .bool x.del] 48)) 3 (.slice (some ⟨w.heap.size, 0, none⟩) 1 1) 1 (ecell x) := by
  refine ⟨rfl, _, 1, rfl, Nat.le_refl _, by decide, fun j u hj => ⟨w.heap.size, 0, rfl, by simp, ?_⟩⟩
  rw [Nat.zero_add, World.cell?_alloc_new w _ _ j]
  simpa [ecell] using hj

theorem Reads.srcN {P : Program} {w : World} {size n : Nat} {v : Value} {xs : List Value} {tx e' : TypeId} (hk : P.underlying tx = some (.slice e')) (h : Reads w size v n xs) (h1 : ∀ u ∈ xs, u.oneCell' = true) : Src P size tx v n xs w := by
  refine ⟨.inl ⟨e', hk⟩, fun w' => ?_, h.firstCells w rfl, h.firstCells w.drew rfl, h.1, h1⟩
  obtain ⟨_, a, cap, rfl, _⟩ := h
  rfl

theorem seqWp_append_owns {P : Program} {w : World} {rest : List Oper} {o : Oper} {a : Act} {Q : Exit → Act → World → Prop} (s x : Operand) (t tx : TypeId)
    (ho : o.op = .call { callee := .builtin .append, args := #[s, x], argTypes := #[t, tx] })
    (B : Nat) (e : TypeId) (i : TypeInfo) (z : Value) (size bytes : Nat) (ht : P.underlying t = some (.slice e)) (hi : P.info? e = some i) (hz : i.zero = some z)
    (hsize : i.size = size) (hby : i.bytes = bytes) (hzs : z.cells.size = size)
    (v : Value) (n : Nat) (xs : List Value) (hs : a.eval s = v) (hown : w.ownsRow B e size v n xs)
    (xv : Value) (m : Nat) (news : List Value) (hx : a.eval x = xv) (hsrc : Src P size tx xv m news w)
    (h63 : n + m ≤ maxLen) (hbytes : (n + m) * bytes ≤ 140737488355328) (hB : B ≤ w.heap.size)
    (h : ∀ v' w', w'.ownsRow B e size v' (n + m) (xs ++ news) → w.grownBy w' v.ownBlock → Below B w w' → Moves w v v' → seqWp P Q rest (a.put o.dst v') w') : seqWp P Q (o :: rest) a w := by
  obtain ⟨v', w', hr, h2, h3, h4, h5⟩ := run_append_owns (P := P) B t tx o.type e i z size bytes ht hi hz hsize hby hzs v n xs hown xv m news hsrc h63 hbytes hB
  show o.wp P a w (seqWp P Q rest) Q
  unfold Oper.wp execOp
  simp only [ho, resolve, invoke, builtin, Sem.run_bind, Sem.run_pure, Result.andThen_ok, List.map_toArray, List.map_cons, List.map_nil, hs, hx, hr]
  exact h v' w' h2 h3 h4 h5

/-- How far the reference has come. -/
def RDecInv (b : List UInt8) (rev M k : Nat) (es : List Ent) : Prop :=
  decL b = finL rev es (entsGo rev M (b.drop k)) ∧ (∀ x ∈ es, x.key.size ≤ b.length) ∧ es.length ≤ k ∧ k ≤ b.length

theorem RDecInv.bad {b : List UInt8} {rev m k : Nat} {es : List Ent} (h : RDecInv b rev (m + 1) k es) (he : entGo (b.drop k) = none) : decL b = none := by
  rw [h.1, fin_stop he]

theorem RDecInv.step {b : List UInt8} {rev m k : Nat} {es : List Ent} {key : ByteArray} {del : Bool} {n : Nat} (h : RDecInv b rev (m + 1) k es) (he : entGo (b.drop k) = some (key, del, n)) (hn : 1 ≤ n) (hk : k + n ≤ b.length) (hks : key.size ≤ b.length) :
    RDecInv b rev m (k + n) (es ++ [⟨key, rev, del⟩]) := by
  obtain ⟨h1, h2, h3, h4⟩ := h
  refine ⟨by rw [h1, fin_step he, List.drop_drop], fun x hx => ?_, by rw [List.length_append]; simp; omega, hk⟩
  rcases List.mem_append.1 hx with hx | hx
  · exact h2 x hx
  · simp at hx
    subst hx
    exact hks

theorem entGo_end {b : List UInt8} {k : Nat} (h : b.length ≤ k) : entGo (b.drop k) = none := by
  rw [List.drop_of_length_le h]
  rfl

theorem entGo_at {b : List UInt8} {k : Nat} (h : k < b.length) : entGo (b.drop k) = if 1 < (b.getD k 0).toNat then none else if (getText (b.drop (k + 1))).2.2 = 0 then some (⟨(getText (b.drop (k + 1))).1.toArray⟩, b.getD k 0 == 1, 1 + (getText (b.drop (k + 1))).2.1) else none := by
  have e : b.drop k = b.getD k 0 :: b.drop (k + 1) := by
    rw [List.drop_eq_getElem_cons h]; simp [h]
  have e1 : (b.getD k 0 :: b.drop (k + 1)).drop 1 = b.drop (k + 1) := rfl
  rw [e]
  unfold entGo
  rw [e1]
  generalize b.getD k 0 = c
  by_cases h1 : 1 < c.toNat
  · have e : truthL (c :: b.drop (k + 1)) = (false, 0, true) := by unfold truthL; simp [h1]
    rw [e, if_pos h1, if_pos rfl]
  · have e : truthL (c :: b.drop (k + 1)) = (c == 1, 1, false) := by unfold truthL; simp [h1]
    rw [e, if_neg h1, if_neg (by simp)]

theorem getText_nil : getText [] = ([], 0, 7) := by decide

def RDecRel (w : World) (b : List UInt8) (rev cnt : Nat) (av iv : Value) (wr : World) : Prop :=
  ∃ (k i M : Nat) (es : List Ent) (lv : Value), av = .int .i64 (k : Int) ∧ iv = .int .u64 (i : Int) ∧ i + M = cnt ∧ RDecInv b rev M k es ∧
    wr.heap[w.heap.size + 1]? = some (.cells #[.int .u64 (rev : Int), lv] 25 (0, 0)) ∧ wr.ownsRow (w.heap.size + 2) 48 3 lv es.length (ecells es) ∧ Below w.heap.size w wr ∧
    wr.heap[w.heap.size]? = some (.cells #[.int .u64 0, .slice none 0 0] 25 (0, 0))

set_option maxRecDepth 100000 in
set_option maxHeartbeats 4000000 in
theorem refdecode_any (w : World) (v : Value) (b : List UInt8) (hs : Sl w.heap.size w v b) (hb : b.length ≤ 1000000) :
    Calls Tryd.prog 15 #[v] w (DecPost w (decL b)) := by
  obtain ⟨i0, hi, hz0, hz1, hz2⟩ := info_parts info48
  have hz := heap_alloc_new w (.cells #[.int .u64 0, .slice none 0 0] 25)
  have hb0 : Below w.heap.size w (w.alloc (.cells #[.int .u64 0, .slice none 0 0] 25)) := (Below.refl _ w).alloc (Nat.le_refl _) _
  have hget := refget_any _ v _ b (hs.below hb0).reads
  have hu1 := getGo_used b
  have hlt1 := getGo_lt b
  have HZ := Lib.hid hz
  have HB := Lib.hid hb0
  have HG := Lib.hid hget
  have HS := Lib.hid hs
  clear hz hb0 hget
  by_cases he1 : (getGo 0 0 b).2.2 = 0
  · have hge0 : getGo 0 0 b = ((getGo 0 0 b).1, (getGo 0 0 b).2.1, 0) := Prod.ext rfl (Prod.ext rfl he1)
    have hkp := (getGo_ok b 0 0 _ _ (by decide) hge0).1
    have hcutS := hs.cut hu1
    have HHS0 := Lib.hid hs
    rcases hs with ⟨_, hbn⟩ | ⟨bb, off, vcap, rfl, hbB, hbw0, hrd⟩
    · subst hbn
      simp at hu1
      omega
    have hne : b ≠ [] := by
      intro e
      subst e
      simp at hu1
      omega
    replace hbB := hbB hne
    replace hbw0 := hbw0 hne
    clear hne
    obtain ⟨_, _, hv, hc1, hc2⟩ := hrd.le
    cases hv
    unfold maxLen at hc2
    have hdec : decL b = if (getGo 0 0 (b.drop (getGo 0 0 b).2.1)).2.2 = 0 then finL (getGo 0 0 b).1 [] (entsGo (getGo 0 0 b).1 (getGo 0 0 (b.drop (getGo 0 0 b).2.1)).1 ((b.drop (getGo 0 0 b).2.1).drop (getGo 0 0 (b.drop (getGo 0 0 b).2.1)).2.1)) else none := by
      unfold decL
      rw [if_pos he1]
    have hget2 := refget_any _ _ _ _ (hcutS.below HB.out).reads
    have hu2 := getGo_used (b.drop (getGo 0 0 b).2.1)
    have hlt2 := getGo_lt (b.drop (getGo 0 0 b).2.1)
    have hne : vcap = (getGo 0 0 b).2.1 → ¬ (getGo 0 0 (b.drop (getGo 0 0 b).2.1)).2.2 = 0 := by
      intro h
      have h0 : b.drop (getGo 0 0 b).2.1 = [] := List.eq_nil_of_length_eq_zero (by rw [List.length_drop]; omega)
      rw [h0]
      decide
    rw [List.drop_drop, List.length_drop] at *
    rw [cutV_some] at hget2
    generalize getGo 0 0 b = r at *
    obtain ⟨rev, k1, e1⟩ := r
    dsimp only at *
    subst he1
    generalize hl1 : b.drop k1 = l1 at *
    generalize getGo 0 0 l1 = r2 at *
    obtain ⟨cnt, k2, e2⟩ := r2
    dsimp only at *
    have HG2 := Lib.hid hget2
    have HD := Lib.hid hdec
    have HRd := Lib.hid hrd
    have HHS := Lib.hid hcutS
    have hkb : (k1 : Int) ≤ (b.length : Int) := by omega
    clear hget2 hdec hrd hcutS hge0 HS
    by_cases hck : vcap = k1
    · have hne2 := hne hck
      have hl0 : b.length = k1 := by omega
      have hN : decL b = none := by rw [HD.out, if_neg hne2]
      have HN := Lib.hid hN
      have h2 := HG2.out
      have hz1 : b.length - k1 = 0 := by omega
      have hz2 : vcap - k1 = 0 := by omega
      rw [if_pos hck, hz1, hz2] at h2
      have H2 := Lib.hid h2
      have he2I : ((e2 : Int) != 0) = true := by simp; omega
      rw [hl0] at HG ⊢
      subst hck
      clear hN h2 hz1 hz2 hne2 HG2 HD hl0
      go_enter Tryd.func15, Tryd.ntmps15
      go_wp2_with (go_at_call 31; go_must (refine HG.out.mono ?_))
      rintro e w1 ⟨rfl, rfl⟩
      go_wp2_with (go_at_call 31; go_must (refine H2.out.mono ?_))
      rintro e w1 ⟨rfl, rfl⟩
      go_wp2
      refine bodyPost_ret (ret_commit rfl rfl HZ.out) rfl ?_
      rw [HN.out]
      exact ⟨rfl, HB.out⟩
    · have h2 := HG2.out
      rw [if_neg hck] at h2
      have H2 := Lib.hid h2
      have hckI : ¬ ((vcap : Int) = k1) := by omega
      have hlen1 : ((b.length - k1 : Nat) : Int) = (b.length : Int) - k1 := by omega
      clear h2 HG2 hne
      by_cases he2 : e2 = 0
      · subst he2
        have hD := HD.out
        rw [if_pos rfl] at hD
        have HD2 := Lib.hid hD
        have hkk : k1 + k2 ≤ b.length := by omega
        have hc0 := heap_alloc_new (w.alloc (.cells #[.int .u64 0, .slice none 0 0] 25)) (.cells #[.int .u64 (rev : Int), .slice none 0 0] 25)
        have hsz0 : (w.alloc (.cells #[.int .u64 0, .slice none 0 0] 25)).heap.size = w.heap.size + 1 := by simp
        rw [hsz0] at hc0
        have HC := Lib.hid hc0
        have HZ1 := Lib.hid ((heap_alloc_old _ (.cells #[.int .u64 (rev : Int), .slice none 0 0] 25) (Array.getElem?_eq_some_iff.1 HZ.out).1).trans HZ.out)
        have HB1 := Lib.hid (HB.out.alloc HB.out.size (.cells #[.int .u64 (rev : Int), .slice none 0 0] 25))
        clear hD HD hc0 hsz0
        go_enter Tryd.func15, Tryd.ntmps15
        go_wp2_with (go_at_call 31; go_must (refine HG.out.mono ?_))
        rintro e w1 ⟨rfl, rfl⟩
        go_wp2_with (go_at_call 31; go_must (refine H2.out.mono ?_))
        rintro e w1 ⟨rfl, rfl⟩
        go_wp2
        go_loopw [7, 10] (fun av iv wr => RDecRel w b rev cnt av iv wr) (fun _ iv _ => cnt - (intOf iv).toNat)
        case atStart =>
          exact ⟨k1 + k2, 0, cnt, [], .slice none 0 0, by simp, rfl, by omega, ⟨HD2.out, fun x hx => by simp at hx, Nat.zero_le _, hkk⟩, HC.out, owns_nil _ _ _ _, HB1.out, HZ1.out⟩
        case round =>
          obtain ⟨k, i, M, es, lv, rfl, rfl, hM, hinv, hg, hown, hbw, hzz⟩ := hrel
          have glt : w.heap.size + 1 < wr.heap.size := (Array.getElem?_eq_some_iff.1 hg).1
          have q0 := Lib.cell_of_heap hg 0
          have q1 := Lib.cell_of_heap hg 1
          have qf := Lib.frozen_of_heap hg
          simp at q0 q1
          obtain ⟨la, lcap, rfl, hlc1, hlc2⟩ := (ownsRow.reads hown).le
          have hesl : es.length ≤ k := hinv.2.2.1
          have hkb2 : k ≤ b.length := hinv.2.2.2
          unfold maxLen at hlc2
          have z0 := Lib.cell_of_heap hzz 0
          have z1 := Lib.cell_of_heap hzz 1
          have zf := Lib.frozen_of_heap hzz
          simp at z0 z1
          have HI := Lib.hid hinv
          have HGG := Lib.hid hg
          have HO := Lib.hid hown
          have HBB := Lib.hid hbw
          have HZZ := Lib.hid hzz
          have hbb : bb < wr.heap.size := by omega
          clear hinv hg hown hbw hzz HC HZ1 HB1 HG H2
          by_cases hM0 : M = 0
          · subst hM0
            have hiI : ¬ (i : Int) < cnt := by omega
            have hfi := HI.out.1
            rw [fin_end] at hfi
            by_cases hkn : k = b.length
            · have hdn : b.drop k = [] := List.drop_of_length_le (by omega)
              have hknI : ((k : Int) != (b.length : Int)) = false := by simp; omega
              have hks : ∀ x ∈ es, x.key.size ≤ maxLen := fun x hx => by
                have := HI.out.2.1 x hx
                unfold maxLen
                omega
              have hmay := refright_any wr rev la es.length lcap es (ownsRow.reads HO.out) rfl ⟨hlc1, by unfold maxLen; omega⟩ hks
              have HMa := Lib.hid hmay
              rw [hdn] at hfi
              have HFi := Lib.hid hfi
              clear hmay hks hdn hfi HI HHS
              go_wp2_with (go_at_call 10; go_must (refine HMa.out.mono ?_))
              rintro e w7 ⟨rfl, b7⟩
              have HZ7 := Lib.hid (below_block b7 HZZ.out (by omega))
              have HG7 := Lib.hid (below_block b7 HGG.out glt)
              have HO7 := Lib.hid (owns_below HO.out b7)
              have HB7 := Lib.hid (HBB.out.trans (b7.mono HBB.out.size))
              clear b7 HZZ HGG HO HBB q0 q1 z0 z1 zf qf
              have z0 := Lib.cell_of_heap HZ7.out 0
              have z1 := Lib.cell_of_heap HZ7.out 1
              have zf := Lib.frozen_of_heap HZ7.out
              have y0 := Lib.cell_of_heap HG7.out 0
              have y1 := Lib.cell_of_heap HG7.out 1
              simp at z0 z1 y0 y1
              cases hrb : rightB rev es with
              | false =>
                have hN : decL b = none := by rw [HFi.out]; simp [hrb]
                have HN := Lib.hid hN
                clear hrb hN
                go_wp2
                have hst := two_stored HZ7.out (.int .u64 0) (.slice none 0 0)
                refine bodyPost_ret (ret_commit rfl rfl hst) rfl ?_
                rw [HN.out]
                exact ⟨rfl, (HB7.out.setCell (p := ⟨w.heap.size, 0, none⟩) (Nat.le_refl _) _).setCell (p := ⟨w.heap.size, 1, none⟩) (Nat.le_refl _) _⟩
              | true =>
                have hY : decL b = some (rev, es) := by rw [HFi.out]; simp [hrb]
                have HY := Lib.hid hY
                clear hrb hY
                go_wp2
                have hst := two_stored HZ7.out (.int .u64 (rev : Int)) (.slice la es.length lcap)
                refine bodyPost_ret (ret_commit rfl rfl hst) rfl ?_
                rw [HY.out]
                have ho := ownsRow_setCell_other (ownsRow_setCell_other HO7.out (a := ⟨w.heap.size, 0, none⟩) (owns_ne HO7.out (show w.heap.size < w.heap.size + 2 by omega)) (.int .u64 (rev : Int))) (a := ⟨w.heap.size, 1, none⟩) (owns_ne HO7.out (show w.heap.size < w.heap.size + 2 by omega)) (.slice la es.length lcap)
                exact ⟨la, lcap, rfl, owns_mono ho (by omega), (HB7.out.setCell (p := ⟨w.heap.size, 0, none⟩) (Nat.le_refl _) _).setCell (p := ⟨w.heap.size, 1, none⟩) (Nat.le_refl _) _⟩
            · have hknI : ((k : Int) != (b.length : Int)) = true := by simp; omega
              have hN : decL b = none := by
                rw [hfi, if_neg (fun h => ?_)]
                have := congrArg List.length h.1
                rw [List.length_drop] at this
                simp at this
                omega
              have HN := Lib.hid hN
              clear hN hfi HI HGG HO HHS
              go_wp2
              have hst := two_stored HZZ.out (.int .u64 0) (.slice none 0 0)
              refine bodyPost_ret (ret_commit rfl rfl hst) rfl ?_
              rw [HN.out]
              exact ⟨rfl, (HBB.out.setCell (p := ⟨w.heap.size, 0, none⟩) (Nat.le_refl _) _).setCell (p := ⟨w.heap.size, 1, none⟩) (Nat.le_refl _) _⟩
          · obtain ⟨m, rfl⟩ : ∃ m, M = m + 1 := ⟨M - 1, by omega⟩
            have hiI : (i : Int) < cnt := by omega
            by_cases hkn : k < b.length
            · have hknI : ¬ (b.length : Int) ≤ k := by omega
              have c0 : wr.cell? ⟨bb, off + k, none⟩ = some (.int .u8 ((b.getD k 0).toNat : Int)) := (HBB.out.cell (p := ⟨bb, off + k, none⟩) hbw0).trans (HRd.out.bcell k hkn)
              have hent := entGo_at hkn
              generalize hcc : b.getD k 0 = c at *
              by_cases h1 : 1 < c.toNat
              · have h1I : (1 : Int) < c.toNat := by omega
                rw [if_pos h1] at hent
                have HN := Lib.hid (HI.out.bad hent)
                clear hent HI HGG HO HHS
                go_wp2
                have hst := two_stored HZZ.out (.int .u64 0) (.slice none 0 0)
                refine bodyPost_ret (ret_commit rfl rfl hst) rfl ?_
                rw [HN.out]
                exact ⟨rfl, (HBB.out.setCell (p := ⟨w.heap.size, 0, none⟩) (Nat.le_refl _) _).setCell (p := ⟨w.heap.size, 1, none⟩) (Nat.le_refl _) _⟩
              · have h1I : ¬ (1 : Int) < c.toNat := by omega
                rw [if_neg h1] at hent
                have hcut := (HHS0.out.cut (show k + 1 ≤ b.length by omega)).below HBB.out
                rw [cutV_some] at hcut
                by_cases hck2 : vcap = k + 1
                · have hz1 : b.length - (k + 1) = 0 := by omega
                  have hz2 : vcap - (k + 1) = 0 := by omega
                  have hl0 : b.drop (k + 1) = [] := List.eq_nil_of_length_eq_zero (by rw [List.length_drop]; omega)
                  have hbl : b.length = k + 1 := by omega
                  rw [if_pos hck2, hz1, hz2, hl0] at hcut
                  rw [hl0, getText_nil, if_neg (by decide)] at hent
                  have htext := refgettext_any _ _ _ _ hcut.reads
                  rw [getText_nil] at htext
                  have HT := Lib.hid htext
                  have HN := Lib.hid (HI.out.bad hent)
                  have hckI2 : (vcap : Int) = (k : Int) + 1 := by omega
                  have hblI : (b.length : Int) = (k : Int) + 1 := by omega
                  clear htext hcut hent HI HGG HO HHS hl0
                  subst hck2
                  rw [hbl]
                  go_wp2_with (go_at_call 32; go_must (refine HT.out.mono ?_))
                  rintro e w5 ⟨rfl, rfl⟩
                  go_wp2
                  have hst := two_stored HZZ.out (.int .u64 0) (.slice none 0 0)
                  refine bodyPost_ret (ret_commit rfl rfl hst) rfl ?_
                  rw [HN.out]
                  exact ⟨rfl, (HBB.out.setCell (p := ⟨w.heap.size, 0, none⟩) (Nat.le_refl _) _).setCell (p := ⟨w.heap.size, 1, none⟩) (Nat.le_refl _) _⟩
                · have hck2I : ¬ ((vcap : Int) = (k : Int) + 1) := by omega
                  rw [if_neg hck2] at hcut
                  have htext := refgettext_any _ _ _ _ hcut.reads
                  have hld : (b.drop (k + 1)).length = b.length - (k + 1) := List.length_drop
                  have htu := getText_used (b.drop (k + 1))
                  have hts := text_size (b.drop (k + 1))
                  rw [hld] at htu hts
                  generalize getText (b.drop (k + 1)) = tx at *
                  obtain ⟨S, k3, te⟩ := tx
                  dsimp only at hent htu hts htext
                  have HT := Lib.hid htext
                  have hln : ((b.length - (k + 1) : Nat) : Int) = (b.length : Int) - ((k : Int) + 1) := by omega
                  have hlc : ((vcap - (k + 1) : Nat) : Int) = (vcap : Int) - ((k : Int) + 1) := by omega
                  have hk1I : (k : Int) + 1 ≤ b.length := by omega
                  clear htext hcut
                  by_cases hte : te = 0
                  · subst hte
                    rw [if_pos rfl] at hent
                    go_wp2_with (go_at_call 32; go_must (refine HT.out.mono ?_))
                    rintro e w5 ⟨rfl, rfl⟩
                    go_wp2_with fail
                    generalize hSb : (⟨S.toArray⟩ : ByteArray) = SB at *
                    have hSz : SB.size ≤ b.length := by
                      rw [← hSb]
                      show S.length ≤ b.length
                      omega
                    have hstep := HI.out.step hent (by omega) (by omega) hSz
                    have HSp := Lib.hid hstep
                    generalize htb : (c == 1) = tb at *
                    have htbI : ((c.toNat : Int) == 1) = tb := by
                      rw [← htb]
                      by_cases h : c = 1
                      · subst h; rfl
                      · have h2 : (c == 1) = false := beq_eq_false_iff_ne.2 h
                        have h3 : ¬ ((c.toNat : Int) = 1) := fun e => h (UInt8.toNat_inj.1 (by show c.toNat = 1; omega))
                        rw [h2]
                        simpa using h3
                    clear hent hstep HI HHS
                    refine wp_region_tail (l := [_, _, _, _, _, _, _, _, _, _, _]) (tl := [_, _, _]) (by kernel_rfl) [eqF (.pointer (some ⟨w.heap.size + 1, 1, none⟩)), eqF (.slice la es.length lcap), eqF (.string SB), eqF (.int .u64 (rev : Int)), eqF (.slice (some ⟨bb, off, none⟩) b.length vcap), eqF (.int .i64 (k : Int)), eqF (.pointer (some ⟨bb, off + k, none⟩)), eqF (.int .u8 (c.toNat : Int)), eqF (.bool tb), eqF (.agg #[.string SB, .int .u64 (rev : Int), .bool tb]), rowsF 3 1 (ecell ⟨SB, rev, tb⟩)] (by kernel_rfl) (by kernel_rfl) (by kernel_rfl) (by decide) ⟨?_, ?_, ?_, ?_, ?_, ?_, ?_, ?_, ?_, ?_, ?_, trivial⟩ ?_
                    · intro ρ wx hρ hbx hl
                      have e9 : ρ (.tmp 9) = .pointer (some ⟨w.heap.size + 1, 0, none⟩) := hρ.tmp 9 (by decide +kernel)
                      refine y_val (v := .pointer (some ⟨w.heap.size + 1, 1, none⟩)) ?_ rfl
                      simp [execOp, go_sem, e9]
                    · intro ρ wx hρ hbx hl
                      have e69 : ρ (.tmp 69) = .pointer (some ⟨w.heap.size + 1, 1, none⟩) := hl 0 (by decide +kernel) 69 rfl
                      have kk := (hbx.cell (glt)).trans q1
                      refine y_val (v := .slice la es.length lcap) ?_ rfl
                      simp [execOp, go_sem, e69, kk]
                    · intro ρ wx hρ hbx hl
                      have e11 : ρ (.tmp 11) = .string SB := hρ.tmp 11 (by decide +kernel)
                      refine y_val (v := .string SB) ?_ rfl
                      simp [execOp, go_sem, e11]
                    · intro ρ wx hρ hbx hl
                      have e4 : ρ (.tmp 4) = .int .u64 (rev : Int) := hρ.tmp 4 (by decide +kernel)
                      refine y_val (v := .int .u64 (rev : Int)) ?_ rfl
                      simp [execOp, go_sem, e4]
                    · intro ρ wx hρ hbx hl
                      have e0 : ρ (.tmp 0) = .slice (some ⟨bb, off, none⟩) b.length vcap := hρ.tmp 0 (by decide +kernel)
                      refine y_val (v := .slice (some ⟨bb, off, none⟩) b.length vcap) ?_ rfl
                      simp [execOp, go_sem, e0]
                    · intro ρ wx hρ hbx hl
                      have e7 : ρ (.tmp 7) = .int .i64 (k : Int) := hρ.tmp 7 (by decide +kernel)
                      refine y_val (v := .int .i64 (k : Int)) ?_ rfl
                      simp [execOp, go_sem, e7]
                    · intro ρ wx hρ hbx hl
                      have e73 : ρ (.tmp 73) = .slice (some ⟨bb, off, none⟩) b.length vcap := hl 4 (by decide +kernel) 73 rfl
                      have e74 : ρ (.tmp 74) = .int .i64 (k : Int) := hl 5 (by decide +kernel) 74 rfl
                      refine y_val (v := .pointer (some ⟨bb, off + k, none⟩)) ?_ rfl
                      simp [execOp, go_sem, e73, e74]
                      intro h
                      omega
                    · intro ρ wx hρ hbx hl
                      have e75 : ρ (.tmp 75) = .pointer (some ⟨bb, off + k, none⟩) := hl 6 (by decide +kernel) 75 rfl
                      have kk := (hbx.cell (hbb)).trans c0
                      refine y_val (v := .int .u8 (c.toNat : Int)) ?_ rfl
                      simp [execOp, go_sem, e75, kk]
                    · intro ρ wx hρ hbx hl
                      have e76 : ρ (.tmp 76) = .int .u8 (c.toNat : Int) := hl 7 (by decide +kernel) 76 rfl
                      refine y_val (v := .bool tb) ?_ rfl
                      simp [execOp, hρ.const, go_sem, e76, htbI]
                    · intro ρ wx hρ hbx hl
                      have e71 : ρ (.tmp 71) = .string SB := hl 2 (by decide +kernel) 71 rfl
                      have e72 : ρ (.tmp 72) = .int .u64 (rev : Int) := hl 3 (by decide +kernel) 72 rfl
                      have e77 : ρ (.tmp 77) = .bool tb := hl 8 (by decide +kernel) 77 rfl
                      refine y_val (v := .agg #[.string SB, .int .u64 (rev : Int), .bool tb]) ?_ rfl
                      simp [execOp, go_sem, e71, e72, e77]
                    · intro ρ wx hρ hbx hl
                      have e78 : ρ (.tmp 78) = .agg #[.string SB, .int .u64 (rev : Int), .bool tb] := hl 9 (by decide +kernel) 78 rfl
                      refine y_new' (v := .slice (some ⟨wx.heap.size, 0, none⟩) 1 1) (w' := wx.alloc (.cells #[.string SB, .int .u64 (rev : Int), .bool tb] 48)) ?_ ⟨_, rfl, rows_new wx⟩ ((Below.refl _ _).alloc (Nat.le_refl _) _)
                      simp [execOp, go_sem, e78]
                    intro aa wz hdef hsz hlk hbz hf
                    have ha := act_of_like hdef hsz hlk [69, 70, 71, 72, 73, 74, 75, 76, 77, 78, 79] 97 rfl (by decide +kernel)
                    have e69 : aa.tmps.getD 69 undef = .pointer (some ⟨w.heap.size + 1, 1, none⟩) := hf 0 _ 69 rfl rfl
                    have e70 : aa.tmps.getD 70 undef = .slice la es.length lcap := hf 1 _ 70 rfl rfl
                    have e71 : aa.tmps.getD 71 undef = .string SB := hf 2 _ 71 rfl rfl
                    have e72 : aa.tmps.getD 72 undef = .int .u64 (rev : Int) := hf 3 _ 72 rfl rfl
                    have e73 : aa.tmps.getD 73 undef = .slice (some ⟨bb, off, none⟩) b.length vcap := hf 4 _ 73 rfl rfl
                    have e74 : aa.tmps.getD 74 undef = .int .i64 (k : Int) := hf 5 _ 74 rfl rfl
                    have e75 : aa.tmps.getD 75 undef = .pointer (some ⟨bb, off + k, none⟩) := hf 6 _ 75 rfl rfl
                    have e76 : aa.tmps.getD 76 undef = .int .u8 (c.toNat : Int) := hf 7 _ 76 rfl rfl
                    have e77 : aa.tmps.getD 77 undef = .bool tb := hf 8 _ 77 rfl rfl
                    have e78 : aa.tmps.getD 78 undef = .agg #[.string SB, .int .u64 (rev : Int), .bool tb] := hf 9 _ 78 rfl rfl
                    have e79 : (rowsF 3 1 (ecell ⟨SB, rev, tb⟩)).1 (aa.tmps.getD 79 undef) wz := hf 10 _ 79 rfl rfl
                    obtain ⟨g79, h79, hr79⟩ := e79
                    simp only [putAll, List.foldl_cons, List.foldl_nil, e69, e70, e71, e72, e73, e74, e75, e76, e77, e78, h79] at ha
                    simp [Act.put] at ha
                    subst ha
                    clear hdef hsz hlk hf e69 e70 e71 e72 e73 e74 e75 e76 e77 e78 h79
                    have HOz := Lib.hid (owns_below HO.out hbz)
                    have HGz := Lib.hid (below_block hbz HGG.out glt)
                    have HZz := Lib.hid (below_block hbz HZZ.out (by omega))
                    have HBz := Lib.hid (HBB.out.trans (hbz.mono HBB.out.size))
                    have hszz := hbz.size
                    clear hbz HO HGG HZZ HBB c0 q0 q1 qf z0 z1 zf
                    refine seqWp_append_owns _ _ 23 23 rfl (w.heap.size + 2) 48 i0 _ 3 32 Tryd.underlying23 hi hz0 hz1 hz2 rfl _ _ _ rfl HOz.out _ 1 _ rfl (hr79.srcN Tryd.underlying23 (by intro u hu; simp [ecell] at hu; rcases hu with rfl | rfl | rfl <;> rfl)) ?_ ?_ ?_ ?_
                    · unfold maxLen; omega
                    · omega
                    · omega
                    intro v6 w6 o6 g6 b6 _
                    have e6 : ecells es ++ ecell ⟨SB, rev, tb⟩ = ecells (es ++ [⟨SB, rev, tb⟩]) := by simp [ecells]
                    have e7 : (es ++ [(⟨SB, rev, tb⟩ : Ent)]).length = es.length + 1 := by simp
                    have E7 := Lib.hid e7
                    rw [e6] at o6
                    obtain ⟨na, ncap, rfl, _, _⟩ := (ownsRow.reads o6).le
                    have hno1 := owns_ne HOz.out (g := w.heap.size + 1) (by omega)
                    have hno0 := owns_ne HOz.out (g := w.heap.size) (by omega)
                    have hg9 := (g6.block (w.heap.size + 1) (by omega) (fun h => hno1 h.symm)).trans HGz.out
                    have hz9 := (g6.block w.heap.size (by omega) (fun h => hno0 h.symm)).trans HZz.out
                    have hb9 := HBz.out.trans (b6.mono (by omega))
                    have HG10 := Lib.hid (heap_setCell_same w6 (w.heap.size + 1) 1 _ _ (.slice na (es.length + 1) ncap) hg9)
                    have HO10 := Lib.hid (ownsRow_setCell_other o6 (a := ⟨w.heap.size + 1, 1, none⟩) (owns_ne o6 (show w.heap.size + 1 < w.heap.size + 2 by omega)) (.slice na (es.length + 1) ncap))
                    have HZ10 := Lib.hid ((heap_setCell_other w6 ⟨w.heap.size + 1, 1, none⟩ w.heap.size (.slice na (es.length + 1) ncap) (show w.heap.size ≠ w.heap.size + 1 by omega)).trans hz9)
                    have HB10 := Lib.hid (hb9.setCell (p := ⟨w.heap.size + 1, 1, none⟩) (show w.heap.size ≤ w.heap.size + 1 by omega) (.slice na (es.length + 1) ncap))
                    have x1 := Lib.cell_of_heap hg9 1
                    have xf := Lib.frozen_of_heap hg9
                    simp at x1
                    clear e6 e7 hno1 hno0 hz9 hb9 o6 g6 b6 hr79 HOz HGz HZz HBz hg9
                    show Oper.wp _ _ _ _ _ _
                    unfold Oper.wp
                    simp [execOp, go_sem, Act.put]
                    unfold seqWp Oper.wp
                    simp [execOp, go_sem, x1, xf]
                    unfold seqWp
                    go_wp2
                    refine ⟨⟨k + (1 + k3), i + 1, m, _, _, by simp; omega, by go_num, by omega, HSp.out, HG10.out, by rw [E7.out]; exact HO10.out, HB10.out, HZ10.out⟩, by simp [intOf]; omega⟩
                  · rw [if_neg hte] at hent
                    have HN := Lib.hid (HI.out.bad hent)
                    have hteI : ((te : Int) != 0) = true := by simp; omega
                    clear hent HI HGG HO HHS
                    go_wp2_with (go_at_call 32; go_must (refine HT.out.mono ?_))
                    rintro e w5 ⟨rfl, rfl⟩
                    go_wp2
                    have hst := two_stored HZZ.out (.int .u64 0) (.slice none 0 0)
                    refine bodyPost_ret (ret_commit rfl rfl hst) rfl ?_
                    rw [HN.out]
                    exact ⟨rfl, (HBB.out.setCell (p := ⟨w.heap.size, 0, none⟩) (Nat.le_refl _) _).setCell (p := ⟨w.heap.size, 1, none⟩) (Nat.le_refl _) _⟩
            · have hknI : (b.length : Int) ≤ k := by omega
              have HN := Lib.hid (HI.out.bad (entGo_end (by omega)))
              clear HI HGG HO HHS
              go_wp2
              have hst := two_stored HZZ.out (.int .u64 0) (.slice none 0 0)
              refine bodyPost_ret (ret_commit rfl rfl hst) rfl ?_
              rw [HN.out]
              exact ⟨rfl, (HBB.out.setCell (p := ⟨w.heap.size, 0, none⟩) (Nat.le_refl _) _).setCell (p := ⟨w.heap.size, 1, none⟩) (Nat.le_refl _) _⟩
      · have hN : decL b = none := by rw [HD.out, if_neg he2]
        have HN := Lib.hid hN
        have he2I : ((e2 : Int) != 0) = true := by simp; omega
        clear hN HD he2
        go_enter Tryd.func15, Tryd.ntmps15
        go_wp2_with (go_at_call 31; go_must (refine HG.out.mono ?_))
        rintro e w1 ⟨rfl, rfl⟩
        go_wp2_with (go_at_call 31; go_must (refine H2.out.mono ?_))
        rintro e w1 ⟨rfl, rfl⟩
        go_wp2
        refine bodyPost_ret (ret_commit rfl rfl HZ.out) rfl ?_
        rw [HN.out]
        exact ⟨rfl, HB.out⟩
  · have hN : decL b = none := by unfold decL; rw [if_neg he1]
    have HN := Lib.hid hN
    have he1I : (((getGo 0 0 b).2.2 : Int) != 0) = true := by simp; omega
    have z0 := Lib.cell_of_heap HZ.out 0
    clear hN he1 HS z0
    obtain ⟨va, vcap, rfl⟩ := hs.form
    go_enter Tryd.func15, Tryd.ntmps15
    go_wp2_with (go_at_call 31; go_must (refine HG.out.mono ?_))
    rintro e w1 ⟨rfl, rfl⟩
    go_wp2
    refine bodyPost_ret (ret_commit rfl rfl HZ.out) rfl ?_
    rw [HN.out]
    exact ⟨rfl, HB.out⟩

set_option maxRecDepth 100000 in
set_option maxHeartbeats 1000000 in
theorem refdecode_nil (w : World) (a : Option Addr) (cap : Nat) (h : Reads w 1 (.slice a 0 cap) 0 (bcells [])) :
    Calls Tryd.prog 15 #[.slice a 0 cap] w (DecPost w none) := by
  have hz := heap_alloc_new w (.cells #[.int .u64 0, .slice none 0 0] 25)
  have hb0 : Below w.heap.size w (w.alloc (.cells #[.int .u64 0, .slice none 0 0] 25)) := (Below.refl _ w).alloc (Nat.le_refl _) _
  have hget := refget_any _ _ _ _ (h.below' hb0)
  rw [show getGo 0 0 [] = (0, 0, 7) from by decide] at hget
  have HZ := Lib.hid hz
  have HB := Lib.hid hb0
  have HG := Lib.hid hget
  clear hz hb0 hget h
  go_enter Tryd.func15, Tryd.ntmps15
  go_wp2_with (go_at_call 31; go_must (refine HG.out.mono ?_))
  rintro e w1 ⟨rfl, rfl⟩
  go_wp2
  refine bodyPost_ret (ret_commit rfl rfl HZ.out) rfl ?_
  exact ⟨rfl, HB.out⟩

theorem refdecode_reads (w : World) (v : Value) (b : List UInt8) (h : Reads w 1 v b.length (bcells b)) (hb : b.length ≤ 1000000) :
    Calls Tryd.prog 15 #[v] w (DecPost w (decL b)) := by
  by_cases hn : 0 < b.length
  · have h' := h
    obtain ⟨bb, off, cap, rfl, _, _, _, hc⟩ := h.head hn
    exact refdecode_any w _ b (.inr ⟨bb, off, cap, rfl, fun _ => World.block_lt_of_cell? _ _ (hc 0 hn), fun _ => World.block_lt_of_cell? _ _ (hc 0 hn), h'⟩) hb
  · obtain rfl : b = [] := List.eq_nil_of_length_eq_zero (by omega)
    obtain ⟨a, cap, rfl, _, _⟩ := h.le
    have e : decL [] = none := by decide
    rw [e]
    exact refdecode_nil w a cap h
end Go.Proofs.YtoibhkmlebcepaaDoor
