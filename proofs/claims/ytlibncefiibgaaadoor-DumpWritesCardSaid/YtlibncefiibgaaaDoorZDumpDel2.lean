/- slices.DeleteFunc at a row of tuples of one's own: what may be stays. -/
import Derived.Test.YtlibncefiibgaaaDoorZDumpDel
namespace Go.Proofs.YtlibncefiibgaaaDoor
open Go Go.RowKit

theorem setCells_heap {b : Nat} {e : TypeId} : ∀ (vs : List Value) (o : Nat) (w : World) (cur : Array Value), w.heap[b]? = some (.cells cur e (0, 0)) →
    ∃ cu', (w.setCells b o vs).heap[b]? = some (.cells cu' e (0, 0)) ∧ cu'.size = cur.size ∧ ∀ p, p < o → cu'.toList[p]? = cur.toList[p]?
  | [], _, _, cur, h => ⟨cur, h, rfl, fun _ _ => rfl⟩
  | v :: r, o, w, cur, h => by
    have h1 := heap_setCell_same w b o _ _ v h
    obtain ⟨cu', h2, h3, h4⟩ := setCells_heap r (o + 1) _ _ h1
    refine ⟨cu', h2, by rw [h3]; simp, fun p hp => ?_⟩
    rw [h4 p (by omega), Array.toList_setIfInBounds, List.getElem?_set_ne (by omega)]

def set6A (cu : Array Value) (k : Nat) (t : Six) : Array Value :=
  (((((cu.setIfInBounds k (.string t.a)).setIfInBounds (k + 1) (.string t.b)).setIfInBounds (k + 2) (.string t.c)).setIfInBounds (k + 3) (.string t.d)).setIfInBounds (k + 4) (.string t.e)).setIfInBounds (k + 5) (.string t.f)
theorem set6A_size (cu : Array Value) (k : Nat) (t : Six) : (set6A cu k t).size = cu.size := by simp [set6A]
theorem set6A_out (cu : Array Value) (k : Nat) (t : Six) {p : Nat} (h : p < k ∨ k + 6 ≤ p) : (set6A cu k t).toList[p]? = cu.toList[p]? := by
  unfold set6A
  simp only [Array.toList_setIfInBounds]
  rw [List.getElem?_set_ne (by omega), List.getElem?_set_ne (by omega), List.getElem?_set_ne (by omega), List.getElem?_set_ne (by omega), List.getElem?_set_ne (by omega), List.getElem?_set_ne (by omega)]
theorem set6A_in (cu : Array Value) (k : Nat) (t : Six) (hk : k + 6 ≤ cu.size) {x : Nat} (hx : x < 6) : (set6A cu k t).toList[k + x]? = t.cells[x]? := by
  have hl : cu.toList.length = cu.size := Array.length_toList
  unfold set6A
  simp only [Array.toList_setIfInBounds]
  match x, hx with
  | 0, _ => simp [List.getElem?_set, Six.cells, Six.list, scells]; omega
  | 1, _ => simp [List.getElem?_set, Six.cells, Six.list, scells]; omega
  | 2, _ => simp [List.getElem?_set, Six.cells, Six.list, scells]; omega
  | 3, _ => simp [List.getElem?_set, Six.cells, Six.list, scells]; omega
  | 4, _ => simp [List.getElem?_set, Six.cells, Six.list, scells]; omega
  | 5, _ => simp [List.getElem?_set, Six.cells, Six.list, scells]; omega
theorem set6A_take (cu : Array Value) (k : Nat) (t : Six) (hk : k + 6 ≤ cu.size) : (set6A cu k t).toList.take (k + 6) = cu.toList.take k ++ t.cells := by
  have hl : cu.toList.length = cu.size := Array.length_toList
  refine List.ext_getElem? fun p => ?_
  rw [List.getElem?_take]
  by_cases h1 : p < k
  · rw [if_pos (by omega), set6A_out cu k t (.inl h1), List.getElem?_append_left (by rw [List.length_take]; omega), List.getElem?_take, if_pos h1]
  · by_cases h2 : p < k + 6
    · have h3 := set6A_in cu k t hk (x := p - k) (by omega)
      rw [show k + (p - k) = p by omega] at h3
      rw [if_pos h2, h3, List.getElem?_append_right (by rw [List.length_take]; omega), List.length_take, hl, Nat.min_eq_left (by omega)]
    · rw [if_neg h2, List.getElem?_append_right (by rw [List.length_take]; omega), List.length_take, hl, Nat.min_eq_left (by omega), List.getElem?_eq_none]
      show 6 ≤ p - k
      omega

def DelPost (w : World) (B : Nat) (v : Value) (l : List Six) (e : Ending) (w' : World) : Prop :=
  ∃ v', e = .returned v' ∧ w'.ownsRow B 37 6 v' (l.filter Six.ok).length (tcells (l.filter Six.ok)) ∧ w.grownBy w' v.ownBlock
def DlRel (w : World) (g n cap : Nat) (l : List Six) (iv jv : Value) (wr : World) : Prop :=
  ∃ (i j : Nat) (cu : Array Value), iv = .int .i64 (i : Int) ∧ jv = .int .i64 (j : Int) ∧ j ≤ n ∧ i < j ∧ wr.heap[g]? = some (.cells cu 37 (0, 0)) ∧ cu.size = cap * 6 ∧ i = ((l.take j).filter Six.ok).length ∧
    cu.toList.take (i * 6) = tcells ((l.take j).filter Six.ok) ∧ (∀ p, j * 6 ≤ p → p < n * 6 → cu.toList[p]? = (tcells l)[p]?) ∧ Touch w wr [g]

theorem touch_grown {w w' : World} {g : Nat} (h : Touch w w' [g]) : w.grownBy w' (some g) := ⟨h.os, h.tape, h.output, h.size, fun i hi hn => h.block i hi (by simp; exact fun e => hn (by rw [e]))⟩

set_option maxRecDepth 100000 in
set_option maxHeartbeats 2000000 in
theorem delete_any (w : World) (B : Nat) (v : Value) (l : List Six) (h : w.ownsRow B 37 6 v l.length (tcells l)) (hs : ∀ t ∈ l, t.short 1000000000) (hn : l.length ≤ 1000000) :
    Calls Tryd.prog 16 #[v, .func (.func 18) #[] #[]] w (DelPost w B v l) := by
  have hen : ∀ (args : Array Value) (w : World), (callFunc 18 args).run Tryd.prog w = .ok (.enter 18 args) w := fun _ _ => by kernel_rfl
  obtain ⟨a, cap, rfl, hc1, hc2⟩ := (ownsRow.reads h).le
  unfold maxLen at hc2
  obtain ⟨n, hnl⟩ : ∃ n, l.length = n := ⟨_, rfl⟩
  rw [hnl] at h hc1 hn
  have HIx := Lib.hid (index_any w a n cap l hnl (ownsRow.reads h) hs)
  have HO := Lib.hid h
  have HL := Lib.hid hnl
  have HS := Lib.hid hs
  rw [hnl]
  clear hs hnl
  go_enter Tryd.func16, Tryd.ntmps16
  go_wp2_with (go_at_call 33; go_must (refine HIx.out.mono ?_))
  intro e w1 hp
  obtain ⟨b1, ⟨hal, rfl⟩ | ⟨i0, t0, ht0, hk0, ha0, rfl⟩⟩ := hp
  · have HA := Lib.hid hal
    have HB := Lib.hid b1
    clear hal b1 h HIx
    go_wp2
    go_ret
    have hf : l.filter Six.ok = l := List.filter_eq_self.2 (List.all_eq_true.1 HA.out)
    refine ⟨_, rfl, ?_, ⟨HB.out.os, HB.out.tape, HB.out.output, HB.out.size, fun i hi _ => HB.out.block i hi⟩⟩
    rw [hf, HL.out]
    exact owns_below HO.out HB.out
  · have hi0 : i0 < n := by rw [← HL.out]; exact (List.getElem?_eq_some_iff.1 ht0).1
    have h1 := owns_below h b1
    obtain ⟨hlen, ⟨_, hz⟩ | ⟨g, cap', cur, hv, hgB, hh, h1', h2', h3', h4'⟩⟩ := h1
    · omega
    · cases hv
      have hgw : g < w.heap.size := by
        obtain ⟨_, ⟨_, hz⟩ | ⟨g', _, cur', hv, _, hh', _⟩⟩ := h
        · omega
        · cases hv
          exact (Array.getElem?_eq_some_iff.1 hh').1
      have hf0 : (l.take (i0 + 1)).filter Six.ok = l.take i0 := by
        rw [List.take_add_one, ht0, List.filter_append, List.filter_eq_self.2 (List.all_eq_true.1 ha0)]
        simp [hk0]
      have hfl : i0 = ((l.take (i0 + 1)).filter Six.ok).length := by rw [hf0, List.length_take, HL.out]; omega
      have hct : cur.toList.take (i0 * 6) = tcells ((l.take (i0 + 1)).filter Six.ok) := by
        rw [hf0]
        have := congrArg (List.take (i0 * 6)) h4'
        rw [List.take_take, Nat.min_eq_left (by omega)] at this
        rw [this]
        unfold tcells
        rw [← List.take_append_drop i0 l, List.flatMap_append]
        have hl6 : ((l.take i0).flatMap Six.cells).length = i0 * 6 := by
          have := tcells_length (l.take i0)
          unfold tcells at this
          rw [this, List.length_take, HL.out, Nat.min_eq_left (by omega)]
        rw [List.take_append_of_le_length (by omega), List.take_of_length_le (by omega), List.take_append_drop]
      have hcp : ∀ p, (i0 + 1) * 6 ≤ p → p < n * 6 → cur.toList[p]? = (tcells l)[p]? := fun p _ hp => by
        rw [← h4', List.getElem?_take, if_pos hp]
      have HC := Lib.hid (show DlRel w g n cap l (.int .i64 (i0 : Int)) (.int .i64 ((i0 + 1 : Nat) : Int)) w1 from ⟨i0, i0 + 1, cur, rfl, rfl, hi0, Nat.lt_succ_self _, hh, h3', hfl, hct, hcp, Touch.of_below b1 _⟩)
      have hz : ((i0 + 1 : Nat) : Int) = (i0 : Int) + 1 := by omega
      have hib : ((i0 : Int) == -1) = false := beq_false_of_ne (by omega)
      clear HIx b1 h hlen hh h4' hfl hct hcp hf0 ht0 hk0 ha0
      go_wp2
      go_loopw [5, 6] (fun iv jv wr => DlRel w g n cap l iv jv wr) (fun _ jv _ => n - (intOf jv).toNat)
      case atStart => first | exact HC.out | (rw [hz] at HC; exact HC.out)
      case round =>
        obtain ⟨i, j, cu, rfl, rfl, hjn, hij, hh, hsz, hil, htk, hcp, ht⟩ := hrel
        clear HC
        have hgr := (Array.getElem?_eq_some_iff.1 hh).1
        by_cases hlt : j < n
        · have hltI : (j : Int) < n := by omega
          obtain ⟨t, hjt⟩ : ∃ t, l[j]? = some t := ⟨l[j]'(by rw [HL.out]; exact hlt), List.getElem?_eq_getElem _⟩
          have hat : ∀ x, x < 6 → wr.cell? ⟨g, j * 6 + x, none⟩ = t.cells[x]? := fun x hx => by
            rw [Lib.cell_of_heap hh (j * 6 + x), ← Array.getElem?_toList, hcp _ (by omega) (by omega), tcells_at l hjt hx]
          have hts := HS.out t (List.mem_of_getElem? hjt)
          have hfs : (l.take (j + 1)).filter Six.ok = (l.take j).filter Six.ok ++ (if t.ok then [t] else []) := by
            rw [List.take_add_one, hjt, List.filter_append]
            cases hk : t.ok <;> simp [hk]
          have hCl := fun W => delclo_any W t hts
          unfold Six.val at hCl
          have k0 : wr.cell? ⟨g, j * 6, none⟩ = some (.string t.a) := hat 0 (by decide)
          have k1 : wr.cell? ⟨g, j * 6 + 1, none⟩ = some (.string t.b) := hat 1 (by decide)
          have k2 : wr.cell? ⟨g, j * 6 + 2, none⟩ = some (.string t.c) := hat 2 (by decide)
          have k3 : wr.cell? ⟨g, j * 6 + 3, none⟩ = some (.string t.d) := hat 3 (by decide)
          have k4 : wr.cell? ⟨g, j * 6 + 4, none⟩ = some (.string t.e) := hat 4 (by decide)
          have k5 : wr.cell? ⟨g, j * 6 + 5, none⟩ = some (.string t.f) := hat 5 (by decide)
          obtain ⟨a, b, c, d, e, f⟩ := t
          simp only at k0 k1 k2 k3 k4 k5 hCl
          have hba : Below wr.heap.size wr (wr.alloc (.cells #[.string a, .string b, .string c, .string d, .string e, .string f] 37)) := (Below.refl _ _).alloc (Nat.le_refl _) _
          have HBx := Lib.hid (heap_alloc_new wr (.cells #[.string a, .string b, .string c, .string d, .string e, .string f] 37))
          have hh2 := (hba.block g hgr).trans hh
          have HT2 := Lib.hid (ht.alloc (.cells #[.string a, .string b, .string c, .string d, .string e, .string f] 37))
          have HH := Lib.hid hh2
          have HCl := Lib.hid hCl
          have HFs := Lib.hid hfs
          have HTk := Lib.hid htk
          have HIl := Lib.hid hil
          have HCp := Lib.hid hcp
          have hbxs : wr.heap.size < (wr.alloc (.cells #[.string a, .string b, .string c, .string d, .string e, .string f] 37)).heap.size := by simp
          have hgne : wr.heap.size ≠ g := by omega
          clear hba hh2 hh hCl hfs htk hil hcp hat ht hjt hts
          go_upto_region 8 with fail
          generalize wr.alloc (.cells #[.string a, .string b, .string c, .string d, .string e, .string f] 37) = w2 at *
          obtain ⟨tb, htb⟩ : ∃ t, wr.heap.size = t := ⟨_, rfl⟩
          rw [htb] at HBx hbxs hgne
          rw [htb]
          have x0 := Lib.cell_of_heap HBx.out 0; have x1 := Lib.cell_of_heap HBx.out 1; have x2 := Lib.cell_of_heap HBx.out 2; have x3 := Lib.cell_of_heap HBx.out 3; have x4 := Lib.cell_of_heap HBx.out 4; have x5 := Lib.cell_of_heap HBx.out 5
          simp at x0 x1 x2 x3 x4 x5
          generalize Six.ok ⟨a, b, c, d, e, f⟩ = ok at *
          go_wp2_with (go_at_call 18; go_must (refine (HCl.out _).mono ?_))
          rintro e w3 ⟨rfl, b3⟩
          have HH3 := Lib.hid ((b3.block g (by omega)).trans HH.out)
          have HB3 := Lib.hid ((b3.block tb hbxs).trans HBx.out)
          have HT3 := Lib.hid (HT2.out.same (Touch.of_below b3 _))
          have hs3 := b3.size
          clear b3 HCl HH HBx HT2 x0 x1 x2 x3 x4 x5 k0 k1 k2 k3 k4 k5
          cases ok with
          | false =>
            go_wp2
            refine ⟨⟨i, j + 1, cu, rfl, by go_num, by omega, by omega, HH3.out, hsz, ?_, ?_, fun p hp1 hp2 => HCp.out p (by omega) hp2, HT3.out⟩, by simp [intOf]; omega⟩
            · rw [HFs.out]
              simpa using HIl.out
            · rw [HFs.out]
              simpa using HTk.out
          | true =>
            have hcap6 : i * 6 + 5 < cu.size := by rw [hsz]; omega
            have hcx : ∀ x, x < 6 → ∃ u, w3.cell? ⟨g, i * 6 + x, none⟩ = some u := fun x hx => by
              rw [Lib.cell_of_heap HH3.out (i * 6 + x)]
              exact ⟨_, Array.getElem?_eq_getElem (by omega)⟩
            obtain ⟨v0, c0⟩ := hcx 0 (by decide)
            obtain ⟨v1, c1⟩ := hcx 1 (by decide)
            obtain ⟨v2, c2⟩ := hcx 2 (by decide)
            obtain ⟨v3, c3⟩ := hcx 3 (by decide)
            obtain ⟨v4, c4⟩ := hcx 4 (by decide)
            obtain ⟨v5, c5⟩ := hcx 5 (by decide)
            simp only [Nat.add_zero] at c0
            have fz := Lib.frozen_of_heap HH3.out
            have hg3 : g < w3.heap.size := by omega
            have ht3 : tb < w3.heap.size := by omega
            have x0 := Lib.cell_of_heap HB3.out 0; have x1 := Lib.cell_of_heap HB3.out 1; have x2 := Lib.cell_of_heap HB3.out 2; have x3 := Lib.cell_of_heap HB3.out 3; have x4 := Lib.cell_of_heap HB3.out 4; have x5 := Lib.cell_of_heap HB3.out 5
            simp at x0 x1 x2 x3 x4 x5
            have hiI : (i : Int) < n := by omega
            have h1 := heap_setCell_same _ _ (i * 6) _ _ (.string a) HH3.out
            have h2 := heap_setCell_same _ _ (i * 6 + 1) _ _ (.string b) h1
            have h3 := heap_setCell_same _ _ (i * 6 + 2) _ _ (.string c) h2
            have h4 := heap_setCell_same _ _ (i * 6 + 3) _ _ (.string d) h3
            have h5 := heap_setCell_same _ _ (i * 6 + 4) _ _ (.string e) h4
            have h6 := heap_setCell_same _ _ (i * 6 + 5) _ _ (.string f) h5
            have HST := Lib.hid (show ((((((w3.setCell ⟨g, i * 6, none⟩ (.string a)).setCell ⟨g, i * 6 + 1, none⟩ (.string b)).setCell ⟨g, i * 6 + 2, none⟩ (.string c)).setCell ⟨g, i * 6 + 3, none⟩ (.string d)).setCell ⟨g, i * 6 + 4, none⟩ (.string e)).setCell ⟨g, i * 6 + 5, none⟩ (.string f)).heap[g]? = some (.cells (set6A cu (i * 6) ⟨a, b, c, d, e, f⟩) 37 (0, 0)) from h6)
            have HTT := Lib.hid (show Touch w ((((((w3.setCell ⟨g, i * 6, none⟩ (.string a)).setCell ⟨g, i * 6 + 1, none⟩ (.string b)).setCell ⟨g, i * 6 + 2, none⟩ (.string c)).setCell ⟨g, i * 6 + 3, none⟩ (.string d)).setCell ⟨g, i * 6 + 4, none⟩ (.string e)).setCell ⟨g, i * 6 + 5, none⟩ (.string f)) [g] from (((((HT3.out.setCell (p := ⟨g, i * 6, none⟩) (.inl (by simp)) _).setCell (p := ⟨g, i * 6 + 1, none⟩) (.inl (by simp)) _).setCell (p := ⟨g, i * 6 + 2, none⟩) (.inl (by simp)) _).setCell (p := ⟨g, i * 6 + 3, none⟩) (.inl (by simp)) _).setCell (p := ⟨g, i * 6 + 4, none⟩) (.inl (by simp)) _).setCell (p := ⟨g, i * 6 + 5, none⟩) (.inl (by simp)) _)
            clear h1 h2 h3 h4 h5 h6 hcx
            go_wp2
            refine ⟨⟨i + 1, j + 1, set6A cu (i * 6) ⟨a, b, c, d, e, f⟩, by go_num, by go_num, by omega, by omega, HST.out, by rw [set6A_size, hsz], ?_, ?_, fun p hp1 hp2 => ?_, HTT.out⟩, by simp [intOf]; omega⟩
            · rw [HFs.out]
              have := HIl.out
              simp
              omega
            · rw [HFs.out, show (i + 1) * 6 = i * 6 + 6 by omega, set6A_take _ _ _ (by omega), HTk.out]
              simp [tcells]
            · rw [set6A_out _ _ _ (.inr (by omega))]
              exact HCp.out p (by omega) hp2
        · obtain rfl : j = n := by omega
          have hltI : ¬ (j : Int) < j := by omega
          rw [show l.take j = l from List.take_of_length_le (by rw [HL.out]; exact Nat.le_refl _)] at htk hil
          have hci : ¬ cap = i := by omega
          have hile : i ≤ j := by omega
          have hcl : ∀ ty, (Builtin.clear_ #[22] ty #[.slice (some ⟨g, i * 6, none⟩) (j - i) (cap - i)]).run Tryd.prog wr = .ok (.tuple #[]) (wr.setCells g (i * 6) (List.replicate (j - i) [.string ⟨#[]⟩, .string ⟨#[]⟩, .string ⟨#[]⟩, .string ⟨#[]⟩, .string ⟨#[]⟩, .string ⟨#[]⟩]).flatten) := fun ty =>
            run_clear_rows wr 22 37 ty _ _ Tryd.underlying22 Tryd.zeroValue37 rfl (by simp [Value.oneCell']) g (i * 6) (j - i) (cap - i) (by omega) (fun x hx => by
              simp only [List.length_cons, List.length_nil] at hx
              rw [Lib.cell_of_heap hh (i * 6 + x), Array.getElem?_eq_getElem (by omega)]
              rfl) (fun x _ => by simpa using Lib.frozen_of_heap hh (i * 6 + x))
          obtain ⟨cu', hh', hs', hp'⟩ := setCells_heap (List.replicate (j - i) [.string ⟨#[]⟩, .string ⟨#[]⟩, .string ⟨#[]⟩, .string ⟨#[]⟩, .string ⟨#[]⟩, .string ⟨#[]⟩]).flatten (i * 6) wr cu hh
          have HT := Lib.hid (touch_setCells (w' := wr) (b := g) (l := [g]) (by simp) (List.replicate (j - i) [.string ⟨#[]⟩, .string ⟨#[]⟩, .string ⟨#[]⟩, .string ⟨#[]⟩, .string ⟨#[]⟩, .string ⟨#[]⟩]).flatten (i * 6) ht)
          have HH := Lib.hid hh'
          have HP := Lib.hid hp'
          have HTk := Lib.hid htk
          have HIl := Lib.hid hil
          clear hh hh' hp' htk hil hcp ht
          go_wp2
          go_ret
          refine ⟨_, rfl, ?_, touch_grown HT.out⟩
          rw [← HIl.out]
          refine ⟨by rw [tcells_length, ← HIl.out], .inr ⟨g, cap, cu', rfl, hgB, HH.out, by omega, h2', by rw [hs', hsz], ?_⟩⟩
          rw [← HTk.out]
          refine List.ext_getElem? fun p => ?_
          rw [List.getElem?_take, List.getElem?_take]
          by_cases hp : p < i * 6
          · rw [if_pos hp, if_pos hp, HP.out p hp]
          · rw [if_neg hp, if_neg hp]
end Go.Proofs.YtlibncefiibgaaaDoor
