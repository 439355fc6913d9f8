/- The reference's set, done. -/
import Derived.Test.YtbhapbioibhalaaDiskRefM
namespace Go.Proofs.Ytbhapbioibhalaa
open Go Go.RowKit Go.Maps

def RsRel (W : World) (s : ByteArray) (g : Nat) (l : Dir) (dn0 : Bool) (ov dv iv : Value) (wr : World) : Prop :=
  ∃ (k : Nat) (acc : Dir) (dn : Bool), iv = .int .i64 (k : Int) ∧ dv = .bool dn ∧ k ≤ l.length ∧ (acc.length ≤ k + 1 ∧ (dn = false → acc.length ≤ k ∧ dn0 = false)) ∧ acc ++ setF s g (l.drop k) dn = setF s g l dn0 ∧ wr.ownsRow W.heap.size 67 2 ov acc.length (ncells acc) ∧ Below W.heap.size W wr

def RsPost (W : World) (l : Dir) (e : Ending) (W' : World) : Prop := ∃ v, e = .returned v ∧ W'.ownsRow W.heap.size 67 2 v l.length (ncells l) ∧ Below W.heap.size W W'

set_option maxRecDepth 100000 in
set_option maxHeartbeats 4000000 in
theorem rset_any (W : World) (v : Value) (l : Dir) (s : ByteArray) (z : Int) (g : Nat) (dn0 : Bool) (h : Reads W 2 v l.length (ncells l)) (hl : l.length ≤ 1000000) (hz : (dn0 = true ∧ z < 0) ∨ (dn0 = false ∧ z = (g : Int))) :
    Calls Try.prog 58 #[v, .string s, .int .i64 z] W (RsPost W (setF s g l dn0)) := by
  obtain ⟨i0, hi, hz0, hz1, hz2⟩ := info_parts infoN
  obtain ⟨a, cap, hv, hc1, hc2⟩ := h.le
  subst hv
  obtain ⟨n, hn⟩ : ∃ n, l.length = n := ⟨_, rfl⟩
  rw [hn] at h hc1 hl ⊢
  unfold maxLen at hc2
  have HR := Lib.hid h
  have HN := Lib.hid hn
  have hdz : decide (z < 0) = dn0 := by
    rcases hz with ⟨h1, h2⟩ | ⟨h1, h2⟩
    · rw [h1]; simpa using h2
    · rw [h1, h2]; simp
  have HZ := Lib.hid hz
  clear h hn hz
  go_enter Try.func58, Try.ntmps58
  go_wp2
  go_loopw [7, 8, 15] (fun ov dv iv wr => RsRel W s g l dn0 ov dv iv wr) (fun _ _ iv _ => n - (intOf iv).toNat)
  case atStart => exact ⟨0, [], dn0, rfl, rfl, Nat.zero_le _, ⟨Nat.zero_le _, fun h => ⟨Nat.zero_le _, h⟩⟩, rfl, World.ownsRow_nil _ _ _ _, Below.refl _ _⟩
  case round =>
    rename World => wr
    obtain ⟨k, acc, dn, rfl, rfl, hk, hacc, hset, ho, hb⟩ := hrel
    rw [HN.out] at hk
    have HSet := Lib.hid hset
    have HO := Lib.hid ho
    have HB := Lib.hid hb
    have hbs := hb.size
    have hacc0 := hacc.1
    clear hset ho hb
    by_cases hlt : k < n
    · have hltI : (k : Int) < n := by omega
      obtain ⟨p, hp⟩ : ∃ p, l[k]? = some p := ⟨_, List.getElem?_eq_getElem (by rw [HN.out]; exact hlt)⟩
      obtain ⟨b, off, rfl, hbl, k0, k1⟩ := (HR.out.below' HB.out).name hp
      obtain ⟨t, f⟩ := p
      simp only at k0 k1
      have hsp := bl_spell s t
      obtain ⟨bb, hbb⟩ : ∃ bb, bl s t = bb := ⟨_, rfl⟩
      rw [hbb] at hsp
      have hnext : setF s g (l.drop k) dn = (if !dn && bl s t then [(s, g)] else []) ++ ((if t = s then [] else [(t, f)]) ++ setF s g (l.drop (k + 1)) (dn || bl s t)) := by
        rw [List.drop_eq_getElem_cons (by rw [HN.out]; exact hlt)]
        have h2 : l[k]'(by rw [HN.out]; exact hlt) = (t, f) := by have := hp; rw [List.getElem?_eq_getElem (by rw [HN.out]; exact hlt)] at this; exact Option.some.inj this
        rw [h2]
        rfl
      rw [hbb] at hnext
      have HNext := Lib.hid hnext
      have HBB := Lib.hid hbb
      clear hnext hp hbb
      have bX := HB.out.alloc HB.out.size (.cells #[.string t, .int .i64 (f : Int)] 67)
      have oX := owns_below HO.out ((Below.refl wr.heap.size wr).alloc (Nat.le_refl _) (.cells #[.string t, .int .i64 (f : Int)] 67))
      have hxn : (wr.alloc (.cells #[.string t, .int .i64 (f : Int)] 67)).heap.size = wr.heap.size + 1 := by simp
      have HBX := Lib.hid bX
      have HOX := Lib.hid oX
      clear bX oX
      by_cases hts : t = s
      · subst hts
        have hbf : bb = false := by rw [← HBB.out, bl_irrefl]
        subst hbf
        rw [if_pos rfl] at HNext
        cases dn with
        | true =>
          have HOf := Lib.hid HOX.out
          have HBf := Lib.hid (HBX.out)
          go_wp2
          exact ⟨⟨k + 1, acc, true, by go_num, rfl, by rw [HN.out]; omega, ⟨by first | omega | (simp; omega), fun h => by first | (cases h; done) | exact ⟨by first | omega | (simp; omega), HDF.out⟩⟩, by rw [← HSet.out, HNext.out]; simp, HOf.out, HBf.out⟩, by simp [intOf]; omega⟩
        | false =>
          have haccF := (hacc.2 rfl).1
          have HDF := Lib.hid (hacc.2 rfl).2
          clear hacc
          have HOf := Lib.hid HOX.out
          have HBf := Lib.hid (HBX.out)
          go_wp2
          exact ⟨⟨k + 1, acc, false, by go_num, rfl, by rw [HN.out]; omega, ⟨by first | omega | (simp; omega), fun h => by first | (cases h; done) | exact ⟨by first | omega | (simp; omega), HDF.out⟩⟩, by rw [← HSet.out, HNext.out]; simp, HOf.out, HBf.out⟩, by simp [intOf]; omega⟩
      · have hne : (t.toList == s.toList) = false := by
          rw [beq_eq_false_iff_ne, Go.ByteArray.toList_eq, Go.ByteArray.toList_eq]
          exact fun e => hts (Go.WideShapes.bytes_inj e)
        rw [if_neg hts] at HNext
        clear hts
        cases dn with
        | true =>
          go_wp2_with (at_builtin; go_must (refine wpList_append_rows_at (w0 := (wr.alloc (.cells #[.string t, .int .i64 (f : Int)] 67))) rfl _ _ 58 rfl W.heap.size 67 i0 _ 2 24 Try.underlying58 hi hz0 hz1 hz2 rfl (ncell (t, f)) 1 rfl hxn HOX.out rfl rfl ?_ ?_ ?_ (by rw [hxn]; omega) ?_))
          · exact fun u hu => by simp [ncell] at hu; rcases hu with rfl | rfl <;> rfl
          · unfold maxLen; omega
          · omega
          intro v5 w5 o5 g5 b5 _
          have o5' : w5.ownsRow W.heap.size 67 2 v5 (acc ++ [(t, f)]).length (ncells (acc ++ [(t, f)])) := by
            rw [ncells_append, List.length_append]
            simpa [ncells] using o5
          have bf := HBX.out.trans b5
          clear o5 g5 b5
          have HOf := Lib.hid o5'
          have HBf := Lib.hid (bf)
          go_wp2
          exact ⟨⟨k + 1, acc ++ [(t, f)], true, by go_num, rfl, by rw [HN.out]; omega, ⟨by first | omega | (simp; omega), fun h => by first | (cases h; done) | exact ⟨by first | omega | (simp; omega), HDF.out⟩⟩, by rw [← HSet.out, HNext.out]; simp, HOf.out, HBf.out⟩, by simp [intOf]; omega⟩
        | false =>
          have haccF := (hacc.2 rfl).1
          have HDF := Lib.hid (hacc.2 rfl).2
          clear hacc
          cases bb with
          | false =>
            go_wp2_with (at_builtin; go_must (refine wpList_append_rows_at (w0 := (wr.alloc (.cells #[.string t, .int .i64 (f : Int)] 67))) rfl _ _ 58 rfl W.heap.size 67 i0 _ 2 24 Try.underlying58 hi hz0 hz1 hz2 rfl (ncell (t, f)) 1 rfl hxn HOX.out rfl rfl ?_ ?_ ?_ (by rw [hxn]; omega) ?_))
            · exact fun u hu => by simp [ncell] at hu; rcases hu with rfl | rfl <;> rfl
            · unfold maxLen; omega
            · omega
            intro v5 w5 o5 g5 b5 _
            have o5' : w5.ownsRow W.heap.size 67 2 v5 (acc ++ [(t, f)]).length (ncells (acc ++ [(t, f)])) := by
              rw [ncells_append, List.length_append]
              simpa [ncells] using o5
            have bf := HBX.out.trans b5
            clear o5 g5 b5
            have HOf := Lib.hid o5'
            have HBf := Lib.hid (bf)
            go_wp2
            exact ⟨⟨k + 1, acc ++ [(t, f)], false, by go_num, rfl, by rw [HN.out]; omega, ⟨by first | omega | (simp; omega), fun h => by first | (cases h; done) | exact ⟨by first | omega | (simp; omega), HDF.out⟩⟩, by rw [← HSet.out, HNext.out]; simp, HOf.out, HBf.out⟩, by simp [intOf]; omega⟩
          | true =>
            obtain rfl : z = (g : Int) := by
              rcases HZ.out with ⟨h1, _⟩ | ⟨_, h2⟩
              · rw [HDF.out] at h1
                cases h1
              · exact h2
            go_wp2_with (at_builtin; go_must (refine wpList_append_rows_at (w0 := (wr.alloc (.cells #[.string t, .int .i64 (f : Int)] 67))) rfl _ _ 58 rfl W.heap.size 67 i0 _ 2 24 Try.underlying58 hi hz0 hz1 hz2 rfl (ncell (s, g)) 1 rfl hxn HOX.out rfl rfl ?_ ?_ ?_ (by rw [hxn]; omega) ?_))
            · exact fun u hu => by simp [ncell] at hu; rcases hu with rfl | rfl <;> rfl
            · unfold maxLen; omega
            · omega
            intro v5 w5 o5 g5 b5 _
            have o5' : w5.ownsRow W.heap.size 67 2 v5 (acc ++ [(s, g)]).length (ncells (acc ++ [(s, g)])) := by
              rw [ncells_append, List.length_append]
              simpa [ncells] using o5
            have hbx : w5.heap[wr.heap.size]? = some (Obj.cells #[.string t, .int .i64 (f : Int)] 67 (0, 0)) := by
              refine (g5.block wr.heap.size (by rw [hxn]; omega) (fun e => ?_)).trans (heap_alloc_new wr _)
              have := (ownAt_lt (OwnAt.of_owns HO.out) e.symm).1
              omega
            have x0 := Lib.cell_of_heap hbx 0
            have x1 := Lib.cell_of_heap hbx 1
            simp at x0 x1
            have hl5 : wr.heap.size < w5.heap.size := (Array.getElem?_eq_some_iff.1 hbx).1
            have b5' := HBX.out.trans b5
            have HO5 := Lib.hid o5'
            have HB5 := Lib.hid b5'
            have hacc1 : (acc ++ [(s, g)]).length ≤ k + 1 := by simp; omega
            have hBs5 := b5'.size
            clear o5 g5 b5 o5' b5' hbx
            go_wp2_with (at_builtin; go_must (refine wpList_append_rows_at (w0 := w5) rfl _ _ 58 rfl W.heap.size 67 i0 _ 2 24 Try.underlying58 hi hz0 hz1 hz2 rfl (ncell (t, f)) 1 rfl rfl HO5.out rfl rfl ?_ ?_ ?_ hBs5 ?_))
            · exact fun u hu => by simp [ncell] at hu; rcases hu with rfl | rfl <;> rfl
            · unfold maxLen; omega
            · omega
            intro v6 w6 o6 g6 b6 _
            have o6' : w6.ownsRow W.heap.size 67 2 v6 (acc ++ [(s, g)] ++ [(t, f)]).length (ncells (acc ++ [(s, g)] ++ [(t, f)])) := by
              rw [ncells_append, List.length_append]
              simpa [ncells] using o6
            have bf := HB5.out.trans b6
            clear o6 g6 b6
            have HOf := Lib.hid o6'
            have HBf := Lib.hid (bf)
            go_wp2
            exact ⟨⟨k + 1, acc ++ [(s, g)] ++ [(t, f)], true, by go_num, rfl, by rw [HN.out]; omega, ⟨by first | omega | (simp; omega), fun h => by first | (cases h; done) | exact ⟨by first | omega | (simp; omega), HDF.out⟩⟩, by rw [← HSet.out, HNext.out]; simp, HOf.out, HBf.out⟩, by simp [intOf]; omega⟩
    · obtain rfl : k = n := by omega
      have hltI : ¬ (k : Int) < k := by omega
      have hset := HSet.out
      rw [List.drop_of_length_le (by rw [HN.out]; exact Nat.le_refl _)] at hset
      cases dn with
      | true =>
        have hset : acc ++ [] = setF s g l dn0 := hset
        rw [List.append_nil] at hset
        have HS2 := Lib.hid hset
        clear hset
        go_wp2
        go_ret
        rw [← HS2.out]
        exact ⟨_, rfl, HO.out, HB.out⟩
      | false =>
        have haccF := (hacc.2 rfl).1
        have HDF := Lib.hid (hacc.2 rfl).2
        clear hacc
        have hset : acc ++ [(s, g)] = setF s g l dn0 := hset
        obtain rfl : z = (g : Int) := by
          rcases HZ.out with ⟨h1, _⟩ | ⟨_, h2⟩
          · rw [HDF.out] at h1
            cases h1
          · exact h2
        have HS2 := Lib.hid hset
        clear hset
        go_wp2_with (at_builtin; go_must (refine wpList_append_rows_at (w0 := wr) rfl _ _ 58 rfl W.heap.size 67 i0 _ 2 24 Try.underlying58 hi hz0 hz1 hz2 rfl (ncell (s, g)) 1 rfl rfl HO.out rfl rfl ?_ ?_ ?_ hbs ?_))
        · exact fun u hu => by simp [ncell] at hu; rcases hu with rfl | rfl <;> rfl
        · unfold maxLen; omega
        · omega
        intro v5 w5 o5 g5 b5 _
        have o5' : w5.ownsRow W.heap.size 67 2 v5 (acc ++ [(s, g)]).length (ncells (acc ++ [(s, g)])) := by
          rw [ncells_append, List.length_append]
          simpa [ncells] using o5
        have HO5 := Lib.hid o5'
        have HB5 := Lib.hid (HB.out.trans b5)
        clear o5 g5 b5 o5'
        go_wp2
        go_ret
        rw [← HS2.out]
        exact ⟨_, rfl, HO5.out, HB5.out⟩
end Go.Proofs.Ytbhapbioibhalaa
