import Derived.Test.YtoibhkmlebcepaaDoorWalEncode
import Derived.Test.YtoibhkmlebcepaaDoorDrawnAct
namespace Go.Proofs.YtoibhkmlebcepaaDoor
open Go Go.RowKit

/-- the slot holds new bytes l -/
def freshF (B : Nat) (l : List UInt8) : SlotFact := ⟨fun v w => Fresh B w 5 1 v l.length (bcells l), fun _ _ _ h hb => h.keep hb⟩

set_option maxRecDepth 100000 in
set_option maxHeartbeats 2000000 in
theorem record_any (w : World) (rev : Nat) (a : Option Addr) (n cap : Nat) (l : List Ent) (h : Reads w 3 (.slice a n cap) n (ecells l)) (hl : l.length = n) (hcap : n ≤ cap ∧ cap ≤ maxLen) (hrb : rightB rev l = true) (hrv : rev < 18446744073709551616) :
    Calls Tryd.prog 12 #[.agg #[.int .u64 (rev : Int), .slice a n cap]] w (GivesBytes w (recL rev l)) := by
  obtain ⟨i0, hi, hz0, hz1, hz2⟩ := info_parts info5
  have HL := Lib.hid hl
  unfold maxLen at hcap
  have hg0 := heap_alloc_new w (.cells #[.int .u64 (rev : Int), .slice a n cap] 25)
  have hb0 : Below w.heap.size w (w.alloc (.cells #[.int .u64 (rev : Int), .slice a n cap] 25)) := (Below.refl _ w).alloc (Nat.le_refl _) _
  have HR := Lib.hid h
  have HG := Lib.hid hg0
  have HB := Lib.hid hb0
  have hel1 := enc_length_le 9 rev (by omega)
  obtain ⟨hk6, _, _, _, hn6⟩ := right_keys hrb
  have HK6 := Lib.hid hk6
  have hn256 : n ≤ 256 := by rw [← hl]; exact hn6
  have hel2 := enc_length_le 9 n (by omega)
  have hlt0 := (Array.getElem?_eq_some_iff.1 hg0).1
  have hBw : w.heap.size + 1 ≤ (w.alloc (.cells #[.int .u64 (rev : Int), .slice a n cap] 25)).heap.size := by simp
  clear h hl hb0 hk6 hn6 hrb
  go_enter Tryd.func12, Tryd.ntmps12
  go_wp2_with fail
  generalize w.alloc (.cells #[.int .u64 (rev : Int), .slice a n cap] 25) = w0 at *
  have q0 := Lib.cell_of_heap hg0 0
  have q1 := Lib.cell_of_heap hg0 1
  simp at q0 q1
  clear hg0
  generalize hgc : w.heap.size = gc at q0 q1 hlt0 ⊢
  generalize hB : w.heap.size + 1 = B at hBw
  refine wp_region_all (by kernel_rfl) [eqF (.pointer (some ⟨gc, 0, none⟩)), eqF (.int .u64 (rev : Int)), bytesF (enc rev), eqF (.pointer (some ⟨gc, 1, none⟩)), eqF (.slice a n cap), eqF (.int .i64 (n : Int)), eqF (.int .u64 (n : Int)), freshF B (enc rev ++ enc n), freshF B (enc rev ++ enc n)] (by kernel_rfl) ⟨?_, ?_, ?_, ?_, ?_, ?_, ?_, ?_, ?_, trivial⟩ ⟨trivial, trivial, trivial, trivial, trivial, trivial, trivial, trivial, trivial, trivial⟩ ?_
  · intro ρ wx hρ hbx hl
    have e1 : ρ (.tmp 1) = .pointer (some ⟨gc, 0, none⟩) := hρ.tmp 1 (by decide +kernel)
    refine y_val (v := .pointer (some ⟨gc, 0, none⟩)) ?_ rfl
    simp [execOp, go_sem, e1]
  · intro ρ wx hρ hbx hl
    have e6 : ρ (.tmp 6) = .pointer (some ⟨gc, 0, none⟩) := hl 0 (by decide +kernel) 6 rfl
    have kk := (hbx.cell (hlt0)).trans q0
    refine y_val (v := .int .u64 (rev : Int)) ?_ rfl
    simp [execOp, go_sem, e6, kk]
  · intro ρ wx hρ hbx hl
    have e7 : ρ (.tmp 7) = .int .u64 (rev : Int) := hl 1 (by decide +kernel) 7 rfl
    refine y_call (f := 26) (args := #[.slice none 0 0, .int .u64 (rev : Int)]) (by simp [execOp, resolve, invoke, hρ.func, hρ.const, go_sem, e7]) ?_
    refine (refput_any wx _ [] rev (reads_nil _) (by decide) hrv).mono ?_
    rintro e w6 ⟨v6, rfl, f6, b6⟩
    exact ⟨v6, rfl, ⟨_, f6.1⟩, b6⟩
  · intro ρ wx hρ hbx hl
    have e1 : ρ (.tmp 1) = .pointer (some ⟨gc, 0, none⟩) := hρ.tmp 1 (by decide +kernel)
    refine y_val (v := .pointer (some ⟨gc, 1, none⟩)) ?_ rfl
    simp [execOp, go_sem, e1]
  · intro ρ wx hρ hbx hl
    have e9 : ρ (.tmp 9) = .pointer (some ⟨gc, 1, none⟩) := hl 3 (by decide +kernel) 9 rfl
    have kk := (hbx.cell (hlt0)).trans q1
    refine y_val (v := .slice a n cap) ?_ rfl
    simp [execOp, go_sem, e9, kk]
  · intro ρ wx hρ hbx hl
    have e10 : ρ (.tmp 10) = .slice a n cap := hl 4 (by decide +kernel) 10 rfl
    refine y_val (v := .int .i64 (n : Int)) ?_ rfl
    simp [execOp, resolve, invoke, builtin, go_sem, e10]
  · intro ρ wx hρ hbx hl
    have e11 : ρ (.tmp 11) = .int .i64 (n : Int) := hl 5 (by decide +kernel) 11 rfl
    refine y_val (v := .int .u64 (n : Int)) ?_ rfl
    simp [execOp, go_sem, e11, IntKind.wrap_u64]
    omega
  · intro ρ wx hρ hbx hl
    have e8 := hl 2 (by decide +kernel) 8 rfl
    have e12 : ρ (.tmp 12) = .int .u64 (n : Int) := hl 6 (by decide +kernel) 12 rfl
    obtain ⟨k, hk⟩ := e8
    have hkl : (enc rev).length = k := by have := hk.1; simpa [bcells_length] using this
    subst hkl
    refine y_call (f := 26) (args := #[ρ (.tmp 8), .int .u64 (n : Int)]) (by simp [execOp, resolve, invoke, hρ.func, go_sem, e12]) ?_
    refine (refput_any wx _ (enc rev) n hk (by omega) (by omega)).mono ?_
    rintro e w6 ⟨v6, rfl, f6, b6⟩
    exact ⟨v6, rfl, f6.mono (Nat.le_trans hBw hbx.size), b6⟩
  · intro ρ wx hρ hbx hl
    have e13 := hl 7 (by decide +kernel) 13 rfl
    refine y_val (v := ρ (.tmp 13)) ?_ e13
    simp [execOp, go_sem]
  intro aa wz hdef hsz hlk hbz hf
  have ha := act_of_like hdef hsz hlk [6, 7, 8, 9, 10, 11, 12, 13, 3] 35 rfl (by decide +kernel)
  have e6 : aa.tmps.getD 6 undef = .pointer (some ⟨gc, 0, none⟩) := hf 0 _ 6 rfl rfl
  have e7 : aa.tmps.getD 7 undef = .int .u64 (rev : Int) := hf 1 _ 7 rfl rfl
  have e9 : aa.tmps.getD 9 undef = .pointer (some ⟨gc, 1, none⟩) := hf 3 _ 9 rfl rfl
  have e10 : aa.tmps.getD 10 undef = .slice a n cap := hf 4 _ 10 rfl rfl
  have e11 : aa.tmps.getD 11 undef = .int .i64 (n : Int) := hf 5 _ 11 rfl rfl
  have e12 : aa.tmps.getD 12 undef = .int .u64 (n : Int) := hf 6 _ 12 rfl rfl
  have e13 : (freshF B (enc rev ++ enc n)).1 (aa.tmps.getD 13 undef) wz := hf 7 _ 13 rfl rfl
  generalize hv13 : aa.tmps.getD 13 undef = v13 at e13
  have e3 : (freshF B (enc rev ++ enc n)).1 (aa.tmps.getD 3 undef) wz := hf 8 _ 3 rfl rfl
  generalize hv3 : aa.tmps.getD 3 undef = v3 at e3
  simp only [putAll, List.foldl_cons, List.foldl_nil, e6, e7, e9, e10, e11, e12, hv13, hv3] at ha
  generalize aa.tmps.getD 8 undef = v8 at ha
  simp [Act.put] at ha
  subst ha
  clear hdef hsz hlk hf e6 e7 e9 e10 e11 e12 hv13 hv3
  subst hgc
  subst hB
  have HG4 := Lib.hid (below_block hbz HG.out hlt0)
  have HB4 := Lib.hid (HB.out.trans (hbz.mono HB.out.size))
  have HF4 := Lib.hid e3
  have hg4 := HG4.out
  have q0 := Lib.cell_of_heap hg4 0
  have q1 := Lib.cell_of_heap hg4 1
  simp at q0 q1
  have hlt4 : w.heap.size < wz.heap.size := (Array.getElem?_eq_some_iff.1 hg4).1
  clear e3 e13 hbz HG HB hg4 hlt0 hBw
  go_wp2
  go_loopw [3, 17] (fun bv i wr => EncRel w rev n (.slice a n cap) l bv i wr) (fun _ i _ => n - (intOf i).toNat)
  case atStart =>
    refine ⟨0, rfl, Nat.zero_le _, ?_, HB4.out, HG4.out⟩
    have e : recTo rev n (l.take 0) = enc rev ++ enc n := by simp [recTo]
    rw [e]
    exact HF4.out
  case round =>
    obtain ⟨k, rfl, hk, hfr, hb, hg⟩ := hrel
    clear HF4 HG4 HB4
    have hlen : (recTo rev n (l.take k)).length ≤ 20000000 := recTo_le hrv hn256 (by rw [List.length_take, HL.out]; omega) (fun x hx => HK6.out x (List.mem_of_mem_take hx))
    have hpos : 0 < (recTo rev n (l.take k)).length := by
      have := enc_pos rev
      unfold recTo
      simp only [List.length_append]
      omega
    have hlt0 : w.heap.size < wr.heap.size := (Array.getElem?_eq_some_iff.1 hg).1
    have HB := Lib.hid hb
    have HG := Lib.hid hg
    have HF := Lib.hid hfr
    clear hb hg hfr
    by_cases hlt : k < n
    · obtain ⟨x, hx⟩ : ∃ x, l[k]? = some x := ⟨l[k]'(by rw [HL.out]; exact hlt), List.getElem?_eq_getElem _⟩
      obtain ⟨g, off, rfl, hgl, c0, c1, c2⟩ := ent_cells (HR.out.below' HB.out) hx
      have hsz := HK6.out x (List.mem_of_getElem? hx)
      have hsu := recTo_succ (rev := rev) (n := n) hx
      have hkI : (k : Int) < n := by omega
      obtain ⟨key, r, d⟩ := x
      dsimp only at c0 c1 c2 hsz hsu
      have HSu := Lib.hid hsu
      clear hsu hx
      generalize hT : recTo rev n (l.take k) = T at *
      generalize hT1 : recTo rev n (l.take (k + 1)) = T1 at *
      have HT1 := Lib.hid hT1
      clear hT hT1
      have hbx : Below w.heap.size w (wr.alloc (.cells #[.string key, .int .u64 (r : Int), .bool d] 48)) := HB.out.alloc (by omega) _
      have hfx := HF.out.alloc (.cells #[.string key, .int .u64 (r : Int), .bool d] 48)
      have hgx := (heap_alloc_old wr (.cells #[.string key, .int .u64 (r : Int), .bool d] 48) hlt0).trans HG.out
      have hxx := heap_alloc_new wr (.cells #[.string key, .int .u64 (r : Int), .bool d] 48)
      have how := HF.out.1.own_lt hpos
      have HBx := Lib.hid hbx
      have HGx := Lib.hid hgx
      have HXx := Lib.hid hxx
      have HOw := Lib.hid how
      have hlx : (wr.alloc (.cells #[.string key, .int .u64 (r : Int), .bool d] 48)).heap.size = wr.heap.size + 1 := by simp
      have HLx := Lib.hid hlx
      clear hbx hgx hxx how hlx HF HG HB
      have hbit : ∃ bt : UInt8, bt = (if d then 1 else 0) := ⟨_, rfl⟩
      obtain ⟨bt, hbt⟩ := hbit
      rw [← hbt] at HSu
      have hbsx : w.heap.size + 1 ≤ (wr.alloc (.cells #[.string key, .int .u64 (r : Int), .bool d] 48)).heap.size := by simp; omega
      cases d
      · go_wp2_with (at_builtin; go_must (refine wpList_append_one_at (w0 := wr.alloc (.cells #[.string key, .int .u64 (r : Int), .bool false] 48)) rfl _ _ 28 rfl (w.heap.size + 1) 5 i0 (.int .u8 0) 1 Tryd.underlying28 hi hz0 hz1 hz2 rfl HLx.out hfx rfl rfl rfl ?_ ?_ hbsx ?_))
        · unfold maxLen; omega
        · omega
        intro v5 w5 f5 g5 b5 _
        have e5 : bcells T ++ [Value.int .u8 0] = bcells (T ++ [bt]) := bcells_snoc T bt (by rw [hbt]; rfl)
        have l5 : T.length + 1 = (T ++ [bt]).length := by simp
        rw [e5, l5] at f5
        have hg5 := below_block b5 HGx.out (by omega)
        have hx5 := (g5.block wr.heap.size (by rw [HLx.out]; omega) (fun h => by have := HOw.out _ h.symm; omega)).trans HXx.out
        have hb5 := HBx.out.trans (b5.mono (by omega))
        have d0 := Lib.cell_of_heap hx5 0
        simp at d0
        have HF5 := Lib.hid f5
        have HG5 := Lib.hid hg5
        have HB5 := Lib.hid hb5
        have hlt5 : wr.heap.size < w5.heap.size := (Array.getElem?_eq_some_iff.1 hx5).1
        have hw5 := hb5.size
        clear f5 g5 b5 hg5 hb5 hx5 hfx c0 c1 c2 e5 l5 HGx HBx HXx HOw
        have htz : (T ++ [bt]).length ≤ 20000001 := by rw [List.length_append]; simp; omega
        generalize hTB : T ++ [bt] = TB at *
        have HTB := Lib.hid hTB
        clear hTB
        go_wp2_with (go_at_call 27; go_must (refine (refputtext_any _ _ TB key HF5.out.1 (by omega) (by omega)).mono ?_))
        rintro e w6 ⟨v6, rfl, f6, b6⟩
        rw [List.append_assoc] at f6
        have HF6 := Lib.hid (f6.mono (B := w.heap.size + 1) (by omega))
        have HG6 := Lib.hid (below_block b6 HG5.out (by omega))
        have HB6 := Lib.hid (HB5.out.trans (b6.mono HB5.out.size))
        clear f6 b6 d0 HF5 HG5 HB5
        go_wp2
        refine ⟨⟨k + 1, by go_num, by omega, ?_, HB6.out, HG6.out⟩, by simp [intOf]; omega⟩
        rw [HT1.out, HSu.out]
        exact HF6.out
      · go_wp2_with (at_builtin; go_must (refine wpList_append_one_at (w0 := wr.alloc (.cells #[.string key, .int .u64 (r : Int), .bool true] 48)) rfl _ _ 28 rfl (w.heap.size + 1) 5 i0 (.int .u8 0) 1 Tryd.underlying28 hi hz0 hz1 hz2 rfl HLx.out hfx rfl rfl rfl ?_ ?_ hbsx ?_))
        · unfold maxLen; omega
        · omega
        intro v5 w5 f5 g5 b5 _
        have e5 : bcells T ++ [Value.int .u8 1] = bcells (T ++ [bt]) := bcells_snoc T bt (by rw [hbt]; rfl)
        have l5 : T.length + 1 = (T ++ [bt]).length := by simp
        rw [e5, l5] at f5
        have hg5 := below_block b5 HGx.out (by omega)
        have hx5 := (g5.block wr.heap.size (by rw [HLx.out]; omega) (fun h => by have := HOw.out _ h.symm; omega)).trans HXx.out
        have hb5 := HBx.out.trans (b5.mono (by omega))
        have d0 := Lib.cell_of_heap hx5 0
        simp at d0
        have HF5 := Lib.hid f5
        have HG5 := Lib.hid hg5
        have HB5 := Lib.hid hb5
        have hlt5 : wr.heap.size < w5.heap.size := (Array.getElem?_eq_some_iff.1 hx5).1
        have hw5 := hb5.size
        clear f5 g5 b5 hg5 hb5 hx5 hfx c0 c1 c2 e5 l5 HGx HBx HXx HOw
        have htz : (T ++ [bt]).length ≤ 20000001 := by rw [List.length_append]; simp; omega
        generalize hTB : T ++ [bt] = TB at *
        have HTB := Lib.hid hTB
        clear hTB
        go_wp2_with (go_at_call 27; go_must (refine (refputtext_any _ _ TB key HF5.out.1 (by omega) (by omega)).mono ?_))
        rintro e w6 ⟨v6, rfl, f6, b6⟩
        rw [List.append_assoc] at f6
        have HF6 := Lib.hid (f6.mono (B := w.heap.size + 1) (by omega))
        have HG6 := Lib.hid (below_block b6 HG5.out (by omega))
        have HB6 := Lib.hid (HB5.out.trans (b6.mono HB5.out.size))
        clear f6 b6 d0 HF5 HG5 HB5
        go_wp2
        refine ⟨⟨k + 1, by go_num, by omega, ?_, HB6.out, HG6.out⟩, by simp [intOf]; omega⟩
        rw [HT1.out, HSu.out]
        exact HF6.out
    · obtain rfl : k = n := by omega
      have hkI : ¬ ((k : Int) < k) := by omega
      have htk : l.take k = l := by rw [← HL.out]; exact List.take_length
      have hf := HF.out
      rw [htk] at hf
      have hrl : recTo rev k l = recL rev l := by unfold recL; rw [HL.out]
      rw [hrl] at hf
      have HF5 := Lib.hid (hf.mono (B := w.heap.size) (by omega))
      clear htk hf hrl HF hpos hlen
      go_wp2
      go_ret
      exact ⟨_, rfl, HF5.out, HB.out⟩
end Go.Proofs.YtoibhkmlebcepaaDoor
