/- What a line adds to a schema. -/
import Derived.Test.YtopnldebekhelaaDoorZSchS
import Derived.Deep.RegionLaw
import Derived.Test.YtopnldebekhelaaDoorMga
namespace Go.Proofs.YtopnldebekhelaaDoor
open Go Go.RowKit

def cntS (S : List Ty) : Nat := (S.map fun t => t.rels.length + 1).sum
theorem cntS_len (S : List Ty) : S.length ≤ cntS S := by
  unfold cntS
  induction S with
  | nil => simp
  | cons t S ih => simp only [List.map_cons, List.sum_cons, List.length_cons]; omega
theorem cntS_append (a b : List Ty) : cntS (a ++ b) = cntS a + cntS b := by simp [cntS]

def AddPost (w : World) (B sb : Nat) (r : Option (List Ty)) (e : Ending) (w' : World) : Prop := match r with
  | some S' => e = .returned (.bool true) ∧ SAt w' B sb S' ∧ KeptB B sb w w'
  | none => e = .returned (.bool false) ∧ KeptB B sb w w'

theorem infoE_Ty : (Tryd.prog.info? 39).map (fun i => (i.zero, i.size, i.bytes)) = some (some (.agg #[.string ⟨#[]⟩, .slice none 0 0]), 2, 40) := by kernel_rfl
theorem infoE_Rl : (Tryd.prog.info? 44).map (fun i => (i.zero, i.size, i.bytes)) = some (some (.agg #[.string ⟨#[]⟩, .int .i64 0, .string ⟨#[]⟩, .string ⟨#[]⟩, .slice none 0 0]), 5, 80) := by kernel_rfl

theorem PAt.grown {w w' : World} {g : Nat} {T : List ByteArray} {d : Int} {bad : Bool} {B n s : Nat} {e : TypeId} {v : Value} {xs : List Value} (h : PAt w g T d bad) (ho : w.ownsRow B e s v n xs) (he : 82 ≠ e) (hg : w.grownBy w' v.ownBlock) : PAt w' g T d bad := by
  obtain ⟨R, h1, h2⟩ := h
  exact ⟨R, grown_other ho hg h1 he, h2⟩
theorem PAt.other {w : World} {g c : Nat} {T : List ByteArray} {d : Int} {bad : Bool} (h : PAt w g T d bad) (hc : c ≠ g) (j : Nat) (u : Value) : PAt (w.setCell ⟨c, j, none⟩ u) g T d bad := by
  obtain ⟨R, h1, h2⟩ := h
  exact ⟨R, (heap_setCell_other w ⟨c, j, none⟩ g u (by show g ≠ c; exact fun e => hc e.symm)).trans h1, h2⟩
theorem PAt.rest {w : World} {g : Nat} {T : List ByteArray} {d : Int} {bad : Bool} (h : PAt w g T d bad) : ∃ R : ByteArray, w.heap[g]? = some (.cells #[.string R, .string (T.headD cNone), .int .i64 d, .bool bad] 82 (0, 0)) ∧ (T.tail.headD cNone = cNone → T.tail = []) := by
  obtain ⟨R, h1, h2, _⟩ := h
  refine ⟨R, h1, fun he => ?_⟩
  rw [← h2] at he ⊢
  exact toks_end he
theorem KeptB.set {B : Nat} {w w' : World} (h : Below B w w') (sb j : Nat) (u : Value) : KeptB B sb w (w'.setCell ⟨sb, j, none⟩ u) :=
  ⟨h.os, h.tape, h.output, Nat.le_trans h.size (by simp [World.setCell]), fun k hk hn => (Below.heap_setCell _ _ _ _ hn).trans (h.block k hk)⟩
theorem KeptB.of_touch {B sb g : Nat} {w w' : World} (h : Touch w w' [g]) (hw : B ≤ w.heap.size) (hg : B ≤ g) : KeptB B sb w w' :=
  ⟨h.os, h.tape, h.output, h.size, fun k hk _ => h.block k (by omega) (by simp; omega)⟩

theorem KeptB.setHi {B sb c : Nat} {w : World} (hc : B ≤ c) (j : Nat) (u : Value) : KeptB B sb w (w.setCell ⟨c, j, none⟩ u) :=
  ⟨rfl, rfl, rfl, by simp [World.setCell], fun k hk _ => Below.heap_setCell _ _ _ _ (fun e => by have e : k = c := e; omega)⟩
theorem PrRes.grown {w w' : World} {g : Nat} {T : List ByteArray} {d : Int} {t : Tr RuH} {r : Pr} {B n s : Nat} {e : TypeId} {v : Value} {xs : List Value} (h : PrRes w g T d t r) (ho : w.ownsRow B e s v n xs) (he : 82 ≠ e) (hg : w.grownBy w' v.ownBlock) : PrRes w' g T d t r := by
  cases r with
  | none =>
    obtain ⟨h1, T', d', h2⟩ := h
    exact ⟨h1, T', d', h2.grown ho he hg⟩
  | some x => exact ⟨h.1, h.2.grown ho he hg⟩
theorem PrRes.other {w : World} {g c : Nat} {T : List ByteArray} {d : Int} {t : Tr RuH} {r : Pr} (h : PrRes w g T d t r) (hc : c ≠ g) (j : Nat) (u : Value) : PrRes (w.setCell ⟨c, j, none⟩ u) g T d t r := by
  cases r with
  | none =>
    obtain ⟨h1, T', d', h2⟩ := h
    exact ⟨h1, T', d', h2.other hc j u⟩
  | some x => exact ⟨h.1, h.2.other hc j u⟩
theorem add_fits {n : Nat} (h : n ≤ 100000) : n + 1 ≤ maxLen ∧ (n + 1) * 80 ≤ 140737488355328 := by unfold maxLen; omega
theorem TysAt.frozen7 {w w7 : World} {B tb n cap : Nat} {X : Nat → Prop} {es : List TyE} {rs : List RlE} {v : Value} (h : TysAt w B X (.slice (some ⟨tb, 0, none⟩) n cap) es rs) (hv : v.ownBlock ≠ some tb) (g7 : w.grownBy w7 v.ownBlock) : ∀ j, w7.frozen? ⟨tb, j, none⟩ = false := by
  rcases h.own.2 with ⟨h0, _⟩ | ⟨g, c, cur, h0, _, hg, _⟩
  · cases h0
  · cases h0
    exact fun j => Lib.frozen_of_heap ((g7.block tb (Array.getElem?_eq_some_iff.1 hg).1 (fun e => hv e.symm)).trans hg) j
theorem succ_ne0 (m : Nat) : ((m : Int) + 1 == 0) = false := by simp; omega
theorem Touch.undrewN {w w' : World} {n : Nat} {l : List Nat} (h : Touch (w.drewN n) w' l) : Touch w w' l := ⟨h.os, h.tape, h.output, h.size, h.block⟩
theorem small_w64 {m : Nat} (h : m ≤ 100000) : wrap64 (m : Int) = m := by unfold wrap64; omega
theorem small_wr {m : Nat} (h : m ≤ 100000) : IntKind.i64.wrap (m : Int) = m := by rw [IntKind.wrap_i64]; omega

/-- A relation that has just been laid. -/
theorem rel_src (W : World) (nm : ByteArray) (x : RuE) : Src Tryd.prog 5 37 (.slice (some ⟨W.heap.size, 0, none⟩) 1 1) 1 (RlE.cells ⟨nm, x⟩) (W.alloc (.cells #[.string nm, .int .i64 x.h.kind, .string x.h.a, .string x.h.b, .slice x.a x.ps.length x.cap] 44)) := by
  refine Src.ofSlice (size := 5) _ Tryd.underlying37 _ _ _ _ rfl (fun j u hju => ?_) (fun u hu => by simp [RlE.cells, RuE.cells] at hu; rcases hu with rfl | rfl | rfl | rfl | rfl <;> rfl)
  rw [Addr.add_lit, show 0 + j = j by omega, World.cell?_alloc_new W _ _ j]
  simpa [RlE.cells, RuE.cells] using hju

set_option maxRecDepth 100000 in
set_option maxHeartbeats 4000000 in
theorem add_any (w : World) (B sb : Nat) (line : ByteArray) (S : List Ty) (h : SAt w B sb S) (hB : B ≤ w.heap.size) (hl : line.size ≤ 65536) (hc : cntS S ≤ 100000) :
    Calls Tryd.prog 17 #[.pointer (some ⟨sb, 0, none⟩), .string line] w (AddPost w B sb (lineF S (toks line.data.toList))) := by
  obtain ⟨j0, hj, hy0, hy1, hy2⟩ := info_parts infoE_Ty
  obtain ⟨i0, hi, hz0, hz1, hz2⟩ := info_parts infoE_Rl
  obtain ⟨tv, es, rs, hsb, hsB, hT, hS⟩ := h
  obtain ⟨T, hTk⟩ : ∃ T, toks line.data.toList = T := ⟨_, rfl⟩
  have hwt : wtT T ≤ 600000 := by
    have h1 := wt_toks _ line.data.toList (Nat.le_refl _)
    rw [hTk] at h1
    have h2 : line.data.toList.length = line.size := Array.length_toList
    omega
  rw [hTk]
  obtain ⟨w1, hw1⟩ : ∃ W, W = w.alloc (.cells #[.string line, .string ⟨#[]⟩, .int .i64 0, .bool false] 82) := ⟨_, rfl⟩
  have hb1 : Below w.heap.size w w1 := by rw [hw1]; exact (Below.refl _ _).alloc (Nat.le_refl _) _
  have hp1 : PAt w1 w.heap.size (cNone :: T) 0 false := ⟨line, by rw [hw1]; exact heap_alloc_new w _, hTk, hl, by show cNone.size ≤ _; rw [cNone_size]; omega⟩
  have HN1 := Lib.hid (next_any w1 w.heap.size _ 0 false hp1)
  rw [List.tail_cons] at HN1
  have HW1 := Lib.hid hw1
  have HB1 := Lib.hid hb1
  have HT := Lib.hid (hT.later (Y := (· ≠ w.heap.size)) (fun b hb _ => by show b ≠ _; omega))
  have HSb := Lib.hid hsb
  have HS := Lib.hid hS
  clear hw1 hb1 hp1 hT hsb hTk hS
  go_enter Tryd.func17, Tryd.ntmps17
  go_upto_region 2 with fail
  rw [← HW1.out]
  clear HW1
  go_wp2_with (go_at_call 41; go_must (refine HN1.out.mono ?_))
  rintro e w2 ⟨rfl, hp2, ht2⟩
  have HB2 := Lib.hid (HB1.out.trans (ht2.below HB1.out.size (fun x hx => by simp at hx; omega)))
  have HN2 := Lib.hid (next_any w2 w.heap.size _ 0 false hp2)
  have HLt2 := Lib.hid (And.intro hp2.lt hp2.endB.choose_spec.2)
  have c1 := signB hp2
  clear HN1 HB1 ht2 hp2
  obtain ⟨nm, hnm⟩ : ∃ nm, T.headD cNone = nm := ⟨_, rfl⟩
  rw [hnm] at c1
  have hnl0 : nm.size ≤ 65536 := by rw [← hnm]; exact HLt2.out.2
  have hlt2 : w.heap.size < w2.heap.size := HLt2.out.1
  go_wp2_with (go_at_call 41; go_must (refine HN2.out.mono ?_))
  rintro e w3 ⟨rfl, hp3, ht3⟩
  have hb3 := HB2.out.trans (ht3.below HB2.out.size (fun x hx => by simp at hx; omega))
  have hlt3 : w.heap.size < w3.heap.size := hp3.lt
  have hsb3 := (hb3.block sb (Nat.lt_of_lt_of_le hsB hB)).trans HSb.out
  have hT3 := HT.out.keep hb3
  obtain ⟨U, hU⟩ : ∃ U, T.tail = U := ⟨_, rfl⟩
  rw [hU] at hp3
  have hesl : es.length ≤ 100000 := by
    have h1 := cntS_len S
    rw [← HS.out, List.length_map] at h1
    rw [← HS.out] at hc
    omega
  obtain ⟨ta, tcap, rfl, hn1, hn2⟩ := (ownsRow.reads hT3.own).le
  unfold maxLen at hn2
  have hlf : lineF S T = lineF S T := rfl
  conv at hlf => rhs; unfold lineF
  rw [hnm, hU] at hlf
  have HLf := Lib.hid hlf
  have HNl := Lib.hid hnl0
  have HP3 := Lib.hid hp3
  have HB3 := Lib.hid hb3
  have HT3 := Lib.hid hT3
  have HSb3 := Lib.hid hsb3
  have HU := Lib.hid hU
  have HNm := Lib.hid hnm
  clear hlf hp3 hb3 hT3 hsb3 hU hnm ht3 HN2 HB2 HT HSb HLt2 hnl0
  by_cases hty : nm = cType
  · rw [if_pos hty] at HLf
    have he : (nm.toList == [116, 121, 112, 101]) = true := by rw [streq]; exact decide_eq_true hty
    clear hty
    obtain ⟨a, ha⟩ : ∃ a, U.headD cNone = a := ⟨_, rfl⟩
    have b1 := signB HP3.out
    rw [ha] at b1 HLf
    have s0 := Lib.cell_of_heap HSb3.out 0
    have sf := Lib.frozen_of_heap HSb3.out
    simp at s0
    have hsl : sb < w3.heap.size := (Array.getElem?_eq_some_iff.1 HSb3.out).1
    have hal : a.size ≤ 65536 := by rw [← ha]; exact HP3.out.endB.choose_spec.2
    obtain ⟨W, hW⟩ : ∃ W, W = (w3.alloc (.cells #[.string a, .slice none 0 0] 39)).drew := ⟨_, rfl⟩
    have hbw : Below w3.heap.size w3 W := by rw [hW]; exact ((Below.refl _ _).alloc (Nat.le_refl _) _).drew
    have HTw := Lib.hid (HT3.out.keep hbw)
    have hod := HTw.out.own
    have hsrc : Src Tryd.prog 2 23 (.slice (some ⟨w3.heap.size, 0, none⟩) 1 1) 1 [.string a, .slice none 0 0] W := by
      refine Src.ofSlice (size := 2) _ Tryd.underlying23 _ _ _ _ rfl (fun j u hju => ?_) (fun u hu => by simp at hu; rcases hu with rfl | rfl <;> rfl)
      rw [Addr.add_lit, show 0 + j = j by omega, hW]
      show (w3.alloc (.cells #[.string a, .slice none 0 0] 39)).cell? _ = _
      rw [World.cell?_alloc_new w3 _ _ j]
      simpa using hju
    have hszW : B ≤ W.heap.size := Nat.le_trans hB (Nat.le_trans HB3.out.size hbw.size)
    have HBw := Lib.hid hbw
    rw [hW] at hod hsrc hszW
    have HW := Lib.hid hW
    clear hW hbw
    go_upto_region 6 with fail
    go_region_law (first
      | (refine step_append_src rfl _ _ 23 23 rfl B 39 j0 _ 2 40 Tryd.underlying23 hj hy0 hy1 hy2 rfl _ _ _ rfl hod _ 1 [.string a, .slice none 0 0] rfl hsrc (by unfold maxLen; omega) (by omega) hszW ?_
         intro v6 w6 o6 g6 b6 m6
         obtain ⟨a6, c6, hv6, _, _⟩ := (ownsRow.reads o6).le
         subst hv6
         rw [← HW.out] at g6 m6 b6
         have hsb6 := (g6.block sb (Nat.lt_of_lt_of_le hsl HBw.out.size) (fun e => by have := (HTw.out.own.lt sb e.symm).1; omega)).trans ((HBw.out.block sb hsl).trans HSb3.out)
         have z0 := Lib.cell_of_heap hsb6 0
         have zf := Lib.frozen_of_heap hsb6
         simp at z0
         have hlt6 : sb < w6.heap.size := (Array.getElem?_eq_some_iff.1 hsb6).1))
    all_goals
      have hpW := HP3.out.below HBw.out
      have hp6 := hpW.grown HTw.out.own (by decide) g6
      have hpn : sb ≠ w.heap.size := by omega
      have HP7 := Lib.hid (hp6.other hpn 0 (.slice a6 (es.length + 1) c6))
      have HT7 := Lib.hid ((HTw.out.push a o6 g6 m6).setLow hsB 0 (.slice a6 (es.length + 1) c6))
      have HS7 := Lib.hid (show (w6.setCell ⟨sb, 0, none⟩ (.slice a6 (es.length + 1) c6)).heap[sb]? = some (.cells #[.slice a6 (es.length + 1) c6] 25 (0, 0)) by rw [heap_setCell_same _ sb 0 _ _ _ hsb6]; rfl)
      have HK7 := Lib.hid (KeptB.trans (KeptB.of_below (sb := sb) ((HB3.out.mono hB).trans (HBw.out.mono (Nat.le_trans hB HB3.out.size)))) (KeptB.set b6 sb 0 (.slice a6 (es.length + 1) c6)))
      have hw7 : w.heap.size < (w6.setCell ⟨sb, 0, none⟩ (.slice a6 (es.length + 1) c6)).heap.size := HP7.out.lt
      clear hpW hp6 o6 g6 m6 b6 hsb6 z0 zf hlt6 HTw HBw HW hod hsrc hszW HP3 HB3 HT3 HSb3 s0 sf b1 hsl he
      go_upto_region 7 with fail
      generalize w6.setCell ⟨sb, 0, none⟩ (.slice a6 (es.length + 1) c6) = w7 at *
      have b1 := signB HP7.out
      rw [ha] at b1
      have HI := Lib.hid (isref_any w7 a (by omega))
      go_wp2_with (go_at_call 25; go_must (refine HI.out.mono ?_))
      rintro e w8 ⟨rfl, hb8⟩
      have HP8 := Lib.hid (HP7.out.below hb8)
      have HT8 := Lib.hid (HT7.out.keep hb8)
      have HS8 := Lib.hid ((hb8.block sb (Array.getElem?_eq_some_iff.1 HS7.out).1).trans HS7.out)
      have HK8 := Lib.hid (HK7.out.trans (KeptB.of_below (hb8.mono (Nat.le_trans hB (Nat.le_of_lt hw7)))))
      clear HI HP7 HT7 HS7 HK7 hb8 b1
      cases hia : isRefB a with
      | false =>
        rw [if_neg (by rw [hia]; exact fun h => absurd h.1 (by decide))] at HLf
        go_wp2
        go_ret
        rw [HLf.out]
        exact ⟨rfl, HK8.out⟩
      | true =>
        have HE := Lib.hid (ends_any w8 w.heap.size U 0 false HP8.out)
        obtain ⟨R8, hR8⟩ := HP8.out.rest
        have hend := hR8
        go_wp2_with (go_at_call 42; go_must (refine HE.out.mono ?_))
        rintro e w9 ⟨rfl, hp9, ht9⟩
        have hT9 := HT8.out.apart hR8.1 (by decide) (by decide) ht9
        have hS9 := ht9.keep HS8.out (by simp; omega)
        have HK9 := Lib.hid (HK8.out.trans (KeptB.of_touch ht9 (by have := HK8.out.size; omega) hB))
        have HT9 := Lib.hid hT9
        have HS9 := Lib.hid hS9
        have HD := Lib.hid hR8.2
        clear hT9 hS9 hp9 ht9 hR8 hend HE HP8 HT8 HS8 HK8
        by_cases hu : U.tail.headD cNone = cNone
        · have hut := HD.out hu
          rw [if_pos ⟨hia, hut⟩] at HLf
          rw [decide_eq_true hu]
          clear hu hut
          go_wp2
          go_ret
          rw [HLf.out]
          exact ⟨rfl, ⟨_, _, _, HS9.out, hsB, HT9.out.later (fun _ _ _ => trivial), by rw [List.map_append, HS.out]; rfl⟩, HK9.out⟩
        · have hut : ¬ (isRefB a = true ∧ U.tail = []) := fun h => hu (by rw [h.2]; rfl)
          rw [if_neg hut] at HLf
          rw [decide_eq_false hu]
          clear hu hut
          go_wp2
          go_ret
          rw [HLf.out]
          exact ⟨rfl, HK9.out⟩
  · rw [if_neg hty] at HLf
    have he : (nm.toList == [116, 121, 112, 101]) = false := by rw [streq]; exact decide_eq_false hty
    have hnl : nm.size ≤ 65536 := HNl.out
    have HI := Lib.hid (isrel_any w3 nm (by omega))
    clear hty
    go_wp2_with (go_at_call 27; go_must (refine HI.out.mono ?_))
    rintro e w4 ⟨rfl, hb4⟩
    have HP4 := Lib.hid (HP3.out.below hb4)
    have HB4 := Lib.hid (HB3.out.trans (hb4.mono HB3.out.size))
    have HT4 := Lib.hid (HT3.out.keep hb4)
    have HSb4 := Lib.hid ((hb4.block sb (Array.getElem?_eq_some_iff.1 HSb3.out).1).trans HSb3.out)
    clear HP3 HB3 HT3 HSb3 HI hb4 he
    cases hir : isRelB nm with
    | false =>
      rw [if_neg (by rw [hir]; exact fun h => absurd h.1 (by decide))] at HLf
      go_wp2
      go_ret
      rw [HLf.out]
      exact ⟨rfl, KeptB.of_below (HB4.out.mono hB)⟩
    | true =>
      rw [hir] at HLf
      have HK := Lib.hid (take_any w4 w.heap.size U 0 false ⟨#[61]⟩ HP4.out)
      by_cases heq : U.headD cNone = cEq
      · rw [if_pos (show U.headD cNone = ⟨#[61]⟩ from heq), decide_eq_true (show U.headD cNone = ⟨#[61]⟩ from heq)] at HK
        obtain ⟨V, hV⟩ : ∃ V, U.tail = V := ⟨_, rfl⟩
        rw [hV] at HK HLf
        have HEq := Lib.hid heq
        have HV := Lib.hid hV
        clear heq hV
        go_wp2_with (go_at_call 43; go_must (refine HK.out.mono ?_))
        rintro e w5 ⟨rfl, hp5, ht5⟩
        obtain ⟨R4, hR4, _⟩ := HP4.out.rest
        have HB5 := Lib.hid (HB4.out.trans (ht5.below HB4.out.size (fun x hx => by simp at hx; omega)))
        have HT5 := Lib.hid (HT4.out.apart hR4 (by decide) (by decide) ht5)
        have HSb5 := Lib.hid (ht5.keep HSb4.out (by simp; omega))
        have HP5 := Lib.hid hp5
        have s0 := Lib.cell_of_heap HSb5.out 0
        simp at s0
        have hsl : sb < w5.heap.size := (Array.getElem?_eq_some_iff.1 HSb5.out).1
        clear hp5 ht5 hR4 HP4 HB4 HT4 HSb4 HK
        rcases List.eq_nil_or_concat es with hes | ⟨es0, e0, hes⟩
        · have hl0 : es.length = 0 := by rw [hes]; rfl
          have hS0 : S = [] := by rw [← HS.out, hes]; rfl
          rw [if_neg (by rw [hS0]; exact fun h => absurd rfl h.2.2)] at HLf
          have HKp := Lib.hid (KeptB.of_below (sb := sb) (HB5.out.mono hB))
          have hz : ((es.length : Int) == 0) = true := by rw [hl0]; rfl
          clear hes hS0 hl0
          go_wp2
          go_ret
          rw [HLf.out]
          exact ⟨rfl, HKp.out⟩
        · rw [List.concat_eq_append] at hes
          obtain ⟨en, er, ea, ec⟩ := e0
          obtain ⟨m, hm⟩ : ∃ m, es0.length = m := ⟨_, rfl⟩
          have hem : es.length = m + 1 := by rw [hes, ← hm]; simp
          have hTb : ∃ tb, ta = some ⟨tb, 0, none⟩ := by
            have h1 := HT5.out.own.2
            rcases h1 with ⟨h0, h2⟩ | ⟨g, cap, cur, h0, _⟩
            · omega
            · cases h0
              exact ⟨g, rfl⟩
          obtain ⟨tb, rfl⟩ := hTb
          have hSne : S ≠ [] := by rw [← HS.out, hes]; simp
          rw [if_pos ⟨by first | rfl | trivial, HEq.out, hSne⟩] at HLf
          have hT5 := HT5.out
          rw [hem] at hT5
          have hrows : ∀ (j : Nat) (u : Value), (TyE.cells ⟨en, er, ea, ec⟩)[j]? = some u → w5.cell? ⟨tb, 0 + m * 2 + j, none⟩ = some u := by
            obtain ⟨b, off, hv, hb, hcs⟩ := rows_at TyE.cells 2 (fun _ => rfl) (ownsRow.reads HT5.out.own) (i := m) (x := ⟨en, er, ea, ec⟩) (by rw [hes, ← hm]; simp) (by decide)
            cases hv
            exact hcs
          have hk1 := hrows 1 _ rfl
          rw [Nat.zero_add] at hk1
          rw [hes] at hT5
          have hsame := hT5.same
          rw [lastR_snoc] at hsame
          have hrl : er.length = rs.length := by have := congrArg List.length hsame; rw [List.length_map] at this; exact this.symm
          have hlast := hT5.last
          rw [lastV_snoc] at hlast
          have hrsl : rs.length ≤ 100000 := by
            have h1 := HS.out
            rw [hes, List.map_append] at h1
            rw [← h1, cntS_append] at hc
            have h2 : cntS ([(⟨en, er, ea, ec⟩ : TyE)].map TyE.ty) = er.length + 1 := by simp [cntS, TyE.ty]
            rw [h2] at hc
            omega
          unfold TyE.v at hk1 hlast
          dsimp only at hk1 hlast
          rw [hrl] at hk1 hlast
          have hlx := hT5.lastXv
          have hwV : wtT V ≤ 600000 := by
            have h1 := wtT_tail T
            have h2 := wtT_tail U
            rw [HV.out] at h2
            rw [HU.out] at h1
            omega
          have HCf := Lib.hid (fun (W : World) (h : PAt W w.heap.size V 0 false) => prule_ok W w.heap.size V h hwV)
          have HTn := Lib.hid (show tb ≠ w.heap.size ∧ (Value.slice ea rs.length ec).ownBlock ≠ some tb from ⟨by
            obtain ⟨R5, hR5, _⟩ := HP5.out.rest
            have := owns_other HT5.out.own hR5 (by decide)
            exact fun e => this (by rw [← e]; rfl), fun e => own_apart hlast HT5.out.own (by decide) tb e rfl⟩)
          have HRs := Lib.hid hrsl
          obtain ⟨R5, hR5, hR5e⟩ := HP5.out.rest
          have HRw := Lib.hid hR5
          clear hR5 hR5e
          have htb5 : tb < w5.heap.size := (HT5.out.own.lt tb rfl).2
          have htbB : B ≤ tb := (HT5.out.own.lt tb rfl).1
          have hxl : ∀ c, (Value.slice ea rs.length ec).ownBlock = some c → c < w5.heap.size := fun c hc => (hlast.lt c hc).2
          have HLast := Lib.hid hlast
          have HT := Lib.hid hT5
          have HXl := Lib.hid hxl
          have HRl := Lib.hid hrl
          have HEs := Lib.hid hes
          have HM := Lib.hid hm
          obtain ⟨la, lcap, hlv, hll1, hll2⟩ := (ownsRow.reads hlast).le
          unfold maxLen at hll2
          have hm0 : (0 : Int) ≤ m := Int.natCast_nonneg m
          have hmb : m ≤ 100000 := Nat.le_of_succ_le (Nat.le_trans (Nat.le_of_eq hem.symm) hesl)
          have hw1 := small_w64 hmb
          have hw2 := small_wr hmb
          have hmI' : (m : Int) < (m : Int) + 1 := Int.lt_succ _
          have hbs : B ≤ w5.heap.size := Nat.le_trans hB HB5.out.size
          rw [hem] at s0
          have hz' := succ_ne0 m
          have HHem := Lib.hid hem
          clear hes hm hT5 hrows hsame hlast hlx hwV hxl HT5 hlv hrl hSne hem
          go_upto_region 10 with fail
          go_quiet (fail)
          go_upto_region 11 with fail
          have HC := Lib.hid (HCf.out (w5.drewN (nq + 1)) HP5.out)
          go_region_law (first
            | (go_simp; go_at_call 44; refine HC.out.mono ?_; rintro e w6 ⟨x, rfl, hat, ht6d, hp6⟩
               have ht6 := ht6d.undrewN
               have hk6 : w6.cell? ⟨tb, m * 2 + 1, none⟩ = some (.slice ea rs.length ec) := (World.cell?_of_block (a := ⟨tb, m * 2 + 1, none⟩) (ht6.block tb htb5 (by simp; exact HTn.out.1))).trans hk1
               have htb6 : tb < w6.heap.size := Nat.lt_of_lt_of_le htb5 ht6.size
               have HT6 := Lib.hid (HT.out.apart HRw.out (by decide) (by decide) ht6)
               have hbw : Below w6.heap.size w6 (w6.alloc (.cells #[.string nm, .int .i64 x.h.kind, .string x.h.a, .string x.h.b, .slice x.a x.ps.length x.cap] 44)) := (Below.refl _ _).alloc (Nat.le_refl _) _
               have HT7 := Lib.hid (HT6.out.keep hbw)
               have hod := HT7.out.last
               rw [lastV_snoc] at hod
               unfold TyE.v at hod
               dsimp only at hod
               rw [HRl.out] at hod
               have hsrc := rel_src w6 nm x
               have hszW : B ≤ (w6.alloc (.cells #[.string nm, .int .i64 x.h.kind, .string x.h.a, .string x.h.b, .slice x.a x.ps.length x.cap] 44)).heap.size := Nat.le_trans hbs (Nat.le_trans ht6.size hbw.size))
            | (refine step_append_src rfl _ _ 37 37 rfl B 44 i0 _ 5 80 Tryd.underlying37 hi hz0 hz1 hz2 rfl _ _ _ rfl hod _ 1 (RlE.cells ⟨nm, x⟩) rfl hsrc (add_fits HRs.out).1 (add_fits HRs.out).2 hszW ?_
               intro v6 w7 o7 g7 b7 m7
               obtain ⟨a6, c6, hv6, _, _⟩ := (ownsRow.reads o7).le
               subst hv6
               have hk7 : w7.cell? ⟨tb, m * 2 + 1, none⟩ = some (.slice ea rs.length ec) := by
                 refine (World.cell?_of_block (a := ⟨tb, m * 2 + 1, none⟩) (g7.block tb (Nat.lt_of_lt_of_le htb6 hbw.size) (fun e => HTn.out.2 e.symm))).trans ((World.cell?_of_block (a := ⟨tb, m * 2 + 1, none⟩) (hbw.block tb htb6)).trans hk6)
               have hf7 := HT7.out.frozen7 (HTn.out.2) g7
               have htb7 : tb < w7.heap.size := Nat.lt_of_lt_of_le htb6 (Nat.le_trans hbw.size g7.size)))
          all_goals
            have hat5 : ruEAt (fun b => w5.heap.size ≤ b) (w6.alloc (.cells #[.string nm, .int .i64 x.h.kind, .string x.h.a, .string x.h.b, .slice x.a x.ps.length x.cap] 44)) x := ruE_keep.keep _ _ _ _ (Keeps.of_below_size hbw) hat
            have hvb : (TyE.v ⟨en, er, ea, ec⟩).ownBlock = (Value.slice ea rs.length ec).ownBlock := by cases ea <;> rfl
            have hAdd := TysAt.addRel HT7.out (fun b hb => by show b ≠ w.heap.size; have := HP5.out.lt; omega) (Nat.le_trans ht6.size hbw.size) nm hat5 hbs htb5 (fun c hc => HXl.out c (hvb.symm.trans hc)) o7 (show World.grownBy _ w7 (TyE.v ⟨en, er, ea, ec⟩).ownBlock by rw [hvb]; exact g7) (fun b hb hne => m7 b hb (fun e => hne (hvb.trans e)))
            rw [HM.out] at hAdd
            have hP7 := ((hp6.touch (Touch.of_below hbw []) (by simp)).grown hod (by decide) g7).other HTn.out.1 (m * 2 + 1) (.slice a6 (rs.length + 1) c6)
            have hs7 : (w7.setCell ⟨tb, m * 2 + 1, none⟩ (.slice a6 (rs.length + 1) c6)).heap[sb]? = some (.cells #[.slice (some ⟨tb, 0, none⟩) (m + 1) tcap] 25 (0, 0)) := by
              refine (Below.heap_setCell _ _ _ _ (fun e => by have e : sb = tb := e; omega)).trans ((b7.block sb hsB).trans ((hbw.block sb (Nat.lt_of_lt_of_le hsl ht6.size)).trans ((ht6.block sb hsl (by simp; omega)).trans ?_)))
              rw [← HHem.out]
              exact HSb5.out
            have hK : KeptB B sb w (w7.setCell ⟨tb, m * 2 + 1, none⟩ (.slice a6 (rs.length + 1) c6)) := ((((KeptB.of_below (HB5.out.mono hB)).trans (KeptB.of_touch ht6 hbs hB)).trans (KeptB.of_below (hbw.mono (Nat.le_trans hbs ht6.size)))).trans (KeptB.of_below b7)).trans (KeptB.setHi htbB _ _)
            have HAdd := Lib.hid hAdd
            have HP7 := Lib.hid hP7
            have HS7 := Lib.hid hs7
            have HK7 := Lib.hid hK
            clear hAdd hP7 hs7 hK hat5 hat ht6 ht6d hp6 hk6 hk7 hf7 htb6 htb7 hod hsrc hszW hbw o7 g7 b7 m7 HT6 HT7 HC HCf HRw HTn HT HLast HXl HP5 HSb5 HB5 s0
            go_upto_region 12 with fail
            generalize w7.setCell ⟨tb, m * 2 + 1, none⟩ (.slice a6 (rs.length + 1) c6) = w8 at *
            cases hrf : ruleF 8 V with
            | none =>
              have hp8 := HP7.out
              rw [hrf] at hp8 HLf
              obtain ⟨_, T', d', hp8⟩ := hp8
              have b3 := badB hp8
              clear hp8
              go_wp2
              go_ret
              rw [HLf.out]
              exact ⟨rfl, HK7.out⟩
            | some y =>
              obtain ⟨t, V'⟩ := y
              have hp8 := HP7.out
              rw [hrf] at hp8 HLf
              obtain ⟨hxt, hp8⟩ := hp8
              have b3 := badB hp8
              have b1 := signB hp8
              have he : (V'.headD cNone).toList.isEmpty = decide (V'.headD cNone = cNone) := stremp _
              obtain ⟨sg, hsg⟩ : ∃ sg, V'.headD cNone = sg := ⟨_, rfl⟩
              dsimp only at HLf
              rw [hsg] at b1 he HLf
              have HXt := Lib.hid hxt
              clear hp8 hxt hsg hrf
              by_cases hsn : sg = cNone
              · rw [if_pos hsn] at HLf
                rw [decide_eq_true hsn] at he
                clear hsn
                go_wp2
                go_ret
                rw [HLf.out]
                refine ⟨rfl, ⟨_, _, _, HS7.out, hsB, HAdd.out.later (fun _ _ _ => trivial), ?_⟩, HK7.out⟩
                rw [← HS.out, HEs.out, List.map_append, List.map_append, ← HXt.out]
                exact (addRl_snoc (es0.map TyE.ty) ⟨en, er⟩ ⟨nm, x.tree⟩).symm
              · rw [if_neg hsn] at HLf
                rw [decide_eq_false hsn] at he
                clear hsn
                go_wp2
                go_ret
                rw [HLf.out]
                exact ⟨rfl, HK7.out⟩
      · rw [if_neg (show ¬ U.headD cNone = ⟨#[61]⟩ from heq), decide_eq_false (show ¬ U.headD cNone = ⟨#[61]⟩ from heq)] at HK
        rw [if_neg (fun h => heq h.2.1)] at HLf
        clear heq
        go_wp2_with (go_at_call 43; go_must (refine HK.out.mono ?_))
        rintro e w5 ⟨rfl, hp5, ht5⟩
        have HB5 := Lib.hid (HB4.out.trans (ht5.below HB4.out.size (fun x hx => by simp at hx; omega)))
        clear hp5 ht5
        go_wp2
        go_ret
        rw [HLf.out]
        exact ⟨rfl, KeptB.of_below (HB5.out.mono hB)⟩
end Go.Proofs.YtopnldebekhelaaDoor
