/- dump.Read. -/
import Derived.Test.YtlibncefiibgaaaDoorZDumpTake
import Derived.Test.YtlibncefiibgaaaDoorZDumpCut
namespace Go.Proofs.YtlibncefiibgaaaDoor
open Go Go.RowKit

theorem RdAt.setLine {B : Nat} {w : World} {g : Nat} {rest : ByteArray} {k : Nat} {ts : List Six} (h : RdAt B w g rest k ts) (k' : Nat) : RdAt B (w.setCell ⟨g, 1, none⟩ (.int .i64 (k' : Int))) g rest k' ts := by
  obtain ⟨a, cap, h1, h2, h3⟩ := h
  exact ⟨a, cap, by rw [heap_setCell_same _ _ 1 _ _ _ h1]; rfl, own_set_farD h2 h1 (by decide) 1 _, h3⟩

theorem RdAt.setRest {B : Nat} {w : World} {g : Nat} {rest : ByteArray} {k : Nat} {ts : List Six} (h : RdAt B w g rest k ts) (rest' : ByteArray) : RdAt B (w.setCell ⟨g, 0, none⟩ (.string rest')) g rest' k ts := by
  obtain ⟨a, cap, h1, h2, h3⟩ := h
  exact ⟨a, cap, by rw [heap_setCell_same _ _ 0 _ _ _ h1]; rfl, own_set_farD h2 h1 (by decide) 0 _, h3⟩

theorem RdAt.cells {B : Nat} {w : World} {g : Nat} {rest : ByteArray} {k : Nat} {ts : List Six} (h : RdAt B w g rest k ts) : g < w.heap.size ∧ w.cell? ⟨g, 0, none⟩ = some (.string rest) ∧ w.cell? ⟨g, 1, none⟩ = some (.int .i64 (k : Int)) ∧ w.frozen? ⟨g, 0, none⟩ = false ∧ w.frozen? ⟨g, 1, none⟩ = false := by
  obtain ⟨a, cap, h1, _, _⟩ := h
  have c0 := Lib.cell_of_heap h1 0
  have c1 := Lib.cell_of_heap h1 1
  simp at c0 c1
  exact ⟨(Array.getElem?_eq_some_iff.1 h1).1, c0, c1, Lib.frozen_of_heap h1 0, Lib.frozen_of_heap h1 1⟩

theorem below_quietD {B : Nat} {w wr : World} (h : Below B w wr) (n : Nat) : Below B w (wr.drewN n) := ⟨h.os, h.tape, h.output, h.size, h.block⟩

def restSize (w : World) (g : Nat) : Nat := match w.cell? ⟨g, 0, none⟩ with | some (.string r) => r.size | _ => 0

theorem restSize_at {B : Nat} {w : World} {g : Nat} {rest : ByteArray} {k : Nat} {ts : List Six} (h : RdAt B w g rest k ts) : restSize w g = rest.size := by
  unfold restSize
  rw [h.cells.2.1]

def leftD (w : World) (g : Nat) (v : Value) : Nat := match v with | .bool true => 0 | _ => restSize w g + 1

theorem bad_ne {at' x : Nat} {ts : List Six} {line : ByteArray} (h : takeD at' ts line = .bad x) : x = 9 ∨ x = 11 := by
  unfold takeD stepT at h
  split at h
  · split at h
    · cases h
    · cases h; exact .inl rfl
  · split at h
    · cases h
    · split at h
      · split at h
        · cases h
        · split at h
          · cases h; exact .inr rfl
          · cases h
      · cases h; exact .inl rfl

theorem more_len {at' : Nat} {ts ts' : List Six} {line : ByteArray} (h : takeD at' ts line = .more ts') : ts'.length ≤ ts.length + 1 := by
  unfold takeD stepT at h
  split at h
  · split at h
    · cases h; omega
    · cases h
  · split at h
    · cases h
    · split at h
      · split at h
        · cases h; simp
        · split at h
          · cases h
          · cases h; simp
      · cases h

def DRel (w : World) (l : List UInt8) (g : Nat) (N : Nat) (dv : Value) (wr : World) : Prop :=
  ∃ (rest : ByteArray) (k : Nat) (ts : List Six), RdAt w.heap.size wr g rest k ts ∧ Below w.heap.size w wr ∧ k + rest.size ≤ N ∧ ts.length ≤ k ∧
    ((dv = .bool false ∧ readD 1 [] l = readD (k + 1) ts rest.data.toList) ∨ (dv = .bool true ∧ readD 1 [] l = if rest.data.toList = [] then .ok ts else .error (k + 1, 9)))

theorem cutR_list (s : ByteArray) : (cutR s 10).data.toList = cutRL s.data.toList 10 := rfl

theorem cutRD_size {s : ByteArray} (h : (10 : UInt8) ∈ s.data.toList) : (cutR s 10).size + 1 ≤ s.size := by
  have := drop_lt h
  have e1 : (cutR s 10).size = (cutRL s.data.toList 10).length := by
    show (cutRL s.data.toList 10).toArray.size = _
    rw [List.size_toArray]
  have e2 : s.data.toList.length = s.size := Array.length_toList
  omega

theorem cutAD_size (s : ByteArray) : (cutA s 10).size ≤ s.size := by
  have e1 : (cutA s 10).size = (cutAL s.data.toList 10).length := by
    show (cutAL s.data.toList 10).toArray.size = _
    rw [List.size_toArray]
  have e2 : s.data.toList.length = s.size := Array.length_toList
  have := (List.takeWhile_sublist (l := s.data.toList) (· != 10)).length_le
  unfold cutAL at e1
  omega

theorem empty_list (s : ByteArray) : s.data.toList = [] ↔ s = ⟨#[]⟩ := by
  constructor
  · intro h
    apply ByteArray.ext
    exact Array.toList_eq_nil_iff.1 h
  · rintro rfl
    rfl

set_option maxRecDepth 100000 in
set_option maxHeartbeats 2000000 in
theorem dread_any (w : World) (s : ByteArray) (hs : s.size ≤ 100000) (hp : Pow10 w) :
    Calls Tryd.prog 8 #[.string s] w (ReadPost w (readD 1 [] s.data.toList)) := by
  obtain ⟨l, hl⟩ : ∃ l, s.data.toList = l := ⟨_, rfl⟩
  rw [hl]
  obtain ⟨R, hR⟩ : ∃ R, readD 1 [] l = R := ⟨_, rfl⟩
  rw [hR]
  have HRe := Lib.hid hR
  have HLe := Lib.hid hl
  have HP := Lib.hid hp
  have hst : RdAt w.heap.size (w.alloc (.cells #[.string s, .int .i64 0, .slice none 0 0] 60)) w.heap.size s 0 [] := ⟨none, 0, heap_alloc_new w _, owns_nil _ _ _ _, Nat.le_refl _⟩
  have hb0 : Below w.heap.size w (w.alloc (.cells #[.string s, .int .i64 0, .slice none 0 0] 60)) := (Below.refl _ _).alloc (Nat.le_refl _) _
  have HSt := Lib.hid hst
  have HB0 := Lib.hid hb0
  clear hp hl hR hst hb0
  go_enter Tryd.func8, Tryd.ntmps8
  go_wp2
  generalize w.alloc (.cells #[.string s, .int .i64 0, .slice none 0 0] 60) = w0 at *
  obtain ⟨g, hg⟩ : ∃ g, w.heap.size = g := ⟨_, rfl⟩
  have HGe := Lib.hid hg
  rw [hg]
  clear hg
  go_loopw [6] (fun dv wr => DRel w l g s.size dv wr) (fun dv wr => leftD wr g dv)
  case atStart => exact ⟨s, 0, [], by rw [← HGe.out]; exact HSt.out, HB0.out, by omega, Nat.le_refl _, .inl ⟨rfl, by rw [HLe.out]⟩⟩
  case round =>
    obtain ⟨rest, k, ts, hrd, hb, hkn, htk, hd⟩ := hrel
    have HRd := Lib.hid hrd
    have HB := Lib.hid hb
    obtain ⟨hg, c0, c1, f0, f1⟩ := hrd.cells
    rcases hd with ⟨rfl, hd⟩ | ⟨rfl, hd⟩
    · have hls : leftD wr g (.bool false) = rest.size + 1 := by unfold leftD; rw [restSize_at hrd]
      have HLs := Lib.hid hls
      have HD := Lib.hid hd
      have HCu := Lib.hid (cutb_any wr rest 10 (by omega))
      have hcs := cutAD_size rest
      by_cases hin : (10 : UInt8) ∈ rest.data.toList
      · rw [decide_eq_true hin] at HCu
        have hrs := cutRD_size hin
        have hra : (cutR rest 10).data.toList = cutRL rest.data.toList 10 := rfl
        have hla : cutA rest 10 = ⟨(cutAL rest.data.toList 10).toArray⟩ := rfl
        have hbad := fun x h => readD_bad (at' := k + 1) (ts := ts) (e := x) hin h
        have hdone := fun h => readD_done (at' := k + 1) (ts := ts) hin h
        have hmore := fun ts' h => readD_more (at' := k + 1) (ts := ts) (ts' := ts') hin h
        rw [← hla] at hbad hdone hmore
        rw [← hra] at hdone hmore
        have HBad := Lib.hid hbad
        have HDone := Lib.hid hdone
        have HMore := Lib.hid hmore
        obtain ⟨k', hk'⟩ : ∃ k', k + 1 = k' := ⟨_, rfl⟩
        have hk'I : (k : Int) + 1 = (k' : Int) := by omega
        have hw1 : IntKind.i64.wrap (k' : Int) = (k' : Int) := by rw [IntKind.wrap_i64]; omega
        clear hrd hb hd hls hin hra hla hbad hdone hmore
        go_wp2_with (go_at_call 25; go_must (refine HCu.out.mono ?_))
        rintro e w1 ⟨rfl, b1⟩
        have HR1 := Lib.hid (HRd.out.below b1)
        have HB1 := Lib.hid (HB.out.trans (b1.mono HB.out.size))
        obtain ⟨hg1, c0', c1', f0', f1'⟩ := HR1.out.cells
        clear b1 c0 c1 f0 f1 HRd HB HCu hg
        generalize cutA rest 10 = line at *
        generalize cutR rest 10 = rest' at *
        go_upto_region 6 with fail
        have HR2 := Lib.hid (HR1.out.setLine k')
        have HB2 := Lib.hid (HB1.out.setCell (p := ⟨g, 1, none⟩) (Nat.le_of_eq HGe.out) (.int .i64 (k' : Int)))
        obtain ⟨hg2, c0, c1, f0, f1⟩ := HR2.out.cells
        clear c0' c1' f0' f1' hg1 HR1 HB1
        generalize w1.setCell ⟨g, 1, none⟩ (.int .i64 (k' : Int)) = w2 at *
        go_upto_region 9 with fail
        have HR3 := Lib.hid (HR2.out.setRest rest')
        have HB3 := Lib.hid (HB2.out.setCell (p := ⟨g, 0, none⟩) (Nat.le_of_eq HGe.out) (.string rest'))
        clear c0 c1 f0 f1 hg2 HR2 HB2
        generalize w2.setCell ⟨g, 0, none⟩ (.string rest') = w3 at *
        have HTk := Lib.hid (take_any w3 w.heap.size g rest' k' ts line HR3.out HB3.out.size (by omega) (by omega) (HP.out.below HB3.out))
        obtain ⟨r, hr⟩ : ∃ r, takeD k' ts line = r := ⟨_, rfl⟩
        rw [hr] at HTk
        rw [hk', hr] at HBad HDone HMore
        rw [hk'] at HD
        have HTr := Lib.hid hr
        clear hr HR3
        go_wp2_with (go_at_call 26; go_must (refine HTk.out.mono ?_))
        rintro e w4 ⟨b4, hm⟩
        have HB4 := Lib.hid (HB3.out.trans b4)
        clear b4 HTk HB3
        cases r with
        | bad x =>
          obtain ⟨rfl, hr4⟩ := hm
          obtain ⟨hg4, c0, c1, f0, f1⟩ := hr4.cells
          have hx := bad_ne HTr.out
          have hxI : ((x : Int) != 0) = true := by simp; omega
          have hfin := HD.out.trans (HBad.out x rfl)
          rw [HRe.out] at hfin
          subst hfin
          clear hr4 hx HTr HBad HDone HMore
          go_wp2_with fail
          go_quiet (fail)
          go_wp2
          go_ret3
          exact ⟨below_quietD HB4.out _, rfl⟩
        | done =>
          obtain ⟨rfl, hr4⟩ := hm
          have HR4 := Lib.hid hr4
          have HFin := Lib.hid (HD.out.trans (HDone.out rfl))
          clear hr4 HTr HBad HDone HMore
          go_wp2
          exact ⟨⟨rest', k', ts, HR4.out, HB4.out, by omega, by omega, .inr ⟨rfl, HFin.out⟩⟩, by rw [HLs.out]; show 0 < _; omega⟩
        | more ts' =>
          obtain ⟨rfl, hr4⟩ := hm
          have HR4 := Lib.hid hr4
          have HFin := Lib.hid (HD.out.trans (HMore.out ts' rfl))
          have hml := more_len HTr.out
          have hrs4 := restSize_at hr4
          have HRs4 := Lib.hid hrs4
          clear hr4 HTr HBad HDone HMore hrs4
          go_wp2
          exact ⟨⟨rest', k', ts', HR4.out, HB4.out, by omega, by omega, .inl ⟨rfl, HFin.out⟩⟩, by rw [HLs.out]; show restSize w4 g + 1 < _; rw [HRs4.out]; omega⟩
      · rw [decide_eq_false hin] at HCu
        have hnone := hd.trans (readD_none hin)
        rw [HRe.out] at hnone
        subst hnone
        obtain ⟨k', hk'⟩ : ∃ k', k + 1 = k' := ⟨_, rfl⟩
        have hk'I : (k : Int) + 1 = (k' : Int) := by omega
        have hw1 : IntKind.i64.wrap (k' : Int) = (k' : Int) := by rw [IntKind.wrap_i64]; omega
        rw [hk']
        clear hrd hb hd hls hin
        go_wp2_with (go_at_call 25; go_must (refine HCu.out.mono ?_))
        rintro e w1 ⟨rfl, b1⟩
        have HR1 := Lib.hid (HRd.out.below b1)
        have HB1 := Lib.hid (HB.out.trans (b1.mono HB.out.size))
        obtain ⟨hg1, c0', c1', f0', f1'⟩ := HR1.out.cells
        clear b1 c0 c1 f0 f1 HRd HB HCu hg
        generalize cutA rest 10 = line at *
        generalize cutR rest 10 = rest' at *
        go_upto_region 6 with fail
        have HR2 := Lib.hid (HR1.out.setLine k')
        have HB2 := Lib.hid (HB1.out.setCell (p := ⟨g, 1, none⟩) (Nat.le_of_eq HGe.out) (.int .i64 (k' : Int)))
        obtain ⟨hg2, c0, c1, f0, f1⟩ := HR2.out.cells
        clear c0' c1' f0' f1' hg1 HR1 HB1
        generalize w1.setCell ⟨g, 1, none⟩ (.int .i64 (k' : Int)) = w2 at *
        go_wp2_with fail
        go_quiet (fail)
        go_wp2
        go_ret3
        exact ⟨below_quietD HB2.out _, rfl⟩
    · have HFin := Lib.hid (HRe.out.symm.trans hd)
      obtain ⟨a, cap, q1, q2, q3⟩ := hrd
      have c2 := Lib.cell_of_heap q1 2
      simp at c2
      have HO := Lib.hid q2
      clear hb hd q1 q2 f0 f1 HRd
      by_cases h0 : rest = ⟨#[]⟩
      · subst h0
        have hR := HFin.out
        rw [if_pos rfl] at hR
        subst hR
        go_wp2
        go_ret3
        exact ⟨HB.out, _, rfl, HO.out⟩
      · have hR := HFin.out
        rw [if_neg (fun h => h0 ((empty_list rest).1 h))] at hR
        subst hR
        have h0I : (rest.toList == []) = false := by
          rw [beq_eq_false_iff_ne]
          exact fun h => h0 ((empty_list rest).1 (by rw [← Go.ByteArray.toList_eq]; exact h))
        have hw1 : IntKind.i64.wrap ((k : Int) + 1) = (k : Int) + 1 := by rw [IntKind.wrap_i64]; omega
        go_wp2_with fail
        go_quiet (fail)
        go_wp2
        go_ret3
        exact ⟨below_quietD HB.out _, rfl⟩
end Go.Proofs.YtlibncefiibgaaaDoor
