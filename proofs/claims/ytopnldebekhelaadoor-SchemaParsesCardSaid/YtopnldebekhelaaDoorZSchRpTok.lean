/- sentryref05.sign, tokens: a line's signs, where all may be (written by gen_schrptok.py). -/
import Derived.Test.YtopnldebekhelaaDoorZSchRpM
import Derived.Test.YtopnldebekhelaaDoorZSchRfName
import Derived.Test.YtopnldebekhelaaDoorMga
namespace Go.Proofs.YtopnldebekhelaaDoor
open Go Go.RowKit

theorem tkGet {l : List UInt8} {i : Nat} {c : UInt8} (hc : l[i]? = some c) (h : i < (tk l).size) : (tk l)[i]'h = c := by
  have hi : i < l.length := by rw [← tk_size]; exact h
  have : l[i]'hi = c := by rw [List.getElem?_eq_getElem hi] at hc; exact Option.some.inj hc
  rw [← this]
  rfl
theorem tkExt (l : List UInt8) (i j : Nat) : (tk l).extract i j = tk ((l.drop i).take (j - i)) := by
  apply ByteArray.ext
  rw [ByteArray.data_extract]
  apply Array.toList_inj.1
  simp only [tk, Array.toList_extract, List.extract_eq_take_drop]
theorem dropAt {l : List UInt8} {i : Nat} {c : UInt8} (h : l[i]? = some c) : l.drop i = c :: l.drop (i + 1) :=
  (List.getElem_cons_drop (h := (List.getElem?_eq_some_iff.1 h).1)).symm.trans (by rw [(List.getElem?_eq_some_iff.1 h).2])
theorem okB_all (c : UInt8) (h : okB c = true) : ((c.toNat : Int) == 32) = false ∧ ((c.toNat : Int) == 9) = false ∧ ((c.toNat : Int) == 61) = false ∧ ((c.toNat : Int) == 124) = false ∧ ((c.toNat : Int) == 38) = false ∧ ((c.toNat : Int) == 40) = false ∧ ((c.toNat : Int) == 41) = false := by
  unfold okB at h
  simp at h
  refine ⟨?_, ?_, ?_, ?_, ?_, ?_, ?_⟩ <;> simp <;> omega

theorem nlenAt {l : List UInt8} {i : Nat} {c : UInt8} (h : l[i]? = some c) : nlen (l.drop i) = if okB c = true ∧ ¬ (c = 45 ∧ l[i + 1]? = some 62) then nlen (l.drop (i + 1)) + 1 else 0 := by
  rw [dropAt h, nlen, arrowB_cons, List.head?_drop]
  by_cases h1 : okB c = true
  · by_cases h2 : c = 45 ∧ l[i + 1]? = some 62
    · rw [if_neg (fun e => by rw [decide_eq_true h2.1, decide_eq_true h2.2] at e; exact absurd e.2 (by decide)), if_neg (fun e => e.2 h2)]
    · have : (decide (c = 45) && decide (l[i + 1]? = some 62)) = false := by
        cases hq : (decide (c = 45) && decide (l[i + 1]? = some 62)) with
        | false => rfl
        | true => simp at hq; exact absurd hq h2
      rw [if_pos ⟨h1, this⟩, if_pos ⟨h1, h2⟩]
  · rw [if_neg (fun e => h1 e.1), if_neg (fun e => h1 e.1)]

theorem t_blank {l : List UInt8} {i : Nat} {c : UInt8} (h : l[i]? = some c) (hb : blankU c = true) : toks (l.drop i) = toks (l.drop (i + 1)) := by rw [dropAt h, toks_blank hb]
theorem t_mark {l : List UInt8} {i : Nat} {c : UInt8} (h : l[i]? = some c) (hc : c = 61 ∨ c = 124 ∨ c = 38 ∨ c = 40 ∨ c = 41) : toks (l.drop i) = tk [c] :: toks (l.drop (i + 1)) ∧ okT1 (tk [c]) = true := by
  rw [dropAt h]
  rcases hc with rfl | rfl | rfl | rfl | rfl <;> exact ⟨toks_mark (by decide) (by decide) (by decide) _, by decide⟩
theorem t_arrow {l : List UInt8} {i : Nat} (h : l[i]? = some 45) (h2 : l[i + 1]? = some 62) : toks (l.drop i) = cArrow :: toks (l.drop (i + 2)) := by
  rw [dropAt h, dropAt h2]
  exact toks_arrow _
theorem t_bad {l : List UInt8} {i : Nat} {c : UInt8} (h : l[i]? = some c) (h1 : okB c = false) (h2 : blankU c = false) (hm : c ≠ 61 ∧ c ≠ 124 ∧ c ≠ 38 ∧ c ≠ 40 ∧ c ≠ 41) : toks (l.drop i) = tk [c] :: toks (l.drop (i + 1)) ∧ okT1 (tk [c]) = false := by
  have h45 : c ≠ 45 := fun e => by rw [e] at h1; exact absurd h1 (by decide)
  rw [dropAt h]
  refine ⟨toks_mark h1 h2 h45 _, ?_⟩
  have hq : ∀ d : UInt8, c ≠ d → tk [c] ≠ tk [d] := fun d hd e => hd (by have := congrArg (fun b : ByteArray => b.data.toList) e; simpa [tk] using this)
  have hn : tk [c] ≠ cNone := fun e => by have := congrArg ByteArray.size e; rw [tk_size] at this; cases this
  have ha : tk [c] ≠ cArrow := fun e => by have := congrArg ByteArray.size e; rw [tk_size] at this; cases this
  unfold okT1
  rw [decide_eq_false (show ¬ tk [c] = cOpen from hq 40 hm.2.2.2.1), decide_eq_false (show ¬ tk [c] = cShut from hq 41 hm.2.2.2.2), decide_eq_false (show ¬ tk [c] = cPipe from hq 124 hm.2.1), decide_eq_false (show ¬ tk [c] = cAmp from hq 38 hm.2.2.1), decide_eq_false (show ¬ tk [c] = cEq from hq 61 hm.1), decide_eq_false ha, tk_data, List.all_cons, h1]
  simp
theorem nlen_all : ∀ l : List UInt8, (l.take (nlen l)).all okB = true
  | [] => rfl
  | c :: r => by
    unfold nlen
    split
    · rename_i h
      rw [List.take_succ_cons, List.all_cons, h.1, nlen_all r]; rfl
    · rfl
theorem t_name {l : List UInt8} {i n : Nat} {c : UInt8} (h : l[i]? = some c) (h1 : okB c = true) (h2 : ¬ (c = 45 ∧ l[i + 1]? = some 62)) (hn : i ≤ n) (hl : nlen (l.drop i) = n - i) :
    toks (l.drop i) = tk ((l.drop i).take (n - i)) :: toks (l.drop n) ∧ okT1 (tk ((l.drop i).take (n - i))) = true ∧ i < n := by
  have hp : 0 < nlen (l.drop i) := by rw [nlenAt h, if_pos ⟨h1, h2⟩]; omega
  have hcd := dropAt h
  have hb := (okB_not h1).1
  have ht : trimL (l.drop i) = l.drop i := by rw [hcd, trimL_cons, if_neg (by rw [hb]; decide)]
  have har : arrowB (l.drop i) = false := by
    rw [hcd, arrowB_cons, List.head?_drop]
    cases hq : (decide (c = 45) && decide (l[i + 1]? = some 62)) with
    | false => rfl
    | true => simp at hq; exact absurd hq h2
  have hlen : tlen (l.drop i) = n - i := by
    unfold tlen
    rw [har, if_neg (by decide), if_neg (fun e => by omega), hl]
  have hne : l.drop i ≠ [] := by rw [hcd]; simp
  have hle := nlen_le (l.drop i)
  refine ⟨?_, ?_, by omega⟩
  · rw [toks_some (by rw [ht]; exact hne), ht, hlen, List.drop_drop, show i + (n - i) = n by omega]
  · have ha := nlen_all (l.drop i)
    rw [hl] at ha
    have hz : tk ((l.drop i).take (n - i)) ≠ cNone := fun e => by
      have := congrArg ByteArray.size e
      rw [tk_size, List.length_take] at this
      have : min (n - i) (l.drop i).length = 0 := this
      omega
    unfold okT1
    rw [tk_data, ha, decide_eq_false hz]
    simp

def NotAr (l : List UInt8) (i : Nat) (c : UInt8) : Prop := ¬ (c = 45 ∧ l[i + 1]? = some 62)
def TkRel (w : World) (l : List UInt8) (ov iv : Value) (wr : World) : Prop := ∃ (i : Nat) (acc : List ByteArray), iv = .int .i64 (i : Int) ∧ i ≤ l.length ∧ toks l = acc ++ toks (l.drop i) ∧ (∀ s ∈ acc, okT1 s = true) ∧ wr.ownsRow w.heap.size 9 1 ov acc.length (scells acc) ∧ Below w.heap.size w wr
def NmRel (l : List UInt8) (i : Nat) (wr : World) (nv : Value) (wi : World) : Prop := ∃ n : Nat, nv = .int .i64 (n : Int) ∧ i ≤ n ∧ n ≤ l.length ∧ nlen (l.drop i) = (n - i) + nlen (l.drop n) ∧ wr = wi

/-- What tokens answers. -/
def TokPost (w : World) (l : List UInt8) (e : Ending) (w' : World) : Prop :=
  ∃ (a : Option Addr) (n c : Nat) (b : Bool), e = .returned (.tuple #[.slice a n c, .bool b]) ∧ b = (toks l).all okT1 ∧ (b = true → n = (toks l).length ∧ Reads w' 1 (.slice a n c) n (scells (toks l))) ∧ Below w.heap.size w w'

theorem tk_no {w w' : World} {l : List UInt8} {T1 T2 : List ByteArray} {s : ByteArray} (h : toks l = T1 ++ s :: T2) (hs : okT1 s = false) (hb : Below w.heap.size w w') : TokPost w l (.returned (.tuple #[.slice none 0 0, .bool false])) w' := by
  refine ⟨none, 0, 0, false, rfl, ?_, (fun e => by cases e), hb⟩
  rw [h, List.all_append, List.all_cons, hs]
  simp
theorem tk_yes {w w' : World} {l : List UInt8} {acc : List ByteArray} {ov : Value} (h : toks l = acc) (ha : ∀ s ∈ acc, okT1 s = true) (ho : w'.ownsRow w.heap.size 9 1 ov acc.length (scells acc)) (hb : Below w.heap.size w w') : TokPost w l (.returned (.tuple #[ov, .bool true])) w' := by
  obtain ⟨hl, a, c, rfl, h3⟩ := ownsRow.reads ho
  refine ⟨a, acc.length, c, true, rfl, ?_, fun _ => ⟨by rw [h], ?_⟩, hb⟩
  · rw [h]
    exact (List.all_eq_true.2 ha).symm
  · rw [h]
    exact ownsRow.reads ho

set_option maxRecDepth 100000 in
set_option maxHeartbeats 1000000 in
theorem sign_any (w : World) (c : UInt8) : Calls Tryd.prog 45 #[.int .u8 (c.toNat : Int)] w (SameBool w (okB c)) := by
  rcases okB_ways c with ⟨hok, hw⟩ | ⟨hok, hw⟩
  · have HOk := Lib.hid hok
    have i1 : 97 ≤ c.toNat → decide (97 ≤ (c.toNat : Int)) = true := fun h => by simp; omega
    have i2 : c.toNat ≤ 122 → decide ((c.toNat : Int) ≤ 122) = true := fun h => by simp; omega
    have i3 : c.toNat < 97 → decide (97 ≤ (c.toNat : Int)) = false := fun h => by simp; omega
    have i4 : 48 ≤ c.toNat → decide (48 ≤ (c.toNat : Int)) = true := fun h => by simp; omega
    have i5 : c.toNat ≤ 57 → decide ((c.toNat : Int) ≤ 57) = true := fun h => by simp; omega
    have i6 : 57 < c.toNat → decide ((c.toNat : Int) ≤ 57) = false := fun h => by simp; omega
    have i7 : c.toNat < 48 → decide (48 ≤ (c.toNat : Int)) = false := fun h => by simp; omega
    clear hok
    rcases hw with hw | hw | hw | hw
    · replace i1 := i1 (by omega)
      replace i2 := i2 (by omega)
      clear i3 i4 i5 i6 i7
      go_enter Tryd.func45, Tryd.ntmps45
      go_wp2
      go_ret
      rw [HOk.out]
      exact ⟨rfl, rfl⟩
    · replace i3 := i3 (by omega)
      replace i4 := i4 (by omega)
      replace i5 := i5 (by omega)
      clear i1 i2 i6 i7
      go_enter Tryd.func45, Tryd.ntmps45
      go_wp2
      go_ret
      rw [HOk.out]
      exact ⟨rfl, rfl⟩
    · replace i3 := i3 (by omega)
      replace i4 := i4 (by omega)
      replace i6 := i6 (by omega)
      have e95 : ((c.toNat : Int) == 95) = true := by simp; omega
      clear i1 i2 i5 i7
      go_enter Tryd.func45, Tryd.ntmps45
      go_wp2
      go_ret
      rw [HOk.out]
      exact ⟨rfl, rfl⟩
    · replace i3 := i3 (by omega)
      replace i7 := i7 (by omega)
      have e95 : ((c.toNat : Int) == 95) = false := by simp; omega
      have e45 : ((c.toNat : Int) == 45) = true := by simp; omega
      clear i1 i2 i4 i5 i6
      go_enter Tryd.func45, Tryd.ntmps45
      go_wp2
      go_ret
      rw [HOk.out]
      exact ⟨rfl, rfl⟩
  · have HOk := Lib.hid hok
    clear hok
    have e95 : ((c.toNat : Int) == 95) = false := by simp; omega
    have e45 : ((c.toNat : Int) == 45) = false := by simp; omega
    have k57 : 57 < c.toNat → decide ((c.toNat : Int) ≤ 57) = false := fun h => by simp; omega
    have k122 : 122 < c.toNat → decide ((c.toNat : Int) ≤ 122) = false := fun h => by simp; omega
    have k48 : c.toNat < 48 → decide (48 ≤ (c.toNat : Int)) = false := fun h => by simp; omega
    have k97 : c.toNat < 97 → decide (97 ≤ (c.toNat : Int)) = false := fun h => by simp; omega
    have j48 : 48 ≤ c.toNat → decide (48 ≤ (c.toNat : Int)) = true := fun h => by simp; omega
    have j97 : 97 ≤ c.toNat → decide (97 ≤ (c.toNat : Int)) = true := fun h => by simp; omega
    rcases hw with hw | hw | hw
    · replace k48 := k48 (by omega)
      replace k97 := k97 (by omega)
      clear k57 k122 j48 j97
      go_enter Tryd.func45, Tryd.ntmps45
      go_wp2
      go_ret
      rw [HOk.out]
      exact ⟨rfl, rfl⟩
    · replace k57 := k57 (by omega)
      replace k97 := k97 (by omega)
      clear k48 k122 j97
      go_enter Tryd.func45, Tryd.ntmps45
      go_wp2
      go_ret
      rw [HOk.out]
      exact ⟨rfl, rfl⟩
    · replace k57 := k57 (by omega)
      replace k122 := k122 (by omega)
      replace j97 := j97 (by omega)
      clear k48 k97
      go_enter Tryd.func45, Tryd.ntmps45
      go_wp2
      go_ret
      rw [HOk.out]
      exact ⟨rfl, rfl⟩

set_option maxRecDepth 100000 in
set_option maxHeartbeats 8000000 in
theorem tokens_any (w : World) (l : List UInt8) (hl6 : l.length ≤ 65536) : Calls Tryd.prog 20 #[.string (tk l)] w (TokPost w l) := by
  obtain ⟨j0, hj, hy0, hy1, hy2⟩ := info_parts info9
  have hcnt : ∀ (acc T : List ByteArray), toks l = acc ++ T → acc.length ≤ 80000 := fun acc T e => by
    have h1 := wt_toks _ l (Nat.le_refl _)
    have h2 := wtT_len (toks l)
    rw [e, List.length_append] at h2
    rw [e] at h1
    omega
  have HC := Lib.hid hcnt
  obtain ⟨L, hL⟩ : ∃ L, l.length = L := ⟨_, rfl⟩
  have HL := Lib.hid hL
  have htk : (tk l).size = L := by rw [tk_size, hL]
  rw [hL] at hl6
  clear hcnt hL
  go_enter Tryd.func20, Tryd.ntmps20
  go_wp2
  go_loopw [4, 5] (fun ov iv wr => TkRel w l ov iv wr) (fun _ iv _ => L - (intOf iv).toNat)
  case atStart => exact ⟨0, [], rfl, Nat.zero_le _, rfl, (fun s hs => by cases hs), owns_nil _ _ _ _, Below.refl _ _⟩
  case round =>
    obtain ⟨i, acc, rfl, hin, hto, hall, hown, hb⟩ := hrel
    rw [HL.out] at hin
    have HTo := Lib.hid hto
    have HAll := Lib.hid hall
    have HOwn := Lib.hid hown
    have HB := Lib.hid hb
    obtain ⟨oa, ocap, rfl, ho1, ho2⟩ := (ownsRow.reads hown).le
    have hac := HC.out _ _ hto
    have hbsz := hb.size
    clear hto hall hown hb
    by_cases hlt : i < L
    · have hltI : (i : Int) < L := by omega
      have h0I : (0 : Int) ≤ i := by omega
      obtain ⟨c, hc⟩ : ∃ c, l[i]? = some c := ⟨l[i]'(by rw [HL.out]; exact hlt), List.getElem?_eq_getElem _⟩
      have hgc : ∀ h : i < (tk l).size, (tk l)[i]'h = c := fun h => tkGet hc h
      have HCi := Lib.hid hc
      clear hc
      by_cases hc32 : c = 32
      · subst hc32
        have HN := Lib.hid (HTo.out.trans (by rw [t_blank HCi.out rfl]))
        go_wp2
        exact ⟨⟨i + 1, acc, by go_num, by rw [HL.out]; omega, HN.out, HAll.out, HOwn.out, HB.out⟩, by simp [intOf]; omega⟩
      · have n32 : ((c.toNat : Int) == 32) = false := by
          have : c.toNat ≠ 32 := fun e => hc32 (by rw [← UInt8.toNat_inj, e]; rfl)
          simp; omega
        by_cases hc9 : c = 9
        · subst hc9
          have HN := Lib.hid (HTo.out.trans (by rw [t_blank HCi.out rfl]))
          go_wp2
          exact ⟨⟨i + 1, acc, by go_num, by rw [HL.out]; omega, HN.out, HAll.out, HOwn.out, HB.out⟩, by simp [intOf]; omega⟩
        · have n9 : ((c.toNat : Int) == 9) = false := by
            have : c.toNat ≠ 9 := fun e => hc9 (by rw [← UInt8.toNat_inj, e]; rfl)
            simp; omega
          by_cases hc61 : c = 61
          · subst hc61
            have hm := t_mark HCi.out (.inl rfl)
            have HM := Lib.hid hm
            have hex : (tk l).extract i (i + 1) = tk [61] := by rw [tkExt, dropAt HCi.out, show i + 1 - i = 1 by omega]; rfl
            clear hm
            go_wp2_with (at_builtin; go_must (refine wpList_append_rows_own (w0 := wr) rfl _ _ 35 rfl w.heap.size 9 j0 _ 1 16 Tryd.underlying35 hj hy0 hy1 hy2 rfl (scells [tk [61]]) 1 rfl HOwn.out rfl rfl ?_ ?_ ?_ ?_ ?_))
            · exact scells_one _
            · unfold maxLen; omega
            · omega
            try exact hbsz
            intro v6 w6 o6 g6 b6 m6
            have HO6 := Lib.hid (show w6.ownsRow w.heap.size 9 1 v6 (acc ++ [tk [61]]).length (scells (acc ++ [tk [61]])) by rw [List.length_append, scells_append]; exact o6)
            have HB6 := Lib.hid (HB.out.trans b6)
            have HN := Lib.hid (show toks l = (acc ++ [tk [61]]) ++ toks (l.drop (i + 1)) by rw [HTo.out, HM.out.1, List.append_assoc]; rfl)
            have HA6 := Lib.hid (show ∀ s ∈ acc ++ [tk [61]], okT1 s = true from fun s hs => by
              rcases List.mem_append.1 hs with hs | hs
              · exact HAll.out s hs
              · rw [List.mem_singleton.1 hs]; exact HM.out.2)
            clear o6 g6 b6 m6
            go_wp2
            exact ⟨⟨i + 1, _, by go_num, by rw [HL.out]; omega, HN.out, HA6.out, HO6.out, HB6.out⟩, by simp [intOf]; omega⟩
          · have n61 : ((c.toNat : Int) == 61) = false := by
              have : c.toNat ≠ 61 := fun e => hc61 (by rw [← UInt8.toNat_inj, e]; rfl)
              simp; omega
            by_cases hc124 : c = 124
            · subst hc124
              have hm := t_mark HCi.out (.inr (.inl rfl))
              have HM := Lib.hid hm
              have hex : (tk l).extract i (i + 1) = tk [124] := by rw [tkExt, dropAt HCi.out, show i + 1 - i = 1 by omega]; rfl
              clear hm
              go_wp2_with (at_builtin; go_must (refine wpList_append_rows_own (w0 := wr) rfl _ _ 35 rfl w.heap.size 9 j0 _ 1 16 Tryd.underlying35 hj hy0 hy1 hy2 rfl (scells [tk [124]]) 1 rfl HOwn.out rfl rfl ?_ ?_ ?_ ?_ ?_))
              · exact scells_one _
              · unfold maxLen; omega
              · omega
              try exact hbsz
              intro v6 w6 o6 g6 b6 m6
              have HO6 := Lib.hid (show w6.ownsRow w.heap.size 9 1 v6 (acc ++ [tk [124]]).length (scells (acc ++ [tk [124]])) by rw [List.length_append, scells_append]; exact o6)
              have HB6 := Lib.hid (HB.out.trans b6)
              have HN := Lib.hid (show toks l = (acc ++ [tk [124]]) ++ toks (l.drop (i + 1)) by rw [HTo.out, HM.out.1, List.append_assoc]; rfl)
              have HA6 := Lib.hid (show ∀ s ∈ acc ++ [tk [124]], okT1 s = true from fun s hs => by
                rcases List.mem_append.1 hs with hs | hs
                · exact HAll.out s hs
                · rw [List.mem_singleton.1 hs]; exact HM.out.2)
              clear o6 g6 b6 m6
              go_wp2
              exact ⟨⟨i + 1, _, by go_num, by rw [HL.out]; omega, HN.out, HA6.out, HO6.out, HB6.out⟩, by simp [intOf]; omega⟩
            · have n124 : ((c.toNat : Int) == 124) = false := by
                have : c.toNat ≠ 124 := fun e => hc124 (by rw [← UInt8.toNat_inj, e]; rfl)
                simp; omega
              by_cases hc38 : c = 38
              · subst hc38
                have hm := t_mark HCi.out (.inr (.inr (.inl rfl)))
                have HM := Lib.hid hm
                have hex : (tk l).extract i (i + 1) = tk [38] := by rw [tkExt, dropAt HCi.out, show i + 1 - i = 1 by omega]; rfl
                clear hm
                go_wp2_with (at_builtin; go_must (refine wpList_append_rows_own (w0 := wr) rfl _ _ 35 rfl w.heap.size 9 j0 _ 1 16 Tryd.underlying35 hj hy0 hy1 hy2 rfl (scells [tk [38]]) 1 rfl HOwn.out rfl rfl ?_ ?_ ?_ ?_ ?_))
                · exact scells_one _
                · unfold maxLen; omega
                · omega
                try exact hbsz
                intro v6 w6 o6 g6 b6 m6
                have HO6 := Lib.hid (show w6.ownsRow w.heap.size 9 1 v6 (acc ++ [tk [38]]).length (scells (acc ++ [tk [38]])) by rw [List.length_append, scells_append]; exact o6)
                have HB6 := Lib.hid (HB.out.trans b6)
                have HN := Lib.hid (show toks l = (acc ++ [tk [38]]) ++ toks (l.drop (i + 1)) by rw [HTo.out, HM.out.1, List.append_assoc]; rfl)
                have HA6 := Lib.hid (show ∀ s ∈ acc ++ [tk [38]], okT1 s = true from fun s hs => by
                  rcases List.mem_append.1 hs with hs | hs
                  · exact HAll.out s hs
                  · rw [List.mem_singleton.1 hs]; exact HM.out.2)
                clear o6 g6 b6 m6
                go_wp2
                exact ⟨⟨i + 1, _, by go_num, by rw [HL.out]; omega, HN.out, HA6.out, HO6.out, HB6.out⟩, by simp [intOf]; omega⟩
              · have n38 : ((c.toNat : Int) == 38) = false := by
                  have : c.toNat ≠ 38 := fun e => hc38 (by rw [← UInt8.toNat_inj, e]; rfl)
                  simp; omega
                by_cases hc40 : c = 40
                · subst hc40
                  have hm := t_mark HCi.out (.inr (.inr (.inr (.inl rfl))))
                  have HM := Lib.hid hm
                  have hex : (tk l).extract i (i + 1) = tk [40] := by rw [tkExt, dropAt HCi.out, show i + 1 - i = 1 by omega]; rfl
                  clear hm
                  go_wp2_with (at_builtin; go_must (refine wpList_append_rows_own (w0 := wr) rfl _ _ 35 rfl w.heap.size 9 j0 _ 1 16 Tryd.underlying35 hj hy0 hy1 hy2 rfl (scells [tk [40]]) 1 rfl HOwn.out rfl rfl ?_ ?_ ?_ ?_ ?_))
                  · exact scells_one _
                  · unfold maxLen; omega
                  · omega
                  try exact hbsz
                  intro v6 w6 o6 g6 b6 m6
                  have HO6 := Lib.hid (show w6.ownsRow w.heap.size 9 1 v6 (acc ++ [tk [40]]).length (scells (acc ++ [tk [40]])) by rw [List.length_append, scells_append]; exact o6)
                  have HB6 := Lib.hid (HB.out.trans b6)
                  have HN := Lib.hid (show toks l = (acc ++ [tk [40]]) ++ toks (l.drop (i + 1)) by rw [HTo.out, HM.out.1, List.append_assoc]; rfl)
                  have HA6 := Lib.hid (show ∀ s ∈ acc ++ [tk [40]], okT1 s = true from fun s hs => by
                    rcases List.mem_append.1 hs with hs | hs
                    · exact HAll.out s hs
                    · rw [List.mem_singleton.1 hs]; exact HM.out.2)
                  clear o6 g6 b6 m6
                  go_wp2
                  exact ⟨⟨i + 1, _, by go_num, by rw [HL.out]; omega, HN.out, HA6.out, HO6.out, HB6.out⟩, by simp [intOf]; omega⟩
                · have n40 : ((c.toNat : Int) == 40) = false := by
                    have : c.toNat ≠ 40 := fun e => hc40 (by rw [← UInt8.toNat_inj, e]; rfl)
                    simp; omega
                  by_cases hc41 : c = 41
                  · subst hc41
                    have hm := t_mark HCi.out (.inr (.inr (.inr (.inr rfl))))
                    have HM := Lib.hid hm
                    have hex : (tk l).extract i (i + 1) = tk [41] := by rw [tkExt, dropAt HCi.out, show i + 1 - i = 1 by omega]; rfl
                    clear hm
                    go_wp2_with (at_builtin; go_must (refine wpList_append_rows_own (w0 := wr) rfl _ _ 35 rfl w.heap.size 9 j0 _ 1 16 Tryd.underlying35 hj hy0 hy1 hy2 rfl (scells [tk [41]]) 1 rfl HOwn.out rfl rfl ?_ ?_ ?_ ?_ ?_))
                    · exact scells_one _
                    · unfold maxLen; omega
                    · omega
                    try exact hbsz
                    intro v6 w6 o6 g6 b6 m6
                    have HO6 := Lib.hid (show w6.ownsRow w.heap.size 9 1 v6 (acc ++ [tk [41]]).length (scells (acc ++ [tk [41]])) by rw [List.length_append, scells_append]; exact o6)
                    have HB6 := Lib.hid (HB.out.trans b6)
                    have HN := Lib.hid (show toks l = (acc ++ [tk [41]]) ++ toks (l.drop (i + 1)) by rw [HTo.out, HM.out.1, List.append_assoc]; rfl)
                    have HA6 := Lib.hid (show ∀ s ∈ acc ++ [tk [41]], okT1 s = true from fun s hs => by
                      rcases List.mem_append.1 hs with hs | hs
                      · exact HAll.out s hs
                      · rw [List.mem_singleton.1 hs]; exact HM.out.2)
                    clear o6 g6 b6 m6
                    go_wp2
                    exact ⟨⟨i + 1, _, by go_num, by rw [HL.out]; omega, HN.out, HA6.out, HO6.out, HB6.out⟩, by simp [intOf]; omega⟩
                  · have n41 : ((c.toNat : Int) == 41) = false := by
                      have : c.toNat ≠ 41 := fun e => hc41 (by rw [← UInt8.toNat_inj, e]; rfl)
                      simp; omega
                    cases hok : okB c with
                    | false =>
                      have HBad := Lib.hid (t_bad HCi.out hok (by unfold blankU; simp [hc32, hc9]) ⟨hc61, hc124, hc38, hc40, hc41⟩)
                      have n45 : ((c.toNat : Int) == 45) = false := by
                        have : c.toNat ≠ 45 := fun e => by
                          have h : c = 45 := by rw [← UInt8.toNat_inj, e]; rfl
                          rw [h] at hok
                          exact absurd hok (by decide)
                        simp; omega
                      have HSg := Lib.hid (sign_any wr c)
                      rw [hok] at HSg
                      have HNo := Lib.hid (show toks l = acc ++ tk [c] :: toks (l.drop (i + 1)) by rw [HTo.out, HBad.out.1])
                      clear hok
                      go_wp2_with (go_at_call 45; go_must (refine HSg.out.mono ?_))
                      rintro e w1 ⟨rfl, rfl⟩
                      go_wp2
                      go_ret2
                      exact tk_no HNo.out HBad.out.2 HB.out
                    | true =>
                      have HOk := Lib.hid hok
                      clear hok hc32 hc9 hc61 hc124 hc38 hc40 hc41
                      by_cases h45 : c = 45
                      · subst h45
                        by_cases hn1 : i + 1 < L
                        · have hn1I : (i : Int) + 1 < L := by omega
                          have h0n1 : (0 : Int) ≤ i + 1 := by omega
                          obtain ⟨f, hf⟩ : ∃ f, l[i + 1]? = some f := ⟨l[i + 1]'(by rw [HL.out]; exact hn1), List.getElem?_eq_getElem _⟩
                          have hgf : ∀ h : i + 1 < (tk l).size, (tk l)[i + 1]'h = f := fun h => tkGet hf h
                          by_cases hf62 : f = 62
                          · subst hf62
                            have h62 := hf
                            clear hf
                            have hm := t_arrow HCi.out h62
                            have HM := Lib.hid hm
                            clear hm
                            go_wp2_with (at_builtin; go_must (refine wpList_append_rows_own (w0 := wr) rfl _ _ 35 rfl w.heap.size 9 j0 _ 1 16 Tryd.underlying35 hj hy0 hy1 hy2 rfl (scells [cArrow]) 1 rfl HOwn.out rfl rfl ?_ ?_ ?_ ?_ ?_))
                            · exact scells_one _
                            · unfold maxLen; omega
                            · omega
                            try exact hbsz
                            intro v6 w6 o6 g6 b6 m6
                            have HO6 := Lib.hid (show w6.ownsRow w.heap.size 9 1 v6 (acc ++ [cArrow]).length (scells (acc ++ [cArrow])) by rw [List.length_append, scells_append]; exact o6)
                            have HB6 := Lib.hid (HB.out.trans b6)
                            have HN := Lib.hid (show toks l = (acc ++ [cArrow]) ++ toks (l.drop (i + 2)) by rw [HTo.out, HM.out, List.append_assoc]; rfl)
                            have HA6 := Lib.hid (show ∀ s ∈ acc ++ [cArrow], okT1 s = true from fun s hs => by
                              rcases List.mem_append.1 hs with hs | hs
                              · exact HAll.out s hs
                              · rw [List.mem_singleton.1 hs]; exact (by decide))
                            clear o6 g6 b6 m6
                            go_wp2
                            exact ⟨⟨i + 2, _, by go_num, by rw [HL.out]; omega, HN.out, HA6.out, HO6.out, HB6.out⟩, by simp [intOf]; omega⟩
                          · have hfI : ((f.toNat : Int) == 62) = false := by
                              have : f.toNat ≠ 62 := fun e => hf62 (by rw [← UInt8.toNat_inj, e]; rfl)
                              simp; omega
                            have HAr := Lib.hid (show NotAr l i 45 from fun h => hf62 (by rw [hf] at h; exact Option.some.inj h.2))
                            clear hf
                            have HSg := Lib.hid (sign_any wr 45)
                            rw [HOk.out] at HSg
                            go_wp2_with (go_at_call 45; go_must (refine HSg.out.mono ?_))
                            rintro e w1 ⟨rfl, rfl⟩
                            clear HSg
                            go_wp2
                            go_loopw [7] (fun nv wi => NmRel l i wr nv wi) (fun nv _ => L - (intOf nv).toNat)
                            case atStart => exact ⟨i, rfl, Nat.le_refl _, by rw [HL.out]; omega, by rw [Nat.sub_self, Nat.zero_add], rfl⟩
                            case round =>
                              rename World => wi
                              obtain ⟨n, rfl, hni, hnL, hnn, rfl⟩ := hrel
                              rw [HL.out] at hnL
                              have HNl := Lib.hid hnn
                              clear hnn
                              by_cases hnlt : n < L
                              · have hnltI : (n : Int) < L := by omega
                                have hnLI : (n : Int) ≤ L := by omega
                                have h0n : (0 : Int) ≤ n := by omega
                                obtain ⟨e, he⟩ : ∃ e, l[n]? = some e := ⟨l[n]'(by rw [HL.out]; exact hnlt), List.getElem?_eq_getElem _⟩
                                have hge : ∀ h : n < (tk l).size, (tk l)[n]'h = e := fun h => tkGet he h
                                have HEn := Lib.hid he
                                have HAt := Lib.hid (nlenAt he)
                                have HS2 := Lib.hid (sign_any wr e)
                                clear he
                                cases hoe : okB e with
                                | false =>
                                  have HNn := Lib.hid (show nlen (l.drop i) = n - i by rw [HNl.out, HAt.out, hoe, if_neg (fun h => absurd h.1 (by decide))]; rfl)
                                  rw [hoe] at HS2
                                  clear hoe
                                  go_wp2_with (go_at_call 45; go_must (refine HS2.out.mono ?_))
                                  rintro e2 w2 ⟨rfl, rfl⟩
                                  clear HS2
                                  have HT := Lib.hid (t_name HCi.out HOk.out HAr.out hni (by have := HNn.out; omega))
                                  have hni2 : i < n := HT.out.2.2
                                  have hex : (tk l).extract i n = tk ((l.drop i).take (n - i)) := tkExt l i n
                                  have hniI : (i : Int) ≤ n := by omega
                                  go_wp2_with (at_builtin; go_must (refine wpList_append_rows_own (w0 := wr) rfl _ _ 35 rfl w.heap.size 9 j0 _ 1 16 Tryd.underlying35 hj hy0 hy1 hy2 rfl (scells [tk ((l.drop i).take (n - i))]) 1 rfl HOwn.out rfl rfl ?_ ?_ ?_ ?_ ?_))
                                  · exact scells_one _
                                  · unfold maxLen; omega
                                  · omega
                                  try exact hbsz
                                  intro v6 w6 o6 g6 b6 m6
                                  have HO6 := Lib.hid (show w6.ownsRow w.heap.size 9 1 v6 (acc ++ [tk ((l.drop i).take (n - i))]).length (scells (acc ++ [tk ((l.drop i).take (n - i))])) by rw [List.length_append, scells_append]; exact o6)
                                  have HB6 := Lib.hid (HB.out.trans b6)
                                  have HN := Lib.hid (show toks l = (acc ++ [tk ((l.drop i).take (n - i))]) ++ toks (l.drop (n)) by rw [HTo.out, HT.out.1, List.append_assoc]; rfl)
                                  have HA6 := Lib.hid (show ∀ s ∈ acc ++ [tk ((l.drop i).take (n - i))], okT1 s = true from fun s hs => by
                                    rcases List.mem_append.1 hs with hs | hs
                                    · exact HAll.out s hs
                                    · rw [List.mem_singleton.1 hs]; exact HT.out.2.1)
                                  clear o6 g6 b6 m6
                                  go_wp2
                                  exact ⟨⟨n, _, rfl, by rw [HL.out]; omega, HN.out, HA6.out, HO6.out, HB6.out⟩, by simp [intOf]; omega⟩
                                | true =>
                                  rw [hoe] at HS2
                                  have HOe := Lib.hid hoe
                                  clear hoe
                                  go_wp2_with (go_at_call 45; go_must (refine HS2.out.mono ?_))
                                  rintro e2 w2 ⟨rfl, rfl⟩
                                  clear HS2
                                  by_cases he45 : e = 45
                                  · subst he45
                                    by_cases hn1 : n + 1 < L
                                    · have hn1I : (n : Int) + 1 < L := by omega
                                      have h0n1 : (0 : Int) ≤ n + 1 := by omega
                                      obtain ⟨f, hf⟩ : ∃ f, l[n + 1]? = some f := ⟨l[n + 1]'(by rw [HL.out]; exact hn1), List.getElem?_eq_getElem _⟩
                                      have hgf : ∀ h : n + 1 < (tk l).size, (tk l)[n + 1]'h = f := fun h => tkGet hf h
                                      have HFn := Lib.hid hf
                                      clear hf
                                      by_cases hf62 : f = 62
                                      · subst hf62
                                        have HNn := Lib.hid (show nlen (l.drop i) = n - i by rw [HNl.out, HAt.out, if_neg (fun h => h.2 ⟨rfl, HFn.out⟩)]; rfl)
                                        have HT := Lib.hid (t_name HCi.out HOk.out HAr.out hni (by have := HNn.out; omega))
                                        have hni2 : i < n := HT.out.2.2
                                        have hex : (tk l).extract i n = tk ((l.drop i).take (n - i)) := tkExt l i n
                                        have hniI : (i : Int) ≤ n := by omega
                                        go_wp2_with (at_builtin; go_must (refine wpList_append_rows_own (w0 := wr) rfl _ _ 35 rfl w.heap.size 9 j0 _ 1 16 Tryd.underlying35 hj hy0 hy1 hy2 rfl (scells [tk ((l.drop i).take (n - i))]) 1 rfl HOwn.out rfl rfl ?_ ?_ ?_ ?_ ?_))
                                        · exact scells_one _
                                        · unfold maxLen; omega
                                        · omega
                                        try exact hbsz
                                        intro v6 w6 o6 g6 b6 m6
                                        have HO6 := Lib.hid (show w6.ownsRow w.heap.size 9 1 v6 (acc ++ [tk ((l.drop i).take (n - i))]).length (scells (acc ++ [tk ((l.drop i).take (n - i))])) by rw [List.length_append, scells_append]; exact o6)
                                        have HB6 := Lib.hid (HB.out.trans b6)
                                        have HN := Lib.hid (show toks l = (acc ++ [tk ((l.drop i).take (n - i))]) ++ toks (l.drop (n)) by rw [HTo.out, HT.out.1, List.append_assoc]; rfl)
                                        have HA6 := Lib.hid (show ∀ s ∈ acc ++ [tk ((l.drop i).take (n - i))], okT1 s = true from fun s hs => by
                                          rcases List.mem_append.1 hs with hs | hs
                                          · exact HAll.out s hs
                                          · rw [List.mem_singleton.1 hs]; exact HT.out.2.1)
                                        clear o6 g6 b6 m6
                                        go_wp2
                                        exact ⟨⟨n, _, rfl, by rw [HL.out]; omega, HN.out, HA6.out, HO6.out, HB6.out⟩, by simp [intOf]; omega⟩
                                      · have hfI : ((f.toNat : Int) == 62) = false := by
                                          have : f.toNat ≠ 62 := fun e => hf62 (by rw [← UInt8.toNat_inj, e]; rfl)
                                          simp; omega
                                        have HNx := Lib.hid (show nlen (l.drop i) = (n + 1 - i) + nlen (l.drop (n + 1)) by
                                          have h := HAt.out
                                          rw [if_pos ⟨HOe.out, fun h => hf62 (by have h2 := HFn.out; rw [h.2] at h2; exact (Option.some.inj h2).symm)⟩] at h
                                          rw [HNl.out, h]; omega)
                                        go_wp2
                                        exact ⟨⟨n + 1, by go_num, by omega, by rw [HL.out]; omega, HNx.out, rfl⟩, by simp [intOf]; omega⟩
                                    · have hn1I : ¬ (n : Int) + 1 < L := by omega
                                      have HNx := Lib.hid (show nlen (l.drop i) = (n + 1 - i) + nlen (l.drop (n + 1)) by
                                        have h := HAt.out
                                        rw [if_pos ⟨HOe.out, fun h => by rw [List.getElem?_eq_none (by rw [HL.out]; omega)] at h; exact absurd h.2 (by simp)⟩] at h
                                        rw [HNl.out, h]; omega)
                                      go_wp2
                                      exact ⟨⟨n + 1, by go_num, by omega, by rw [HL.out]; omega, HNx.out, rfl⟩, by simp [intOf]; omega⟩
                                  · have heI : ((e.toNat : Int) == 45) = false := by
                                      have : e.toNat ≠ 45 := fun h => he45 (by rw [← UInt8.toNat_inj, h]; rfl)
                                      simp; omega
                                    have HNx := Lib.hid (show nlen (l.drop i) = (n + 1 - i) + nlen (l.drop (n + 1)) by
                                      have h := HAt.out
                                      rw [if_pos ⟨HOe.out, fun h => he45 h.1⟩] at h
                                      rw [HNl.out, h]; omega)
                                    go_wp2
                                    exact ⟨⟨n + 1, by go_num, by omega, by rw [HL.out]; omega, HNx.out, rfl⟩, by simp [intOf]; omega⟩
                              · obtain rfl : n = L := by omega
                                have hnltI : ¬ (n : Int) < n := by omega
                                have HNn := Lib.hid (show nlen (l.drop i) = n - i by rw [HNl.out, List.drop_of_length_le (by rw [HL.out]; exact Nat.le_refl _)]; rfl)
                                have HT := Lib.hid (t_name HCi.out HOk.out HAr.out hni (by have := HNn.out; omega))
                                have hni2 : i < n := HT.out.2.2
                                have hex : (tk l).extract i n = tk ((l.drop i).take (n - i)) := tkExt l i n
                                have hniI : (i : Int) ≤ n := by omega
                                go_wp2_with (at_builtin; go_must (refine wpList_append_rows_own (w0 := wr) rfl _ _ 35 rfl w.heap.size 9 j0 _ 1 16 Tryd.underlying35 hj hy0 hy1 hy2 rfl (scells [tk ((l.drop i).take (n - i))]) 1 rfl HOwn.out rfl rfl ?_ ?_ ?_ ?_ ?_))
                                · exact scells_one _
                                · unfold maxLen; omega
                                · omega
                                try exact hbsz
                                intro v6 w6 o6 g6 b6 m6
                                have HO6 := Lib.hid (show w6.ownsRow w.heap.size 9 1 v6 (acc ++ [tk ((l.drop i).take (n - i))]).length (scells (acc ++ [tk ((l.drop i).take (n - i))])) by rw [List.length_append, scells_append]; exact o6)
                                have HB6 := Lib.hid (HB.out.trans b6)
                                have HN := Lib.hid (show toks l = (acc ++ [tk ((l.drop i).take (n - i))]) ++ toks (l.drop (n)) by rw [HTo.out, HT.out.1, List.append_assoc]; rfl)
                                have HA6 := Lib.hid (show ∀ s ∈ acc ++ [tk ((l.drop i).take (n - i))], okT1 s = true from fun s hs => by
                                  rcases List.mem_append.1 hs with hs | hs
                                  · exact HAll.out s hs
                                  · rw [List.mem_singleton.1 hs]; exact HT.out.2.1)
                                clear o6 g6 b6 m6
                                go_wp2
                                exact ⟨⟨n, _, rfl, by rw [HL.out]; omega, HN.out, HA6.out, HO6.out, HB6.out⟩, by simp [intOf]; omega⟩
                        · have hn1I : ¬ (i : Int) + 1 < L := by omega
                          have HAr := Lib.hid (show NotAr l i 45 from fun h => by rw [List.getElem?_eq_none (by rw [HL.out]; omega)] at h; exact absurd h.2 (by simp))
                          have HSg := Lib.hid (sign_any wr 45)
                          rw [HOk.out] at HSg
                          go_wp2_with (go_at_call 45; go_must (refine HSg.out.mono ?_))
                          rintro e w1 ⟨rfl, rfl⟩
                          clear HSg
                          go_wp2
                          go_loopw [7] (fun nv wi => NmRel l i wr nv wi) (fun nv _ => L - (intOf nv).toNat)
                          case atStart => exact ⟨i, rfl, Nat.le_refl _, by rw [HL.out]; omega, by rw [Nat.sub_self, Nat.zero_add], rfl⟩
                          case round =>
                            rename World => wi
                            obtain ⟨n, rfl, hni, hnL, hnn, rfl⟩ := hrel
                            rw [HL.out] at hnL
                            have HNl := Lib.hid hnn
                            clear hnn
                            by_cases hnlt : n < L
                            · have hnltI : (n : Int) < L := by omega
                              have hnLI : (n : Int) ≤ L := by omega
                              have h0n : (0 : Int) ≤ n := by omega
                              obtain ⟨e, he⟩ : ∃ e, l[n]? = some e := ⟨l[n]'(by rw [HL.out]; exact hnlt), List.getElem?_eq_getElem _⟩
                              have hge : ∀ h : n < (tk l).size, (tk l)[n]'h = e := fun h => tkGet he h
                              have HEn := Lib.hid he
                              have HAt := Lib.hid (nlenAt he)
                              have HS2 := Lib.hid (sign_any wr e)
                              clear he
                              cases hoe : okB e with
                              | false =>
                                have HNn := Lib.hid (show nlen (l.drop i) = n - i by rw [HNl.out, HAt.out, hoe, if_neg (fun h => absurd h.1 (by decide))]; rfl)
                                rw [hoe] at HS2
                                clear hoe
                                go_wp2_with (go_at_call 45; go_must (refine HS2.out.mono ?_))
                                rintro e2 w2 ⟨rfl, rfl⟩
                                clear HS2
                                have HT := Lib.hid (t_name HCi.out HOk.out HAr.out hni (by have := HNn.out; omega))
                                have hni2 : i < n := HT.out.2.2
                                exfalso
                                omega
                              | true =>
                                rw [hoe] at HS2
                                have HOe := Lib.hid hoe
                                clear hoe
                                go_wp2_with (go_at_call 45; go_must (refine HS2.out.mono ?_))
                                rintro e2 w2 ⟨rfl, rfl⟩
                                clear HS2
                                by_cases he45 : e = 45
                                · subst he45
                                  by_cases hn1 : n + 1 < L
                                  · have hn1I : (n : Int) + 1 < L := by omega
                                    have h0n1 : (0 : Int) ≤ n + 1 := by omega
                                    obtain ⟨f, hf⟩ : ∃ f, l[n + 1]? = some f := ⟨l[n + 1]'(by rw [HL.out]; exact hn1), List.getElem?_eq_getElem _⟩
                                    have hgf : ∀ h : n + 1 < (tk l).size, (tk l)[n + 1]'h = f := fun h => tkGet hf h
                                    have HFn := Lib.hid hf
                                    clear hf
                                    by_cases hf62 : f = 62
                                    · subst hf62
                                      have HNn := Lib.hid (show nlen (l.drop i) = n - i by rw [HNl.out, HAt.out, if_neg (fun h => h.2 ⟨rfl, HFn.out⟩)]; rfl)
                                      have HT := Lib.hid (t_name HCi.out HOk.out HAr.out hni (by have := HNn.out; omega))
                                      have hni2 : i < n := HT.out.2.2
                                      exfalso
                                      omega
                                    · have hfI : ((f.toNat : Int) == 62) = false := by
                                        have : f.toNat ≠ 62 := fun e => hf62 (by rw [← UInt8.toNat_inj, e]; rfl)
                                        simp; omega
                                      have HNx := Lib.hid (show nlen (l.drop i) = (n + 1 - i) + nlen (l.drop (n + 1)) by
                                        have h := HAt.out
                                        rw [if_pos ⟨HOe.out, fun h => hf62 (by have h2 := HFn.out; rw [h.2] at h2; exact (Option.some.inj h2).symm)⟩] at h
                                        rw [HNl.out, h]; omega)
                                      go_wp2
                                      exact ⟨⟨n + 1, by go_num, by omega, by rw [HL.out]; omega, HNx.out, rfl⟩, by simp [intOf]; omega⟩
                                  · have hn1I : ¬ (n : Int) + 1 < L := by omega
                                    have HNx := Lib.hid (show nlen (l.drop i) = (n + 1 - i) + nlen (l.drop (n + 1)) by
                                      have h := HAt.out
                                      rw [if_pos ⟨HOe.out, fun h => by rw [List.getElem?_eq_none (by rw [HL.out]; omega)] at h; exact absurd h.2 (by simp)⟩] at h
                                      rw [HNl.out, h]; omega)
                                    go_wp2
                                    exact ⟨⟨n + 1, by go_num, by omega, by rw [HL.out]; omega, HNx.out, rfl⟩, by simp [intOf]; omega⟩
                                · have heI : ((e.toNat : Int) == 45) = false := by
                                    have : e.toNat ≠ 45 := fun h => he45 (by rw [← UInt8.toNat_inj, h]; rfl)
                                    simp; omega
                                  have HNx := Lib.hid (show nlen (l.drop i) = (n + 1 - i) + nlen (l.drop (n + 1)) by
                                    have h := HAt.out
                                    rw [if_pos ⟨HOe.out, fun h => he45 h.1⟩] at h
                                    rw [HNl.out, h]; omega)
                                  go_wp2
                                  exact ⟨⟨n + 1, by go_num, by omega, by rw [HL.out]; omega, HNx.out, rfl⟩, by simp [intOf]; omega⟩
                            · obtain rfl : n = L := by omega
                              have hnltI : ¬ (n : Int) < n := by omega
                              have HNn := Lib.hid (show nlen (l.drop i) = n - i by rw [HNl.out, List.drop_of_length_le (by rw [HL.out]; exact Nat.le_refl _)]; rfl)
                              have HT := Lib.hid (t_name HCi.out HOk.out HAr.out hni (by have := HNn.out; omega))
                              have hni2 : i < n := HT.out.2.2
                              have hex : (tk l).extract i n = tk ((l.drop i).take (n - i)) := tkExt l i n
                              have hniI : (i : Int) ≤ n := by omega
                              go_wp2_with (at_builtin; go_must (refine wpList_append_rows_own (w0 := wr) rfl _ _ 35 rfl w.heap.size 9 j0 _ 1 16 Tryd.underlying35 hj hy0 hy1 hy2 rfl (scells [tk ((l.drop i).take (n - i))]) 1 rfl HOwn.out rfl rfl ?_ ?_ ?_ ?_ ?_))
                              · exact scells_one _
                              · unfold maxLen; omega
                              · omega
                              try exact hbsz
                              intro v6 w6 o6 g6 b6 m6
                              have HO6 := Lib.hid (show w6.ownsRow w.heap.size 9 1 v6 (acc ++ [tk ((l.drop i).take (n - i))]).length (scells (acc ++ [tk ((l.drop i).take (n - i))])) by rw [List.length_append, scells_append]; exact o6)
                              have HB6 := Lib.hid (HB.out.trans b6)
                              have HN := Lib.hid (show toks l = (acc ++ [tk ((l.drop i).take (n - i))]) ++ toks (l.drop (n)) by rw [HTo.out, HT.out.1, List.append_assoc]; rfl)
                              have HA6 := Lib.hid (show ∀ s ∈ acc ++ [tk ((l.drop i).take (n - i))], okT1 s = true from fun s hs => by
                                rcases List.mem_append.1 hs with hs | hs
                                · exact HAll.out s hs
                                · rw [List.mem_singleton.1 hs]; exact HT.out.2.1)
                              clear o6 g6 b6 m6
                              go_wp2
                              exact ⟨⟨n, _, rfl, by rw [HL.out]; omega, HN.out, HA6.out, HO6.out, HB6.out⟩, by simp [intOf]; omega⟩
                      · have n45 : ((c.toNat : Int) == 45) = false := by
                          have : c.toNat ≠ 45 := fun e => h45 (by rw [← UInt8.toNat_inj, e]; rfl)
                          simp; omega
                        have HAr := Lib.hid (show NotAr l i c from fun h => h45 h.1)
                        clear h45
                        have HSg := Lib.hid (sign_any wr c)
                        rw [HOk.out] at HSg
                        go_wp2_with (go_at_call 45; go_must (refine HSg.out.mono ?_))
                        rintro e w1 ⟨rfl, rfl⟩
                        clear HSg
                        go_wp2
                        go_loopw [7] (fun nv wi => NmRel l i wr nv wi) (fun nv _ => L - (intOf nv).toNat)
                        case atStart => exact ⟨i, rfl, Nat.le_refl _, by rw [HL.out]; omega, by rw [Nat.sub_self, Nat.zero_add], rfl⟩
                        case round =>
                          rename World => wi
                          obtain ⟨n, rfl, hni, hnL, hnn, rfl⟩ := hrel
                          rw [HL.out] at hnL
                          have HNl := Lib.hid hnn
                          clear hnn
                          by_cases hnlt : n < L
                          · have hnltI : (n : Int) < L := by omega
                            have hnLI : (n : Int) ≤ L := by omega
                            have h0n : (0 : Int) ≤ n := by omega
                            obtain ⟨e, he⟩ : ∃ e, l[n]? = some e := ⟨l[n]'(by rw [HL.out]; exact hnlt), List.getElem?_eq_getElem _⟩
                            have hge : ∀ h : n < (tk l).size, (tk l)[n]'h = e := fun h => tkGet he h
                            have HEn := Lib.hid he
                            have HAt := Lib.hid (nlenAt he)
                            have HS2 := Lib.hid (sign_any wr e)
                            clear he
                            cases hoe : okB e with
                            | false =>
                              have HNn := Lib.hid (show nlen (l.drop i) = n - i by rw [HNl.out, HAt.out, hoe, if_neg (fun h => absurd h.1 (by decide))]; rfl)
                              rw [hoe] at HS2
                              clear hoe
                              go_wp2_with (go_at_call 45; go_must (refine HS2.out.mono ?_))
                              rintro e2 w2 ⟨rfl, rfl⟩
                              clear HS2
                              have HT := Lib.hid (t_name HCi.out HOk.out HAr.out hni (by have := HNn.out; omega))
                              have hni2 : i < n := HT.out.2.2
                              have hex : (tk l).extract i n = tk ((l.drop i).take (n - i)) := tkExt l i n
                              have hniI : (i : Int) ≤ n := by omega
                              go_wp2_with (at_builtin; go_must (refine wpList_append_rows_own (w0 := wr) rfl _ _ 35 rfl w.heap.size 9 j0 _ 1 16 Tryd.underlying35 hj hy0 hy1 hy2 rfl (scells [tk ((l.drop i).take (n - i))]) 1 rfl HOwn.out rfl rfl ?_ ?_ ?_ ?_ ?_))
                              · exact scells_one _
                              · unfold maxLen; omega
                              · omega
                              try exact hbsz
                              intro v6 w6 o6 g6 b6 m6
                              have HO6 := Lib.hid (show w6.ownsRow w.heap.size 9 1 v6 (acc ++ [tk ((l.drop i).take (n - i))]).length (scells (acc ++ [tk ((l.drop i).take (n - i))])) by rw [List.length_append, scells_append]; exact o6)
                              have HB6 := Lib.hid (HB.out.trans b6)
                              have HN := Lib.hid (show toks l = (acc ++ [tk ((l.drop i).take (n - i))]) ++ toks (l.drop (n)) by rw [HTo.out, HT.out.1, List.append_assoc]; rfl)
                              have HA6 := Lib.hid (show ∀ s ∈ acc ++ [tk ((l.drop i).take (n - i))], okT1 s = true from fun s hs => by
                                rcases List.mem_append.1 hs with hs | hs
                                · exact HAll.out s hs
                                · rw [List.mem_singleton.1 hs]; exact HT.out.2.1)
                              clear o6 g6 b6 m6
                              go_wp2
                              exact ⟨⟨n, _, rfl, by rw [HL.out]; omega, HN.out, HA6.out, HO6.out, HB6.out⟩, by simp [intOf]; omega⟩
                            | true =>
                              rw [hoe] at HS2
                              have HOe := Lib.hid hoe
                              clear hoe
                              go_wp2_with (go_at_call 45; go_must (refine HS2.out.mono ?_))
                              rintro e2 w2 ⟨rfl, rfl⟩
                              clear HS2
                              by_cases he45 : e = 45
                              · subst he45
                                by_cases hn1 : n + 1 < L
                                · have hn1I : (n : Int) + 1 < L := by omega
                                  have h0n1 : (0 : Int) ≤ n + 1 := by omega
                                  obtain ⟨f, hf⟩ : ∃ f, l[n + 1]? = some f := ⟨l[n + 1]'(by rw [HL.out]; exact hn1), List.getElem?_eq_getElem _⟩
                                  have hgf : ∀ h : n + 1 < (tk l).size, (tk l)[n + 1]'h = f := fun h => tkGet hf h
                                  have HFn := Lib.hid hf
                                  clear hf
                                  by_cases hf62 : f = 62
                                  · subst hf62
                                    have HNn := Lib.hid (show nlen (l.drop i) = n - i by rw [HNl.out, HAt.out, if_neg (fun h => h.2 ⟨rfl, HFn.out⟩)]; rfl)
                                    have HT := Lib.hid (t_name HCi.out HOk.out HAr.out hni (by have := HNn.out; omega))
                                    have hni2 : i < n := HT.out.2.2
                                    have hex : (tk l).extract i n = tk ((l.drop i).take (n - i)) := tkExt l i n
                                    have hniI : (i : Int) ≤ n := by omega
                                    go_wp2_with (at_builtin; go_must (refine wpList_append_rows_own (w0 := wr) rfl _ _ 35 rfl w.heap.size 9 j0 _ 1 16 Tryd.underlying35 hj hy0 hy1 hy2 rfl (scells [tk ((l.drop i).take (n - i))]) 1 rfl HOwn.out rfl rfl ?_ ?_ ?_ ?_ ?_))
                                    · exact scells_one _
                                    · unfold maxLen; omega
                                    · omega
                                    try exact hbsz
                                    intro v6 w6 o6 g6 b6 m6
                                    have HO6 := Lib.hid (show w6.ownsRow w.heap.size 9 1 v6 (acc ++ [tk ((l.drop i).take (n - i))]).length (scells (acc ++ [tk ((l.drop i).take (n - i))])) by rw [List.length_append, scells_append]; exact o6)
                                    have HB6 := Lib.hid (HB.out.trans b6)
                                    have HN := Lib.hid (show toks l = (acc ++ [tk ((l.drop i).take (n - i))]) ++ toks (l.drop (n)) by rw [HTo.out, HT.out.1, List.append_assoc]; rfl)
                                    have HA6 := Lib.hid (show ∀ s ∈ acc ++ [tk ((l.drop i).take (n - i))], okT1 s = true from fun s hs => by
                                      rcases List.mem_append.1 hs with hs | hs
                                      · exact HAll.out s hs
                                      · rw [List.mem_singleton.1 hs]; exact HT.out.2.1)
                                    clear o6 g6 b6 m6
                                    go_wp2
                                    exact ⟨⟨n, _, rfl, by rw [HL.out]; omega, HN.out, HA6.out, HO6.out, HB6.out⟩, by simp [intOf]; omega⟩
                                  · have hfI : ((f.toNat : Int) == 62) = false := by
                                      have : f.toNat ≠ 62 := fun e => hf62 (by rw [← UInt8.toNat_inj, e]; rfl)
                                      simp; omega
                                    have HNx := Lib.hid (show nlen (l.drop i) = (n + 1 - i) + nlen (l.drop (n + 1)) by
                                      have h := HAt.out
                                      rw [if_pos ⟨HOe.out, fun h => hf62 (by have h2 := HFn.out; rw [h.2] at h2; exact (Option.some.inj h2).symm)⟩] at h
                                      rw [HNl.out, h]; omega)
                                    go_wp2
                                    exact ⟨⟨n + 1, by go_num, by omega, by rw [HL.out]; omega, HNx.out, rfl⟩, by simp [intOf]; omega⟩
                                · have hn1I : ¬ (n : Int) + 1 < L := by omega
                                  have HNx := Lib.hid (show nlen (l.drop i) = (n + 1 - i) + nlen (l.drop (n + 1)) by
                                    have h := HAt.out
                                    rw [if_pos ⟨HOe.out, fun h => by rw [List.getElem?_eq_none (by rw [HL.out]; omega)] at h; exact absurd h.2 (by simp)⟩] at h
                                    rw [HNl.out, h]; omega)
                                  go_wp2
                                  exact ⟨⟨n + 1, by go_num, by omega, by rw [HL.out]; omega, HNx.out, rfl⟩, by simp [intOf]; omega⟩
                              · have heI : ((e.toNat : Int) == 45) = false := by
                                  have : e.toNat ≠ 45 := fun h => he45 (by rw [← UInt8.toNat_inj, h]; rfl)
                                  simp; omega
                                have HNx := Lib.hid (show nlen (l.drop i) = (n + 1 - i) + nlen (l.drop (n + 1)) by
                                  have h := HAt.out
                                  rw [if_pos ⟨HOe.out, fun h => he45 h.1⟩] at h
                                  rw [HNl.out, h]; omega)
                                go_wp2
                                exact ⟨⟨n + 1, by go_num, by omega, by rw [HL.out]; omega, HNx.out, rfl⟩, by simp [intOf]; omega⟩
                          · obtain rfl : n = L := by omega
                            have hnltI : ¬ (n : Int) < n := by omega
                            have HNn := Lib.hid (show nlen (l.drop i) = n - i by rw [HNl.out, List.drop_of_length_le (by rw [HL.out]; exact Nat.le_refl _)]; rfl)
                            have HT := Lib.hid (t_name HCi.out HOk.out HAr.out hni (by have := HNn.out; omega))
                            have hni2 : i < n := HT.out.2.2
                            have hex : (tk l).extract i n = tk ((l.drop i).take (n - i)) := tkExt l i n
                            have hniI : (i : Int) ≤ n := by omega
                            go_wp2_with (at_builtin; go_must (refine wpList_append_rows_own (w0 := wr) rfl _ _ 35 rfl w.heap.size 9 j0 _ 1 16 Tryd.underlying35 hj hy0 hy1 hy2 rfl (scells [tk ((l.drop i).take (n - i))]) 1 rfl HOwn.out rfl rfl ?_ ?_ ?_ ?_ ?_))
                            · exact scells_one _
                            · unfold maxLen; omega
                            · omega
                            try exact hbsz
                            intro v6 w6 o6 g6 b6 m6
                            have HO6 := Lib.hid (show w6.ownsRow w.heap.size 9 1 v6 (acc ++ [tk ((l.drop i).take (n - i))]).length (scells (acc ++ [tk ((l.drop i).take (n - i))])) by rw [List.length_append, scells_append]; exact o6)
                            have HB6 := Lib.hid (HB.out.trans b6)
                            have HN := Lib.hid (show toks l = (acc ++ [tk ((l.drop i).take (n - i))]) ++ toks (l.drop (n)) by rw [HTo.out, HT.out.1, List.append_assoc]; rfl)
                            have HA6 := Lib.hid (show ∀ s ∈ acc ++ [tk ((l.drop i).take (n - i))], okT1 s = true from fun s hs => by
                              rcases List.mem_append.1 hs with hs | hs
                              · exact HAll.out s hs
                              · rw [List.mem_singleton.1 hs]; exact HT.out.2.1)
                            clear o6 g6 b6 m6
                            go_wp2
                            exact ⟨⟨n, _, rfl, by rw [HL.out]; omega, HN.out, HA6.out, HO6.out, HB6.out⟩, by simp [intOf]; omega⟩
    · obtain rfl : i = L := by omega
      have hltI : ¬ (i : Int) < i := by omega
      have HEnd := Lib.hid (show toks l = acc by rw [HTo.out, List.drop_of_length_le (by rw [HL.out]; exact Nat.le_refl _), toks_nil, List.append_nil])
      go_wp2
      go_ret2
      exact tk_yes HEnd.out HAll.out HOwn.out HB.out
end Go.Proofs.YtopnldebekhelaaDoor
