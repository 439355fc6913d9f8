/- The document's answers (drop): Check, Entries, First. -/
import Derived.Test.YtekdcjbjjakhcaaDropM
import Derived.Test.YtekdcjbjjakhcaaStrWalks
import Derived.Test.YtekdcjbjjakhcaaRefOuter
import Derived.Test.YtekdcjbjjakhcaaDropEach
namespace Go.Proofs.Ytekdcjbjjakhcaa
open Go Go.RowKit

def GivesErr (w : World) (n : Nat) (e : Ending) (w' : World) : Prop := e = .returned (.int .i64 (n : Int)) ∧ Below w.heap.size w w'

def ChkRel (w : World) (ks : List ByteArray) (i : Value) (wr : World) : Prop := ∃ (k : Nat) (es : List Ent), i = .int .i64 (k : Int) ∧ k ≤ ks.length ∧ decs (ks.take k) = some es ∧ Below w.heap.size w wr

set_option maxRecDepth 100000 in
set_option maxHeartbeats 2000000 in
theorem check18_any (w : World) (a : Option Addr) (n cap : Nat) (ks : List ByteArray) (h : Reads w 1 (.slice a n cap) n (scells ks)) (hsz : ∀ k ∈ ks, k.size ≤ 1000000) :
    Calls Try.prog 21 #[.slice a n cap] w (GivesErr w (errOf ks)) := by
  have hll : ks.length = n := by have := h.1; rw [scells_length] at this; omega
  obtain ⟨_, _, hv, hc1, hc2⟩ := h.le
  cases hv
  unfold maxLen at hc2
  have HR := Lib.hid h
  have HL := Lib.hid hll
  have HS := Lib.hid hsz
  clear h hll hsz
  go_enter Try.func21, Try.ntmps21
  go_wp2
  go_loopw [9] (fun v wr => ChkRel w ks v wr) (fun v _ => n - (intOf v).toNat)
  case atStart => exact ⟨0, [], rfl, Nat.zero_le _, rfl, Below.refl _ _⟩
  case round =>
    obtain ⟨i, es, rfl, hil, hde, hb⟩ := hrel
    rw [HL.out] at hil
    have hbs := hb.size
    have HB := Lib.hid hb
    have HD := Lib.hid hde
    clear hb hde
    by_cases hin : i < n
    · have hinI : (i : Int) < n := by omega
      obtain ⟨b, off, x, rfl, hx, hbx, hcx⟩ := (HR.out.below' HB.out).scell i hin
      have hxs := HS.out x (List.mem_of_getElem? hx)
      have hev := entryVal_dec x
      have hou := refouter_any wr x (by omega)
      have HOu := Lib.hid hou
      cases hdx : dec x with
      | none =>
        rw [hdx] at hev
        dsimp only at hev
        have her := errOf_none (decs_none hx hdx)
        have HE := Lib.hid hev
        have HEr := Lib.hid her
        clear hev hou hx hdx her
        go_wp2_with (go_at_call 44; go_must (refine HOu.out.mono ?_))
        rintro e w2 ⟨rfl, b2⟩
        rw [HE.out]
        have hb2 := HB.out.trans (b2.mono hbs)
        have HB2 := Lib.hid ((hb2.alloc hb2.size (.cells #[.string ⟨#[]⟩, .int .u64 0, .bool false] 48)))
        clear b2 hb2 HE HOu
        go_wp2
        go_ret
        rw [HEr.out]
        exact ⟨rfl, HB2.out⟩
      | some y =>
        rw [hdx] at hev
        dsimp only at hev
        have hsn : decs (ks.take (i + 1)) = some (es ++ [y]) := by
          rw [List.take_add_one, hx]
          exact decs_snoc HD.out hdx
        obtain ⟨key, rev, del⟩ := y
        dsimp only at hev
        have HE := Lib.hid hev
        have HSn := Lib.hid hsn
        clear hev hou hx hdx hsn
        go_wp2_with (go_at_call 44; go_must (refine HOu.out.mono ?_))
        rintro e w2 ⟨rfl, b2⟩
        rw [HE.out]
        have hb2 := HB.out.trans (b2.mono hbs)
        have HB2 := Lib.hid (hb2.alloc hb2.size (.cells #[.string key, .int .u64 (rev : Int), .bool del] 48))
        clear b2 hb2 HE HOu HB
        go_wp2
        exact ⟨⟨i + 1, _, by go_num, by rw [HL.out]; omega, HSn.out, HB2.out⟩, by simp [intOf]; omega⟩
    · have hinI : ¬ ((i : Int) < n) := by omega
      have hdk : decs ks = some es := by
        have := HD.out
        rw [List.take_of_length_le (by rw [HL.out]; omega)] at this
        exact this
      have her := errOf_some hdk
      have HEr := Lib.hid her
      have hri := rises17_any wr a n cap ks (HR.out.below' HB.out)
      have HRi := Lib.hid hri
      clear hdk her hri HD
      go_wp2_with (go_at_call 45; go_must (refine HRi.out.mono ?_))
      rintro e w2 ⟨rfl, b2⟩
      have HB2 := Lib.hid (HB.out.trans (b2.mono hbs))
      clear b2 HRi
      by_cases hr : rises ks
      · rw [decide_eq_true hr]
        rw [if_pos hr] at HEr
        go_wp2
        go_ret
        rw [HEr.out]
        exact ⟨rfl, HB2.out⟩
      · rw [decide_eq_false hr]
        rw [if_neg hr] at HEr
        go_wp2
        go_ret
        rw [HEr.out]
        exact ⟨rfl, HB2.out⟩

def EGives (w : World) (es : List Ent) (e : Ending) (w' : World) : Prop :=
  ∃ a cap, e = .returned (.slice a es.length cap) ∧ Reads w' 3 (.slice a es.length cap) es.length (ecells es) ∧ Below w.heap.size w w'

def EntsRel (w : World) (es : List Ent) (o i : Value) (wr : World) : Prop :=
  ∃ k : Nat, i = .int .i64 (k : Int) ∧ k ≤ es.length ∧ wr.ownsRow w.heap.size 48 3 o k (ecells (es.take k)) ∧ Below w.heap.size w wr

set_option maxRecDepth 100000 in
set_option maxHeartbeats 2000000 in
theorem entries18_any (w : World) (a : Option Addr) (n cap : Nat) (ks : List ByteArray) (es : List Ent) (h : Reads w 1 (.slice a n cap) n (scells ks)) (hd : decs ks = some es) (hn : n ≤ 1000) (hsz : ∀ k ∈ ks, k.size ≤ 1000000) :
    Calls Try.prog 42 #[.slice a n cap] w (EGives w es) := by
  obtain ⟨j0, hj, hy0, hy1, hy2⟩ := info_parts info48
  have hll : ks.length = n := by have := h.1; rw [scells_length] at this; omega
  obtain ⟨hel, hat⟩ := decs_some hd
  rw [hll] at hel
  obtain ⟨_, _, hv, hc1, hc2⟩ := h.le
  cases hv
  unfold maxLen at hc2
  have HR := Lib.hid h
  have HEl := Lib.hid hel
  have HAt := Lib.hid hat
  have HS := Lib.hid hsz
  clear h hd hel hat hsz hll
  go_enter Try.func42, Try.ntmps42
  go_wp2
  go_loopw [3, 10] (fun o v wr => EntsRel w es o v wr) (fun _ v _ => n - (intOf v).toNat)
  case atStart => exact ⟨0, rfl, Nat.zero_le _, owns_nil _ _ _ _, Below.refl _ _⟩
  case round =>
    obtain ⟨i, rfl, hil, how, hb⟩ := hrel
    rw [HEl.out] at hil
    have hbs := hb.size
    obtain ⟨ea, ecap, rfl, he1, he2⟩ := (ownsRow.reads how).le
    unfold maxLen at he2
    have HB := Lib.hid hb
    have HO := Lib.hid how
    clear hb how
    by_cases hin : i < n
    · have hinI : (i : Int) < n := by omega
      obtain ⟨b, off, x, rfl, hx, hbx, hcx⟩ := (HR.out.below' HB.out).scell i hin
      have hxs := HS.out x (List.mem_of_getElem? hx)
      obtain ⟨y, hy, hdx⟩ := HAt.out i x hx
      have hev := entryVal_dec x
      rw [hdx] at hev
      have hou := refouter_any wr x (by omega)
      have HOu := Lib.hid hou
      have htk : es.take (i + 1) = es.take i ++ [y] := by rw [List.take_add_one, hy]; rfl
      obtain ⟨key, rev, del⟩ := y
      dsimp only at hev
      have HE := Lib.hid hev
      have HT := Lib.hid htk
      clear hev hou hx hdx hy htk
      go_wp2_with (go_at_call 44; go_must (refine HOu.out.mono ?_))
      rintro e w2 ⟨rfl, b2⟩
      rw [HE.out]
      have hb2 := HB.out.trans (b2.mono hbs)
      have ho2 := owns_below HO.out b2
      have hb3 := hb2.alloc hb2.size (.cells #[.string key, .int .u64 (rev : Int), .bool del] 48)
      have ho3 := ho2.alloc (.cells #[.string key, .int .u64 (rev : Int), .bool del] 48)
      have hN3 : (w2.alloc (.cells #[.string key, .int .u64 (rev : Int), .bool del] 48)).heap.size = w2.heap.size + 1 := by simp
      have hs3 := hb3.size
      have HB3 := Lib.hid hb3
      have HO3 := Lib.hid ho3
      have HN3 := Lib.hid hN3
      clear b2 hb2 ho2 hb3 ho3 hN3 HE HOu HB HO
      go_wp2_with (at_builtin; go_must (refine wpList_append_rows_at (w0 := w2.alloc (.cells #[.string key, .int .u64 (rev : Int), .bool del] 48)) rfl _ _ 22 rfl w.heap.size 48 j0 _ 3 32 Try.underlying22 hj hy0 hy1 hy2 rfl (ecell ⟨key, rev, del⟩) 1 rfl HN3.out HO3.out rfl rfl ?_ ?_ ?_ hs3 ?_))
      · intro u hu
        simp [ecell] at hu
        rcases hu with rfl | rfl | rfl <;> rfl
      · unfold maxLen; omega
      · omega
      intro v6 w6 o6 g6 b6 _
      rw [← ecells_snoc, ← HT.out] at o6
      have HO6 := Lib.hid o6
      have HB6 := Lib.hid (HB3.out.trans b6)
      clear o6 g6 b6 HB3 HO3 hs3
      go_wp2
      exact ⟨⟨i + 1, by go_num, by rw [HEl.out]; omega, HO6.out, HB6.out⟩, by simp [intOf]; omega⟩
    · have hinI : ¬ ((i : Int) < n) := by omega
      obtain rfl : i = n := by omega
      have htk : es.take i = es := List.take_of_length_le (by rw [HEl.out]; exact Nat.le_refl _)
      have how := ownsRow.reads HO.out
      rw [htk] at how
      have HW := Lib.hid how
      clear how htk HO
      go_wp2
      go_ret
      unfold EGives
      rw [HEl.out]
      exact ⟨ea, ecap, rfl, HW.out, HB.out⟩

/-- Is the i-th the first one of its Key? -/
def firstE (es : List Ent) (i : Nat) (y : Ent) (r : Nat) : Bool := decide (y.rev ≤ r) && (es.take i).all fun z => !(decide (z.key = y.key) && decide (z.rev ≤ r))

def FirstRel (w : World) (es : List Ent) (m r : Nat) (y : Ent) (i : Value) (wr : World) : Prop :=
  ∃ k : Nat, i = .int .i64 (k : Int) ∧ k ≤ m ∧ ((es.take k).all fun z => !(decide (z.key = y.key) && decide (z.rev ≤ r))) = true ∧ Below w.heap.size w wr

set_option maxRecDepth 100000 in
set_option maxHeartbeats 4000000 in
theorem first18_any (w : World) (a : Option Addr) (n cap m r : Nat) (es : List Ent) (y : Ent) (h : Reads w 3 (.slice a n cap) n (ecells es)) (hl : es.length = n) (hm : es[m]? = some y) :
    Calls Try.prog 43 #[.slice a n cap, .int .i64 (m : Int), .int .u64 (r : Int)] w (GivesBool w (firstE es m y r)) := by
  have hmn : m < n := by rw [← hl]; exact (List.getElem?_eq_some_iff.1 hm).1
  have hmI : (m : Int) < n := by omega
  obtain ⟨_, _, hv, hc1, hc2⟩ := h.le
  cases hv
  unfold maxLen at hc2
  obtain ⟨g, off, rfl, hgl, y0, y1, y2⟩ := ent_cells h hm
  have hfe : firstE es m y r = (decide (y.rev ≤ r) && (es.take m).all fun z => !(decide (z.key = y.key) && decide (z.rev ≤ r))) := rfl
  obtain ⟨ykey, yrev, ydel⟩ := y
  dsimp only at y0 y1 y2 hfe
  have HF := Lib.hid hfe
  have HR := Lib.hid h
  have HL := Lib.hid hl
  have HM := Lib.hid hm
  clear h hl hm hfe
  by_cases hyr : r < yrev
  · have hI : (r : Int) < yrev := by omega
    go_enter Try.func43, Try.ntmps43
    go_wp2
    go_ret
    rw [HF.out, decide_eq_false (by omega)]
    exact ⟨rfl, Below.refl _ _⟩
  · have hI : ¬ ((r : Int) < yrev) := by omega
    rw [decide_eq_true (show yrev ≤ r by omega), Bool.true_and] at HF
    have hcapI : (m : Int) ≤ cap := by omega
    clear y0 y2
    go_enter Try.func43, Try.ntmps43
    go_wp2
    clear y1
    go_loopw [20] (fun v wr => FirstRel w es m r ⟨ykey, yrev, ydel⟩ v wr) (fun v _ => m - (intOf v).toNat)
    case atStart => exact ⟨0, rfl, Nat.zero_le _, rfl, Below.refl _ _⟩
    case round =>
      obtain ⟨i, rfl, hil, hal, hb⟩ := hrel
      have HB := Lib.hid hb
      have HA := Lib.hid hal
      clear hb hal
      by_cases him : i < m
      · have himI : (i : Int) < m := by omega
        obtain ⟨z, hz⟩ : ∃ z, es[i]? = some z := ⟨es[i]'(by rw [HL.out]; omega), List.getElem?_eq_getElem _⟩
        obtain ⟨_, _, hv, _, c0, c1, c2⟩ := ent_cells (HR.out.below' HB.out) hz
        cases hv
        obtain ⟨_, _, hv, _, y0, _, _⟩ := ent_cells (HR.out.below' HB.out) HM.out
        cases hv
        have hgr : g < wr.heap.size := Nat.lt_of_lt_of_le hgl HB.out.size
        have htk : es.take (i + 1) = es.take i ++ [z] := by rw [List.take_add_one, hz]; rfl
        have hbad : (decide (z.key = ykey) && decide (z.rev ≤ r)) = true → ((es.take m).all fun z => !(decide (z.key = ykey) && decide (z.rev ≤ r))) = false := fun hb => by
          rw [List.all_eq_false]
          refine ⟨z, List.mem_of_getElem? (i := i) (by rw [List.getElem?_take, if_pos him]; exact hz), ?_⟩
          rw [hb]
          decide
        obtain ⟨key, rev, del⟩ := z
        dsimp only at c0 c1 c2 hbad y0
        have hal := (Below.refl _ wr).alloc (Nat.le_refl _) (.cells #[.string key, .int .u64 (rev : Int), .bool del] 48)
        have HAl := Lib.hid (HB.out.trans (hal.mono HB.out.size))
        have HT := Lib.hid htk
        have HBad := Lib.hid hbad
        clear hz htk hbad hal
        have e1 := str_eq key ykey
        by_cases hkk : key = ykey
        · rw [decide_eq_true hkk] at e1
          by_cases hrr : rev ≤ r
          · have hrI : (rev : Int) ≤ r := by omega
            have hno := HBad.out (by rw [decide_eq_true hkk, decide_eq_true hrr]; rfl)
            rw [hno] at HF
            clear hno HBad HT hkk
            go_wp2
            go_quiet (fail)
            go_wp2
            go_ret
            rw [HF.out]
            exact ⟨rfl, below_quiet HAl.out _⟩
          · have hrI : ¬ ((rev : Int) ≤ r) := by omega
            have hyes : ((es.take (i + 1)).all fun z => !(decide (z.key = ykey) && decide (z.rev ≤ r))) = true := by
              rw [HT.out, List.all_append, HA.out]
              simp [hrr]
            have HY := Lib.hid hyes
            clear HBad HT hyes hkk
            go_wp2
            go_quiet (fail)
            go_wp2
            exact ⟨⟨i + 1, by go_num, by omega, HY.out, below_quiet HAl.out _⟩, by simp [intOf]; omega⟩
        · rw [decide_eq_false hkk] at e1
          have hyes : ((es.take (i + 1)).all fun z => !(decide (z.key = ykey) && decide (z.rev ≤ r))) = true := by
            rw [HT.out, List.all_append, HA.out]
            simp [hkk]
          have HY := Lib.hid hyes
          clear HBad HT hyes hkk
          go_wp2
          go_quiet (fail)
          go_wp2
          exact ⟨⟨i + 1, by go_num, by omega, HY.out, below_quiet HAl.out _⟩, by simp [intOf]; omega⟩
      · have himI : ¬ ((i : Int) < m) := by omega
        obtain rfl : i = m := by omega
        rw [HA.out] at HF
        go_wp2
        go_ret
        rw [HF.out]
        exact ⟨rfl, HB.out⟩
end Go.Proofs.Ytekdcjbjjakhcaa
