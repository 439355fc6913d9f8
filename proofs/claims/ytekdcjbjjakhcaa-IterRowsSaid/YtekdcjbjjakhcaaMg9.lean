/- What the proof stands on, part 9. -/
import Derived.Test.YtekdcjbjjakhcaaMg8
/- The document's answers (drop): Check, Entries, First. -/
namespace Go.Proofs.Ytekdcjbjjakhcaa
open Go Go.RowKit

def GivesErr (w : World) (n : Nat) (e : Ending) (w' : World) : Prop := e = .returned (.int .i64 (n : Int)) ∧ Below w.heap.size w w'

def ChkRel (w : World) (ks : List ByteArray) (i : Value) (wr : World) : Prop := ∃ (k : Nat) (es : List Ent), i = .int .i64 (k : Int) ∧ k ≤ ks.length ∧ decs (ks.take k) = some es ∧ Below w.heap.size w wr

set_option maxRecDepth 100000 in
set_option maxHeartbeats 2000000 in
theorem check18_any (w : World) (a : Option Addr) (n cap : Nat) (ks : List ByteArray) (h : Reads w 1 (.slice a n cap) n (scells ks)) (hsz : ∀ k ∈ ks, k.size ≤ 1000000) :
    Calls Try.prog 21 #[.slice a n cap] w (GivesErr w (errOf ks)) := by
  have hll : ks.length = n := by have := h.1; rw [scells_length] at this; omega
  obtain ⟨_, _, hv, hc1, hc2⟩ := h.le
  cases hv
  unfold maxLen at hc2
  have HR := Lib.hid h
  have HL := Lib.hid hll
  have HS := Lib.hid hsz
  clear h hll hsz
  go_enter Try.func21, Try.ntmps21
  go_wp2
  go_loopw [9] (fun v wr => ChkRel w ks v wr) (fun v _ => n - (intOf v).toNat)
  case atStart => exact ⟨0, [], rfl, Nat.zero_le _, rfl, Below.refl _ _⟩
  case round =>
    obtain ⟨i, es, rfl, hil, hde, hb⟩ := hrel
    rw [HL.out] at hil
    have hbs := hb.size
    have HB := Lib.hid hb
    have HD := Lib.hid hde
    clear hb hde
    by_cases hin : i < n
    · have hinI : (i : Int) < n := by omega
      obtain ⟨b, off, x, rfl, hx, hbx, hcx⟩ := (HR.out.below' HB.out).scell i hin
      have hxs := HS.out x (List.mem_of_getElem? hx)
      have hev := entryVal_dec x
      have hou := refouter_any wr x (by omega)
      have HOu := Lib.hid hou
      cases hdx : dec x with
      | none =>
        rw [hdx] at hev
        dsimp only at hev
        have her := errOf_none (decs_none hx hdx)
        have HE := Lib.hid hev
        have HEr := Lib.hid her
        clear hev hou hx hdx her
        go_wp2_with (go_at_call 44; go_must (refine HOu.out.mono ?_))
        rintro e w2 ⟨rfl, b2⟩
        rw [HE.out]
        have hb2 := HB.out.trans (b2.mono hbs)
        have HB2 := Lib.hid ((hb2.alloc hb2.size (.cells #[.string ⟨#[]⟩, .int .u64 0, .bool false] 48)))
        clear b2 hb2 HE HOu
        go_wp2
        go_ret
        rw [HEr.out]
        exact ⟨rfl, HB2.out⟩
      | some y =>
        rw [hdx] at hev
        dsimp only at hev
        have hsn : decs (ks.take (i + 1)) = some (es ++ [y]) := by
          rw [List.take_add_one, hx]
          exact decs_snoc HD.out hdx
        obtain ⟨key, rev, del⟩ := y
        dsimp only at hev
        have HE := Lib.hid hev
        have HSn := Lib.hid hsn
        clear hev hou hx hdx hsn
        go_wp2_with (go_at_call 44; go_must (refine HOu.out.mono ?_))
        rintro e w2 ⟨rfl, b2⟩
        rw [HE.out]
        have hb2 := HB.out.trans (b2.mono hbs)
        have HB2 := Lib.hid (hb2.alloc hb2.size (.cells #[.string key, .int .u64 (rev : Int), .bool del] 48))
        clear b2 hb2 HE HOu HB
        go_wp2
        exact ⟨⟨i + 1, _, by go_num, by rw [HL.out]; omega, HSn.out, HB2.out⟩, by simp [intOf]; omega⟩
    · have hinI : ¬ ((i : Int) < n) := by omega
      have hdk : decs ks = some es := by
        have := HD.out
        rw [List.take_of_length_le (by rw [HL.out]; omega)] at this
        exact this
      have her := errOf_some hdk
      have HEr := Lib.hid her
      have hri := rises17_any wr a n cap ks (HR.out.below' HB.out)
      have HRi := Lib.hid hri
      clear hdk her hri HD
      go_wp2_with (go_at_call 45; go_must (refine HRi.out.mono ?_))
      rintro e w2 ⟨rfl, b2⟩
      have HB2 := Lib.hid (HB.out.trans (b2.mono hbs))
      clear b2 HRi
      by_cases hr : rises ks
      · rw [decide_eq_true hr]
        rw [if_pos hr] at HEr
        go_wp2
        go_ret
        rw [HEr.out]
        exact ⟨rfl, HB2.out⟩
      · rw [decide_eq_false hr]
        rw [if_neg hr] at HEr
        go_wp2
        go_ret
        rw [HEr.out]
        exact ⟨rfl, HB2.out⟩

def EGives (w : World) (es : List Ent) (e : Ending) (w' : World) : Prop :=
  ∃ a cap, e = .returned (.slice a es.length cap) ∧ Reads w' 3 (.slice a es.length cap) es.length (ecells es) ∧ Below w.heap.size w w'

def EntsRel (w : World) (es : List Ent) (o i : Value) (wr : World) : Prop :=
  ∃ k : Nat, i = .int .i64 (k : Int) ∧ k ≤ es.length ∧ wr.ownsRow w.heap.size 48 3 o k (ecells (es.take k)) ∧ Below w.heap.size w wr

set_option maxRecDepth 100000 in
set_option maxHeartbeats 2000000 in
theorem entries18_any (w : World) (a : Option Addr) (n cap : Nat) (ks : List ByteArray) (es : List Ent) (h : Reads w 1 (.slice a n cap) n (scells ks)) (hd : decs ks = some es) (hn : n ≤ 1000) (hsz : ∀ k ∈ ks, k.size ≤ 1000000) :
    Calls Try.prog 42 #[.slice a n cap] w (EGives w es) := by
  obtain ⟨j0, hj, hy0, hy1, hy2⟩ := info_parts info48
  have hll : ks.length = n := by have := h.1; rw [scells_length] at this; omega
  obtain ⟨hel, hat⟩ := decs_some hd
  rw [hll] at hel
  obtain ⟨_, _, hv, hc1, hc2⟩ := h.le
  cases hv
  unfold maxLen at hc2
  have HR := Lib.hid h
  have HEl := Lib.hid hel
  have HAt := Lib.hid hat
  have HS := Lib.hid hsz
  clear h hd hel hat hsz hll
  go_enter Try.func42, Try.ntmps42
  go_wp2
  go_loopw [3, 10] (fun o v wr => EntsRel w es o v wr) (fun _ v _ => n - (intOf v).toNat)
  case atStart => exact ⟨0, rfl, Nat.zero_le _, owns_nil _ _ _ _, Below.refl _ _⟩
  case round =>
    obtain ⟨i, rfl, hil, how, hb⟩ := hrel
    rw [HEl.out] at hil
    have hbs := hb.size
    obtain ⟨ea, ecap, rfl, he1, he2⟩ := (ownsRow.reads how).le
    unfold maxLen at he2
    have HB := Lib.hid hb
    have HO := Lib.hid how
    clear hb how
    by_cases hin : i < n
    · have hinI : (i : Int) < n := by omega
      obtain ⟨b, off, x, rfl, hx, hbx, hcx⟩ := (HR.out.below' HB.out).scell i hin
      have hxs := HS.out x (List.mem_of_getElem? hx)
      obtain ⟨y, hy, hdx⟩ := HAt.out i x hx
      have hev := entryVal_dec x
      rw [hdx] at hev
      have hou := refouter_any wr x (by omega)
      have HOu := Lib.hid hou
      have htk : es.take (i + 1) = es.take i ++ [y] := by rw [List.take_add_one, hy]; rfl
      obtain ⟨key, rev, del⟩ := y
      dsimp only at hev
      have HE := Lib.hid hev
      have HT := Lib.hid htk
      clear hev hou hx hdx hy htk
      go_wp2_with (go_at_call 44; go_must (refine HOu.out.mono ?_))
      rintro e w2 ⟨rfl, b2⟩
      rw [HE.out]
      have hb2 := HB.out.trans (b2.mono hbs)
      have ho2 := owns_below HO.out b2
      have hb3 := hb2.alloc hb2.size (.cells #[.string key, .int .u64 (rev : Int), .bool del] 48)
      have ho3 := ho2.alloc (.cells #[.string key, .int .u64 (rev : Int), .bool del] 48)
      have hN3 : (w2.alloc (.cells #[.string key, .int .u64 (rev : Int), .bool del] 48)).heap.size = w2.heap.size + 1 := by simp
      have hs3 := hb3.size
      have HB3 := Lib.hid hb3
      have HO3 := Lib.hid ho3
      have HN3 := Lib.hid hN3
      clear b2 hb2 ho2 hb3 ho3 hN3 HE HOu HB HO
      go_wp2_with (at_builtin; go_must (refine wpList_append_rows_at (w0 := w2.alloc (.cells #[.string key, .int .u64 (rev : Int), .bool del] 48)) rfl _ _ 22 rfl w.heap.size 48 j0 _ 3 32 Try.underlying22 hj hy0 hy1 hy2 rfl (ecell ⟨key, rev, del⟩) 1 rfl HN3.out HO3.out rfl rfl ?_ ?_ ?_ hs3 ?_))
      · intro u hu
        simp [ecell] at hu
        rcases hu with rfl | rfl | rfl <;> rfl
      · unfold maxLen; omega
      · omega
      intro v6 w6 o6 g6 b6 _
      rw [← ecells_snoc, ← HT.out] at o6
      have HO6 := Lib.hid o6
      have HB6 := Lib.hid (HB3.out.trans b6)
      clear o6 g6 b6 HB3 HO3 hs3
      go_wp2
      exact ⟨⟨i + 1, by go_num, by rw [HEl.out]; omega, HO6.out, HB6.out⟩, by simp [intOf]; omega⟩
    · have hinI : ¬ ((i : Int) < n) := by omega
      obtain rfl : i = n := by omega
      have htk : es.take i = es := List.take_of_length_le (by rw [HEl.out]; exact Nat.le_refl _)
      have how := ownsRow.reads HO.out
      rw [htk] at how
      have HW := Lib.hid how
      clear how htk HO
      go_wp2
      go_ret
      unfold EGives
      rw [HEl.out]
      exact ⟨ea, ecap, rfl, HW.out, HB.out⟩

/-- Is the i-th the first one of its Key? -/
def firstE (es : List Ent) (i : Nat) (y : Ent) (r : Nat) : Bool := decide (y.rev ≤ r) && (es.take i).all fun z => !(decide (z.key = y.key) && decide (z.rev ≤ r))

def FirstRel (w : World) (es : List Ent) (m r : Nat) (y : Ent) (i : Value) (wr : World) : Prop :=
  ∃ k : Nat, i = .int .i64 (k : Int) ∧ k ≤ m ∧ ((es.take k).all fun z => !(decide (z.key = y.key) && decide (z.rev ≤ r))) = true ∧ Below w.heap.size w wr

set_option maxRecDepth 100000 in
set_option maxHeartbeats 4000000 in
theorem first18_any (w : World) (a : Option Addr) (n cap m r : Nat) (es : List Ent) (y : Ent) (h : Reads w 3 (.slice a n cap) n (ecells es)) (hl : es.length = n) (hm : es[m]? = some y) :
    Calls Try.prog 43 #[.slice a n cap, .int .i64 (m : Int), .int .u64 (r : Int)] w (GivesBool w (firstE es m y r)) := by
  have hmn : m < n := by rw [← hl]; exact (List.getElem?_eq_some_iff.1 hm).1
  have hmI : (m : Int) < n := by omega
  obtain ⟨_, _, hv, hc1, hc2⟩ := h.le
  cases hv
  unfold maxLen at hc2
  obtain ⟨g, off, rfl, hgl, y0, y1, y2⟩ := ent_cells h hm
  have hfe : firstE es m y r = (decide (y.rev ≤ r) && (es.take m).all fun z => !(decide (z.key = y.key) && decide (z.rev ≤ r))) := rfl
  obtain ⟨ykey, yrev, ydel⟩ := y
  dsimp only at y0 y1 y2 hfe
  have HF := Lib.hid hfe
  have HR := Lib.hid h
  have HL := Lib.hid hl
  have HM := Lib.hid hm
  clear h hl hm hfe
  by_cases hyr : r < yrev
  · have hI : (r : Int) < yrev := by omega
    go_enter Try.func43, Try.ntmps43
    go_wp2
    go_ret
    rw [HF.out, decide_eq_false (by omega)]
    exact ⟨rfl, Below.refl _ _⟩
  · have hI : ¬ ((r : Int) < yrev) := by omega
    rw [decide_eq_true (show yrev ≤ r by omega), Bool.true_and] at HF
    have hcapI : (m : Int) ≤ cap := by omega
    clear y0 y2
    go_enter Try.func43, Try.ntmps43
    go_wp2
    clear y1
    go_loopw [20] (fun v wr => FirstRel w es m r ⟨ykey, yrev, ydel⟩ v wr) (fun v _ => m - (intOf v).toNat)
    case atStart => exact ⟨0, rfl, Nat.zero_le _, rfl, Below.refl _ _⟩
    case round =>
      obtain ⟨i, rfl, hil, hal, hb⟩ := hrel
      have HB := Lib.hid hb
      have HA := Lib.hid hal
      clear hb hal
      by_cases him : i < m
      · have himI : (i : Int) < m := by omega
        obtain ⟨z, hz⟩ : ∃ z, es[i]? = some z := ⟨es[i]'(by rw [HL.out]; omega), List.getElem?_eq_getElem _⟩
        obtain ⟨_, _, hv, _, c0, c1, c2⟩ := ent_cells (HR.out.below' HB.out) hz
        cases hv
        obtain ⟨_, _, hv, _, y0, _, _⟩ := ent_cells (HR.out.below' HB.out) HM.out
        cases hv
        have hgr : g < wr.heap.size := Nat.lt_of_lt_of_le hgl HB.out.size
        have htk : es.take (i + 1) = es.take i ++ [z] := by rw [List.take_add_one, hz]; rfl
        have hbad : (decide (z.key = ykey) && decide (z.rev ≤ r)) = true → ((es.take m).all fun z => !(decide (z.key = ykey) && decide (z.rev ≤ r))) = false := fun hb => by
          rw [List.all_eq_false]
          refine ⟨z, List.mem_of_getElem? (i := i) (by rw [List.getElem?_take, if_pos him]; exact hz), ?_⟩
          rw [hb]
          decide
        obtain ⟨key, rev, del⟩ := z
        dsimp only at c0 c1 c2 hbad y0
        have hal := (Below.refl _ wr).alloc (Nat.le_refl _) (.cells #[.string key, .int .u64 (rev : Int), .bool del] 48)
        have HAl := Lib.hid (HB.out.trans (hal.mono HB.out.size))
        have HT := Lib.hid htk
        have HBad := Lib.hid hbad
        clear hz htk hbad hal
        have e1 := str_eq key ykey
        by_cases hkk : key = ykey
        · rw [decide_eq_true hkk] at e1
          by_cases hrr : rev ≤ r
          · have hrI : (rev : Int) ≤ r := by omega
            have hno := HBad.out (by rw [decide_eq_true hkk, decide_eq_true hrr]; rfl)
            rw [hno] at HF
            clear hno HBad HT hkk
            go_wp2
            go_quiet (fail)
            go_wp2
            go_ret
            rw [HF.out]
            exact ⟨rfl, below_quiet HAl.out _⟩
          · have hrI : ¬ ((rev : Int) ≤ r) := by omega
            have hyes : ((es.take (i + 1)).all fun z => !(decide (z.key = ykey) && decide (z.rev ≤ r))) = true := by
              rw [HT.out, List.all_append, HA.out]
              simp [hrr]
            have HY := Lib.hid hyes
            clear HBad HT hyes hkk
            go_wp2
            go_quiet (fail)
            go_wp2
            exact ⟨⟨i + 1, by go_num, by omega, HY.out, below_quiet HAl.out _⟩, by simp [intOf]; omega⟩
        · rw [decide_eq_false hkk] at e1
          have hyes : ((es.take (i + 1)).all fun z => !(decide (z.key = ykey) && decide (z.rev ≤ r))) = true := by
            rw [HT.out, List.all_append, HA.out]
            simp [hkk]
          have HY := Lib.hid hyes
          clear HBad HT hyes hkk
          go_wp2
          go_quiet (fail)
          go_wp2
          exact ⟨⟨i + 1, by go_num, by omega, HY.out, below_quiet HAl.out _⟩, by simp [intOf]; omega⟩
      · have himI : ¬ ((i : Int) < m) := by omega
        obtain rfl : i = m := by omega
        rw [HA.out] at HF
        go_wp2
        go_ret
        rw [HF.out]
        exact ⟨rfl, HB.out⟩
end Go.Proofs.Ytekdcjbjjakhcaa

/- sentryref19.Get. -/
namespace Go.Proofs.Ytekdcjbjjakhcaa
open Go Go.RowKit

def hitE (key : ByteArray) (r : Nat) (x : Ent) : Bool := decide (x.key = key) && decide (x.rev ≤ r)
def getE (es : List Ent) (key : ByteArray) (r : Nat) : Option Ent := es.find? (hitE key r)

theorem getE_eq (xs : List KE) (key : ByteArray) (r : Nat) : getE (xs.map (·.2)) key r = getK xs key r := by
  unfold getE getK
  rw [List.find?_map]
  rfl

theorem getE_hit {es : List Ent} {key : ByteArray} {r k : Nat} {x : Ent} (h : es[k]? = some x) (hn : getE (es.take k) key r = none) (hx : hitE key r x = true) : getE es key r = some x := by
  have e : es = es.take k ++ x :: es.drop (k + 1) := by
    have h2 := List.getElem?_eq_some_iff.1 h
    obtain ⟨h3, h4⟩ := h2
    rw [← h4, List.getElem_cons_drop, List.take_append_drop]
  unfold getE at hn ⊢
  rw [e, List.find?_append, hn, List.find?_cons, hx]
  rfl

theorem getE_miss {es : List Ent} {key : ByteArray} {r k : Nat} {x : Ent} (h : es[k]? = some x) (hn : getE (es.take k) key r = none) (hx : hitE key r x = false) : getE (es.take (k + 1)) key r = none := by
  unfold getE at hn ⊢
  rw [List.take_add_one, h, List.find?_append, hn]
  simp [hx]

def refGetV : Option Ent → Value
  | none => .tuple #[.agg #[.string ⟨#[]⟩, .int .u64 0, .bool false], .bool false]
  | some x => .tuple #[.agg #[.string x.key, .int .u64 (x.rev : Int), .bool x.del], .bool true]

def RefGetPost (w : World) (o : Option Ent) (e : Ending) (w' : World) : Prop := e = .returned (refGetV o) ∧ Below w.heap.size w w'

def RefGetRel (w w2 : World) (es : List Ent) (key : ByteArray) (r : Nat) (iv : Value) (wr : World) : Prop :=
  ∃ k : Nat, iv = .int .i64 (k : Int) ∧ k ≤ es.length ∧ getE (es.take k) key r = none ∧ Below w2.heap.size w2 wr ∧ wr.heap[w.heap.size]? = some (.cells #[.string ⟨#[]⟩, .int .u64 0, .bool false] 48 (0, 0))

set_option maxRecDepth 100000 in
set_option maxHeartbeats 4000000 in
theorem refget19_any (w : World) (v : Value) (n : Nat) (ls : List (List ByteArray)) (xs : List KE) (key : ByteArray) (r : Nat) (h : SRows w v n ls) (ht : total ls ≤ 1000) (hok : RowsOk xs) (hall : allK ls = xs.map (·.1)) (hsz : ∀ k ∈ allK ls, k.size ≤ 1000000) :
    Calls Try.prog 27 #[v, .string key, .int .u64 (r : Int)] w (RefGetPost w (getK xs key r)) := by
  have hxl : (allK ls).length ≤ 1000 := Nat.le_trans (allK_ok ls).2.2 ht
  have HS := Lib.hid h
  have HSz := Lib.hid hsz
  have hd : decs (allK ls) = some (xs.map (·.2)) := by rw [hall]; exact hok.told.1
  have HD := Lib.hid hd
  have HA := Lib.hid fun w' hw' => refall_any w' v n ls (h.below hw') (by omega)
  rw [← getE_eq]
  generalize xs.map (·.2) = es at *
  generalize allK ls = K at *
  clear hsz hd hall hok
  have hb0 : Below w.heap.size w (w.alloc (.cells #[.string ⟨#[]⟩, .int .u64 0, .bool false] 48)) := (Below.refl _ _).alloc (Nat.le_refl _) _
  have hg0 := heap_alloc_new w (.cells #[.string ⟨#[]⟩, .int .u64 0, .bool false] 48)
  have HB0 := Lib.hid hb0
  have HG0 := Lib.hid hg0
  have HZ0 := Lib.hid (show w.heap.size < (w.alloc (.cells #[.string ⟨#[]⟩, .int .u64 0, .bool false] 48)).heap.size by simp)
  clear h hb0 hg0
  go_enter Try.func27, Try.ntmps27
  go_wp2_with (go_at_call 48; go_must (refine (HA.out _ HB0.out).mono ?_))
  rintro e w1 ⟨a1, cap1, rfl, hr1, b1⟩
  have hB1 := HB0.out.trans (b1.mono HB0.out.size)
  have hG1 := (b1.block w.heap.size HZ0.out).trans HG0.out
  have hen := entries18_any w1 a1 K.length cap1 K es hr1 HD.out hxl HSz.out
  have HEn := Lib.hid hen
  have HB1 := Lib.hid hB1
  have HG1 := Lib.hid hG1
  clear hr1 b1 hB1 hG1 hen HB0 HG0 HZ0
  go_wp2_with (go_at_call 42; go_must (refine HEn.out.mono ?_))
  rintro e w2 ⟨a2, cap2, rfl, hr2, b2⟩
  have hB2 := HB1.out.trans (b2.mono HB1.out.size)
  have hG2 := (b2.block w.heap.size (Array.getElem?_eq_some_iff.1 HG1.out).1).trans HG1.out
  have HR2 := Lib.hid hr2
  have HB2 := Lib.hid hB2
  have HG2 := Lib.hid hG2
  obtain ⟨_, _, hv2, hc1, hc2⟩ := hr2.le
  cases hv2
  unfold maxLen at hc2
  clear hr2 b2 hB2 hG2 HB1 HG1 HEn
  go_wp2
  go_loopw [14] (fun iv wr => RefGetRel w w2 es key r iv wr) (fun iv _ => es.length - (intOf iv).toNat)
  case atStart => exact ⟨0, rfl, Nat.zero_le _, rfl, Below.refl _ _, HG2.out⟩
  case round =>
    obtain ⟨k, rfl, hk, hnone, hb, hg⟩ := hrel
    have hbs := hb.size
    have hbw := HB2.out.trans (hb.mono HB2.out.size)
    have hbws := hbw.size
    have q0 := Lib.cell_of_heap hg 0
    have q1 := Lib.cell_of_heap hg 1
    have q2 := Lib.cell_of_heap hg 2
    have qf := Lib.frozen_of_heap hg
    simp at q0 q1 q2
    have hpl : w.heap.size < wr.heap.size := (Array.getElem?_eq_some_iff.1 hg).1
    have HN := Lib.hid hnone
    have HB := Lib.hid hb
    have HG := Lib.hid hg
    have HBw := Lib.hid hbw
    clear hnone hb hg hbw
    by_cases hlt : k < es.length
    · have hkI : (k : Int) < es.length := by omega
      obtain ⟨y, hy⟩ : ∃ y, es[k]? = some y := ⟨es[k]'hlt, List.getElem?_eq_getElem _⟩
      obtain ⟨g2, off2, rfl, hgl2, c0, c1, c2⟩ := ent_cells (HR2.out.below' HB.out) hy
      have hhit := fun h => getE_hit hy HN.out h
      have hmiss := fun h => getE_miss hy HN.out h
      have hh : hitE key r y = (decide (y.key = key) && decide (y.rev ≤ r)) := rfl
      have hq := str_eq y.key key
      obtain ⟨yk, yr, yd⟩ := y
      dsimp only at c0 c1 c2 hh hq
      have HHi := Lib.hid hhit
      have HMi := Lib.hid hmiss
      have HG3 := Lib.hid ((heap_alloc_old wr (.cells #[.string yk, .int .u64 (yr : Int), .bool yd] 48) hpl).trans HG.out)
      have HB3 := Lib.hid (HB.out.alloc hbs (.cells #[.string yk, .int .u64 (yr : Int), .bool yd] 48))
      clear hhit hmiss hy
      by_cases hkk : yk = key
      · by_cases hrr : yr ≤ r
        · have hrI : (yr : Int) ≤ (r : Int) := by omega
          rw [decide_eq_true hkk] at hq
          rw [decide_eq_true hkk, decide_eq_true hrr, Bool.and_true] at hh
          have HE := Lib.hid (HHi.out hh)
          clear hh
          subst hkk
          go_wp2
          refine bodyPost_ret (v := refGetV (some ⟨yk, yr, yd⟩)) (by simp [results, Try.results27, go_sem, refGetV, q0, q1, q2, hpl]) rfl ?_
          rw [HE.out]
          exact ⟨rfl, (((HBw.out.setCell (p := ⟨w.heap.size, 0, none⟩) (Nat.le_refl _) _).setCell (p := ⟨w.heap.size, 1, none⟩) (Nat.le_refl _) _).setCell (p := ⟨w.heap.size, 2, none⟩) (Nat.le_refl _) _).alloc (by simp; omega) _⟩
        · have hrI : ¬ (yr : Int) ≤ (r : Int) := by omega
          rw [decide_eq_true hkk] at hq
          rw [decide_eq_true hkk, decide_eq_false hrr, Bool.and_false] at hh
          have HE := Lib.hid (HMi.out hh)
          clear hh
          subst hkk
          go_wp2
          exact ⟨⟨k + 1, by go_num, by omega, HE.out, HB3.out, HG3.out⟩, by simp [intOf]; omega⟩
      · rw [decide_eq_false hkk] at hq
        rw [decide_eq_false hkk, Bool.false_and] at hh
        have HE := Lib.hid (HMi.out hh)
        clear hh hkk
        go_wp2
        exact ⟨⟨k + 1, by go_num, by omega, HE.out, HB3.out, HG3.out⟩, by simp [intOf]; omega⟩
    · have hkI : ¬ (k : Int) < es.length := by omega
      have htk : es.take k = es := List.take_of_length_le (by omega)
      rw [htk] at HN
      go_wp2
      refine bodyPost_ret (v := refGetV none) (by simp [results, Try.results27, go_sem, refGetV, q0, q1, q2]) rfl ?_
      rw [HN.out]
      exact ⟨rfl, (((HBw.out.setCell (p := ⟨w.heap.size, 0, none⟩) (Nat.le_refl _) _).setCell (p := ⟨w.heap.size, 1, none⟩) (Nat.le_refl _) _).setCell (p := ⟨w.heap.size, 2, none⟩) (Nat.le_refl _) _)⟩
end Go.Proofs.Ytekdcjbjjakhcaa

/- iter.Scan: the walk. -/
namespace Go.Proofs.Ytekdcjbjjakhcaa
open Go Go.RowKit

theorem wants_spell (upTo k : ByteArray) : (!upTo.toList.isEmpty && !bl k upTo) = !wants upTo k := by
  have h := str_eq upTo ⟨#[]⟩
  have e : (upTo.toList == (⟨#[]⟩ : ByteArray).toList) = upTo.toList.isEmpty := by
    rw [show (⟨#[]⟩ : ByteArray).toList = [] by rw [Go.ByteArray.toList_eq]]
    cases upTo.toList <;> rfl
  rw [e] at h
  unfold wants
  rw [h]
  cases decide (upTo = ⟨#[]⟩) <;> cases bl k upTo <;> rfl

theorem own_snoc {w : World} {B : Nat} {v : Value} {out : List ByteArray} {k : ByteArray} (h : w.ownsRow B 9 1 v (out.length + 1) (scells out ++ [.string k])) : w.ownsRow B 9 1 v (out ++ [k]).length (scells (out ++ [k])) := by
  have e : scells (out ++ [k]) = scells out ++ [.string k] := by simp [scells]
  rw [e, List.length_append]
  exact h

set_option maxRecDepth 100000 in
set_option maxHeartbeats 8000000 in
theorem iscan_any (w : World) (v : Value) (n : Nat) (srcs : List (Option (List ByteArray))) (xs : List KE) (fr upTo : ByteArray) (r : Nat) (most : Int) (h : Srcs w v n srcs) (ht : Told srcs xs) (hn : n ≤ 1000) (hk : fr.size ≤ 1000000) (hr : r < 18446744073709551616) (hx : xs.length ≤ 100000) (hm1 : -9223372036854775808 ≤ most) (hm2 : most < 9223372036854775808) :
    Calls Try.prog 28 #[v, .string fr, .string upTo, .int .u64 (r : Int), .int .i64 most] w (ScanPost w (fin upTo most r [] (xsuf xs (newestB fr 18446744073709551615)))) := by
  obtain ⟨i0, hi, hz0, hz1, hz2⟩ := info_parts info9
  have HS := Lib.hid h
  have HT := Lib.hid ht
  obtain ⟨a, cap, rfl, hc1, hc2, hll, hx0⟩ := h
  clear hx0 hll
  unfold maxLen at hc2
  have HNw := Lib.hid (inewest_any w fr 18446744073709551615 hk (by decide))
  have HMid0 := Lib.hid (show Mid xs upTo most r (fin upTo most r [] (xsuf xs (newestB fr 18446744073709551615))) (newestB fr 18446744073709551615) [] from ⟨bnd_newest ht.rows fr, rfl, by simpa using (show (xsuf xs (newestB fr 18446744073709551615)).length ≤ xs.length from (List.dropWhile_sublist _).length_le), fun _ => by simp; omega⟩)
  generalize fin upTo most r [] (xsuf xs (newestB fr 18446744073709551615)) = ks at *
  clear ht
  go_enter Try.func28, Try.ntmps28
  go_wp2_with (go_at_call 47; go_must (refine HNw.out.mono ?_))
  rintro e w0 ⟨rfl, b0⟩
  have HB0 := Lib.hid b0
  clear b0 HNw
  generalize newestB fr 18446744073709551615 = at0 at *
  go_wp2
  go_loopw [12, 13] (fun kv av wr => ScanRel w xs upTo most r ks kv av wr) (fun _ av _ => (xsuf xs (strOf av)).length)
  case atStart => exact ⟨at0, [], rfl, HMid0.out, owns_nil _ _ _ _, HB0.out⟩
  case round =>
    obtain ⟨at', out, rfl, hmid, hown, hbw⟩ := hrel
    obtain ⟨ka, kcap, rfl, hk1, hk2⟩ := (ownsRow.reads hown).le
    have hf := ifirst_any wr (.slice a n cap) n srcs at' (HS.out.below hbw) HT.out.ok hn
    rw [HT.out.first at'] at hf
    have hlen := hmid.len
    have HF := Lib.hid hf
    have HMid := Lib.hid hmid
    have HO := Lib.hid hown
    have HB := Lib.hid hbw
    clear hf hmid hown hbw
    unfold maxLen at hk2
    obtain ⟨D, hD⟩ : ∃ D, xsuf xs at' = D := ⟨_, rfl⟩
    rw [hD] at HF
    have HD := Lib.hid hD
    clear hD
    go_wp2_with (go_at_call 46; go_must (refine HF.out.mono ?_))
    rintro e w1 ⟨rfl, b1⟩
    have hB1 := HB.out.trans (b1.mono HB.out.size)
    have hO1 := owns_below HO.out b1
    have HB1 := Lib.hid hB1
    have HO1 := Lib.hid hO1
    clear b1 hB1 hO1 HF
    cases D with
    | nil =>
      have HE := Lib.hid (HMid.out.nil HD.out)
      have hba : Below w.heap.size w (w1.alloc (.cells #[.string ⟨#[]⟩, .int .u64 0, .bool false] 48)) := HB1.out.alloc HB1.out.size _
      have hoa := HO1.out.alloc (.cells #[.string ⟨#[]⟩, .int .u64 0, .bool false] 48)
      have HBa := Lib.hid hba
      have HOa := Lib.hid hoa
      clear hba hoa
      simp only [List.head?_nil, Option.map_none]
      unfold foundV
      go_wp2
      refine bodyPost_ret (v := .tuple #[.slice ka out.length kcap, .int .i64 0]) (by simp [results, Try.results28, go_sem]) rfl ?_
      exact ⟨_, rfl, by rw [← HE.out]; exact HOa.out, HBa.out⟩
    | cons x t =>
      obtain ⟨xk, k, rv, dl⟩ := x
      simp only [List.head?_cons, Option.map_some]
      have hxm := (suf_mem HD.out).1
      have hks := HT.out.size hxm
      have hrv := (HT.out.rows.one _ hxm).2
      dsimp only at hks hrv
      clear hxm
      have hbs := bl_spell k upTo
      have hq := wants_spell upTo k
      have hba : Below w.heap.size w (w1.alloc (.cells #[.string k, .int .u64 (rv : Int), .bool dl] 48)) := HB1.out.alloc HB1.out.size _
      have hoa := HO1.out.alloc (.cells #[.string k, .int .u64 (rv : Int), .bool dl] 48)
      have hga := heap_alloc_new w1 (.cells #[.string k, .int .u64 (rv : Int), .bool dl] 48)
      have HBa := Lib.hid hba
      have HOa := Lib.hid hoa
      have HGa := Lib.hid hga
      have HSz := Lib.hid (show w1.heap.size < (w1.alloc (.cells #[.string k, .int .u64 (rv : Int), .bool dl] 48)).heap.size by simp)
      clear hba hoa hga
      cases hw : wants upTo k with
      | false =>
        have HE := Lib.hid (HMid.out.stop HT.out.rows HD.out hw)
        rw [hw, Bool.not_false] at hq
        have hne : ¬ upTo.toList = [] := fun e => by rw [e] at hq; cases hq
        unfold foundV
        go_wp2
        refine bodyPost_ret (v := .tuple #[.slice ka out.length kcap, .int .i64 0]) (by simp [results, Try.results28, go_sem]) rfl ?_
        exact ⟨_, rfl, by rw [← HE.out]; exact HOa.out, HBa.out⟩
      | true =>
        have HW := Lib.hid hw
        rw [hw, Bool.not_true] at hq
        clear hw
        have HPa := Lib.hid fun w' => past_any w' k hks
        unfold foundV
        go_wp2_with (go_at_call 49; go_must (refine (HPa.out _).mono ?_))
        all_goals
          rintro e w2 ⟨rfl, b2⟩
          have hB2 := HBa.out.trans (b2.mono HBa.out.size)
          have hO2 := owns_below HOa.out b2
          have hG2 := (b2.block w1.heap.size HSz.out).trans HGa.out
          have c0 := Lib.cell_of_heap hG2 0
          have c1 := Lib.cell_of_heap hG2 1
          have c2 := Lib.cell_of_heap hG2 2
          have f0 := Lib.frozen_of_heap hG2
          simp at c0 c1 c2
          have HB2 := Lib.hid hB2
          have HO2 := Lib.hid hO2
          have HG2 := Lib.hid hG2
          have HN1 := Lib.hid HB1.out.size
          clear b2 hB2 hO2 hG2 HBa HOa HGa HSz
          by_cases hlt : r < rv
          · have hltI : (r : Int) < (rv : Int) := by omega
            have hge := iget_any w2 (.slice a n cap) n srcs k r (HS.out.below HB2.out) HT.out.ok hn hks hr
            rw [HT.out.get k r hr] at hge
            obtain ⟨o, ho⟩ : ∃ o, getK xs k r = o := ⟨_, rfl⟩
            rw [ho] at hge
            have HGe := Lib.hid hge
            have HGo := Lib.hid ho
            clear hge ho
            go_wp2_with (go_at_call 25; go_must (refine HGe.out.mono ?_))
            rintro e w3 ⟨rfl, b3⟩
            have hB3 := HB2.out.trans (b3.mono HB2.out.size)
            have hO3 := owns_below HO2.out b3
            have hG3 := (b3.block w1.heap.size (Array.getElem?_eq_some_iff.1 HG2.out).1).trans HG2.out
            have hne3 : (Value.slice ka out.length kcap).ownBlock ≠ some w1.heap.size := fun e => by
              obtain ⟨_, cs, hcs⟩ := owns_block HO1.out e
              have := (Array.getElem?_eq_some_iff.1 hcs).1
              omega
            have d0 := Lib.cell_of_heap hG3 0
            have d1 := Lib.cell_of_heap hG3 1
            have d2 := Lib.cell_of_heap hG3 2
            have g0 := Lib.frozen_of_heap hG3
            simp at d0 d1 d2
            have HB3 := Lib.hid hB3
            have HO3 := Lib.hid hO3
            have HG3 := Lib.hid hG3
            clear b3 hB3 hO3 hG3 HGe c0 c1 c2 f0
            cases o with
            | none =>
              have HSk := Lib.hid (HMid.out.skip HT.out.rows HD.out (show tellOne k (getK xs k r) = [] by rw [HGo.out]; rfl))
              have HO4 := Lib.hid (ownsRow_setCell_other (ownsRow_setCell_other (ownsRow_setCell_other HO3.out (a := ⟨w1.heap.size, 0, none⟩) hne3 (.string ⟨#[]⟩)) (a := ⟨w1.heap.size, 1, none⟩) hne3 (.int .u64 0)) (a := ⟨w1.heap.size, 2, none⟩) hne3 (.bool false))
              have HB4 := Lib.hid (((HB3.out.setCell (p := ⟨w1.heap.size, 0, none⟩) HN1.out (.string ⟨#[]⟩)).setCell (p := ⟨w1.heap.size, 1, none⟩) HN1.out (.int .u64 0)).setCell (p := ⟨w1.heap.size, 2, none⟩) HN1.out (.bool false))
              unfold foundV
              go_wp2
              exact ⟨⟨_, _, rfl, HSk.out.1, HO4.out, HB4.out⟩, by simpa [strOf] using HSk.out.2⟩
            | some y =>
              obtain ⟨yk, yr, yd⟩ := y
              have hyk := getK_key HGo.out
              dsimp only at hyk
              subst hyk
              have HO4 := Lib.hid (ownsRow_setCell_other (ownsRow_setCell_other (ownsRow_setCell_other HO3.out (a := ⟨w1.heap.size, 0, none⟩) hne3 (.string yk)) (a := ⟨w1.heap.size, 1, none⟩) hne3 (.int .u64 (yr : Int))) (a := ⟨w1.heap.size, 2, none⟩) hne3 (.bool yd))
              have HB4 := Lib.hid (((HB3.out.setCell (p := ⟨w1.heap.size, 0, none⟩) HN1.out (.string yk)).setCell (p := ⟨w1.heap.size, 1, none⟩) HN1.out (.int .u64 (yr : Int))).setCell (p := ⟨w1.heap.size, 2, none⟩) HN1.out (.bool yd))
              have HN4 := Lib.hid (show (((w3.setCell ⟨w1.heap.size, 0, none⟩ (.string yk)).setCell ⟨w1.heap.size, 1, none⟩ (.int .u64 (yr : Int))).setCell ⟨w1.heap.size, 2, none⟩ (.bool yd)).heap.size = w3.heap.size by simp)
              unfold foundV
              cases yd with
              | true =>
                have HSk := Lib.hid (HMid.out.skip HT.out.rows HD.out (show tellOne yk (getK xs yk r) = [] by rw [HGo.out]; rfl))
                go_wp2
                exact ⟨⟨_, _, rfl, HSk.out.1, HO4.out, HB4.out⟩, by simpa [strOf] using HSk.out.2⟩
              | false =>
                have HMo := Lib.hid (HMid.out.more HT.out.rows HD.out (show tellOne yk (getK xs yk r) = [yk] by rw [HGo.out]; rfl) HW.out)
                go_wp2_with (at_builtin; go_must (refine wpList_append_rows_at (w0 := _) rfl _ _ 26 rfl w.heap.size 9 i0 _ 1 16 Try.underlying26 hi hz0 hz1 hz2 rfl [.string yk] 1 rfl HN4.out HO4.out rfl rfl ?_ ?_ ?_ HB4.out.size ?_))
                · intro u hu
                  simp at hu
                  subst hu
                  rfl
                · unfold maxLen; omega
                · omega
                intro v6 w6 o6 g6 b6 _
                obtain ⟨na, ncap, rfl, hn1, hn2⟩ := (ownsRow.reads o6).le
                have HO6 := Lib.hid (own_snoc o6)
                have HB6 := Lib.hid (HB4.out.trans b6)
                clear o6 g6 b6 hn1 hn2
                by_cases hmo : (out.length : Int) + 1 = most
                · have HE := Lib.hid (by have := HMo.out; rw [if_pos hmo] at this; exact this)
                  go_wp2
                  refine bodyPost_ret (v := .tuple #[.slice na (out.length + 1) ncap, .int .i64 0]) (by simp [results, Try.results28, go_sem]) rfl ?_
                  exact ⟨_, rfl, by rw [← HE.out]; exact HO6.out, HB6.out⟩
                · have HE := Lib.hid (by have := HMo.out; rw [if_neg hmo] at this; exact this)
                  go_wp2
                  exact ⟨⟨_, _, rfl, HE.out.1, HO6.out, HB6.out⟩, by simpa [strOf] using HE.out.2⟩
          · have hltI : ¬ (r : Int) < (rv : Int) := by omega
            have hgk : getK xs k r = some ⟨k, rv, dl⟩ := by
              have := suf_get HMid.out.bnd HD.out r
              dsimp only at this
              rw [this, getK_cons, if_pos ⟨rfl, by show rv ≤ r; omega⟩]
            cases dl with
            | true =>
              have HSk := Lib.hid (HMid.out.skip HT.out.rows HD.out (show tellOne k (getK xs k r) = [] by rw [hgk]; rfl))
              go_wp2
              exact ⟨⟨_, _, rfl, HSk.out.1, HO2.out, HB2.out⟩, by simpa [strOf] using HSk.out.2⟩
            | false =>
              have HMo := Lib.hid (HMid.out.more HT.out.rows HD.out (show tellOne k (getK xs k r) = [k] by rw [hgk]; rfl) HW.out)
              go_wp2_with (at_builtin; go_must (refine wpList_append_rows_at (w0 := w2) rfl _ _ 26 rfl w.heap.size 9 i0 _ 1 16 Try.underlying26 hi hz0 hz1 hz2 rfl [.string k] 1 rfl rfl HO2.out rfl rfl ?_ ?_ ?_ HB2.out.size ?_))
              · intro u hu
                simp at hu
                subst hu
                rfl
              · unfold maxLen; omega
              · omega
              intro v6 w6 o6 g6 b6 _
              obtain ⟨na, ncap, rfl, hn1, hn2⟩ := (ownsRow.reads o6).le
              have HO6 := Lib.hid (own_snoc o6)
              have HB6 := Lib.hid (HB2.out.trans b6)
              clear o6 g6 b6 hn1 hn2
              by_cases hmo : (out.length : Int) + 1 = most
              · have HE := Lib.hid (by have := HMo.out; rw [if_pos hmo] at this; exact this)
                go_wp2
                refine bodyPost_ret (v := .tuple #[.slice na (out.length + 1) ncap, .int .i64 0]) (by simp [results, Try.results28, go_sem]) rfl ?_
                exact ⟨_, rfl, by rw [← HE.out]; exact HO6.out, HB6.out⟩
              · have HE := Lib.hid (by have := HMo.out; rw [if_neg hmo] at this; exact this)
                go_wp2
                exact ⟨⟨_, _, rfl, HE.out.1, HO6.out, HB6.out⟩, by simpa [strOf] using HE.out.2⟩
end Go.Proofs.Ytekdcjbjjakhcaa

/- drop.Newest. -/
namespace Go.Proofs.Ytekdcjbjjakhcaa
open Go Go.RowKit

def newestOf (l : List Ent) : Nat := l.foldl (fun n x => max n x.rev) 0

theorem newestOf_snoc (l : List Ent) (x : Ent) : newestOf (l ++ [x]) = max (newestOf l) x.rev := by simp [newestOf]

def newOut (ks : List ByteArray) : Nat := match decs ks with
  | none => 0
  | some es => if rises ks then newestOf es else 0

def NB (N : Nat) (xs : List KE) (w : World) : Prop := w.heap[N]? = some (Obj.cells #[.int .u64 (newestOf (xs.map (·.2)) : Int)] 23 (0, 0)) ∧ N + 1 ≤ w.heap.size

theorem NB.below {N : Nat} {xs : List KE} {w w' : World} (h : NB N xs w) (hb : Below w.heap.size w w') : NB N xs w' := ⟨(hb.block _ h.2).trans h.1, Nat.le_trans h.2 hb.size⟩

def NPost (N : Nat) (xs : List KE) (w : World) (e : Ending) (w' : World) : Prop := e = .returned (.tuple #[]) ∧ NB N xs w' ∧ FrameE N w w'

theorem enter41 (args : Array Value) (w : World) : (callFunc 41 args).run Try.prog w = .ok (.enter 41 args) w := by kernel_rfl

set_option maxRecDepth 100000 in
set_option maxHeartbeats 2000000 in
theorem new41 (N : Nat) (xs : List KE) (w : World) (x : KE) (h : NB N xs w) :
    Calls Try.prog 41 #[.string x.1, entV x.2, .pointer (some ⟨N, 0, none⟩)] w (NPost N (xs ++ [x]) w) := by
  obtain ⟨k, key, rev, del⟩ := x
  obtain ⟨h1, h2⟩ := h
  have hne : newestOf ((xs ++ [(k, (⟨key, rev, del⟩ : Ent))]).map (·.2)) = max (newestOf (xs.map (·.2))) rev := by
    rw [List.map_append]
    exact newestOf_snoc _ _
  generalize newestOf (xs.map (·.2)) = m at *
  have l0 := (Array.getElem?_eq_some_iff.1 h1).1
  have q0 := Lib.cell_of_heap h1 0
  have z0 := Lib.frozen_of_heap h1
  simp at q0
  have hst := heap_setCell_same w N 0 _ _ (.int .u64 ((max m rev : Nat) : Int)) h1
  have hfr : FrameE N w ((w.setCell ⟨N, 0, none⟩ (.int .u64 ((max m rev : Nat) : Int))).alloc (.cells #[.string key, .int .u64 (rev : Int), .bool del] 48)) :=
    (FrameE.trans (⟨(Below.refl N w).setCell (p := ⟨N, 0, none⟩) (Nat.le_refl _) _, fun g cs fz hc => (heap_setCell_other w ⟨N, 0, none⟩ g _ (fun e => by
      have e : g = N := e
      subst e
      rw [h1] at hc
      injection hc with hc
      injection hc with _ h _
      exact absurd h (by decide))).trans hc⟩ : FrameE N w (w.setCell ⟨N, 0, none⟩ (.int .u64 ((max m rev : Nat) : Int))))
      (FrameE.of_below ((Below.refl _ _).alloc (Nat.le_refl _) _) (by simp; omega)))
  have hnb : NB N (xs ++ [(k, (⟨key, rev, del⟩ : Ent))]) ((w.setCell ⟨N, 0, none⟩ (.int .u64 ((max m rev : Nat) : Int))).alloc (.cells #[.string key, .int .u64 (rev : Int), .bool del] 48)) := by
    refine ⟨?_, by simp; omega⟩
    rw [hne, heap_alloc_old _ _ (by simpa using l0), hst]
    simp
  have HF := Lib.hid hfr
  have HN := Lib.hid hnb
  clear h1 h2 hne hst hfr hnb
  unfold entV
  dsimp only
  have e1 : ((max m rev : Nat) : Int) = max (m : Int) (rev : Int) := by omega
  rw [e1] at HF HN
  clear e1
  go_enter Try.func41, Try.ntmps41
  go_wp2
  exact bodyPost_end (by simp [results, Try.results41]) rfl ⟨rfl, HN.out, HF.out⟩

def NewPost (w : World) (ks : List ByteArray) (e : Ending) (w' : World) : Prop := e = .returned (.tuple #[.int .u64 (newOut ks : Int), .int .i64 (errOf ks : Int)]) ∧ Below w.heap.size w w'

set_option maxRecDepth 100000 in
set_option maxHeartbeats 4000000 in
theorem newest_any (w : World) (a : Option Addr) (n cap : Nat) (ks : List ByteArray) (hr : Reads w 1 (.slice a n cap) n (scells ks)) (hsz : ∀ k ∈ ks, k.size ≤ 1000000) (hn : n ≤ 1000) :
    Calls Try.prog 16 #[.slice a n cap] w (NewPost w ks) := by
  have hmf : ∀ (fn : Fn) (first cap : Array Value) (w : World), (Instr.makeFunc fn first cap).run Try.prog w = .ok (.func fn first cap) w := fun _ _ _ _ => rfl
  have HR := Lib.hid hr
  have HS := Lib.hid hsz
  clear hr hsz
  go_enter Try.func16, Try.ntmps16
  go_wp2_with (go_at_call 40; fail)
  have h1 := heap_alloc_new w (.cells #[.int .u64 0] 23)
  have s1 : (w.alloc (.cells #[.int .u64 0] 23)).heap.size = w.heap.size + 1 := by simp
  have hb1 : Below w.heap.size w (w.alloc (.cells #[.int .u64 0] 23)) := (Below.refl _ _).alloc (Nat.le_refl _) _
  generalize hN : w.heap.size = N at *
  generalize w.alloc (.cells #[.int .u64 0] 23) = w3 at *
  have hnb : NB N [] w3 := ⟨h1, by omega⟩
  have hvis : ∀ es, decs ks = some es → rises ks → Visits N (ks.zip es) 41 #[.pointer (some ⟨N, 0, none⟩)] (NB N) := fun es hd _ =>
    ⟨enter41, fun i x w' hx hJ _ => by
      have hk := new41 N _ w' x hJ
      have e : (ks.zip es).take (i + 1) = (ks.zip es).take i ++ [x] := by rw [List.take_add_one, hx]; rfl
      rw [e]
      exact hk.mono fun e w'' h => h⟩
  have hea := each_any N w3 a n cap ks (fun w' hb => by subst hN; exact HR.out.below' (hb1.trans hb)) HS.out hn (by omega) _ _ _ (fun w' hb => hnb.below hb) hvis
  have HEa := Lib.hid hea
  have HB3 := Lib.hid hb1
  clear hea hvis hnb hb1 h1 s1
  refine HEa.out.mono ?_
  rintro e w6 ⟨rfl, hb6, hd6⟩
  have hcell : w6.heap[N]? = some (Obj.cells #[.int .u64 (newOut ks : Int)] 23 (0, 0)) := by
    unfold newOut
    rcases hd6 with ⟨es, hd, hr, h1, _⟩ | ⟨hn, h1, _⟩
    · rw [hd]
      show _ = some (Obj.cells #[.int .u64 ((if rises ks then newestOf es else 0 : Nat) : Int)] 23 (0, 0))
      rw [if_pos hr, h1]
      have hl := (decs_some hd).1
      rw [List.map_snd_zip (by omega)]
    · have h1 : w6.heap[N]? = some (Obj.cells #[.int .u64 0] 23 (0, 0)) := h1
      rcases hn with hn | hn
      · rw [hn]; exact h1
      · cases decs ks with
        | none => exact h1
        | some es =>
          show _ = some (Obj.cells #[.int .u64 ((if rises ks then newestOf es else 0 : Nat) : Int)] 23 (0, 0))
          rw [if_neg hn]
          exact h1
  have HB6 := Lib.hid (HB3.out.trans hb6)
  have q1 := Lib.cell_of_heap hcell 0
  simp at q1
  have hf0 : NewPost w ks (.returned (.tuple #[.int .u64 (newOut ks : Int), .int .i64 (errOf ks : Int)])) w6 := ⟨rfl, by rw [hN]; exact HB6.out⟩
  have HFin := Lib.hid hf0
  clear hb6 hd6 hcell hf0
  generalize newOut ks = m at *
  generalize errOf ks = er at *
  go_wp2
  go_ret2
  exact HFin.out
end Go.Proofs.Ytekdcjbjjakhcaa
