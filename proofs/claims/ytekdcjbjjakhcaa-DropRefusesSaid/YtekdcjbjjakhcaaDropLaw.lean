/- Entries' inner keys, in order; whether they are few. -/
import Derived.Test.YtekdcjbjjakhcaaDropM
import Derived.Test.YtekdcjbjjakhcaaRef11Put
import Derived.Test.YtekdcjbjjakhcaaCodecRefInner
namespace Go.Proofs.Ytekdcjbjjakhcaa
open Go Go.RowKit

def low18 (x : Ent) : Bool := decide (x.key.size ≤ 100)
def few18 (l : List Ent) : Bool := l.all low18 && decide (l.length ≤ 100)

theorem few18_bad {l : List Ent} {k : Nat} {x : Ent} (h : l[k]? = some x) (hx : low18 x = false) : few18 l = false := by
  unfold few18
  have : l.all low18 = false := by
    rw [List.all_eq_false]
    exact ⟨x, List.mem_of_getElem? h, by rw [hx]; decide⟩
  rw [this]
  rfl

theorem few18_good {l : List Ent} {k : Nat} {x : Ent} (h : l[k]? = some x) (hx : low18 x = true) (ha : (l.take k).all low18 = true) : (l.take (k + 1)).all low18 = true := by
  rw [List.take_add_one, List.all_append, ha, h]
  simp [hx]

def Few18Rel (w : World) (l : List Ent) (i : Value) (wr : World) : Prop := ∃ k : Nat, i = .int .i64 (k : Int) ∧ k ≤ l.length ∧ (l.take k).all low18 = true ∧ Below w.heap.size w wr

set_option maxRecDepth 100000 in
set_option maxHeartbeats 2000000 in
theorem few18_any (w : World) (a : Option Addr) (n cap : Nat) (l : List Ent) (h : Reads w 3 (.slice a n cap) n (ecells l)) (hl : l.length = n) (hks : ∀ x ∈ l, x.key.size ≤ maxLen) :
    Calls Try.prog 12 #[.slice a n cap] w (GivesBool w (few18 l)) := by
  obtain ⟨_, _, hv, hc1, hc2⟩ := h.le
  cases hv
  unfold maxLen at hc2
  have HR := Lib.hid h
  have HL := Lib.hid hl
  have HK := Lib.hid hks
  clear h hl hks
  go_enter Try.func12, Try.ntmps12
  go_wp2
  go_loopw [7] (fun v wr => Few18Rel w l v wr) (fun v _ => n - (intOf v).toNat)
  case atStart => exact ⟨0, rfl, Nat.zero_le _, rfl, Below.refl _ _⟩
  case round =>
    obtain ⟨i, rfl, hil, hal, hb⟩ := hrel
    rw [HL.out] at hil
    have HB := Lib.hid hb
    have HA := Lib.hid hal
    clear hb hal
    by_cases hin : i < n
    · have hinI : (i : Int) < n := by omega
      obtain ⟨y, hy⟩ : ∃ y, l[i]? = some y := ⟨l[i]'(by rw [HL.out]; exact hin), List.getElem?_eq_getElem _⟩
      obtain ⟨g2, off2, rfl, hgl2, c0, c1, c2⟩ := ent_cells (HR.out.below' HB.out) hy
      have hkm := HK.out y (List.mem_of_getElem? hy)
      unfold maxLen at hkm
      have hgood := few18_good hy
      have hbad := few18_bad hy
      have hlow : low18 y = decide (y.key.size ≤ 100) := rfl
      obtain ⟨key, rev, del⟩ := y
      dsimp only at c0 c1 c2 hkm hlow
      have HG := Lib.hid hgood
      have HBd := Lib.hid hbad
      clear hgood hbad hy
      have HB2 := Lib.hid (HB.out.trans (((Below.refl _ wr).alloc (Nat.le_refl _) (.cells #[.string key, .int .u64 (rev : Int), .bool del] 48)).mono HB.out.size))
      by_cases hk : key.size ≤ 100
      · have hkI : ¬ ((100 : Int) < key.size) := by omega
        rw [decide_eq_true hk] at hlow
        have HLo := Lib.hid hlow
        clear hlow
        go_wp2
        exact ⟨⟨i + 1, by go_num, by rw [HL.out]; omega, HG.out HLo.out HA.out, HB2.out⟩, by simp [intOf]; omega⟩
      · have hkI : (100 : Int) < key.size := by omega
        rw [decide_eq_false hk] at hlow
        have HLo := Lib.hid hlow
        clear hlow
        go_wp2
        go_ret
        rw [HBd.out HLo.out]
        exact ⟨rfl, HB2.out⟩
    · have hinI : ¬ ((i : Int) < n) := by omega
      have hf : few18 l = decide (n ≤ 100) := by
        have h1 := HA.out
        rw [List.take_of_length_le (by rw [HL.out]; omega)] at h1
        unfold few18
        rw [h1, HL.out]
        rfl
      have HF := Lib.hid hf
      clear hf
      by_cases hn : n ≤ 100
      · have hnI : (n : Int) ≤ 100 := by omega
        go_wp2
        go_ret
        rw [HF.out, decide_eq_true hn]
        exact ⟨by simp, HB.out⟩
      · have hnI : ¬ ((n : Int) ≤ 100) := by omega
        go_wp2
        go_ret
        rw [HF.out, decide_eq_false hn]
        exact ⟨by simp, HB.out⟩

def SGives (w : World) (l : List ByteArray) (e : Ending) (w' : World) : Prop :=
  ∃ a cap, e = .returned (.slice a l.length cap) ∧ Reads w' 1 (.slice a l.length cap) l.length (scells l) ∧ Below w.heap.size w w'

def Rows18Rel (w : World) (es : List Ent) (o i : Value) (wr : World) : Prop :=
  ∃ (k : Nat) (a : Option Addr) (cap : Nat), i = .int .i64 (k : Int) ∧ k ≤ es.length ∧ o = .slice a (rowsL (es.take k)).length cap ∧ Reads wr 1 (.slice a (rowsL (es.take k)).length cap) (rowsL (es.take k)).length (scells (rowsL (es.take k))) ∧ Below w.heap.size w wr

theorem sreads_nil (w : World) : Reads w 1 (.slice none 0 0) 0 (scells []) := ⟨rfl, none, 0, rfl, Nat.le_refl _, Nat.zero_le _, fun j u hj => by simp [scells] at hj⟩

theorem rowsL_take {es : List Ent} {k : Nat} {y : Ent} (h : es[k]? = some y) : rowsL (es.take (k + 1)) = putK (rowsL (es.take k)) (innB y) := by
  rw [List.take_add_one, h, Option.toList_some, rowsL_snoc]

set_option maxRecDepth 100000 in
set_option maxHeartbeats 2000000 in
theorem rows18_any (w : World) (a : Option Addr) (n cap : Nat) (es : List Ent) (h : Reads w 3 (.slice a n cap) n (ecells es)) (hl : es.length = n) (hn : n ≤ 1000) (hks : ∀ x ∈ es, x.key.size ≤ 100 ∧ x.rev < 18446744073709551616) :
    Calls Try.prog 13 #[.slice a n cap] w (SGives w (rowsL es)) := by
  obtain ⟨_, _, hv, hc1, hc2⟩ := h.le
  cases hv
  unfold maxLen at hc2
  have HR := Lib.hid h
  have HL := Lib.hid hl
  have HK := Lib.hid hks
  clear h hl hks
  go_enter Try.func13, Try.ntmps13
  go_wp2
  go_loopw [3, 8] (fun o v wr => Rows18Rel w es o v wr) (fun _ v _ => n - (intOf v).toNat)
  case atStart => exact ⟨0, none, 0, rfl, Nat.zero_le _, rfl, sreads_nil w, Below.refl _ _⟩
  case round =>
    obtain ⟨i, oa, ocap, rfl, hil, rfl, hrd, hb⟩ := hrel
    rw [HL.out] at hil
    have HB := Lib.hid hb
    have HO := Lib.hid hrd
    have hol : (rowsL (es.take i)).length ≤ 1000 := by
      have := (rowsL_all (es.take i)).2.1
      rw [List.length_take] at this
      omega
    clear hb hrd
    by_cases hin : i < n
    · have hinI : (i : Int) < n := by omega
      obtain ⟨y, hy⟩ : ∃ y, es[i]? = some y := ⟨es[i]'(by rw [HL.out]; exact hin), List.getElem?_eq_getElem _⟩
      obtain ⟨g2, off2, rfl, hgl2, c0, c1, c2⟩ := ent_cells (HR.out.below' HB.out) hy
      obtain ⟨hk1, hk2⟩ := HK.out y (List.mem_of_getElem? hy)
      have hnext := rowsL_take hy
      generalize rowsL (es.take i) = R at *
      obtain ⟨key, rev, del⟩ := y
      dsimp only at c0 c1 c2 hk1 hk2
      have HN := Lib.hid hnext
      have hin2 := fun w' => refinner_any w' key rev del (by omega) hk2
      have HI := Lib.hid hin2
      have hal := (Below.refl _ wr).alloc (Nat.le_refl _) (.cells #[.string key, .int .u64 (rev : Int), .bool del] 48)
      have HAl := Lib.hid hal
      clear hnext hy hin2 hal
      go_wp2_with (go_at_call 34; go_must (refine (HI.out _).mono ?_))
      rintro e w1 ⟨rfl, b1⟩
      have hb1 : Below wr.heap.size wr w1 := HAl.out.trans (b1.mono (by simp))
      have HB1 := Lib.hid (HB.out.trans (hb1.mono HB.out.size))
      have hpk := putk_any w1 _ _ _ R (innB ⟨key, rev, del⟩) (HO.out.below' hb1) (by omega)
      have HP := Lib.hid hpk
      clear b1 hb1 hpk HI HAl c0 c1 c2
      have hinn : (⟨(inner key.data.toList rev del).toArray⟩ : ByteArray) = innB ⟨key, rev, del⟩ := rfl
      rw [hinn]
      clear hinn
      go_wp2_with (go_at_call 30; go_must (refine HP.out.mono ?_))
      rintro e w2 ⟨a2, cap2, b, rfl, r2, b2⟩
      have HB2 := Lib.hid (HB1.out.trans (b2.mono HB1.out.size))
      have HR2 := Lib.hid r2
      clear r2 b2 HP
      go_wp2
      refine ⟨⟨i + 1, a2, cap2, by go_num, by rw [HL.out]; omega, ?_, ?_, HB2.out⟩, by simp [intOf]; omega⟩
      · rw [HN.out]
      · rw [HN.out]; exact HR2.out
    · have hinI : ¬ ((i : Int) < n) := by omega
      have htk : es.take i = es := List.take_of_length_le (by rw [HL.out]; omega)
      rw [htk] at HO ⊢
      go_wp2
      go_ret
      exact ⟨_, _, rfl, HO.out, HB.out⟩
end Go.Proofs.Ytekdcjbjjakhcaa
