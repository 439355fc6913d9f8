/- IterRows: whatever the input, the law says true, and its arguments read as they did. -/
import Derived.Test.YtekdcjbjjakhcaaMg11
import Derived.Deep.Strs
import Derived.Test.YtekdcjbjjakhcaaRows
import Derived.ProofKit
import Derived.OpenShut
import Derived.ShutString
import Derived.ChangeOld
import Derived.Lib.SmallJoins
/- What tells an entry is its inner key. -/
namespace Go.Proofs.Ytekdcjbjjakhcaa
open Go Go.RowKit

theorem beVal_inj : ∀ (k : Nat) (l m : List UInt8), l.length = k → m.length = k → beVal l = beVal m → l = m
  | 0, l, m, hl, hm, _ => by rw [List.length_eq_zero_iff.1 hl, List.length_eq_zero_iff.1 hm]
  | k + 1, l, m, hl, hm, h => by
    obtain ⟨l', c, rfl⟩ : ∃ l' c, l = l' ++ [c] := ⟨l.dropLast, l.getLast (by intro e; simp [e] at hl), (List.dropLast_concat_getLast _).symm⟩
    obtain ⟨m', d, rfl⟩ : ∃ m' d, m = m' ++ [d] := ⟨m.dropLast, m.getLast (by intro e; simp [e] at hm), (List.dropLast_concat_getLast _).symm⟩
    rw [beVal_snoc, beVal_snoc] at h
    have hc := c.toNat_lt
    have hd := d.toNat_lt
    have h1 : beVal l' = beVal m' := by omega
    have h2 : c = d := UInt8.toNat_inj.1 (by omega)
    rw [beVal_inj k l' m' (by simpa using hl) (by simpa using hm) h1, h2]

theorem unesc_back : ∀ (n : Nat) (l p r : List UInt8), l.length ≤ n → unesc l = some (p, r) → l = esc p ++ ([0, 1] ++ r)
  | 0, [], p, r, _, h => by cases h
  | n + 1, [], p, r, _, h => by cases h
  | n + 1, [_], p, r, _, h => by cases h
  | n + 1, c :: d :: t, p, r, hl, h => by
    rw [unesc] at h
    by_cases hc : c = 0
    · rw [if_pos hc] at h
      by_cases hd : d = 1
      · rw [if_pos hd] at h
        cases h
        rw [hc, hd]
        rfl
      · rw [if_neg hd] at h
        by_cases hf : d = 255
        · rw [if_pos hf] at h
          obtain ⟨⟨p', r'⟩, h1, h2⟩ := Option.map_eq_some_iff.1 h
          cases h2
          have := unesc_back n t p' r' (by simp at hl; omega) h1
          rw [hc, hf, esc, if_pos rfl, this]
          rfl
        · rw [if_neg hf] at h
          cases h
    · rw [if_neg hc] at h
      obtain ⟨⟨p', r'⟩, h1, h2⟩ := Option.map_eq_some_iff.1 h
      cases h2
      have := unesc_back n (d :: t) p' r' (by simp at hl ⊢; omega) h1
      rw [esc, if_neg hc, this]
      rfl

theorem nine_parts {r : List UInt8} (h : r.length = 9) : r = r.take 8 ++ [r.getD 8 0] := by
  obtain ⟨r', c, rfl⟩ : ∃ r' c, r = r' ++ [c] := ⟨r.dropLast, r.getLast (by intro e; simp [e] at h), (List.dropLast_concat_getLast _).symm⟩
  have h8 : r'.length = 8 := by simpa using h
  rw [List.take_left' h8, List.getD_eq_getElem?_getD, List.getElem?_append_right (by omega), h8]
  rfl

theorem outer_back {l p : List UInt8} {a : Nat} {x : Bool} (h : outer l = some (p, a, x)) : l = inner p a x ∧ a < 18446744073709551616 := by
  unfold outer at h
  cases hu : unesc l with
  | none => rw [hu] at h; cases h
  | some q =>
    obtain ⟨k, r⟩ := q
    rw [hu] at h
    simp only at h
    split at h
    · rename_i hr
      obtain ⟨h9, h1⟩ := hr
      cases h
      have hb := beVal_lt (r.take 8)
      have h8 : (r.take 8).length = 8 := by rw [List.length_take, h9]; rfl
      rw [h8] at hb
      have hb' : beVal (r.take 8) < 18446744073709551616 := hb
      have ha : 18446744073709551615 - beVal (r.take 8) < 18446744073709551616 := by omega
      refine ⟨?_, ha⟩
      have e1 : revBytes (18446744073709551615 - beVal (r.take 8)) 8 = r.take 8 := by
        refine beVal_inj 8 _ _ (revBytes_length _ _) h8 ?_
        rw [beVal_rev _ 8 (by omega) ha, show top (18446744073709551615 - beVal (r.take 8)) 8 = 18446744073709551615 - (18446744073709551615 - beVal (r.take 8)) by simp [top]]
        omega
      have e2 : (if decide ((r.getD 8 0).toNat = 0) = true then (0 : UInt8) else 1) = r.getD 8 0 := by
        rw [← UInt8.toNat_inj]
        by_cases h0 : (r.getD 8 0).toNat = 0
        · rw [decide_eq_true h0, if_pos rfl, h0]
          rfl
        · rw [decide_eq_false h0, if_neg (by decide)]
          show 1 = _
          omega
      rw [inner, innTo, e1, e2, List.append_assoc, ← nine_parts h9, List.append_assoc]
      exact unesc_back _ _ _ _ (Nat.le_refl _) hu
    · cases h

theorem dec_back {k : ByteArray} {x : Ent} (h : dec k = some x) : k = innB x ∧ x.rev < 18446744073709551616 := by
  unfold dec at h
  obtain ⟨⟨p, a, d⟩, h1, h2⟩ := Option.map_eq_some_iff.1 h
  cases h2
  obtain ⟨h3, h4⟩ := outer_back h1
  refine ⟨?_, h4⟩
  apply Go.WideShapes.bytes_inj
  rw [h3]
  unfold innB
  simp
end Go.Proofs.Ytekdcjbjjakhcaa

/- sentryref11.Seek. -/
namespace Go.Proofs.Ytekdcjbjjakhcaa
open Go Go.RowKit

def sk11 (l : List ByteArray) (key : ByteArray) (after : Bool) : Option ByteArray := l.find? fun x => bl key x || (decide (x = key) && !after)

def sk11V : Option ByteArray → Value
  | none => .tuple #[.string ⟨#[]⟩, .bool false]
  | some x => .tuple #[.string x, .bool true]

def Seek11Rel (l : List ByteArray) (key : ByteArray) (after : Bool) (v : Value) : Prop := ∃ k : Nat, v = .int .i64 (k : Int) ∧ k ≤ l.length ∧ sk11 l key after = sk11 (l.drop k) key after

theorem sk11_step {l : List ByteArray} {key : ByteArray} {after : Bool} {k : Nat} {x : ByteArray} (h : l[k]? = some x) : sk11 (l.drop k) key after = if bl key x || (decide (x = key) && !after) then some x else sk11 (l.drop (k + 1)) key after := by
  have e : l.drop k = x :: l.drop (k + 1) := by
    have hk := (List.getElem?_eq_some_iff.1 h).1
    rw [List.drop_eq_getElem_cons hk]
    rw [List.getElem?_eq_getElem hk] at h
    cases h
    rfl
  unfold sk11
  rw [e, List.find?_cons]
  split
  · rename_i hp; rw [hp]; rfl
  · rename_i hp; rw [hp]; rfl

def Sk11Post (w : World) (o : Option ByteArray) (e : Ending) (w' : World) : Prop := e = .returned (sk11V o) ∧ w = w'

set_option maxRecDepth 100000 in
set_option maxHeartbeats 2000000 in
theorem seek11_any (w : World) (a : Option Addr) (n cap : Nat) (l : List ByteArray) (key : ByteArray) (after : Bool) (h : Reads w 1 (.slice a n cap) n (scells l)) :
    Calls Try.prog 32 #[.slice a n cap, .string key, .bool after] w (Sk11Post w (sk11 l key after)) := by
  have hll : l.length = n := by have := h.1; rw [scells_length] at this; omega
  have HR := Lib.hid h
  have HLL := Lib.hid hll
  obtain ⟨_, _, hv, hc1, hc2⟩ := h.le
  cases hv
  unfold maxLen at hc2
  clear h hll
  go_enter Try.func32, Try.ntmps32
  go_wp2
  go_loop [12] (fun v => Seek11Rel l key after v) (fun v => n - (intOf v).toNat)
  case atStart => exact ⟨0, rfl, Nat.zero_le _, rfl⟩
  case round =>
    obtain ⟨k, rfl, hk, hsk⟩ := hrel
    rw [HLL.out] at hk
    by_cases hlt : k < n
    · have hkI : (k : Int) < n := by omega
      obtain ⟨b, off, x, rfl, hx, hb, hc⟩ := HR.out.scell k hlt
      have hst := sk11_step (key := key) (after := after) hx
      have e1 := bl_spell x key
      have e2 := bl_spell key x
      have e3 := str_eq x key
      clear hx
      rcases bl_cases x key with ⟨k1, k2, k3⟩ | ⟨k1, k2, k3⟩ | ⟨k1, k2, k3⟩
      · rw [k1] at e1
        rw [k2, decide_eq_false k3] at hst
        rw [k2] at e2
        rw [decide_eq_false k3] at e3
        rw [hst] at hsk
        have HSk := Lib.hid hsk
        clear hst hsk k1 k2 k3
        go_wp2
        exact ⟨⟨k + 1, by go_num, by rw [HLL.out]; omega, by rw [HSk.out]; cases after <;> rfl⟩, by simp [intOf]; omega⟩
      · rw [k1] at e1
        rw [k2, decide_eq_true k3] at hst
        rw [k2] at e2
        rw [decide_eq_true k3] at e3
        cases after with
        | true =>
          rw [hst] at hsk
          have HSk := Lib.hid hsk
          clear hst hsk k1 k2 k3
          go_wp2
          exact ⟨⟨k + 1, by go_num, by rw [HLL.out]; omega, by rw [HSk.out]; rfl⟩, by simp [intOf]; omega⟩
        | false =>
          rw [hst] at hsk
          have HSk := Lib.hid hsk
          clear hst hsk k1 k2 k3
          go_wp2
          refine bodyPost_ret (v := .tuple #[.string x, .bool true]) (by simp [results, Try.results32, go_sem]) rfl ?_
          exact ⟨by rw [HSk.out]; rfl, rfl⟩
      · rw [k1] at e1
        rw [k2] at hst e2
        rw [decide_eq_false k3] at e3
        rw [hst] at hsk
        have HSk := Lib.hid hsk
        clear hst hsk k1 k2 k3
        go_wp2
        refine bodyPost_ret (v := .tuple #[.string x, .bool true]) (by simp [results, Try.results32, go_sem]) rfl ?_
        exact ⟨by rw [HSk.out]; rfl, rfl⟩
    · obtain rfl : k = n := by omega
      have hkI : ¬ ((k : Int) < k) := by omega
      have hz : sk11 l key after = none := by
        rw [hsk, List.drop_of_length_le (by rw [HLL.out]; omega)]
        rfl
      have HZ := Lib.hid hz
      clear hsk hz
      go_wp2
      refine bodyPost_ret (v := .tuple #[.string ⟨#[]⟩, .bool false]) (by simp [results, Try.results32, go_sem]) rfl ?_
      exact ⟨by rw [HZ.out]; rfl, rfl⟩
end Go.Proofs.Ytekdcjbjjakhcaa

/- sentryref19.Right; rows of any texts. -/
namespace Go.Proofs.Ytekdcjbjjakhcaa
open Go Go.RowKit

def allRight (ls : List (List ByteArray)) : Bool := ls.all fun l => decide (errOf l = 0)

def RightRel (w : World) (ls : List (List ByteArray)) (n : Nat) (iv : Value) (wr : World) : Prop :=
  ∃ k : Nat, iv = .int .i64 (k : Int) ∧ k ≤ n ∧ allRight ls = allRight (ls.drop k) ∧ Below w.heap.size w wr

theorem right_step {ls : List (List ByteArray)} {k : Nat} {x : List ByteArray} (h : ls[k]? = some x) : allRight (ls.drop k) = (decide (errOf x = 0) && allRight (ls.drop (k + 1))) := by
  have e : ls.drop k = x :: ls.drop (k + 1) := by
    have hk := (List.getElem?_eq_some_iff.1 h).1
    rw [List.drop_eq_getElem_cons hk]
    rw [List.getElem?_eq_getElem hk] at h
    cases h
    rfl
  unfold allRight
  rw [e, List.all_cons]

set_option maxRecDepth 100000 in
set_option maxHeartbeats 2000000 in
theorem right19_any (w : World) (v : Value) (n : Nat) (ls : List (List ByteArray)) (h : SRows w v n ls) (hsz : ∀ l ∈ ls, ∀ k ∈ l, k.size ≤ 1000000) :
    Calls Try.prog 33 #[v] w (GivesBool w (allRight ls)) := by
  have HS := Lib.hid h
  have HSz := Lib.hid hsz
  obtain ⟨a, cap, rfl, hc1, hc2, hll, hx0⟩ := h
  clear hx0 hsz
  unfold maxLen at hc2
  have HL := Lib.hid hll
  clear hll
  go_enter Try.func33, Try.ntmps33
  go_wp2
  go_loopw [7] (fun iv wr => RightRel w ls n iv wr) (fun iv _ => n - (intOf iv).toNat)
  case atStart => exact ⟨0, rfl, Nat.zero_le _, rfl, Below.refl _ _⟩
  case round =>
    obtain ⟨k, rfl, hk, hall, hb⟩ := hrel
    by_cases hlt : k < n
    · have hkI : (k : Int) < n := by omega
      obtain ⟨x, hx⟩ : ∃ x, ls[k]? = some x := ⟨ls[k]'(by rw [HL.out]; exact hlt), List.getElem?_eq_getElem _⟩
      obtain ⟨_, _, hv, _, _, _, hrow⟩ := HS.out.below hb
      cases hv
      obtain ⟨g, off, sa, scap, rfl, hg, hcell, hrd⟩ := hrow k x hx
      have hst := right_step hx
      have hc := check18_any wr sa _ scap x hrd (HSz.out x (List.mem_of_getElem? hx))
      rw [hst] at hall
      have HA := Lib.hid hall
      have HC := Lib.hid hc
      have HB := Lib.hid hb
      clear hrow hx hst hc hall hb hrd
      generalize errOf x = er at *
      go_wp2_with (go_at_call 21; go_must (refine HC.out.mono ?_))
      rintro e w2 ⟨rfl, b2⟩
      have HB2 := Lib.hid (HB.out.trans (b2.mono HB.out.size))
      clear b2 HC
      by_cases he : er = 0
      · have HA2 := Lib.hid (by have := HA.out; rw [decide_eq_true he, Bool.true_and] at this; exact this)
        clear HA
        subst he
        go_wp2
        exact ⟨⟨k + 1, by go_num, by omega, HA2.out, HB2.out⟩, by simp [intOf]; omega⟩
      · have heI : ¬ (er : Int) = 0 := by omega
        have HA2 := Lib.hid (by have := HA.out; rw [decide_eq_false he, Bool.false_and] at this; exact this)
        clear HA
        have heN : (er == 0) = false := by simpa using he
        go_wp2
        go_ret
        exact ⟨by rw [HA2.out]; rfl, HB2.out⟩
    · obtain rfl : k = n := by omega
      have hkI : ¬ ((k : Int) < k) := by omega
      have hz : allRight ls = true := by
        rw [hall, List.drop_of_length_le (by rw [HL.out]; omega)]
        rfl
      have HZ := Lib.hid hz
      clear hall hz
      go_wp2
      go_ret
      exact ⟨by rw [HZ.out]; rfl, hb⟩
end Go.Proofs.Ytekdcjbjjakhcaa

/- iter.first of one row of any texts that rise. -/
namespace Go.Proofs.Ytekdcjbjjakhcaa
open Go Go.RowKit

def errV9 : Value := .tuple #[.agg #[.string ⟨#[]⟩, .int .u64 0, .bool false], .bool false, .int .i64 9]

def frm : Option ByteArray → Bool
  | none => true
  | some k => (dec k).isSome

def weakV : Option ByteArray → Value
  | none => foundV none
  | some k => match dec k with
    | some x => foundV (some x)
    | none => errV9

def WeakPost (w : World) (o : Option ByteArray) (e : Ending) (w' : World) : Prop := e = .returned (weakV o) ∧ Below w.heap.size w w'

def WeakRel (B : Nat) (w0 : World) (o : Option ByteArray) (lv sv fv iv : Value) (wr : World) : Prop :=
  ∃ i : Nat, iv = .int .i64 (i : Int) ∧ ((i = 0 ∧ lv = .string ⟨#[]⟩ ∧ sv = .bool false ∧ fv = .bool true) ∨ (i = 1 ∧ lv = .string (o.getD ⟨#[]⟩) ∧ sv = .bool o.isSome ∧ fv = .bool (frm o))) ∧ Below B w0 wr

set_option maxRecDepth 100000 in
set_option maxHeartbeats 4000000 in
theorem ifirstw_any (w : World) (a : Option Addr) (cap : Nat) (l : List ByteArray) (key : ByteArray) (h : Srcs w (.slice a 1 cap) 1 [some l]) (hlr : rises l) (hll : l.length ≤ 1000000) (hls : ∀ k ∈ l, k.size ≤ 1000000) :
    Calls Try.prog 46 #[.slice a 1 cap, .string key] w (WeakPost w (sk l key)) := by
  have hm : ∀ (w : World) (sa : Option Addr) (len scap : Nat), (method 217 62 (.slice sa len scap) "Seek").run Try.prog w = .ok (31, .slice sa len scap) w := fun _ _ _ _ => by kernel_rfl
  have HS := Lib.hid h
  have HLr := Lib.hid hlr
  have HLs := Lib.hid hls
  obtain ⟨_, _, hv, hc1, hc2, _, hx0⟩ := h
  cases hv
  clear hx0
  unfold maxLen at hc2
  have hb0 : Below w.heap.size w (w.alloc (.cells #[.string ⟨#[]⟩, .int .u64 0, .bool false] 48)) := (Below.refl _ _).alloc (Nat.le_refl _) _
  have hg0 := heap_alloc_new w (.cells #[.string ⟨#[]⟩, .int .u64 0, .bool false] 48)
  have hs0 : (w.alloc (.cells #[.string ⟨#[]⟩, .int .u64 0, .bool false] 48)).heap.size = w.heap.size + 1 := by simp
  have HB0 := Lib.hid hb0
  have HG0 := Lib.hid hg0
  have HS0 := Lib.hid hs0
  clear hb0 hg0 hs0 hlr hls
  go_enter Try.func46, Try.ntmps46
  go_wp2
  go_loopw [7, 8, 9, 19] (fun lv sv fv iv wr => WeakRel (w.heap.size + 1) (w.alloc (.cells #[.string ⟨#[]⟩, .int .u64 0, .bool false] 48)) (sk l key) lv sv fv iv wr) (fun _ _ _ iv _ => 1 - (intOf iv).toNat)
  case atStart => exact ⟨0, rfl, .inl ⟨rfl, rfl, rfl, rfl⟩, Below.refl _ _⟩
  case round =>
    obtain ⟨i, rfl, hst, hb⟩ := hrel
    have hbw : Below w.heap.size w wr := HB0.out.trans (hb.mono (by omega))
    have HB := Lib.hid hb
    have HBw := Lib.hid hbw
    clear hb hbw
    rcases hst with ⟨rfl, rfl, rfl, rfl⟩ | ⟨rfl, rfl, rfl, rfl⟩
    · obtain ⟨_, _, hv, _, _, _, hsee⟩ := HS.out.below HBw.out
      cases hv
      obtain ⟨g, off, rfl, hg, sa, scap, hcell, hrd⟩ := hsee 0 (some l) rfl
      rw [Nat.add_zero] at hcell
      have hse := rseek_any wr sa l.length scap l key hrd HLr.out hll
      have HSe := Lib.hid hse
      clear hsee hse hrd
      go_wp2_with (go_at_call 31; go_must (refine HSe.out.mono ?_))
      rintro e w2 ⟨rfl, b2⟩
      have hb2 := HB.out.trans (b2.mono (by rw [← HS0.out]; exact HB.out.size))
      have HB2 := Lib.hid hb2
      have hsk : ∀ x, sk l key = some x → bl x key = false ∧ x.size ≤ 1000000 := fun x hx => by
        have h1 := sk_least HLr.out key
        rw [hx] at h1
        exact ⟨h1.2.1, HLs.out x h1.1⟩
      have HSk := Lib.hid hsk
      clear hsk b2 hb2 hcell
      generalize hskE : sk l key = s at *
      have HQ := Lib.hid hskE
      clear hskE
      cases s with
      | none =>
        unfold skV
        go_wp2
        rw [HQ.out]
        exact ⟨⟨1, by go_num, .inr ⟨rfl, rfl, rfl, rfl⟩, HB2.out⟩, by simp [intOf]⟩
      | some x =>
        obtain ⟨hxk, hxs⟩ := HSk.out x rfl
        have hev := entryVal_dec x
        have hou := outer_any w2 x (by omega)
        have HOu := Lib.hid hou
        have e1 := bl_spell x key
        have e2 := bl_spell key x
        have e3 := str_eq x key
        have hfr : frm (some x) = (dec x).isSome := rfl
        cases hdx : dec x with
        | none =>
          rw [hdx] at hev hfr
          have HE := Lib.hid hev
          have HFr := Lib.hid hfr
          clear hev hou hdx hfr hxk e1 e2 e3
          unfold skV
          go_wp2_with (go_at_call 52; go_must (refine HOu.out.mono ?_))
          rintro e w3 ⟨rfl, b3⟩
          rw [HE.out]
          have HB3 := Lib.hid (HB2.out.trans (b3.mono (by rw [← HS0.out]; exact HB2.out.size)))
          clear b3
          go_wp2
          rw [HQ.out]
          refine ⟨⟨1, by go_num, .inr ⟨rfl, rfl, rfl, ?_⟩, HB3.out⟩, by simp [intOf]⟩
          rw [HFr.out]
          rfl
        | some y =>
          rw [hdx] at hev hfr
          have HE := Lib.hid hev
          have HFr := Lib.hid hfr
          clear hev hou hdx hfr
          unfold skV
          rcases bl_cases x key with ⟨k1, _, _⟩ | ⟨k1, k2, k3⟩ | ⟨k1, k2, k3⟩
          · rw [k1] at hxk; cases hxk
          all_goals
            rw [k1] at e1
            rw [k2] at e2
            first
              | rw [decide_eq_true k3] at e3
              | rw [decide_eq_false k3] at e3
            clear k1 k2 k3 hxk
            go_wp2_with (go_at_call 52; go_must (refine HOu.out.mono ?_))
            rintro e w3 ⟨rfl, b3⟩
            rw [HE.out]
            have HB3 := Lib.hid (HB2.out.trans (b3.mono (by rw [← HS0.out]; exact HB2.out.size)))
            clear b3
            go_wp2
            rw [HQ.out]
            refine ⟨⟨1, by go_num, .inr ⟨rfl, rfl, rfl, ?_⟩, HB3.out⟩, by simp [intOf]⟩
            rw [HFr.out]
            rfl
    · have hR : wr.heap[w.heap.size]? = some (.cells #[.string ⟨#[]⟩, .int .u64 0, .bool false] 48 (0, 0)) := (HB.out.block w.heap.size (by omega)).trans HG0.out
      have hsk : ∀ x, sk l key = some x → x.size ≤ 1000000 := fun x hx => by
        have h1 := sk_least HLr.out key
        rw [hx] at h1
        exact HLs.out x h1.1
      have HSk := Lib.hid hsk
      clear hsk
      generalize sk l key = s at *
      cases s with
      | none =>
        have hsm : (none : Option ByteArray).isSome = false := rfl
        have hfm : frm none = true := rfl
        rw [hsm, hfm]
        have hlt := (Array.getElem?_eq_some_iff.1 hR).1
        have c0 := Lib.cell_of_heap hR 0
        have c1 := Lib.cell_of_heap hR 1
        have c2 := Lib.cell_of_heap hR 2
        have f0 := Lib.frozen_of_heap hR
        simp at c0 c1 c2
        clear hR
        go_wp2
        refine bodyPost_ret (v := foundV none) (by simp [results, Try.results46, go_sem, foundV, c0, c1, c2]) rfl ⟨rfl, ?_⟩
        exact ((HBw.out.setCell (p := ⟨w.heap.size, 0, none⟩) (Nat.le_refl _) _).setCell (p := ⟨w.heap.size, 1, none⟩) (Nat.le_refl _) _).setCell (p := ⟨w.heap.size, 2, none⟩) (Nat.le_refl _) _
      | some m =>
        have hms := HSk.out m rfl
        have hsm : (some m : Option ByteArray).isSome = true := rfl
        have hgd : (some m : Option ByteArray).getD ⟨#[]⟩ = m := rfl
        have hfr : frm (some m) = (dec m).isSome := rfl
        have hwv : weakV (some m) = match dec m with
          | some x => foundV (some x)
          | none => errV9 := rfl
        rw [hsm, hgd, hfr]
        have hev := entryVal_dec m
        have hou := outer_any wr m (by omega)
        have HOu := Lib.hid hou
        have HRb := Lib.hid hR
        cases hdm : dec m with
        | none =>
          rw [hdm] at hwv
          dsimp only at hwv
          have HWv := Lib.hid hwv
          have hnn : (none : Option Ent).isSome = false := rfl
          rw [hnn]
          have hlt := (Array.getElem?_eq_some_iff.1 hR).1
          have c0 := Lib.cell_of_heap hR 0
          have c1 := Lib.cell_of_heap hR 1
          have c2 := Lib.cell_of_heap hR 2
          have f0 := Lib.frozen_of_heap hR
          simp at c0 c1 c2
          clear hR hev hou hdm hwv hfr
          go_wp2
          refine bodyPost_ret (v := errV9) (by simp [results, Try.results46, go_sem, errV9, c0, c1, c2]) rfl ⟨by rw [HWv.out], ?_⟩
          exact ((HBw.out.setCell (p := ⟨w.heap.size, 0, none⟩) (Nat.le_refl _) _).setCell (p := ⟨w.heap.size, 1, none⟩) (Nat.le_refl _) _).setCell (p := ⟨w.heap.size, 2, none⟩) (Nat.le_refl _) _
        | some y =>
          obtain ⟨key', rev, del⟩ := y
          rw [hdm] at hwv hev
          dsimp only at hwv hev
          have HWv := Lib.hid hwv
          have HE := Lib.hid hev
          have hnn : (some (⟨key', rev, del⟩ : Ent)).isSome = true := rfl
          rw [hnn]
          clear hR hev hou hdm hwv hfr
          go_wp2_with (go_at_call 52; go_must (refine HOu.out.mono ?_))
          rintro e w3 ⟨rfl, b3⟩
          rw [HE.out]
          have hR3 := (b3.block w.heap.size (Array.getElem?_eq_some_iff.1 HRb.out).1).trans HRb.out
          have HB3 := Lib.hid (HBw.out.trans (b3.mono HBw.out.size))
          have hlt := (Array.getElem?_eq_some_iff.1 hR3).1
          have c0 := Lib.cell_of_heap hR3 0
          have c1 := Lib.cell_of_heap hR3 1
          have c2 := Lib.cell_of_heap hR3 2
          have f0 := Lib.frozen_of_heap hR3
          simp at c0 c1 c2
          clear b3 hR3 HE HOu
          go_wp2
          refine bodyPost_ret (v := foundV (some ⟨key', rev, del⟩)) (by simp [results, Try.results46, go_sem, foundV, c0, c1, c2, hlt]) rfl ?_
          exact ⟨by rw [HWv.out], (((HB3.out.setCell (p := ⟨w.heap.size, 0, none⟩) (Nat.le_refl _) _).setCell (p := ⟨w.heap.size, 1, none⟩) (Nat.le_refl _) _).setCell (p := ⟨w.heap.size, 2, none⟩) (Nat.le_refl _) _).alloc (by simp; omega) _⟩
end Go.Proofs.Ytekdcjbjjakhcaa

/- iter.Get, iter.Scan of one row of any texts that rise: they end, with an answer or ErrForm. -/
namespace Go.Proofs.Ytekdcjbjjakhcaa
open Go Go.RowKit

def weakG (key : ByteArray) : Option ByteArray → Value
  | none => foundV none
  | some k => match dec k with
    | some x => foundV (pickK key (some x))
    | none => errV9

def WeakGPost (w : World) (key : ByteArray) (o : Option ByteArray) (e : Ending) (w' : World) : Prop := e = .returned (weakG key o) ∧ Below w.heap.size w w'

set_option maxRecDepth 100000 in
set_option maxHeartbeats 4000000 in
theorem igetw_any (w : World) (a : Option Addr) (cap : Nat) (l : List ByteArray) (key : ByteArray) (r : Nat) (h : Srcs w (.slice a 1 cap) 1 [some l]) (hlr : rises l) (hll : l.length ≤ 1000000) (hls : ∀ k ∈ l, k.size ≤ 1000000) (hk : key.size ≤ 1000000) (hr : r < 18446744073709551616) :
    Calls Try.prog 25 #[.slice a 1 cap, .string key, .int .u64 (r : Int)] w (WeakGPost w key (sk l (newestB key r))) := by
  have HS := Lib.hid h
  obtain ⟨_, _, hv, hc1, hc2, _, hx0⟩ := h
  cases hv
  clear hx0
  unfold maxLen at hc2
  have hal : Below w.heap.size w (w.alloc (.cells #[.string ⟨#[]⟩, .int .u64 0, .bool false] 48)) := (Below.refl _ _).alloc (Nat.le_refl _) _
  have hg0 := heap_alloc_new w (.cells #[.string ⟨#[]⟩, .int .u64 0, .bool false] 48)
  have HB0 := Lib.hid hal
  have HG0 := Lib.hid hg0
  have HNw := Lib.hid fun w' => inewest_any w' key r hk hr
  clear hal hg0
  go_enter Try.func25, Try.ntmps25
  go_wp2_with (go_at_call 47; go_must (refine (HNw.out _).mono ?_))
  rintro e w1 ⟨rfl, b1⟩
  have hb1 : Below w.heap.size w w1 := HB0.out.trans (b1.mono (by simp))
  have hg1 := (b1.block w.heap.size (by simp)).trans HG0.out
  have hfi := ifirstw_any w1 a cap l (newestB key r) (HS.out.below hb1) hlr hll hls
  have HFi := Lib.hid hfi
  have HB1 := Lib.hid hb1
  have HG1 := Lib.hid hg1
  clear b1 hb1 hg1 hfi HNw HB0 HG0 hlr hls
  generalize sk l (newestB key r) = o at *
  go_wp2_with (go_at_call 46; go_must (refine HFi.out.mono ?_))
  rintro e w2 ⟨rfl, b2⟩
  have hg2 := (b2.block w.heap.size (Array.getElem?_eq_some_iff.1 HG1.out).1).trans HG1.out
  have HB2 := Lib.hid (HB1.out.trans (b2.mono HB1.out.size))
  have hlt := (Array.getElem?_eq_some_iff.1 hg2).1
  have c0 := Lib.cell_of_heap hg2 0
  have c1 := Lib.cell_of_heap hg2 1
  have c2 := Lib.cell_of_heap hg2 2
  have f0 := Lib.frozen_of_heap hg2
  simp at c0 c1 c2
  clear b2 hg2 HFi
  have hbs2 := HB2.out.size
  obtain ⟨ov, hwv, hwg⟩ : ∃ ov : Option (Option Ent), (weakV o = match ov with
      | none => errV9
      | some u => foundV u) ∧ (weakG key o = match ov with
      | none => errV9
      | some u => foundV (pickK key u)) := by
    cases o with
    | none => exact ⟨some none, rfl, rfl⟩
    | some k =>
      unfold weakV weakG
      dsimp only
      cases dec k with
      | none => exact ⟨none, rfl, rfl⟩
      | some x => exact ⟨some (some x), rfl, rfl⟩
  rw [hwv]
  clear hwv
  cases ov with
  | none =>
    dsimp only at hwg
    have HP := Lib.hid hwg
    clear hwg
    unfold errV9
    go_wp2
    refine bodyPost_ret (v := errV9) (by simp [results, Try.results25, go_sem, errV9, c0, c1, c2, hlt]) rfl ?_
    refine ⟨by rw [HP.out], ?_⟩
    exact (((HB2.out.setCell (p := ⟨w.heap.size, 0, none⟩) (Nat.le_refl _) _).setCell (p := ⟨w.heap.size, 1, none⟩) (Nat.le_refl _) _).setCell (p := ⟨w.heap.size, 2, none⟩) (Nat.le_refl _) _).alloc (by simp; omega) _
  | some o2 =>
  dsimp only at hwg
  have HQ := Lib.hid hwg
  clear hwg
  cases o2 with
  | none =>
    have HP := Lib.hid (show pickK key none = none from rfl)
    unfold foundV
    go_wp2
    refine bodyPost_ret (v := foundV none) (by simp [results, Try.results25, go_sem, foundV, c0, c1, c2, hlt]) rfl ?_
    exact ⟨by rw [HQ.out, HP.out], (((HB2.out.setCell (p := ⟨w.heap.size, 0, none⟩) (Nat.le_refl _) _).setCell (p := ⟨w.heap.size, 1, none⟩) (Nat.le_refl _) _).setCell (p := ⟨w.heap.size, 2, none⟩) (Nat.le_refl _) _).alloc (by simp; omega) _⟩
  | some x =>
    obtain ⟨xk, xr, xd⟩ := x
    have e3 := str_eq xk key
    by_cases hkk : xk = key
    · rw [decide_eq_true hkk] at e3
      have HP := Lib.hid (show pickK key (some ⟨xk, xr, xd⟩) = some ⟨xk, xr, xd⟩ from if_pos hkk)
      subst hkk
      unfold foundV
      go_wp2
      refine bodyPost_ret (v := foundV (some ⟨xk, xr, xd⟩)) (by simp [results, Try.results25, go_sem, foundV, c0, c1, c2, hlt]) rfl ?_
      refine ⟨by rw [HQ.out, HP.out], (((HB2.out.setCell (p := ⟨w.heap.size, 0, none⟩) (Nat.le_refl _) _).setCell (p := ⟨w.heap.size, 1, none⟩) (Nat.le_refl _) _).setCell (p := ⟨w.heap.size, 2, none⟩) (Nat.le_refl _) _).alloc (by simp; omega) _⟩
    · rw [decide_eq_false hkk] at e3
      have HP := Lib.hid (show pickK key (some ⟨xk, xr, xd⟩) = none from if_neg hkk)
      clear hkk
      unfold foundV
      go_wp2
      refine bodyPost_ret (v := foundV none) (by simp [results, Try.results25, go_sem, foundV, c0, c1, c2, hlt]) rfl ?_
      refine ⟨by rw [HQ.out, HP.out], (((HB2.out.setCell (p := ⟨w.heap.size, 0, none⟩) (Nat.le_refl _) _).setCell (p := ⟨w.heap.size, 1, none⟩) (Nat.le_refl _) _).setCell (p := ⟨w.heap.size, 2, none⟩) (Nat.le_refl _) _).alloc (by simp; omega) _⟩

theorem weakG_cases (k : ByteArray) (o : Option ByteArray) : weakG k o = errV9 ∨ weakG k o = foundV none ∨ ∃ yr yd, weakG k o = foundV (some ⟨k, yr, yd⟩) := by
  cases o with
  | none => exact .inr (.inl rfl)
  | some k2 =>
    have e : weakG k (some k2) = match dec k2 with
      | some x => foundV (pickK k (some x))
      | none => errV9 := rfl
    rw [e]
    cases dec k2 with
    | none => exact .inl rfl
    | some y =>
      obtain ⟨yk, yr, yd⟩ := y
      dsimp only
      by_cases hyk : yk = k
      · subst hyk
        exact .inr (.inr ⟨yr, yd, by rw [show pickK yk (some ⟨yk, yr, yd⟩) = some ⟨yk, yr, yd⟩ from if_pos rfl]⟩)
      · exact .inr (.inl (by rw [show pickK k (some ⟨yk, yr, yd⟩) = none from if_neg hyk]))

def cnt (l : List ByteArray) (at' : ByteArray) : Nat := (l.filter fun y => !bl y at').length

theorem cnt_le (l : List ByteArray) (at' : ByteArray) : cnt l at' ≤ l.length := List.length_filter_le _ _

theorem cnt_step {l : List ByteArray} {at' k : ByteArray} {x : Ent} (hr : rises l) (hs : sk l at' = some k) (hd : dec k = some x) : cnt l (pastB x.key) < cnt l at' := by
  have hl := sk_least hr at'
  rw [hs] at hl
  obtain ⟨hm, hk, _⟩ := hl
  obtain ⟨he, _⟩ := dec_back hd
  have hkp : bl k (pastB x.key) = true := by rw [he, bl_past]; simp
  have e : (l.filter fun y => !bl y (pastB x.key)) = (l.filter fun y => !bl y at').filter fun y => !bl y (pastB x.key) := by
    rw [List.filter_filter]
    refine List.filter_congr fun y _ => ?_
    cases h1 : bl y (pastB x.key) with
    | true => rfl
    | false =>
      cases h2 : bl y at' with
      | false => rfl
      | true =>
        have h3 : bl y k = true := by
          by_cases hak : at' = k
          · rw [← hak]; exact h2
          · exact bl_trans h2 (bl_ge hk (fun e => hak e.symm))
        rw [bl_trans h3 hkp] at h1
        cases h1
  unfold cnt
  rw [e]
  refine List.length_filter_lt_length_iff_exists.2 ⟨k, List.mem_filter.2 ⟨hm, by rw [hk]; rfl⟩, by rw [hkp]; decide⟩

theorem dec_small {k : ByteArray} {x : Ent} (hd : dec k = some x) (hk : k.size ≤ 1000000) : x.key.size ≤ 1000000 ∧ x.rev < 18446744073709551616 := by
  obtain ⟨rfl, h2⟩ := dec_back hd
  refine ⟨?_, h2⟩
  have h3 : (innB x).size = (esc x.key.data.toList).length + 11 := by
    unfold innB
    show (inner x.key.data.toList x.rev x.del).toArray.size = _
    simp [inner, innTo, revBytes_length]
  have h4 := esc_least x.key.data.toList
  have h5 : x.key.data.toList.length = x.key.size := Array.length_toList
  omega

def WScanPost (w : World) (e : Ending) (w' : World) : Prop := ∃ kv c, e = .returned (.tuple #[kv, .int .i64 c]) ∧ (c = 0 ∨ c = 9) ∧ Below w.heap.size w w'

def WScanRel (w : World) (l : List ByteArray) (kv av : Value) (wr : World) : Prop :=
  ∃ (at' : ByteArray) (out : List ByteArray), av = .string at' ∧ out.length + cnt l at' ≤ l.length ∧ wr.ownsRow w.heap.size 9 1 kv out.length (scells out) ∧ Below w.heap.size w wr

set_option maxRecDepth 100000 in
set_option maxHeartbeats 8000000 in
theorem iscanw_any (w : World) (a : Option Addr) (cap : Nat) (l : List ByteArray) (r : Nat) (h : Srcs w (.slice a 1 cap) 1 [some l]) (hlr : rises l) (hll : l.length ≤ 1000000) (hls : ∀ k ∈ l, k.size ≤ 1000000) (hr : r < 18446744073709551616) :
    Calls Try.prog 28 #[.slice a 1 cap, .string ⟨#[]⟩, .string ⟨#[]⟩, .int .u64 (r : Int), .int .i64 0] w (WScanPost w) := by
  obtain ⟨i0, hi, hz0, hz1, hz2⟩ := info_parts info9
  have HS := Lib.hid h
  have HLr := Lib.hid hlr
  have HLs := Lib.hid hls
  obtain ⟨_, _, hv, hc1, hc2, _, hx0⟩ := h
  cases hv
  clear hx0 hlr hls
  unfold maxLen at hc2
  have HNw := Lib.hid (inewest_any w ⟨#[]⟩ 18446744073709551615 (by decide) (by decide))
  go_enter Try.func28, Try.ntmps28
  go_wp2_with (go_at_call 47; go_must (refine HNw.out.mono ?_))
  rintro e w0 ⟨rfl, b0⟩
  have HB0 := Lib.hid b0
  clear b0 HNw
  generalize newestB ⟨#[]⟩ 18446744073709551615 = at0 at *
  go_wp2
  go_loopw [12, 13] (fun kv av wr => WScanRel w l kv av wr) (fun _ av _ => cnt l (strOf av))
  case atStart => exact ⟨at0, [], rfl, by simpa using cnt_le l at0, owns_nil _ _ _ _, HB0.out⟩
  case round =>
    obtain ⟨at', out, rfl, hlen, hown, hbw⟩ := hrel
    obtain ⟨ka, kcap, rfl, hk1, hk2⟩ := (ownsRow.reads hown).le
    have hf := ifirstw_any wr a cap l at' (HS.out.below hbw) HLr.out hll HLs.out
    have HF := Lib.hid hf
    have HO := Lib.hid hown
    have HB := Lib.hid hbw
    clear hf hown hbw
    unfold maxLen at hk2
    have hstep : ∀ k x, sk l at' = some k → dec k = some x → cnt l (pastB x.key) < cnt l at' := fun k x hs hd => cnt_step HLr.out hs hd
    have hsm : ∀ k x, sk l at' = some k → dec k = some x → x.key.size ≤ 1000000 ∧ x.rev < 18446744073709551616 := fun k x hs hd => dec_small hd (HLs.out k (by
      have := sk_least HLr.out at'
      rw [hs] at this
      exact this.1))
    have HStep := Lib.hid hstep
    have HSm := Lib.hid hsm
    clear hstep hsm
    go_wp2_with (go_at_call 46; go_must (refine HF.out.mono ?_))
    rintro e w1 ⟨rfl, b1⟩
    have hB1 := HB.out.trans (b1.mono HB.out.size)
    have hO1 := owns_below HO.out b1
    have HB1 := Lib.hid hB1
    have HO1 := Lib.hid hO1
    clear b1 hB1 hO1 HF
    generalize sk l at' = o at *
    cases o with
    | none =>
      have HBa := Lib.hid (HB1.out.alloc HB1.out.size (.cells #[.string ⟨#[]⟩, .int .u64 0, .bool false] 48))
      unfold weakV foundV
      go_wp2
      refine bodyPost_ret (v := .tuple #[.slice ka out.length kcap, .int .i64 0]) (by simp [results, Try.results28, go_sem]) rfl ?_
      exact ⟨_, _, rfl, .inl rfl, HBa.out⟩
    | some k0 =>
      have hwv : weakV (some k0) = match dec k0 with
        | some x => foundV (some x)
        | none => errV9 := rfl
      rw [hwv]
      clear hwv
      cases hd : dec k0 with
      | none =>
        have HBa := Lib.hid (HB1.out.alloc HB1.out.size (.cells #[.string ⟨#[]⟩, .int .u64 0, .bool false] 48))
        clear hd
        dsimp only
        unfold errV9
        go_wp2
        refine bodyPost_ret (v := .tuple #[.slice none 0 0, .int .i64 9]) (by simp [results, Try.results28, go_sem]) rfl ?_
        exact ⟨_, _, rfl, .inr rfl, HBa.out⟩
      | some x =>
        obtain ⟨k, rv, dl⟩ := x
        have hst := HStep.out k0 _ rfl hd
        obtain ⟨hks, hrv⟩ := HSm.out k0 _ rfl hd
        dsimp only at hst hks hrv
        have HSt := Lib.hid hst
        clear hd hst HStep HSm
        have hba : Below w.heap.size w (w1.alloc (.cells #[.string k, .int .u64 (rv : Int), .bool dl] 48)) := HB1.out.alloc HB1.out.size _
        have hoa := HO1.out.alloc (.cells #[.string k, .int .u64 (rv : Int), .bool dl] 48)
        have hga := heap_alloc_new w1 (.cells #[.string k, .int .u64 (rv : Int), .bool dl] 48)
        have HBa := Lib.hid hba
        have HOa := Lib.hid hoa
        have HGa := Lib.hid hga
        have HSz := Lib.hid (show w1.heap.size < (w1.alloc (.cells #[.string k, .int .u64 (rv : Int), .bool dl] 48)).heap.size by simp)
        clear hba hoa hga
        have HPa := Lib.hid fun w' => past_any w' k hks
        dsimp only
        unfold foundV
        go_wp2_with (go_at_call 49; go_must (refine (HPa.out _).mono ?_))
        rintro e w2 ⟨rfl, b2⟩
        have hB2 := HBa.out.trans (b2.mono HBa.out.size)
        have hO2 := owns_below HOa.out b2
        have hG2 := (b2.block w1.heap.size HSz.out).trans HGa.out
        have c0 := Lib.cell_of_heap hG2 0
        have c1 := Lib.cell_of_heap hG2 1
        have c2 := Lib.cell_of_heap hG2 2
        have f0 := Lib.frozen_of_heap hG2
        simp at c0 c1 c2
        have HB2 := Lib.hid hB2
        have HO2 := Lib.hid hO2
        have HG2 := Lib.hid hG2
        have HN1 := Lib.hid HB1.out.size
        clear b2 hB2 hO2 hG2 HBa HOa HGa HSz
        by_cases hlt : r < rv
        · have hltI : (r : Int) < (rv : Int) := by omega
          have hge := igetw_any w2 a cap l k r (HS.out.below HB2.out) HLr.out hll HLs.out hks hr
          generalize sk l (newestB k r) = o2 at *
          have hgc := weakG_cases k o2
          generalize hg1 : weakG k o2 = gv at hgc
          have HGe := Lib.hid hge
          have HGo := Lib.hid hg1
          have HGc := Lib.hid hgc
          clear hge hg1 hgc
          go_wp2_with (go_at_call 25; go_must (refine HGe.out.mono ?_))
          rintro e w3 ⟨rfl, b3⟩
          rw [HGo.out]
          have hB3 := HB2.out.trans (b3.mono HB2.out.size)
          have hO3 := owns_below HO2.out b3
          have hG3 := (b3.block w1.heap.size (Array.getElem?_eq_some_iff.1 HG2.out).1).trans HG2.out
          have hne3 : (Value.slice ka out.length kcap).ownBlock ≠ some w1.heap.size := fun e => by
            obtain ⟨_, cs, hcs⟩ := owns_block HO1.out e
            have := (Array.getElem?_eq_some_iff.1 hcs).1
            omega
          have d0 := Lib.cell_of_heap hG3 0
          have d1 := Lib.cell_of_heap hG3 1
          have d2 := Lib.cell_of_heap hG3 2
          have g0 := Lib.frozen_of_heap hG3
          simp at d0 d1 d2
          have HB3 := Lib.hid hB3
          have HO3 := Lib.hid hO3
          have HG3 := Lib.hid hG3
          clear b3 hB3 hO3 hG3 HGe c0 c1 c2 f0
          rcases HGc.out with rfl | rfl | ⟨yr, yd, rfl⟩
          · have HB4 := Lib.hid (((HB3.out.setCell (p := ⟨w1.heap.size, 0, none⟩) HN1.out (.string ⟨#[]⟩)).setCell (p := ⟨w1.heap.size, 1, none⟩) HN1.out (.int .u64 0)).setCell (p := ⟨w1.heap.size, 2, none⟩) HN1.out (.bool false))
            unfold errV9
            go_wp2
            refine bodyPost_ret (v := .tuple #[.slice none 0 0, .int .i64 9]) (by simp [results, Try.results28, go_sem]) rfl ?_
            exact ⟨_, _, rfl, .inr rfl, HB4.out⟩
          · have HO4 := Lib.hid (ownsRow_setCell_other (ownsRow_setCell_other (ownsRow_setCell_other HO3.out (a := ⟨w1.heap.size, 0, none⟩) hne3 (.string ⟨#[]⟩)) (a := ⟨w1.heap.size, 1, none⟩) hne3 (.int .u64 0)) (a := ⟨w1.heap.size, 2, none⟩) hne3 (.bool false))
            have HB4 := Lib.hid (((HB3.out.setCell (p := ⟨w1.heap.size, 0, none⟩) HN1.out (.string ⟨#[]⟩)).setCell (p := ⟨w1.heap.size, 1, none⟩) HN1.out (.int .u64 0)).setCell (p := ⟨w1.heap.size, 2, none⟩) HN1.out (.bool false))
            unfold foundV
            go_wp2
            exact ⟨⟨_, out, rfl, by have := HSt.out; omega, HO4.out, HB4.out⟩, by simpa [strOf] using HSt.out⟩
          · have HO4 := Lib.hid (ownsRow_setCell_other (ownsRow_setCell_other (ownsRow_setCell_other HO3.out (a := ⟨w1.heap.size, 0, none⟩) hne3 (.string k)) (a := ⟨w1.heap.size, 1, none⟩) hne3 (.int .u64 (yr : Int))) (a := ⟨w1.heap.size, 2, none⟩) hne3 (.bool yd))
            have HB4 := Lib.hid (((HB3.out.setCell (p := ⟨w1.heap.size, 0, none⟩) HN1.out (.string k)).setCell (p := ⟨w1.heap.size, 1, none⟩) HN1.out (.int .u64 (yr : Int))).setCell (p := ⟨w1.heap.size, 2, none⟩) HN1.out (.bool yd))
            have HN4 := Lib.hid (show (((w3.setCell ⟨w1.heap.size, 0, none⟩ (.string k)).setCell ⟨w1.heap.size, 1, none⟩ (.int .u64 (yr : Int))).setCell ⟨w1.heap.size, 2, none⟩ (.bool yd)).heap.size = w3.heap.size by simp)
            unfold foundV
            cases yd with
            | true =>
              go_wp2
              exact ⟨⟨_, out, rfl, by have := HSt.out; omega, HO4.out, HB4.out⟩, by simpa [strOf] using HSt.out⟩
            | false =>
              go_wp2_with (at_builtin; go_must (refine wpList_append_rows_at (w0 := _) rfl _ _ 26 rfl w.heap.size 9 i0 _ 1 16 Try.underlying26 hi hz0 hz1 hz2 rfl [.string k] 1 rfl HN4.out HO4.out rfl rfl ?_ ?_ ?_ HB4.out.size ?_))
              · intro u hu
                simp at hu
                subst hu
                rfl
              · unfold maxLen; omega
              · omega
              intro v6 w6 o6 g6 b6 _
              obtain ⟨na, ncap, rfl, hn1, hn2⟩ := (ownsRow.reads o6).le
              have HO6 := Lib.hid (own_snoc o6)
              have HB6 := Lib.hid (HB4.out.trans b6)
              clear o6 g6 b6 hn1 hn2
              have hmo : ¬ (out.length : Int) + 1 = 0 := by omega
              go_wp2
              exact ⟨⟨_, out ++ [k], rfl, by have := HSt.out; simp; omega, HO6.out, HB6.out⟩, by simpa [strOf] using HSt.out⟩
        · have hltI : ¬ (r : Int) < (rv : Int) := by omega
          cases dl with
          | true =>
            go_wp2
            exact ⟨⟨_, out, rfl, by have := HSt.out; omega, HO2.out, HB2.out⟩, by simpa [strOf] using HSt.out⟩
          | false =>
            go_wp2_with (at_builtin; go_must (refine wpList_append_rows_at (w0 := w2) rfl _ _ 26 rfl w.heap.size 9 i0 _ 1 16 Try.underlying26 hi hz0 hz1 hz2 rfl [.string k] 1 rfl rfl HO2.out rfl rfl ?_ ?_ ?_ HB2.out.size ?_))
            · intro u hu
              simp at hu
              subst hu
              rfl
            · unfold maxLen; omega
            · omega
            intro v6 w6 o6 g6 b6 _
            obtain ⟨na, ncap, rfl, hn1, hn2⟩ := (ownsRow.reads o6).le
            have HO6 := Lib.hid (own_snoc o6)
            have HB6 := Lib.hid (HB2.out.trans b6)
            clear o6 g6 b6 hn1 hn2
            have hmo : ¬ (out.length : Int) + 1 = 0 := by omega
            go_wp2
            exact ⟨⟨_, out ++ [k], rfl, by have := HSt.out; simp; omega, HO6.out, HB6.out⟩, by simpa [strOf] using HSt.out⟩
end Go.Proofs.Ytekdcjbjjakhcaa

/- In how many sources keys stand counts for nothing. -/
namespace Go.Proofs.Ytekdcjbjjakhcaa
open Go Go.RowKit

theorem rises_same : ∀ {a b : List ByteArray}, rises a → rises b → (∀ x, x ∈ a ↔ x ∈ b) → a = b
  | [], [], _, _, _ => rfl
  | [], y :: t, _, _, h => by have := (h y).2 (by simp); cases this
  | x :: s, [], _, _, h => by have := (h x).1 (by simp); cases this
  | x :: s, y :: t, ha, hb, h => by
    have pa := List.pairwise_cons.1 ha
    have pb := List.pairwise_cons.1 hb
    have he : x = y := by
      by_cases he : x = y
      · exact he
      · have h1 := (h x).1 (by simp)
        have h2 := (h y).2 (by simp)
        rcases List.mem_cons.1 h1 with h1 | h1
        · exact h1
        · rcases List.mem_cons.1 h2 with h2 | h2
          · exact h2.symm
          · have := bl_asymm (pb.1 x h1)
            rw [pa.1 y h2] at this
            cases this
    subst he
    congr 1
    refine rises_same pa.2 pb.2 fun z => ⟨fun hz => ?_, fun hz => ?_⟩
    · rcases List.mem_cons.1 ((h z).1 (by simp [hz])) with rfl | hz'
      · have := pa.1 z hz
        rw [bl_irrefl] at this
        cases this
      · exact hz'
    · rcases List.mem_cons.1 ((h z).2 (by simp [hz])) with rfl | hz'
      · have := pb.1 z hz
        rw [bl_irrefl] at this
        cases this
      · exact hz'

theorem rowsL_mem (es : List Ent) (k : ByteArray) : k ∈ rowsL es ↔ ∃ x ∈ es, innB x = k := by
  have e : rowsL es = (es.map innB).foldl putK [] := by
    unfold rowsL
    rw [List.foldl_map]
  rw [e, (putAll_ok (es.map innB) [] rises_nil).2.1 k]
  simp

theorem parted (ls : List (List Ent)) : allK (([ls.flatten, [], ls.flatten] : List (List Ent)).map rowsL) = allK (ls.map rowsL) := by
  refine rises_same (allK_ok _).1 (allK_ok _).1 fun k => ?_
  rw [(allK_ok _).2.1 k, (allK_ok _).2.1 k]
  constructor
  · rintro ⟨l, hl, hk⟩
    have : k ∈ rowsL ls.flatten := by
      simp at hl
      rcases hl with rfl | rfl | rfl
      · exact hk
      · cases hk
      · exact hk
    obtain ⟨x, hx, rfl⟩ := (rowsL_mem _ _).1 this
    obtain ⟨es, hes, hxe⟩ := List.mem_flatten.1 hx
    exact ⟨rowsL es, List.mem_map.2 ⟨es, hes, rfl⟩, (rowsL_mem _ _).2 ⟨x, hxe, rfl⟩⟩
  · rintro ⟨l, hl, hk⟩
    obtain ⟨es, hes, rfl⟩ := List.mem_map.1 hl
    obtain ⟨x, hx, rfl⟩ := (rowsL_mem _ _).1 hk
    exact ⟨rowsL ls.flatten, by simp, (rowsL_mem _ _).2 ⟨x, List.mem_flatten.2 ⟨es, hes, hx⟩, rfl⟩⟩

theorem flat_sum (ls : List (List Ent)) : ls.flatten.length = sumL ls := by
  rw [List.length_flatten]
  rfl

theorem parted_low {ls : List (List Ent)} (h : LowE ls) (hs : sumL ls ≤ 150) : LowE [ls.flatten, [], ls.flatten] := by
  have hf : ls.flatten.length ≤ 150 ∧ ∀ x ∈ ls.flatten, x.key.size ≤ 100 ∧ x.rev < 18446744073709551616 := ⟨by rw [flat_sum]; exact hs, fun x hx => by
    obtain ⟨es, hes, hxe⟩ := List.mem_flatten.1 hx
    exact (h es hes).2 x hxe⟩
  intro l hl
  simp at hl
  rcases hl with rfl | rfl | rfl
  · exact hf
  · exact ⟨by simp, fun x hx => by cases hx⟩
  · exact hf

theorem Told.parted {ls : List (List Ent)} {xs : List KE} (h : Told ((ls.map rowsL).map some) xs) (hall : allK (ls.map rowsL) = xs.map (·.1)) (hl : LowE [ls.flatten, [], ls.flatten]) :
    Told ((([ls.flatten, [], ls.flatten] : List (List Ent)).map rowsL).map some) xs := by
  obtain ⟨ys, hy, _, _⟩ := told_rows hl
  refine ⟨hy.ok, h.rows, ?_⟩
  rw [rowsOf_all, Go.Proofs.Ytekdcjbjjakhcaa.parted]
  exact hall

theorem Told.none {srcs : List (Option (List ByteArray))} {xs : List KE} (h : Told srcs xs) : Told (srcs ++ [Option.none]) xs := by
  refine ⟨fun l hl => h.ok l ?_, h.rows, ?_⟩
  · simpa using hl
  · have : rowsOf (srcs ++ [Option.none]) = rowsOf srcs := by unfold rowsOf; simp
    rw [this]
    exact h.all

theorem srcs_none {w w' : World} {ls : List (List ByteArray)} {n : Nat} {ov : Value} {vs : List Value} (hl : ls.length = n) (hf : Faces w ls vs) {B : Nat} (ho : w'.ownsRow B 85 1 ov (n + 1) (vs ++ [.nilIface])) (hb : Below w.heap.size w w') : Srcs w' ov (n + 1) (ls.map some ++ [Option.none]) := by
  obtain ⟨a, cap, rfl, h1, h2⟩ := (ownsRow.reads ho).le
  have hvl : vs.length = ls.length := hf.1
  refine ⟨a, cap, rfl, h1, h2, by simp [hl], fun i r hi => ?_⟩
  by_cases hlt : i < ls.length
  · rw [List.getElem?_append_left (by simpa using hlt), List.getElem?_map] at hi
    obtain ⟨l, hl', rfl⟩ := Option.map_eq_some_iff.1 hi
    obtain ⟨sa, scap, hv, hr⟩ := hf.2 i l hl'
    obtain ⟨g, off, ha, hg, hc⟩ := (ownsRow.reads ho).at (show (vs ++ [Value.nilIface])[i]? = some _ by rw [List.getElem?_append_left (by omega)]; exact hv)
    exact ⟨g, off, ha, hg, sa, scap, hc, hr.below' hb⟩
  · have hi' : i = ls.length := by
      have := (List.getElem?_eq_some_iff.1 hi).1
      simp at this
      omega
    subst hi'
    rw [List.getElem?_append_right (by simp)] at hi
    simp at hi
    subst hi
    obtain ⟨g, off, ha, hg, hc⟩ := (ownsRow.reads ho).at (show (vs ++ [Value.nilIface])[ls.length]? = some .nilIface by rw [List.getElem?_append_right (by omega)]; simp [hvl])
    exact ⟨g, off, ha, hg, hc⟩

theorem ecells_one (es : List Ent) : ∀ u ∈ ecells es, u.oneCell' = true := by
  intro u hu
  unfold ecells at hu
  obtain ⟨x, _, hx⟩ := List.mem_flatMap.1 hu
  simp [ecell] at hx
  rcases hx with rfl | rfl | rfl <;> rfl

theorem lit_see {w : World} {L : List Ent} {sa : Option Addr} {scap : Nat} (h : Reads w 3 (.slice sa L.length scap) L.length (ecells L)) (hl : LowE [L, [], L]) :
    ERows (w.alloc (.cells #[.slice sa L.length scap, .slice none 0 0, .slice sa L.length scap] 22)) (.slice (some ⟨w.heap.size, 0, none⟩) 3 3) 3 [L, [], L] := by
  have hb : Below w.heap.size w (w.alloc (.cells #[.slice sa L.length scap, .slice none 0 0, .slice sa L.length scap] 22)) := (Below.refl _ _).alloc (Nat.le_refl _) _
  obtain ⟨hl1, hl2⟩ := hl L (by simp)
  have hsz : L.length * 32 ≤ 140737488351232 := by omega
  have hks : ∀ x ∈ L, x.key.size ≤ maxLen := fun x hx => by have := (hl2 x hx).1; unfold maxLen; omega
  refine ⟨_, _, rfl, by decide, by unfold maxLen; decide, rfl, fun i l hi => ?_⟩
  match i, hi with
  | 0, hi =>
    simp at hi
    subst hi
    exact ⟨hsz, hks, w.heap.size, 0, sa, scap, rfl, by simp, by simp, h.below' hb⟩
  | 1, hi =>
    simp at hi
    subst hi
    exact ⟨by decide, fun x hx => by simp at hx, w.heap.size, 0, none, 0, rfl, by simp, by simp, ⟨rfl, _, _, rfl, by decide, by unfold maxLen; decide, fun j u hj => by simp [ecells] at hj⟩⟩
  | 2, hi =>
    simp at hi
    subst hi
    exact ⟨hsz, hks, w.heap.size, 0, sa, scap, rfl, by simp, by simp, h.below' hb⟩
end Go.Proofs.Ytekdcjbjjakhcaa

/- The law IterRows. -/
namespace Go.Proofs.Ytekdcjbjjakhcaa
open Go Go.RowKit

theorem sk11_sk (l : List ByteArray) (key : ByteArray) : sk11 l key false = sk l key := by
  unfold sk11 sk
  congr 1
  funext x
  rcases bl_cases x key with ⟨k1, k2, k3⟩ | ⟨k1, k2, k3⟩ | ⟨k1, k2, k3⟩
  · rw [k1, k2, decide_eq_false k3]; rfl
  · rw [k1, k2, decide_eq_true k3]; rfl
  · rw [k1, k2]; rfl

def putsK (ks : List ByteArray) : List ByteArray := ks.foldl putK []

theorem putsK_snoc {ks : List ByteArray} {k : Nat} {x : ByteArray} (h : ks[k]? = some x) : putsK (ks.take (k + 1)) = putK (putsK (ks.take k)) x := by
  unfold putsK
  rw [List.take_add_one, h]
  simp

theorem putsK_facts (ks : List ByteArray) : rises (putsK ks) ∧ (∀ x ∈ putsK ks, x ∈ ks) ∧ (putsK ks).length ≤ ks.length := by
  obtain ⟨h1, h2, h3⟩ := putAll_ok ks [] rises_nil
  refine ⟨h1, fun x hx => ?_, by simpa [putsK] using h3⟩
  rcases (h2 x).1 hx with h | h
  · cases h
  · exact h

def RowsLRel (w1 : World) (ks : List ByteArray) (rv iv : Value) (wr : World) : Prop :=
  ∃ k : Nat, iv = .int .i64 (k : Int) ∧ k ≤ ks.length ∧ (∀ x ∈ ks.take k, x.size ≤ 200) ∧ wr.ownsRow w1.heap.size 9 1 rv (putsK (ks.take k)).length (scells (putsK (ks.take k))) ∧ Below w1.heap.size w1 wr

theorem take_small {ks : List ByteArray} {k : Nat} {x : ByteArray} (h : ks[k]? = some x) (hx : x.size ≤ 200) (ht : ∀ x ∈ ks.take k, x.size ≤ 200) : ∀ x ∈ ks.take (k + 1), x.size ≤ 200 := by
  intro y hy
  rw [List.take_add_one, h] at hy
  simp at hy
  rcases hy with hy | rfl
  · exact ht y hy
  · exact hx

theorem face_srcs {w : World} {l : List ByteArray} {ra : Option Addr} {rcap : Nat} (h : Reads w 1 (.slice ra l.length rcap) l.length (scells l)) :
    Srcs (w.alloc (.cells #[.iface 62 (.slice ra l.length rcap)] 85)) (.slice (some ⟨w.heap.size, 0, none⟩) 1 1) 1 [some l] := by
  have hb : Below w.heap.size w (w.alloc (.cells #[.iface 62 (.slice ra l.length rcap)] 85)) := (Below.refl _ _).alloc (Nat.le_refl _) _
  refine ⟨_, _, rfl, Nat.le_refl _, by unfold maxLen; decide, rfl, fun i r hi => ?_⟩
  match i, hi with
  | 0, hi =>
    simp at hi
    subst hi
    exact ⟨w.heap.size, 0, rfl, by simp, ra, rcap, by simp, h.below' hb⟩

theorem row_srows {w : World} {l : List ByteArray} {ra : Option Addr} {rcap : Nat} (h : Reads w 1 (.slice ra l.length rcap) l.length (scells l)) :
    SRows (w.alloc (.cells #[.slice ra l.length rcap] 26)) (.slice (some ⟨w.heap.size, 0, none⟩) 1 1) 1 [l] := by
  have hb : Below w.heap.size w (w.alloc (.cells #[.slice ra l.length rcap] 26)) := (Below.refl _ _).alloc (Nat.le_refl _) _
  refine ⟨_, _, rfl, Nat.le_refl _, by unfold maxLen; decide, rfl, fun i r hi => ?_⟩
  match i, hi with
  | 0, hi =>
    simp at hi
    subst hi
    exact ⟨w.heap.size, 0, ra, rcap, rfl, by simp, by simp, h.below' hb⟩

theorem told_one {l : List ByteArray} {es : List Ent} (hr : rises l) (hl : l.length ≤ 1000000) (hs : ∀ k ∈ l, k.size ≤ 1000000) (hd : decs l = some es) : Told [some l] (l.zip es) := by
  obtain ⟨h1, h2⟩ := decs_some hd
  have hm : (l.zip es).map (·.1) = l := List.map_fst_zip (by omega)
  refine ⟨fun m hm => ?_, ⟨by rw [hm]; exact hr, fun x hx => ?_⟩, ?_⟩
  · simp at hm
    subst hm
    refine ⟨hr, hl, fun k hk => ⟨hs k hk, ?_⟩⟩
    obtain ⟨i, hi⟩ := List.getElem?_of_mem hk
    obtain ⟨e, _, he⟩ := h2 i k hi
    exact ⟨e, he⟩
  · obtain ⟨i, hi⟩ := List.getElem?_of_mem hx
    rw [List.getElem?_zip_eq_some] at hi
    obtain ⟨e, he1, he2⟩ := h2 i x.1 hi.1
    rw [hi.2] at he1
    cases he1
    exact dec_back he2
  · have : allK (rowsOf [some l]) = l := by
      refine rises_same (allK_ok _).1 hr fun x => ?_
      rw [(allK_ok _).2.1 x]
      simp [rowsOf]
    rw [this, hm]
end Go.Proofs.Ytekdcjbjjakhcaa

/- The law IterRows: the walk. -/
namespace Go.Proofs.Ytekdcjbjjakhcaa
open Go Go.RowKit

theorem right_one (l : List ByteArray) : allRight [l] = decide (errOf l = 0) := by
  unfold allRight
  simp

set_option maxRecDepth 100000 in
set_option maxHeartbeats 8000000 in
theorem iterRows_walk (w : World) (a : Option Addr) (n cap : Nat) (ks : List ByteArray) (key : ByteArray) (r : Nat) (h : Reads w 1 (.slice a n cap) n (scells ks)) (hr : r < 18446744073709551616) :
    Calls Try.prog 10 #[.slice a n cap, .string key, .int .u64 (r : Int)] w (SaysTrue w) := by
  have hll : ks.length = n := by have := h.1; rw [scells_length] at this; omega
  have HR0 := Lib.hid h
  obtain ⟨_, _, hv, hc1, hc2⟩ := h.le
  cases hv
  unfold maxLen at hc2
  clear h
  go_enter Try.func10, Try.ntmps10
  go_wp2_with (go_at_call 22; go_must (refine (fixed19_any w).mono ?_))
  rintro e w1 ⟨rfl, b1⟩
  have HB1 := Lib.hid b1
  have HR1 := Lib.hid (HR0.out.below' b1)
  clear b1 HR0
  by_cases hn : n ≤ 100
  · have hnI : ¬ (100 : Int) < n := by omega
    by_cases hk : key.size ≤ 200
    · have hkI : ¬ (200 : Int) < key.size := by omega
      go_wp2
      go_loopw [7, 29] (fun rv iv wr => RowsLRel w1 ks rv iv wr) (fun _ iv _ => n - (intOf iv).toNat)
      case atStart => exact ⟨0, rfl, Nat.zero_le _, fun x hx => by simp at hx, owns_nil _ _ _ _, Below.refl _ _⟩
      case round =>
        obtain ⟨k, rfl, hk', hsm, hown, hb⟩ := hrel
        have hbs := hb.size
        by_cases hlt : k < n
        · have hkI2 : (k : Int) < n := by omega
          obtain ⟨b, off, x, rfl, hx, hbb, hcc⟩ := (HR1.out.below' hb).scell k hlt
          by_cases hxs : x.size ≤ 200
          · have hxI : ¬ (200 : Int) < x.size := by omega
            have HSn := Lib.hid (putsK_snoc hx)
            have HSm := Lib.hid (take_small hx hxs hsm)
            have hpl := (putsK_facts (ks.take k)).2.2
            rw [List.length_take] at hpl
            obtain ⟨ra, rcap, rfl, _, _⟩ := (ownsRow.reads hown).le
            have HPu := Lib.hid (puto_any wr w1.heap.size ra _ rcap _ x hown hbs (by omega))
            have HB := Lib.hid hb
            clear hx hsm hown hb
            generalize putsK (ks.take k) = P at *
            go_wp2_with (go_at_call 30; go_must (refine HPu.out.mono ?_))
            rintro e w2 ⟨v2, bb, rfl, o2, b2⟩
            have HO2 := Lib.hid o2
            have HB2 := Lib.hid (HB.out.trans (b2.mono HB.out.size))
            clear o2 b2
            go_wp2
            exact ⟨⟨k + 1, by go_num, by omega, HSm.out, by rw [HSn.out]; exact HO2.out, HB2.out⟩, by simp [intOf]; omega⟩
          · have hxI : (200 : Int) < x.size := by omega
            have HB := Lib.hid (HB1.out.trans (hb.mono HB1.out.size))
            clear hx hown hb hsm
            go_wp2
            go_ret
            exact ⟨rfl, HB.out⟩
        · obtain rfl : k = ks.length := by omega
          have hkI2 : ¬ ((ks.length : Int) < n) := by omega
          rw [List.take_length] at hown hsm
          obtain ⟨hri, hmem, hpl⟩ := putsK_facts ks
          have hsz : ∀ x ∈ putsK ks, x.size ≤ 200 := fun x hx => hsm x (hmem x hx)
          generalize putsK ks = l at *
          have hrd := ownsRow.reads hown
          obtain ⟨ra, rcap, rfl, hc3, hc4⟩ := hrd.le
          have HRd := Lib.hid hrd
          have HBw := Lib.hid (HB1.out.trans (hb.mono HB1.out.size))
          have HRi := Lib.hid hri
          have HSz := Lib.hid hsz
          clear hown hb hsm hri hmem hsz hrd
          have HSe := Lib.hid (rseek_any wr ra _ rcap l key HRd.out HRi.out (by omega))
          go_wp2_with (go_at_call 31; go_must (refine HSe.out.mono ?_))
          rintro e w2 ⟨rfl, b2⟩
          have HB2 := Lib.hid (HBw.out.trans (b2.mono HBw.out.size))
          have hrd2 := HRd.out.below' b2
          have HRd2 := Lib.hid hrd2
          have hse := seek11_any w2 ra _ rcap l key false hrd2
          rw [sk11_sk] at hse
          have HS11 := Lib.hid hse
          clear b2 hrd2 hse HSe HRd HBw
          obtain ⟨s, ok, hs1, hs2⟩ : ∃ s ok, skV (sk l key) = .tuple #[.string s, .bool ok, .int .i64 0] ∧ sk11V (sk l key) = .tuple #[.string s, .bool ok] := by
            cases sk l key with
            | none => exact ⟨_, _, rfl, rfl⟩
            | some x => exact ⟨_, _, rfl, rfl⟩
          rw [hs1]
          have HS2 := Lib.hid hs2
          clear hs1 hs2
          go_wp2_with (go_at_call 32; go_must (refine HS11.out.mono ?_))
          rintro e w3 ⟨rfl, rfl⟩
          rw [HS2.out]
          clear HS11 HS2
          have HSrc := Lib.hid (face_srcs HRd2.out)
          have ba := (Below.refl w2.heap.size w2).alloc (Nat.le_refl _) (.cells #[.iface 62 (.slice ra l.length rcap)] 85)
          have HBa := Lib.hid (HB2.out.trans (ba.mono HB2.out.size))
          have HRa := Lib.hid (HRd2.out.below' ba)
          clear ba
          have hright : allRight [l] = decide (errOf l = 0) := right_one l
          by_cases he : errOf l = 0
          · obtain ⟨es, hes⟩ : ∃ es, decs l = some es := by
              cases hd : decs l with
              | none => rw [errOf_none hd] at he; cases he
              | some es => exact ⟨es, rfl⟩
            have htd := told_one HRi.out (by omega) (fun k hk => by have := HSz.out k hk; omega) hes
            have hzl : (l.zip es).length ≤ 100 := by rw [List.length_zip]; omega
            have HSc := Lib.hid (iscan_any _ _ 1 _ (l.zip es) ⟨#[]⟩ ⟨#[]⟩ r 0 HSrc.out htd (by omega) (by decide) hr (by omega) (by decide) (by decide))
            rw [decide_eq_true he] at hright
            have HRt := Lib.hid hright
            generalize fin ⟨#[]⟩ 0 r [] (xsuf (l.zip es) (newestB ⟨#[]⟩ 18446744073709551615)) = K at *
            clear htd hright he
            go_wp2_with (go_at_call 28; go_must (refine HSc.out.mono ?_))
            rintro e w4 ⟨v4, rfl, _, b4⟩
            have HB4 := Lib.hid (HBa.out.trans (b4.mono HBa.out.size))
            have hra4 := HRa.out.below' b4
            have hsr := row_srows hra4
            have bb := (Below.refl w4.heap.size w4).alloc (Nat.le_refl _) (.cells #[.slice ra l.length rcap] 26)
            have HB5 := Lib.hid (HB4.out.trans (bb.mono HB4.out.size))
            have hrt := right19_any _ _ 1 [l] hsr (fun m hm k hk => by simp at hm; subst hm; have := HSz.out k hk; omega)
            rw [HRt.out] at hrt
            have HRg := Lib.hid hrt
            clear b4 bb hra4 hsr hrt HSc HBa HRa HB4
            go_wp2_with (go_at_call 33; go_must (refine HRg.out.mono ?_))
            rintro e w6 ⟨rfl, b6⟩
            have HB6 := Lib.hid (HB5.out.trans (b6.mono HB5.out.size))
            clear b6
            go_wp2
            go_ret
            exact ⟨rfl, HB6.out⟩
          · have HSc := Lib.hid (iscanw_any _ _ 1 l r HSrc.out HRi.out (by omega) (fun k hk => by have := HSz.out k hk; omega) hr)
            rw [decide_eq_false he] at hright
            have HRt := Lib.hid hright
            clear hright he
            go_wp2_with (go_at_call 28; go_must (refine HSc.out.mono ?_))
            rintro e w4 ⟨v4, c4, rfl, hc4', b4⟩
            have HB4 := Lib.hid (HBa.out.trans (b4.mono HBa.out.size))
            have hra4 := HRa.out.below' b4
            have hsr := row_srows hra4
            have bb := (Below.refl w4.heap.size w4).alloc (Nat.le_refl _) (.cells #[.slice ra l.length rcap] 26)
            have HB5 := Lib.hid (HB4.out.trans (bb.mono HB4.out.size))
            have hrt := right19_any _ _ 1 [l] hsr (fun m hm k hk => by simp at hm; subst hm; have := HSz.out k hk; omega)
            rw [HRt.out] at hrt
            have HRg := Lib.hid hrt
            clear b4 bb hra4 hsr hrt HSc HBa HRa HB4
            rcases hc4' with rfl | rfl
            all_goals
              go_wp2_with (go_at_call 33; go_must (refine HRg.out.mono ?_))
              rintro e w6 ⟨rfl, b6⟩
              have HB6 := Lib.hid (HB5.out.trans (b6.mono HB5.out.size))
              clear b6
              go_wp2
              go_ret
              exact ⟨rfl, HB6.out⟩
    · have hkI : (200 : Int) < key.size := by omega
      go_wp2
      go_ret
      exact ⟨rfl, HB1.out⟩
  · have hnI : (100 : Int) < n := by omega
    go_wp2
    go_ret
    exact ⟨rfl, HB1.out⟩
end Go.Proofs.Ytekdcjbjjakhcaa


namespace Go.Proofs.Ytekdcjbjjakhcaa
open Go Go.RowKit Go.Deep

/-- What a slice of strings that came in reads as. -/
theorem strs_reads {H : Type} {enc : TypeId × Value → H} {P : Program} {W : World} {base : Nat} {spare : Nat → Bool} {held : Bool} {t e : TypeId} {fuel : Nat} {a : Option Addr} {len cap : Nat} {x : DataW H × List MemPlace}
    (ht : P.underlying t = some (.slice e)) (he : P.underlying e = some .string) (hc : P.cellsOf e = 1) (h : DataW.trod enc P W base spare held fuel t (Value.slice a len cap).cells.toList = some x) :
    ∃ ks, Reads W 1 (.slice a len cap) len (scells ks) := by
  have e0 : (Value.slice a len cap).cells.toList = [.slice a len cap] := rfl
  rw [e0] at h
  rcases open_strs ht he hc h with ⟨hcs, _⟩ | ⟨ad, l, c, m, Sx, hcs, _, hl, hm, hmm, _, hcell⟩
  · simp at hcs
    obtain ⟨rfl, rfl, rfl⟩ := hcs
    exact ⟨[], by simp [scells], none, 0, rfl, Nat.le_refl _, Nat.zero_le _, fun j u h => by simp [scells] at h⟩
  · simp at hcs
    obtain ⟨rfl, rfl, rfl⟩ := hcs
    have hlm : len ≤ m := by rw [hmm]; split <;> omega
    refine ⟨(List.range len).map Sx, by simp [scells], some ad, cap, rfl, hl, hm, fun j u hj => ?_⟩
    obtain ⟨hjl, hju⟩ := List.getElem?_eq_some_iff.1 hj
    simp [scells] at hjl hju
    subst hju
    have hcj := (hcell j (by omega)).1
    obtain ⟨b, off, spot⟩ := ad
    have hspot : spot = none := by
      have h0 := (hcell 0 (by omega)).1
      simpa [Addr.add] using World.cell?_spot h0
    subst hspot
    rw [Addr.add_lit] at hcj
    exact ⟨b, off, rfl, World.block_lt_of_cell? _ _ hcj, hcj⟩
end Go.Proofs.Ytekdcjbjjakhcaa

namespace Go.Proofs.Ytekdcjbjjakhcaa.iterRows
open Go.ChangeShapes Go.WideShapes Go.ChangeAt Go.RowKit Go.Joins
open Go.ChangeMaps (open_string shut_string)

theorem own : ownKnob Try.prog.godebug = none := by kernel_rfl
theorem laidOut : laidOutB Try.prog = true := by kernel_rfl

set_option maxRecDepth 100000 in
theorem lifted (os : Os) (started : os.Started) (H : Type) (enc : TypeId × Value → H) :
    ReturnsInHanded {} Try.checked os 10 .any (Rows.iterRowsSpec.pre6 enc Try.prog Try.f10 Rows.iterRowsRow.domain false) (Rows.iterRowsSpec.post enc Try.prog Try.f10 false true false false) := by
  refine returnsInHanded_of_change (C := Try.checked) own started (by kernel_rfl) Try.func10
    (ChangeSpec.witness6 (enc := enc) (C := Try.checked) false ⟨#[], #[.slice none 0 0, .string .empty, .int .u64 0], []⟩ 8 (by kernel_rfl) (by kernel_rfl) (by kernel_rfl) (by kernel_rfl)) ?_
  intro W base args ds gs before hval0 hW hcnd _
  clear hcnd
  have hval : ∀ (j : Nat) t v, Try.f10.params[j]? = some t → args[j]? = some v → Value.okWide Try.prog W .any base t v := hval0
  have hW' := hW
  obtain ⟨p, q, hA0, hV, rfl, hfz, hnd⟩ := hW
  clear hfz hnd
  have hA : DataW.TrodAll enc Try.prog W 0 (fun _ => true) true Try.f10.params.toList args.toList ds p := hA0
  rw [Try.params10] at hA hval
  obtain ⟨v0, vs0, d0, ds0, p0, q0, hargs, rfl, rfl, h0, r0⟩ := trodAll_cons hA
  obtain ⟨v1, vs1, d1, ds1, p1, q1, rfl, rfl, rfl, h1, r1⟩ := trodAll_cons r0
  obtain ⟨v2, vs2, d2, ds2, p2, q2, rfl, rfl, rfl, h2, r2⟩ := trodAll_cons r1
  obtain ⟨rfl, rfl, rfl⟩ := trodAll_nil r2
  obtain rfl : args = #[v0, v1, v2] := by cases args; simp_all
  obtain ⟨rfl, rfl⟩ := trodVars_none hV
  have k0 := h0
  have lt0 : ∀ x ∈ p0, x.block < W.heap.size := by obtain ⟨m, hm⟩ := k0; exact DataW.trod_lt m _ _ _ hm
  have k1 := h1
  have lt1 : ∀ x ∈ p1, x.block < W.heap.size := by obtain ⟨m, hm⟩ := k1; exact DataW.trod_lt m _ _ _ hm
  have k2 := h2
  have lt2 : ∀ x ∈ p2, x.block < W.heap.size := by obtain ⟨m, hm⟩ := k2; exact DataW.trod_lt m _ _ _ hm
  clear hA0 hval0
  obtain ⟨a0, len0, cap0, rfl⟩ := okWide_slice Try.underlying26 (hval 0 26 v0 rfl rfl)
  obtain ⟨ks0, rd0⟩ : ∃ ks, Reads W 1 (.slice a0 len0 cap0) len0 (scells ks) := by
    obtain ⟨fuel, hf⟩ := h0
    exact strs_reads Try.underlying26 Try.underlying9 (by kernel_rfl) hf
  obtain ⟨s1, rfl, rfl, rfl, hs1⟩ := open_string Try.underlying9 (hval 1 9 v1 rfl rfl) h1
  obtain ⟨n2, rfl, rfl, rfl, w2⟩ := open_int Try.underlying23 (hval 2 23 v2 rfl rfl) h2
  have bd2 : 0 ≤ n2 ∧ n2 ≤ 18446744073709551615 := by simpa [Lit.wf, IntKind.min, IntKind.max, IntKind.signed, IntKind.bits] using w2
  obtain ⟨m2, rfl⟩ := Int.eq_ofNat_of_zero_le bd2.1
  refine (iterRows_walk W a0 len0 cap0 ks0 s1 m2 rd0 (by omega)).mono fun e W' ⟨he, bel⟩ => ?_
  subst he
  exact ⟨_, rfl, _, _, _, [], _, [], hW', trodAll_mk1 (shut_bool Try.underlying4 _), (trodAll_cons_mk (Below.trod laidOut (by kernel_rfl) (of_decide_eq_true (by kernel_rfl)) k0 bel lt0) (trodAll_cons_mk (Below.trod laidOut (by kernel_rfl) (of_decide_eq_true (by kernel_rfl)) k1 bel lt1) (trodAll_cons_mk (Below.trod laidOut (by kernel_rfl) (of_decide_eq_true (by kernel_rfl)) k2 bel lt2) trodAll_mk0))), rfl, bel.frame _, fun h => by cases h⟩

theorem over : Rows.iterRowsRow.holds Try.pinned (OpenSpec.ofChange Rows.iterRowsSpec) :=
  OpenClaim.holds_of_wide 10 Try.f10 rfl rfl rfl rfl rfl rfl rfl ⟨rfl, rfl, rfl, rfl, rfl⟩ rfl rfl rfl rfl rfl (by kernel_rfl) Try.func10 (by kernel_rfl)
    (of_decide_eq_true (by kernel_rfl)) (by unfold Func.isWrapper; first | (rw [if_pos (by decide +kernel)]; kernel_rfl) | (rw [if_neg (by decide +kernel)]; exact ⟨rfl, rfl⟩))
    (fun os started H enc _ => lifted os started H enc)

theorem proved : Rows.IterRowsSaid := over
end Go.Proofs.Ytekdcjbjjakhcaa.iterRows
