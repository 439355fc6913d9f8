import Derived.Test.YtionejpiieemeaaQuotaActs
namespace Go.Proofs.Ytionejpiieemeaa
open Go Go.RowKit

def nameA : ByteArray := ⟨#[97]⟩

theorem has_tick (S : QS) (c : ByteArray) {t : Nat} (h : S.ok) (ht : S.last ≤ t) : (S.tick t).has c ≤ S.has c + (t - S.last) * S.rate := by
  obtain ⟨_, _, _, h4⟩ := h
  have e1 : (S.tick t).has c = match S.g c with | none => S.most | some p => min S.most (p.1 + (max S.last t - p.2) * S.rate) := rfl
  have e2 : S.has c = match S.g c with | none => S.most | some p => min S.most (p.1 + (S.last - p.2) * S.rate) := rfl
  rw [e1, e2]
  cases hg : S.g c with
  | none => exact Nat.le_add_right _ _
  | some p =>
    have := (h4 c p.1 p.2 hg).2
    have hm : max S.last t - p.2 = (t - S.last) + (S.last - p.2) := by omega
    simp only
    rw [hm, Nat.add_mul]
    omega

theorem has_set (S : QS) (c : ByteArray) {x : Nat} (hx : x ≤ S.most) : (S.set c x).has c = x := by
  have e1 : (S.set c x).has c = match (if c = c then some (x, S.last) else S.g c) with | none => S.most | some p => min S.most (p.1 + (S.last - p.2) * S.rate) := rfl
  rw [e1, if_pos rfl]
  simp only [Nat.sub_self, Nat.zero_mul, Nat.add_zero]
  omega

theorem has_none {S : QS} {c : ByteArray} (h : S.g c = none) (t : Nat) : (S.tick t).has c = S.most := by
  have e1 : (S.tick t).has c = match S.g c with | none => S.most | some p => min S.most (p.1 + (max S.last t - p.2) * S.rate) := rfl
  rw [e1, h]

/-- What is known of a quota from whose one client so much was taken since a tick. -/
structure Bnd (rate most k ta fi no : Nat) (S : QS) : Prop where
  ok : S.ok
  hrate : S.rate = rate
  hmost : S.most = most
  last : S.last = no
  fino : fi ≤ no
  now : no ≤ k * 1000
  tak : ta ≤ k * 100000
  first : k = 0 → ta = 0 ∧ S.g nameA = none
  sum : ta + S.has nameA ≤ most + rate * (no - fi)

def stepTa (S : QS) (ta n t : Nat) : Nat := if S.gives nameA n t then ta + n else ta

theorem Bnd.step {rate most k ta fi no : Nat} {S : QS} (h : Bnd rate most k ta fi no S) {n d : Nat} (hn : n < 100000) (hd : d < 1000) (hk : k ≤ 80) :
    Bnd rate most (k + 1) (stepTa S ta n (no + d)) (if k = 0 then no + d else fi) (no + d) (S.take nameA n (no + d)) := by
  have hn64 : no + d ≤ 18446744073709551615 := by have := h.now; omega
  have hle := (S.tick (no + d)).left_le nameA n
  have hhas : (S.take nameA n (no + d)).has nameA = (S.tick (no + d)).left nameA n := has_set _ _ hle
  have hsum : stepTa S ta n (no + d) + (S.tick (no + d)).left nameA n = ta + (S.tick (no + d)).has nameA := by
    unfold stepTa QS.gives QS.left
    generalize (S.tick (no + d)).has nameA = z
    clear hn64 hle hhas h hn hd hk
    by_cases hx : n ≤ z
    · rw [decide_eq_true hx, if_pos rfl, if_pos hx]; omega
    · rw [decide_eq_false hx, if_neg hx]; rfl
  have hlast : S.last ≤ no + d := by rw [h.last]; omega
  refine ⟨QS.take_ok h.ok _ _ hn64, h.hrate, h.hmost, ?_, ?_, ?_, ?_, fun e => by omega, ?_⟩
  · show max S.last (no + d) = no + d
    omega
  · have := h.fino; split <;> omega
  · have := h.now; omega
  · have := h.tak
    unfold stepTa
    clear hn64 hle hhas hsum hlast
    generalize S.gives nameA n (no + d) = gv
    cases gv
    · rw [if_neg (by decide)]
      exact Nat.le_trans this (Nat.mul_le_mul_right _ (Nat.le_succ k))
    · rw [if_pos rfl, Nat.succ_mul]
      exact Nat.add_le_add this (Nat.le_of_lt hn)
  · rw [hhas, hsum]
    by_cases hk0 : k = 0
    · obtain ⟨h1, h2⟩ := h.first hk0
      rw [has_none h2, if_pos hk0, h1, h.hmost]
      omega
    · rw [if_neg hk0]
      have ht := has_tick S nameA h.ok hlast
      rw [h.last, h.hrate] at ht
      have hs := h.sum
      have hf := h.fino
      have e : no + d - fi = (no - fi) + d := by omega
      have e2 : no + d - no = d := by omega
      rw [e2] at ht
      rw [e, Nat.mul_add, Nat.mul_comm rate d]
      omega

def BoundRel (w : World) (rate most b m : Nat) (l : List QAct) (t8 t9 t10 i : Value) (wr : World) : Prop :=
  ∃ (k ta fi no : Nat) (S : QS), i = .int .i64 (k : Int) ∧ t8 = .int .u64 (ta : Int) ∧ t9 = .int .u64 (fi : Int) ∧ t10 = .int .u64 (no : Int) ∧ k ≤ l.length ∧
    Bnd rate most k ta fi no S ∧ QAt wr b m S k ∧ Below w.heap.size w wr

set_option maxRecDepth 100000 in
set_option maxHeartbeats 1000000 in
theorem quotaBounds_walk (w : World) (rate most : Nat) (a : Option Addr) (len cap : Nat) (l : List QAct) (h : ActsAt w a len l) (hl : len ≤ 9223372036854775807) (hr : rate ≤ 65535) (hm : most ≤ 65535) :
    Calls Try.prog 4 #[.int .u16 (rate : Int), .int .u16 (most : Int), .slice a len cap] w (SaysTrue w) := by
  have hfew := fun w' (hb : Below w.heap.size w w') => few_any w' a len cap l (h.touch hb) hl
  have hlen := h.1
  have hfl : fewB l = true → len ≤ 80 := by
    intro hf
    unfold fewB at hf
    simp only [Bool.and_eq_true, decide_eq_true_eq] at hf
    omega
  have HF := Lib.hid hfew
  have HA := Lib.hid h
  have HL := Lib.hid hlen
  have HX := Lib.hid hfl
  clear hfew h hlen hfl
  generalize fewB l = fw at *
  go_enter Try.func4, Try.ntmps4
  go_wp2_with (go_at_call 7; go_must (refine (fixed_any _).mono ?_))
  rintro e w1 ⟨rfl, b1⟩
  have B1 := Lib.hid b1
  clear b1
  go_wp2_with (go_at_call 8; go_must (refine (HF.out _ B1.out).mono ?_))
  rintro e w2 ⟨rfl, b2⟩
  have B2 := Lib.hid (B1.out.trans (b2.mono B1.out.size))
  clear b2 B1 HF
  cases fw with
  | false =>
    go_wp2
    go_ret
    exact ⟨rfl, B2.out⟩
  | true =>
    have h80 : len ≤ 80 := HX.out rfl
    clear HX hl
    go_wp2_with (go_at_call 9; go_must (refine (new_any _ rate most).mono ?_))
    rintro e w3 ⟨b, m, rfl, hb, hmm, q3, b3⟩
    have hbnd : Bnd rate most 0 0 0 0 (QS.new rate most) := by
      refine ⟨QS.new_ok _ _, ?_, ?_, rfl, Nat.le_refl _, Nat.zero_le _, Nat.zero_le _, fun _ => ⟨rfl, rfl⟩, ?_⟩
      · show min rate 4294967296 = rate
        omega
      · show min most 4294967296 = most
        omega
      · show 0 + min most 4294967296 ≤ _
        omega
    have hbw : w.heap.size ≤ b := Nat.le_trans B2.out.size hb
    have hmw : w.heap.size ≤ m := Nat.le_trans B2.out.size hmm
    have Q3 := Lib.hid q3
    have B3 := Lib.hid (B2.out.trans (b3.mono B2.out.size))
    have HB := Lib.hid hbnd
    clear q3 b3 hbnd B2 hb hmm
    go_wp2
    go_loopw [8, 9, 10, 27] (fun t8 t9 t10 i wr => BoundRel w rate most b m l t8 t9 t10 i wr) (fun _ _ _ i _ => len - (intOf i).toNat)
    case atStart => exact ⟨0, 0, 0, 0, _, rfl, rfl, rfl, rfl, Nat.zero_le _, HB.out, Q3.out, B3.out⟩
    case round =>
      obtain ⟨k, ta, fi, no, S, rfl, rfl, rfl, rfl, hk, hbd, hq, hbl⟩ := hrel
      rw [HL.out] at hk
      clear HB Q3 B3
      have HBd := Lib.hid hbd
      have HQ := Lib.hid hq
      have HBl := Lib.hid hbl
      clear hbd hq hbl
      by_cases hlt : k < len
      · have hx : l[k]? = some (l[k]'(by rw [HL.out]; exact hlt)) := List.getElem?_eq_getElem _
        generalize l[k]'(by rw [HL.out]; exact hlt) = x at hx
        obtain ⟨hf, g, off, rfl, hg, hc⟩ := (HA.out.touch HBl.out).2 k x hx
        obtain ⟨q, c, n0, t0⟩ := x
        have c0 : wr.cell? ⟨g, off + k * 4, none⟩ = some (.bool q) := hc 0 (by decide)
        have c1 : wr.cell? ⟨g, off + k * 4 + 1, none⟩ = some (.string c) := hc 1 (by decide)
        have c2 : wr.cell? ⟨g, off + k * 4 + 2, none⟩ = some (.int .u64 (n0 : Int)) := hc 2 (by decide)
        have c3 : wr.cell? ⟨g, off + k * 4 + 3, none⟩ = some (.int .u64 (t0 : Int)) := hc 3 (by decide)
        obtain ⟨_, hn0, ht0⟩ := hf
        simp only at hn0 ht0
        clear hx hc
        have hk80 : k < 80 := by omega
        have hno := HBd.out.now
        have hta := HBd.out.tak
        have hfi := HBd.out.fino
        have hstep := HBd.out.step (n := n0 % 100000) (d := t0 % 1000) (Nat.mod_lt _ (by decide)) (Nat.mod_lt _ (by decide)) (by omega)
        have hd1 : t0 % 1000 < 1000 := Nat.mod_lt _ (by decide)
        have hn1 : n0 % 100000 < 100000 := Nat.mod_lt _ (by decide)
        have HSt := Lib.hid hstep
        clear hstep
        have htk : ∀ W, QAt W b m S k → Calls Try.prog 13 #[.pointer (some ⟨b, 0, none⟩), .string ⟨#[97]⟩, .int .u64 ((n0 % 100000 : Nat) : Int), .int .u64 ((no + t0 % 1000 : Nat) : Int)] W
            (GivesQ W b m (S.take nameA (n0 % 100000) (no + t0 % 1000)) (k + 1) [b, m] (.bool (S.gives nameA (n0 % 100000) (no + t0 % 1000)))) :=
          fun W hq => take_walk W b m k _ _ S nameA hq HBd.out.ok pa (by omega) (by omega) (by unfold maxLen; omega)
        have e1 : (no : Int) + (t0 : Int) % 1000 = ((no + t0 % 1000 : Nat) : Int) := by omega
        have e2 : (n0 : Int) % 100000 = ((n0 % 100000 : Nat) : Int) := by omega
        have hst2 : ∀ t, stepTa S ta (n0 % 100000) t = if S.gives nameA (n0 % 100000) t then ta + n0 % 100000 else ta := fun _ => rfl
        generalize hnn : no + t0 % 1000 = nn at *
        generalize n0 % 100000 = nq at *
        have hnn2 : nn ≤ 81000 := by omega
        have hfn : fi ≤ nn := by omega
        clear hn0 ht0
        have HT := Lib.hid htk
        have HSt2 := Lib.hid hst2
        have hP : (rate : Int) * ((nn : Int) - (fi : Int)) = ((rate * (nn - fi) : Nat) : Int) := by
          rw [Int.natCast_mul]; congr 1; omega
        have hPle : rate * (nn - fi) ≤ 65535 * 81000 := Nat.mul_le_mul hr (by omega)
        have hPle' : rate * (nn - fi) ≤ 6000000000 := Nat.le_trans hPle (by decide)
        clear hPle
        have hsum := HSt.out.sum
        generalize hPP : rate * (nn - fi) = P at *
        have HPP := Lib.hid hPP
        clear hPP
        have HPle := Lib.hid hPle'
        have hP0 : (P : Int) ≤ 6000000000 := by omega
        clear hPle'
        rw [HSt2.out] at hsum
        clear htk hst2 hnn hd1
        have hq1 := HQ.out.touch ((Touch.refl wr []).alloc (.cells #[.bool q, .string c, .int .u64 (n0 : Int), .int .u64 (t0 : Int)] 31)) (by simp) (by simp)
        have hb1 := HBl.out.alloc HBl.out.size (.cells #[.bool q, .string c, .int .u64 (n0 : Int), .int .u64 (t0 : Int)] 31)
        have HQ1 := Lib.hid hq1
        have HB1 := Lib.hid hb1
        have hta' : ta ≤ 8000000 := by omega
        have hk64 : (k : Int) ≤ 80 := by omega
        clear hno hta hfi
        by_cases hk0 : k = 0
        · have hz : ((k : Int) == 0) = true := by simp [hk0]
          rw [if_pos hk0, Nat.sub_self, Nat.mul_zero] at hsum
          have HK0 := Lib.hid hk0
          clear hk0 hP hP0 HPle hfn
          cases hg : S.gives nameA nq nn with
          | true =>
            rw [hg, if_pos rfl] at hsum
            have hA : ta + nq ≤ most := by omega
            rw [hg] at HT
            have HG := Lib.hid hg
            clear hsum hg
            go_wp2_with (go_at_call 13; go_must (refine (HT.out _ HQ1.out).mono ?_))
            rintro e w5 ⟨rfl, q5, t5⟩
            have Q5 := Lib.hid q5
            have B5 := Lib.hid (HB1.out.trans (t5.below HB1.out.size (by simp [hbw, hmw])))
            clear q5 t5
            go_wp2
            refine ⟨⟨k + 1, ta + nq, nn, nn, _, by go_num, by go_num, rfl, rfl, by rw [HL.out]; omega, ?_, Q5.out, B5.out⟩, by simp [intOf]; omega⟩
            have hst := HSt.out
            rw [HSt2.out, HG.out, if_pos rfl, if_pos HK0.out] at hst
            exact hst
          | false =>
            rw [hg, if_neg (by decide)] at hsum
            have hA : ta ≤ most := by omega
            rw [hg] at HT
            have HG := Lib.hid hg
            clear hsum hg
            go_wp2_with (go_at_call 13; go_must (refine (HT.out _ HQ1.out).mono ?_))
            rintro e w5 ⟨rfl, q5, t5⟩
            have Q5 := Lib.hid q5
            have B5 := Lib.hid (HB1.out.trans (t5.below HB1.out.size (by simp [hbw, hmw])))
            clear q5 t5
            go_wp2
            refine ⟨⟨k + 1, ta, nn, nn, _, by go_num, rfl, rfl, rfl, by rw [HL.out]; omega, ?_, Q5.out, B5.out⟩, by simp [intOf]; omega⟩
            have hst := HSt.out
            rw [HSt2.out, HG.out, if_neg (by decide), if_pos HK0.out] at hst
            exact hst
        · have hz : ((k : Int) == 0) = false := by simp [hk0]
          rw [if_neg hk0, HPP.out] at hsum
          have HK0 := Lib.hid hk0
          clear hk0
          cases hg : S.gives nameA nq nn with
          | true =>
            rw [hg, if_pos rfl] at hsum
            have hA : ta + nq ≤ most + P := by omega
            rw [hg] at HT
            have HG := Lib.hid hg
            clear hsum hg
            go_wp2_with (go_at_call 13; go_must (refine (HT.out _ HQ1.out).mono ?_))
            rintro e w5 ⟨rfl, q5, t5⟩
            have Q5 := Lib.hid q5
            have B5 := Lib.hid (HB1.out.trans (t5.below HB1.out.size (by simp [hbw, hmw])))
            clear q5 t5
            go_wp2
            refine ⟨⟨k + 1, ta + nq, fi, nn, _, by go_num, by go_num, rfl, rfl, by rw [HL.out]; omega, ?_, Q5.out, B5.out⟩, by simp [intOf]; omega⟩
            have hst := HSt.out
            rw [HSt2.out, HG.out, if_pos rfl, if_neg HK0.out] at hst
            exact hst
          | false =>
            rw [hg, if_neg (by decide)] at hsum
            have hA : ta ≤ most + P := by omega
            rw [hg] at HT
            have HG := Lib.hid hg
            clear hsum hg
            go_wp2_with (go_at_call 13; go_must (refine (HT.out _ HQ1.out).mono ?_))
            rintro e w5 ⟨rfl, q5, t5⟩
            have Q5 := Lib.hid q5
            have B5 := Lib.hid (HB1.out.trans (t5.below HB1.out.size (by simp [hbw, hmw])))
            clear q5 t5
            go_wp2
            refine ⟨⟨k + 1, ta, fi, nn, _, by go_num, rfl, rfl, rfl, by rw [HL.out]; omega, ?_, Q5.out, B5.out⟩, by simp [intOf]; omega⟩
            have hst := HSt.out
            rw [HSt2.out, HG.out, if_neg (by decide), if_neg HK0.out] at hst
            exact hst
      · obtain rfl : k = len := by omega
        clear hlt hk
        go_wp2
        go_ret
        exact ⟨rfl, HBl.out⟩
end Go.Proofs.Ytionejpiieemeaa
