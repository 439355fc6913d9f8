/- What the proof stands on, part 13. -/
import Derived.Test.YtfhdonidgegebaaDoorMg12
/- A table that was built tells what it was built of. -/
namespace Go.Proofs.YtfhdonidgegebaaDoor
open Go Go.RowKit

theorem indexL_len {sp : List Span} (h : SmallS sp) (hl : sp.length ≤ 1000) : (indexL sp).length ≤ 61000000 := by
  have := encTo_length h (by omega) sp.length
  rw [encTo_all] at this
  omega

/-- What a built table is, opened. -/
def builtT (bs : List (List ByteArray)) (stems : List ByteArray) (n : Nat) (bits : Int) : Tab := ⟨spansF 0 bs, dataL bs, makeL (stems.map fun k => k.data.toList) bits, (n : Int)⟩

theorem dec_index {bs : List (List ByteArray)} (h0 : bs ≠ []) (hup : upF none bs) (hsm : SmallS (spansF 0 bs)) (hd : (dataL bs).length < 4611686018427387904) (hl : bs.length ≤ 1000) : decL (indexL (spansF 0 bs)) (dataL bs).length = some (spansF 0 bs) := by
  have hn : (spansF 0 bs).length = bs.length := spansF_length bs 0
  unfold decL
  have hg : getGo 0 0 (indexL (spansF 0 bs)) = (bs.length, (enc bs.length).length, 0) := by
    unfold indexL
    rw [hn]
    exact getGo_enc (by omega) _
  rw [hg]
  simp only
  rw [if_pos trivial]
  have hdr : (indexL (spansF 0 bs)).drop (enc bs.length).length = (spansF 0 bs).flatMap encS := by
    unfold indexL
    rw [hn]
    exact List.drop_left
  rw [hdr]
  have hlen : ((spansF 0 bs).flatMap encS).length < (indexL (spansF 0 bs)).length + 1 := by
    unfold indexL
    rw [List.length_append]
    omega
  have := decG_spans (dataL bs).length bs 0 ((indexL (spansF 0 bs)).length + 1) [] (by omega) hd hsm (by unfold lastO; rw [if_pos rfl]; exact hup) (by
    rw [List.nil_append]
    intro e
    rw [e] at hn
    exact h0 (List.eq_nil_of_length_eq_zero hn.symm)) hlen
  rw [this, List.nil_append]

theorem open_tab {bs : List (List ByteArray)} {stems : List ByteArray} {n : Nat} {bits : Int} (h0 : bs ≠ []) (hup : upF none bs) (hsm : SmallS (spansF 0 bs)) (hd : (dataL bs).length ≤ 100000000) (hl : bs.length ≤ 1000) (hst : stems.length ≤ 1000) (hn : n ≤ 1000) :
    openL (tabL bs stems n bits) = .ok (builtT bs stems n bits) := by
  have hdec := dec_index h0 hup hsm (by omega) hl
  have hil := indexL_len hsm (by rw [spansF_length]; exact hl)
  have hml := makeL_length (stems.map fun k => k.data.toList) bits
  have hsz := sizeOf'_le (stems.map fun k => k.data.toList).length bits
  rw [List.length_map] at hml hsz
  unfold tabL builtT
  obtain ⟨D, hD⟩ : ∃ D, dataL bs = D := ⟨_, rfl⟩
  obtain ⟨I, hI⟩ : ∃ I, indexL (spansF 0 bs) = I := ⟨_, rfl⟩
  obtain ⟨mk, hmk⟩ : ∃ mk, makeL (stems.map fun k => k.data.toList) bits = mk := ⟨_, rfl⟩
  obtain ⟨sp, hsp⟩ : ∃ sp, spansF 0 bs = sp := ⟨_, rfl⟩
  rw [hD, hI, hmk, hsp]
  rw [hD, hI, hsp] at hdec
  rw [hD] at hd
  rw [hI] at hil
  rw [hmk] at hml
  clear hD hI hmk hsp hup hsm h0
  have hIl := sealL_length I
  have hMl := sealL_length mk
  have hnx := next_seal (l := I) (by omega) []
  have hnm := next_seal (l := mk) (by omega) []
  rw [List.append_nil] at hnx hnm
  have hf1 := fills_seal (l := I) (by omega)
  have hf2 := fills_seal (l := mk) (by omega)
  have hid := seal_drop I
  obtain ⟨X, hX⟩ : ∃ X, sealL I = X := ⟨_, rfl⟩
  obtain ⟨M, hM⟩ : ∃ M, sealL mk = M := ⟨_, rfl⟩
  rw [hX] at hIl hnx hf1 hid ⊢
  rw [hM] at hMl hnm hf2 ⊢
  obtain ⟨F, hF⟩ : ∃ F, footL [D.length, D.length + X.length, n] = F := ⟨_, rfl⟩
  have hfl := foot_length D.length (D.length + X.length) n
  obtain ⟨n0, n1, n2⟩ := num8_foot (a := D.length) (b := D.length + X.length) (c := n) (by omega) (by omega) (by omega)
  have hmark : F.drop 24 = [116, 98, 108, 49] := by
    rw [← hF]
    unfold footL
    exact List.drop_left' (by rw [flat8_length]; rfl)
  rw [hF] at hfl n0 n1 n2 ⊢
  have hlen : (D ++ X ++ M ++ F).length = D.length + X.length + M.length + 28 := by simp only [List.length_append, hfl]
  have e28 : (D ++ X ++ M ++ F).length - 28 = D.length + X.length + M.length := by omega
  have hdr : (D ++ X ++ M ++ F).drop (D.length + X.length + M.length) = F := List.drop_left' (by simp only [List.length_append])
  have e4 : (D ++ X ++ M ++ F).drop ((D ++ X ++ M ++ F).length - 4) = [116, 98, 108, 49] := by
    rw [show (D ++ X ++ M ++ F).length - 4 = (D.length + X.length + M.length) + 24 by omega, ← List.drop_drop, hdr, hmark]
  have m1 : mid (D ++ X ++ M ++ F) D.length (D.length + X.length) = X := by
    rw [show D ++ X ++ M ++ F = D ++ (X ++ (M ++ F)) by simp only [List.append_assoc]]
    exact mid_at D X (M ++ F)
  have m2 : mid (D ++ X ++ M ++ F) (D.length + X.length) (D.length + X.length + M.length) = M := by
    have := mid_at (D ++ X) M F
    rw [List.length_append] at this
    rw [show D ++ X ++ M ++ F = D ++ X ++ (M ++ F) by simp only [List.append_assoc]]
    exact this
  have m3 : mid (D ++ X ++ M ++ F) (D.length + 8) (D.length + X.length) = I := by
    rw [show D ++ X ++ M ++ F = D ++ (X ++ (M ++ F)) by simp only [List.append_assoc], mid_in D X (M ++ F) 8 (by omega)]
    exact hid
  have ht : (D ++ X ++ M ++ F).take D.length = D := by
    rw [show D ++ X ++ M ++ F = D ++ (X ++ (M ++ F)) by simp only [List.append_assoc]]
    exact List.take_left
  unfold openL
  rw [if_neg (by omega), e4, if_neg (by simp), e28, hdr, n0, n1, n2, if_neg (by omega), m1, m2, hf1, hf2, if_neg (by simp), m3, hdec]
  simp only
  rw [hnx, hnm, ht]
  simp only
  rw [if_neg (by simp), if_neg (by simp)]
  congr 2
  rw [IntKind.wrap_i64]
  omega

/-- A built table's block. -/
theorem blk_built {bs : List (List ByteArray)} {stems : List ByteArray} {n : Nat} {bits : Int} (hs : ∀ b ∈ bs, b.length ≤ 1000 ∧ (∀ x ∈ b, x.size ≤ 60000) ∧ rises b ∧ b ≠ []) {i : Int} {r : Except Nat (List ByteArray)} (h : BlkIs (builtT bs stems n bits) i r) :
    (∃ k b, i = (k : Nat) ∧ bs[k]? = some b ∧ r = .ok b) ∨ ((i < 0 ∨ (bs.length : Int) ≤ i) ∧ r = .error 1) := by
  have hat : ∀ (k : Nat) (s : Span), (builtT bs stems n bits).sp[k]? = some s → ∃ b, bs[k]? = some b ∧ frameOf (builtT bs stems n bits) s = sealL (buildL b) ∧ s.len = (sealL (buildL b)).length := fun k s hk => by
    have hkl : k < bs.length := by
      have := (List.getElem?_eq_some_iff.1 hk).1
      rwa [show (builtT bs stems n bits).sp = spansF 0 bs from rfl, spansF_length] at this
    have hb : bs[k]? = some bs[k] := List.getElem?_eq_getElem hkl
    have hsp := spansF_at bs 0 k _ hb
    rw [show (builtT bs stems n bits).sp = spansF 0 bs from rfl, hsp] at hk
    cases hk
    refine ⟨_, hb, ?_, rfl⟩
    show mid (dataL bs) (0 + (dataL (bs.take k)).length) (0 + (dataL (bs.take k)).length + (sealL (buildL bs[k])).length) = _
    rw [Nat.zero_add]
    have hsplit : dataL bs = dataL (bs.take k) ++ (sealL (buildL bs[k]) ++ dataL (bs.drop (k + 1))) := by
      rw [← dataL_cons, ← List.drop_eq_getElem_cons hkl]
      unfold dataL
      rw [← List.flatMap_append, List.take_append_drop]
    conv => lhs; rw [hsplit]
    exact mid_at _ _ _
  have hgood : ∀ b ∈ bs, (nextL (sealL (buildL b))).1 = 0 ∧ (nextL (sealL (buildL b))).2 = buildL b ∧ nextN (sealL (buildL b)) = (sealL (buildL b)).length ∧ ∃ d p, partsL (buildL b) = some (d, p) ∧ keysL d = some b := fun b hb => by
    obtain ⟨h1, h2, _, h4⟩ := hs b hb
    have hsmall := seal_small h2 (List.length_pos_iff.2 h4)
    rw [sealL_length] at hsmall
    have k1 := next_seal (l := buildL b) (by omega) []
    have k2 := nextN_seal (l := buildL b) (by omega) []
    rw [List.append_nil] at k1 k2
    rw [k1, k2, sealL_length]
    exact ⟨rfl, rfl, rfl, _, _, parts_build (by omega), keys_build h2⟩
  cases r with
  | error c =>
    rcases h with ⟨rfl, h⟩ | ⟨_, k, s, rfl, hk, hbad⟩
    · right
      rw [show (builtT bs stems n bits).sp = spansF 0 bs from rfl, spansF_length] at h
      exact ⟨h, rfl⟩
    · exfalso
      obtain ⟨b, hb, hfr, hlen⟩ := hat k s hk
      have hbm := List.mem_of_getElem? hb
      obtain ⟨k1, k2, k3, d, p, k4, k5⟩ := hgood b hbm
      rw [hfr, k1, k2, k3, hlen] at hbad
      rcases hbad with h | h | h
      · exact h rfl
      · exact h rfl
      · exact h d p b k4 k5 ⟨(hs b hbm).2.2.1, rfl⟩
  | ok ks =>
    obtain ⟨k, s, rfl, hk, _, _, hks⟩ := h
    obtain ⟨b, hb, hfr, hlen⟩ := hat k s hk
    have hbm := List.mem_of_getElem? hb
    obtain ⟨k1, k2, k3, d, p, k4, k5⟩ := hgood b hbm
    rw [hfr, k2] at hks
    obtain ⟨d', p', j1, j2, _, _⟩ := hks
    rw [k4] at j1
    cases j1
    rw [k5] at j2
    cases j2
    exact .inl ⟨k, _, rfl, hb, rfl⟩
end Go.Proofs.YtfhdonidgegebaaDoor

/- sentryref11.Seek. -/
namespace Go.Proofs.YtfhdonidgegebaaDoor
open Go Go.RowKit

def sk11 (l : List ByteArray) (key : ByteArray) (after : Bool) : Option ByteArray := l.find? fun x => bl key x || (decide (x = key) && !after)

def sk11V : Option ByteArray → Value
  | none => .tuple #[.string ⟨#[]⟩, .bool false]
  | some x => .tuple #[.string x, .bool true]

def Seek11Rel (l : List ByteArray) (key : ByteArray) (after : Bool) (v : Value) : Prop := ∃ k : Nat, v = .int .i64 (k : Int) ∧ k ≤ l.length ∧ sk11 l key after = sk11 (l.drop k) key after

theorem sk11_step {l : List ByteArray} {key : ByteArray} {after : Bool} {k : Nat} {x : ByteArray} (h : l[k]? = some x) : sk11 (l.drop k) key after = if bl key x || (decide (x = key) && !after) then some x else sk11 (l.drop (k + 1)) key after := by
  have e : l.drop k = x :: l.drop (k + 1) := by
    have hk := (List.getElem?_eq_some_iff.1 h).1
    rw [List.drop_eq_getElem_cons hk]
    rw [List.getElem?_eq_getElem hk] at h
    cases h
    rfl
  unfold sk11
  rw [e, List.find?_cons]
  split
  · rename_i hp; rw [hp]; rfl
  · rename_i hp; rw [hp]; rfl

def Sk11Post (w : World) (o : Option ByteArray) (e : Ending) (w' : World) : Prop := e = .returned (sk11V o) ∧ w = w'

set_option maxRecDepth 100000 in
set_option maxHeartbeats 2000000 in
theorem seek11_any (w : World) (a : Option Addr) (n cap : Nat) (l : List ByteArray) (key : ByteArray) (after : Bool) (h : Reads w 1 (.slice a n cap) n (scells l)) :
    Calls Tryd.prog 19 #[.slice a n cap, .string key, .bool after] w (Sk11Post w (sk11 l key after)) := by
  have hll : l.length = n := by have := h.1; rw [scells_length] at this; omega
  have HR := Lib.hid h
  have HLL := Lib.hid hll
  obtain ⟨_, _, hv, hc1, hc2⟩ := h.le
  cases hv
  unfold maxLen at hc2
  clear h hll
  go_enter Tryd.func19, Tryd.ntmps19
  go_wp2
  go_loop [12] (fun v => Seek11Rel l key after v) (fun v => n - (intOf v).toNat)
  case atStart => exact ⟨0, rfl, Nat.zero_le _, rfl⟩
  case round =>
    obtain ⟨k, rfl, hk, hsk⟩ := hrel
    rw [HLL.out] at hk
    by_cases hlt : k < n
    · have hkI : (k : Int) < n := by omega
      obtain ⟨b, off, x, rfl, hx, hb, hc⟩ := HR.out.scell k hlt
      have hst := sk11_step (key := key) (after := after) hx
      have e1 := bl_spell x key
      have e2 := bl_spell key x
      have e3 := str_eq x key
      clear hx
      rcases bl_cases x key with ⟨k1, k2, k3⟩ | ⟨k1, k2, k3⟩ | ⟨k1, k2, k3⟩
      · rw [k1] at e1
        rw [k2, decide_eq_false k3] at hst
        rw [k2] at e2
        rw [decide_eq_false k3] at e3
        rw [hst] at hsk
        have HSk := Lib.hid hsk
        clear hst hsk k1 k2 k3
        go_wp2
        exact ⟨⟨k + 1, by go_num, by rw [HLL.out]; omega, by rw [HSk.out]; cases after <;> rfl⟩, by simp [intOf]; omega⟩
      · rw [k1] at e1
        rw [k2, decide_eq_true k3] at hst
        rw [k2] at e2
        rw [decide_eq_true k3] at e3
        cases after with
        | true =>
          rw [hst] at hsk
          have HSk := Lib.hid hsk
          clear hst hsk k1 k2 k3
          go_wp2
          exact ⟨⟨k + 1, by go_num, by rw [HLL.out]; omega, by rw [HSk.out]; rfl⟩, by simp [intOf]; omega⟩
        | false =>
          rw [hst] at hsk
          have HSk := Lib.hid hsk
          clear hst hsk k1 k2 k3
          go_wp2
          refine bodyPost_ret (v := .tuple #[.string x, .bool true]) (by simp [results, Tryd.results19, go_sem]) rfl ?_
          exact ⟨by rw [HSk.out]; rfl, rfl⟩
      · rw [k1] at e1
        rw [k2] at hst e2
        rw [decide_eq_false k3] at e3
        rw [hst] at hsk
        have HSk := Lib.hid hsk
        clear hst hsk k1 k2 k3
        go_wp2
        refine bodyPost_ret (v := .tuple #[.string x, .bool true]) (by simp [results, Tryd.results19, go_sem]) rfl ?_
        exact ⟨by rw [HSk.out]; rfl, rfl⟩
    · obtain rfl : k = n := by omega
      have hkI : ¬ ((k : Int) < k) := by omega
      have hz : sk11 l key after = none := by
        rw [hsk, List.drop_of_length_le (by rw [HLL.out]; omega)]
        rfl
      have HZ := Lib.hid hz
      clear hsk hz
      go_wp2
      refine bodyPost_ret (v := .tuple #[.string ⟨#[]⟩, .bool false]) (by simp [results, Tryd.results19, go_sem]) rfl ?_
      exact ⟨by rw [HZ.out]; rfl, rfl⟩
end Go.Proofs.YtfhdonidgegebaaDoor

/- What Seek, All and May tell of a table that was built. -/
namespace Go.Proofs.YtfhdonidgegebaaDoor
open Go Go.RowKit

theorem rises_append {a b : List ByteArray} (h : rises (a ++ b)) : rises a ∧ rises b ∧ ∀ x ∈ a, ∀ y ∈ b, bl x y = true := by
  unfold rises at h
  rw [List.pairwise_append] at h
  exact h

/-- The blocks of rising keys. -/
theorem blocks_good {ks : List ByteArray} (split : Int) (hr : rises ks) (hs : ∀ x ∈ ks, x.size ≤ 60000) (hn : ks.length ≤ 1000) : ∀ b ∈ blocksL split ks, b.length ≤ 1000 ∧ (∀ x ∈ b, x.size ≤ 60000) ∧ rises b ∧ b ≠ [] := by
  intro b hb
  have hj := blocksL_join split _ ks (Nat.le_refl _)
  obtain ⟨l1, l2, hl⟩ := List.append_of_mem hb
  rw [hl, List.flatMap_append, List.flatMap_cons] at hj
  have hlen := congrArg List.length hj
  rw [List.length_append, List.length_append] at hlen
  rw [← hj] at hr
  refine ⟨by omega, fun x hx => hs x ?_, (rises_append (rises_append hr).2.1).1, blocksL_ne split _ ks (Nat.le_refl _) b hb⟩
  rw [← hj]
  exact List.mem_append.2 (.inr (List.mem_append.2 (.inl hx)))

theorem firstK_mem {b : List ByteArray} (h : b ≠ []) : firstK b ∈ b ∧ b = firstK b :: b.tail := by
  cases b with
  | nil => exact absurd rfl h
  | cons x r => exact ⟨by simp [firstK], rfl⟩

theorem up_of : ∀ (bs : List (List ByteArray)) (p : Option ByteArray), (∀ b ∈ bs, b ≠ []) → rises (bs.flatMap fun b => b) → (∀ x, p = some x → ∀ y ∈ bs.flatMap (fun b => b), bl x y = true) → upF p bs
  | [], _, _, _, _ => trivial
  | b :: bs, p, h1, h2, h3 => by
    rw [List.flatMap_cons] at h2 h3
    obtain ⟨r1, r2, r3⟩ := rises_append h2
    obtain ⟨m1, m2⟩ := firstK_mem (h1 b (by simp))
    refine ⟨fun x hx => h3 x hx _ (List.mem_append.2 (.inl m1)), up_of bs _ (fun b' hb' => h1 b' (by simp [hb'])) r2 (fun x hx y hy => ?_)⟩
    cases hx
    exact r3 _ m1 y hy

theorem blocks_up {ks : List ByteArray} (split : Int) (hr : rises ks) : upF none (blocksL split ks) :=
  up_of _ none (blocksL_ne split _ ks (Nat.le_refl _)) (by rw [blocksL_join split _ ks (Nat.le_refl _)]; exact hr) (fun x hx => by cases hx)

theorem find_split {pre suf : List ByteArray} {p : ByteArray → Bool} (h : ∀ x ∈ pre, p x = false) : (pre ++ suf).find? p = suf.find? p := by
  rw [List.find?_append]
  have : pre.find? p = none := by
    rw [List.find?_eq_none]
    intro x hx
    rw [h x hx]
    decide
  rw [this]
  rfl

theorem flat_split (bs : List (List ByteArray)) {j : Nat} {b : List ByteArray} (h : bs[j]? = some b) : bs.flatMap (fun b => b) = (bs.take j).flatMap (fun b => b) ++ (b ++ (bs.drop (j + 1)).flatMap fun b => b) := by
  obtain ⟨h1, h2⟩ := List.getElem?_eq_some_iff.1 h
  conv => lhs; rw [← List.take_append_drop j bs, List.drop_eq_getElem_cons h1, h2]
  rw [List.flatMap_append, List.flatMap_cons]

theorem sk_spell14 (l : List ByteArray) (key : ByteArray) : sk11 l key false = l.find? fun x => !bl x key := by
  unfold sk11
  congr 1
  funext x
  cases h1 : bl x key with
  | true =>
    have h2 := bl_asymm h1
    have h3 : x ≠ key := bl_ne h1
    simp [h2, h3]
  | false =>
    cases h2 : bl key x with
    | true => simp
    | false =>
      have := bl_total h1 h2
      subst this
      simp

/-- What Seek finds in a built table. -/
theorem seek_built {bs : List (List ByteArray)} {stems : List ByteArray} {n : Nat} {bits : Int} {key : ByteArray} (hne : ∀ b ∈ bs, b ≠ []) (hr : rises (bs.flatMap fun b => b)) {j a : Nat} {b : List ByteArray} (hj : FindR (builtT bs stems n bits) key j) (hb : bs[j]? = some b) (ha : PlaceR b key a) :
    foundIn (builtT bs stems n bits) b j a = sk11 (bs.flatMap fun b => b) key false := by
  rw [sk_spell14]
  have hsl : (builtT bs stems n bits).sp.length = bs.length := spansF_length bs 0
  have hjl : j < bs.length := (List.getElem?_eq_some_iff.1 hb).1
  have hgt : ∀ i b', bs[i]? = some b' → gtK (builtT bs stems n bits).sp key i = bl key (firstK b') := fun i b' hi => by
    unfold gtK
    rw [show (builtT bs stems n bits).sp = spansF 0 bs from rfl, spansF_at bs 0 i b' hi]
  obtain ⟨i, rfl, hi, hi1, hi2⟩ := hj
  rw [hsl] at hi hi2
  have hbne := hne b (List.mem_of_getElem? hb)
  obtain ⟨hfm, hfe⟩ := firstK_mem hbne
  have hsplit := flat_split bs hb
  rw [hsplit] at hr
  obtain ⟨_, hr2, hr3⟩ := rises_append hr
  obtain ⟨hrb, hrs, hrbs⟩ := rises_append hr2
  obtain ⟨ha1, ha2, ha3⟩ := ha
  -- what stands ahead is less
  have hpre : ∀ x ∈ (bs.take (i - 1)).flatMap (fun b => b), (!bl x key) = false := fun x hx => by
    have h1 : bl x (firstK b) = true := hr3 x hx _ (List.mem_append.2 (.inl hfm))
    by_cases hi0 : i = 0
    · subst hi0
      simp at hx
    · rcases hi1 with h | h
      · exact absurd h hi0
      · rw [hgt (i - 1) b hb] at h
        have : bl x key = true := by
          cases h2 : bl (firstK b) key with
          | true => exact bl_trans h1 h2
          | false => rw [← bl_total h2 h]; exact h1
        rw [this]
        rfl
  have hpa : ∀ x ∈ b.take a, (!bl x key) = false := fun x hx => by
    obtain ⟨m, hm, rfl⟩ := List.mem_iff_getElem.1 hx
    rw [List.length_take] at hm
    rw [List.getElem_take]
    rcases ha2 with h | h
    · omega
    · have hal : a - 1 < b.length := by omega
      rw [List.getD_eq_getElem?_getD, List.getElem?_eq_getElem hal] at h
      have h' : bl b[a - 1] key = true := h
      by_cases hma : m = a - 1
      · subst hma
        rw [h']
        rfl
      · have := List.pairwise_iff_getElem.1 hrb m (a - 1) (by omega) hal (by omega)
        rw [bl_trans this h']
        rfl
  rw [hsplit, find_split hpre]
  unfold foundIn
  by_cases hab : a < b.length
  · rw [if_pos hab]
    have hsp : b = b.take a ++ (b[a] :: b.drop (a + 1)) := by
      rw [← List.drop_eq_getElem_cons hab, List.take_append_drop]
    have h1 : bl b[a] key = false := by
      rcases ha3 with h | h
      · omega
      · rw [List.getD_eq_getElem?_getD, List.getElem?_eq_getElem hab] at h
        exact h
    conv => rhs; rw [hsp]
    rw [List.append_assoc, find_split hpa, List.cons_append, List.find?_cons, h1, List.getElem?_eq_getElem hab]
    rfl
  · have hae : a = b.length := by omega
    rw [if_neg hab]
    rw [hae, List.take_length] at hpa
    rw [find_split hpa]
    by_cases hi0 : i = 0
    · exfalso
      subst hi0
      rcases hi2 with h | h
      · omega
      · rw [hgt 0 b hb] at h
        have h2 := hpa _ hfm
        have h3 := bl_asymm h
        rw [h3] at h2
        cases h2
    · obtain ⟨m, rfl⟩ : ∃ m, i = m + 1 := ⟨i - 1, by omega⟩
      rw [Nat.add_sub_cancel] at *
      rw [show (builtT bs stems n bits).sp = spansF 0 bs from rfl]
      by_cases hm : m + 1 < bs.length
      · have hb2 : bs[m + 1]? = some bs[m + 1] := List.getElem?_eq_getElem hm
        rw [spansF_at bs 0 (m + 1) _ hb2, List.drop_eq_getElem_cons hm, List.flatMap_cons]
        obtain ⟨f1, f2⟩ := firstK_mem (hne _ (List.mem_of_getElem? hb2))
        rcases hi2 with h | h
        · omega
        · rw [hgt (m + 1) _ hb2] at h
          rw [f2, List.cons_append, List.find?_cons, bl_asymm h]
          rfl
      · rw [List.getElem?_eq_none (by rw [spansF_length]; omega), List.drop_eq_nil_of_le (by omega)]
        rfl

theorem all_built {bs : List (List ByteArray)} {stems : List ByteArray} {n : Nat} {bits : Int} (hs : ∀ b ∈ bs, b.length ≤ 1000 ∧ (∀ x ∈ b, x.size ≤ 60000) ∧ rises b ∧ b ≠ []) {r : Except Nat (List ByteArray)} (h : AllIs (builtT bs stems n bits) r) : r = .ok (bs.flatMap fun b => b) := by
  have hsl : (builtT bs stems n bits).sp.length = bs.length := spansF_length bs 0
  cases r with
  | error c =>
    obtain ⟨i, hi, hb⟩ := h
    rw [hsl] at hi
    rcases blk_built hs hb with ⟨k, b, _, _, h⟩ | ⟨h, _⟩
    · cases h
    · omega
  | ok all =>
    obtain ⟨kss, h1, h2, rfl⟩ := h
    rw [hsl] at h1
    have : kss = bs := by
      apply List.ext_getElem?
      intro i
      by_cases hi : i < bs.length
      · have hk : kss[i]? = some (kss[i]'(by omega)) := List.getElem?_eq_getElem (by omega)
        rcases blk_built hs (h2 i _ hk) with ⟨k, b, hik, hb, h⟩ | ⟨h, _⟩
        · have : k = i := by omega
          subst this
          rw [hk, hb]
          cases h
          rfl
        · omega
      · rw [List.getElem?_eq_none (by omega), List.getElem?_eq_none (by omega)]
    rw [this]
end Go.Proofs.YtfhdonidgegebaaDoor

/- What the calls tell of a table that was built. -/
namespace Go.Proofs.YtfhdonidgegebaaDoor
open Go Go.RowKit

theorem body_small {ks : List ByteArray} {S : Nat} (hS : S ≤ 60000) (h : ∀ x ∈ ks, x.size ≤ S) : ∀ i, (bodyTo ks i).length ≤ i * (S + 20)
  | 0 => by simp [bodyTo]
  | i + 1 => by
    have ih := body_small hS h i
    have hk : (kb ks i).length ≤ S := by
      unfold kb
      rw [Array.length_toList]
      by_cases hi : i < ks.length
      · rw [List.getD_eq_getElem?_getD, List.getElem?_eq_getElem hi]
        exact h _ (List.getElem_mem hi)
      · rw [List.getD_eq_getElem?_getD, List.getElem?_eq_none (by omega)]
        exact Nat.zero_le _
    have := entL_length (shareL_le ks i) (by omega)
    unfold bodyTo
    rw [List.length_append, Nat.add_mul]
    omega

theorem seal_small2 {ks : List ByteArray} {S : Nat} (hS : S ≤ 60000) (hs : ∀ x ∈ ks, x.size ≤ S) (h0 : 0 < ks.length) : (sealL (buildL ks)).length ≤ ks.length * (S + 36) := by
  have h1 := body_small hS hs ks.length
  have h2 := placesTo_length ks ks.length
  rw [sealL_length]
  unfold buildL
  rw [List.length_append, List.length_append]
  simp only [be4, List.length_cons, List.length_nil]
  have e : ks.length * (S + 36) = ks.length * (S + 20) + ks.length * 16 := by rw [← Nat.mul_add]
  omega

theorem data_small {S : Nat} (hS : S ≤ 60000) : ∀ (bs : List (List ByteArray)), (∀ b ∈ bs, b ≠ [] ∧ ∀ x ∈ b, x.size ≤ S) → (dataL bs).length ≤ (bs.flatMap fun b => b).length * (S + 36)
  | [], _ => by simp [dataL]
  | b :: bs, h => by
    obtain ⟨h1, h2⟩ := h b (by simp)
    have ih := data_small hS bs (fun b' hb' => h b' (by simp [hb']))
    have := seal_small2 hS h2 (List.length_pos_iff.2 h1)
    rw [dataL_cons, List.length_append, List.flatMap_cons, List.length_append, Nat.add_mul]
    omega

theorem spans_fit : ∀ (bs : List (List ByteArray)) (a : Nat), ∀ s ∈ spansF a bs, s.at_ + s.len ≤ a + (dataL bs).length
  | [], a, s, hs => by simp [spansF] at hs
  | b :: bs, a, s, hs => by
    rw [spansF] at hs
    rw [dataL_cons, List.length_append]
    rcases List.mem_cons.1 hs with rfl | hs
    · show a + (sealL (buildL b)).length ≤ _
      omega
    · have := spans_fit bs _ s hs
      omega

/-- What the statements need of keys. -/
structure GoodK (ks : List ByteArray) (S : Nat) : Prop where
  ne : ks ≠ []
  up : rises ks
  small : ∀ x ∈ ks, x.size ≤ S
  few : ks.length ≤ 1000
  lim : ks.length * (S + 36) ≤ 60000

theorem GoodK.S60 {ks : List ByteArray} {S : Nat} (h : GoodK ks S) : S ≤ 60000 := by
  have h1 := List.length_pos_iff.2 h.ne
  have h2 := h.lim
  have : 1 * (S + 36) ≤ ks.length * (S + 36) := Nat.mul_le_mul_right _ h1
  omega

theorem GoodK.size {ks : List ByteArray} {S : Nat} (h : GoodK ks S) : ∀ x ∈ ks, x.size ≤ 60000 := fun x hx => by
  have := h.small x hx
  have := h.S60
  omega

theorem GoodK.blocks {ks : List ByteArray} {S : Nat} (h : GoodK ks S) (split : Int) : ∀ b ∈ blocksL split ks, b.length ≤ 1000 ∧ (∀ x ∈ b, x.size ≤ 60000) ∧ rises b ∧ b ≠ [] := blocks_good split h.up h.size h.few

theorem GoodK.mem {ks : List ByteArray} (split : Int) {b : List ByteArray} (hb : b ∈ blocksL split ks) : ∀ x ∈ b, x ∈ ks := fun x hx => by
  rw [← blocksL_join split _ ks (Nat.le_refl _)]
  exact List.mem_flatMap.2 ⟨b, hb, hx⟩

theorem GoodK.data {ks : List ByteArray} {S : Nat} (h : GoodK ks S) (split : Int) : (dataL (blocksL split ks)).length ≤ 60000 := by
  have := data_small h.S60 (blocksL split ks) (fun b hb => ⟨(h.blocks split b hb).2.2.2, fun x hx => h.small x (GoodK.mem split hb x hx)⟩)
  rw [blocksL_join split _ ks (Nat.le_refl _)] at this
  exact Nat.le_trans this h.lim

theorem GoodK.bne {ks : List ByteArray} {S : Nat} (h : GoodK ks S) (split : Int) : blocksL split ks ≠ [] := fun e => by
  have := blocksL_join split _ ks (Nat.le_refl _)
  rw [e] at this
  exact h.ne this.symm

theorem GoodK.blen {ks : List ByteArray} {S : Nat} (h : GoodK ks S) (split : Int) : (blocksL split ks).length ≤ 1000 := Nat.le_trans (blocksL_count split _ ks (Nat.le_refl _)) h.few

def bt (ks : List ByteArray) (split bits : Int) : Tab := builtT (blocksL split ks) (stemsB ks) ks.length bits

theorem GoodK.opens {ks : List ByteArray} {S : Nat} (h : GoodK ks S) (split bits : Int) : openL (tabL (blocksL split ks) (stemsB ks) ks.length bits) = .ok (bt ks split bits) :=
  open_tab (h.bne split) (blocks_up split h.up) (spans_small _ 0 (fun b hb x hx => h.size x (GoodK.mem split hb x hx)) (by have := h.data split; omega)) (by have := h.data split; omega) (h.blen split) (Nat.le_trans (stemsB_len ks) h.few) h.few

theorem GoodK.fits {ks : List ByteArray} {S : Nat} (h : GoodK ks S) (split bits : Int) : Fits (bt ks split bits) :=
  ⟨h.data split, by
    show (spansF 0 (blocksL split ks)).length ≤ 60000
    rw [spansF_length]
    have := h.blen split
    omega, fun s hs => by
    have := spans_fit (blocksL split ks) 0 s hs
    show s.at_ + s.len ≤ (dataL (blocksL split ks)).length
    omega⟩

theorem GoodK.tablen {ks : List ByteArray} {S : Nat} (h : GoodK ks S) (split bits : Int) (hS : S ≤ 300) (hn : ks.length ≤ 100) : (tabL (blocksL split ks) (stemsB ks) ks.length bits).length ≤ 1000000 := by
  have h1 := h.data split
  have hsm : SmallS (spansF 0 (blocksL split ks)) := spans_small _ 0 (fun b hb x hx => h.size x (GoodK.mem split hb x hx)) (by omega)
  have hbl := blocksL_count split _ ks (Nat.le_refl _)
  have h2 : (indexL (spansF 0 (blocksL split ks))).length ≤ 10 + 100 * 400 := by
    have hf : ∀ s ∈ spansF 0 (blocksL split ks), (encS s).length ≤ 400 := fun s hs => by
      obtain ⟨k1, k2, k3⟩ := hsm s hs
      have hfs : s.first.size ≤ 300 := by
        obtain ⟨i, hi, rfl⟩ := List.mem_iff_getElem.1 hs
        have hil : i < (blocksL split ks).length := by rwa [spansF_length] at hi
        have hb : (blocksL split ks)[i]? = some (blocksL split ks)[i] := List.getElem?_eq_getElem hil
        have hsp := spansF_at (blocksL split ks) 0 i _ hb
        rw [List.getElem?_eq_getElem hi] at hsp
        have e := Option.some.inj hsp
        rw [e]
        have hbm := List.mem_of_getElem? hb
        have := h.small _ (GoodK.mem split hbm _ (firstK_mem ((h.blocks split _ hbm).2.2.2)).1)
        show (firstK _).size ≤ 300
        omega
      have e1 := enc_length_le 9 s.first.size (by omega)
      have e2 := enc_length_le 9 s.at_ (by omega)
      have e3 := enc_length_le 9 s.len (by omega)
      have e4 : s.first.data.toList.length = s.first.size := Array.length_toList
      unfold encS
      simp only [List.length_append]
      omega
    have hfl : ∀ l : List Span, (∀ s ∈ l, (encS s).length ≤ 400) → (l.flatMap encS).length ≤ l.length * 400 := by
      intro l
      induction l with
      | nil => intro _; simp
      | cons s l ih =>
        intro hl
        have i1 := ih (fun s' hs' => hl s' (by simp [hs']))
        have i2 := hl s (by simp)
        rw [List.flatMap_cons, List.length_append, List.length_cons, Nat.add_mul]
        omega
    have := hfl _ hf
    rw [spansF_length] at this
    have e1 := enc_length_le 9 (spansF 0 (blocksL split ks)).length (by rw [spansF_length]; omega)
    unfold indexL
    rw [List.length_append]
    omega
  have h3 := makeL_length ((stemsB ks).map fun k => k.data.toList) bits
  have h4 := sizeOf'_le ((stemsB ks).map fun k => k.data.toList).length bits
  have h5 := stemsB_len ks
  rw [List.length_map] at h3 h4
  unfold tabL
  simp only [List.length_append, foot_length, sealL_length]
  omega

def Fails (v : Value) (w : World) (e : Ending) (w' : World) : Prop := e = .returned v ∧ Below w.heap.size w w'

theorem bt_seek {ks : List ByteArray} {S : Nat} (h : GoodK ks S) (split bits : Int) (w : World) (g : Nat) (key : ByteArray) (ht : TabAt w g (bt ks split bits)) (hst : Steps w) :
    Calls Tryd.prog 18 #[.pointer (some ⟨g, 0, none⟩), .string key] w (GivesVal w (tellS (sk11 ks key false))) :=
  (tseek_any w g (bt ks split bits) key ht (h.fits split bits) hst).mono fun e w' hp => by
    obtain ⟨hb, j, hj, r, hr, hm⟩ := hp
    have hjl : j < (blocksL split ks).length := by
      obtain ⟨i, rfl, hi, _, _⟩ := hj
      rw [show (bt ks split bits).sp = spansF 0 (blocksL split ks) from rfl, spansF_length] at hi
      have := List.length_pos_iff.2 (h.bne split)
      omega
    rcases blk_built (h.blocks split) hr with ⟨k, b, hk, hbk, rfl⟩ | ⟨hout, _⟩
    · have hkj : k = j := by omega
      subst hkj
      obtain ⟨a, ha, he⟩ := hm
      have := seek_built (fun b hb => (h.blocks split b hb).2.2.2) (by rw [blocksL_join split _ ks (Nat.le_refl _)]; exact h.up) hj hbk ha
      rw [blocksL_join split _ ks (Nat.le_refl _)] at this
      rw [show foundIn (bt ks split bits) b k a = sk11 ks key false from this] at he
      exact ⟨he, hb⟩
    · omega

def AllTold (w : World) (ks : List ByteArray) (e : Ending) (w' : World) : Prop := Below w.heap.size w w' ∧ ∃ v, e = .returned (.tuple #[v, .int .i64 0]) ∧ w'.ownsRow w.heap.size 9 1 v ks.length (scells ks)

theorem bt_all {ks : List ByteArray} {S : Nat} (h : GoodK ks S) (split bits : Int) (w : World) (g : Nat) (ht : TabAt w g (bt ks split bits)) (hst : Steps w) :
    Calls Tryd.prog 23 #[.pointer (some ⟨g, 0, none⟩)] w (AllTold w ks) :=
  (tall_any w g (bt ks split bits) ht (h.fits split bits) hst).mono fun e w' hp => by
    obtain ⟨hb, r, hr, hm⟩ := hp
    have := all_built (h.blocks split) hr
    rw [blocksL_join split _ ks (Nat.le_refl _)] at this
    subst this
    exact ⟨hb, hm⟩

/-- What Block tells of a built table. -/
def BlkTold (w : World) (bs : List (List ByteArray)) (i : Int) (e : Ending) (w' : World) : Prop :=
  Below w.heap.size w w' ∧ ((∃ (k : Nat) (b : List ByteArray), i = (k : Int) ∧ bs[k]? = some b ∧ ∃ v, e = .returned (.tuple #[v, .int .i64 0]) ∧ w'.ownsRow w.heap.size 9 1 v b.length (scells b)) ∨ ((i < 0 ∨ (bs.length : Int) ≤ i) ∧ e = .returned (.tuple #[.slice none 0 0, .int .i64 1])))

theorem bt_block {ks : List ByteArray} {S : Nat} (h : GoodK ks S) (split bits : Int) (w : World) (g : Nat) (i : Int) (ht : TabAt w g (bt ks split bits)) (hst : Steps w) :
    Calls Tryd.prog 16 #[.pointer (some ⟨g, 0, none⟩), .int .i64 i] w (BlkTold w (blocksL split ks) i) :=
  (block_at w g (bt ks split bits) i ht (h.fits split bits) hst).mono fun e w' hp => by
    obtain ⟨hb, r, hr, hm⟩ := hp
    rcases blk_built (h.blocks split) hr with ⟨k, b, hk, hbk, rfl⟩ | ⟨hout, rfl⟩
    · exact ⟨hb, .inl ⟨k, b, hk, hbk, hm⟩⟩
    · exact ⟨hb, .inr ⟨hout, hm⟩⟩

theorem mem_comp {α : Type} [Inhabited α] [DecidableEq α] {l : List α} {x : α} (h : x ∈ l) : x ∈ Lib.compact l := by
  obtain ⟨j, hj, rfl⟩ := List.mem_iff_getElem.1 h
  have key : ∀ j (hj : j < l.length), l[j] ∈ Lib.compact l := by
    intro j
    induction j with
    | zero =>
      intro hj
      unfold Lib.compact Lib.compactUpTo
      refine List.mem_map.2 ⟨0, List.mem_filter.2 ⟨List.mem_range.2 hj, by simp [Lib.keeps]⟩, by simp [hj]⟩
    | succ j ih =>
      intro hj
      by_cases he : l[j + 1] = l[j]
      · rw [he]
        exact ih (by omega)
      · unfold Lib.compact Lib.compactUpTo
        refine List.mem_map.2 ⟨j + 1, List.mem_filter.2 ⟨List.mem_range.2 hj, ?_⟩, by simp [hj]⟩
        have h1 : l.toArray[j + 1]! = l[j + 1] := by simp [hj]
        have h2 : l.toArray[j]! = l[j] := by simp [show j < l.length by omega]
        unfold Lib.keeps
        rw [decide_eq_true_eq]
        right
        rw [h1, Nat.add_sub_cancel, h2]
        exact he
  exact key j hj

theorem stemsB_mem {ks : List ByteArray} {k : ByteArray} (h : k ∈ ks) : stemB k ∈ stemsB ks := by
  unfold stemsB
  exact List.mem_map.2 ⟨(stemB k).data.toList, mem_comp (List.mem_map.2 ⟨k, h, rfl⟩), rfl⟩

theorem bt_may {ks : List ByteArray} (split bits : Int) {k : ByteArray} (h : k ∈ ks) : mayL (bt ks split bits).filter (stemB k).data.toList = true :=
  may_make (List.mem_map.2 ⟨stemB k, stemsB_mem h, rfl⟩)
end Go.Proofs.YtfhdonidgegebaaDoor

namespace Go.Proofs.YtfhdonidgegebaaDoor
open Go.RowKit

def RefRel1 (w : World) (key : ByteArray) (rev : Nat) (del : Bool) (v c : Value) (wr : World) : Prop :=
  ∃ k : Nat, c = .int .i64 (k : Int) ∧ k ≤ key.size ∧ Fresh (w.heap.size + 1) wr 5 1 v (esc (key.data.toList.take k)).length (bcells (esc (key.data.toList.take k))) ∧
    Below (w.heap.size + 1) (w.alloc (box key rev del)) wr

/-- the second loop: k bytes of the revision are written, the counter falls -/
def RefRel2 (w : World) (key : ByteArray) (rev : Nat) (del : Bool) (v c : Value) (wr : World) : Prop :=
  ∃ k : Nat, c = .int .i64 (7 - (k : Int)) ∧ k ≤ 8 ∧ Fresh (w.heap.size + 1) wr 5 1 v (innTo key.data.toList rev k).length (bcells (innTo key.data.toList rev k)) ∧
    Below (w.heap.size + 1) (w.alloc (box key rev del)) wr

theorem revByte_down (rev k : Nat) : (255 - ((rev : Int) / 2 ^ (8 * (7 - k))).tmod 256 % 256) = ((revByte rev (7 - k)).toNat : Int) := by
  rw [revByte, pow256]
  have h : rev / 2 ^ (8 * (7 - k)) % 256 < 256 := Nat.mod_lt _ (by omega)
  have e : ((rev / 2 ^ (8 * (7 - k)) : Nat) : Int) = (rev : Int) / 2 ^ (8 * (7 - k)) := by simp
  rw [← e, Int.tmod_eq_emod_of_nonneg (Int.natCast_nonneg _)]
  clear e
  generalize rev / 2 ^ (8 * (7 - k)) = q at *
  simp
  omega

theorem fresh_nil (B : Nat) (w : World) (e : TypeId) (size : Nat) : Fresh B w e size (.slice none 0 0) 0 [] :=
  ⟨⟨by simp, none, 0, rfl, Nat.le_refl _, Nat.zero_le _, fun j u h => by simp at h⟩, .inl ⟨_, rfl⟩⟩

set_option maxRecDepth 100000 in
set_option maxHeartbeats 1000000 in
theorem refinner_any (w : World) (key : ByteArray) (rev : Nat) (del : Bool) (hn : key.size ≤ 1000000000) (hR : rev < 18446744073709551616) :
    Calls Tryd.prog 24 #[.agg #[.string key, .int .u64 rev, .bool del]] w (GivesText w (inner key.data.toList rev del)) := by
  obtain ⟨i0, hi, hz0, hz1, hz2⟩ := info_parts info5
  have HR := Lib.hid hR
  clear hR
  have f2 : Fresh (w.heap.size + 1) (w.alloc (box key rev del)) 5 1 (.slice none 0 0) (esc (key.data.toList.take 0)).length (bcells (esc (key.data.toList.take 0))) := fresh_nil _ _ _ _
  have b4 : Below (w.heap.size + 1) (w.alloc (box key rev del)) (w.alloc (box key rev del)) := Below.refl _ _
  have hl2 : key.data.toList.length = key.size := Array.length_toList
  have Hl2 := Lib.hid hl2
  clear hl2
  go_enter Tryd.func24, Tryd.ntmps24
  go_wp2
  go_loopw [3, 4] (fun v c wr => RefRel1 w key rev del v c wr) (fun _ c _ => key.size - (intOf c).toNat)
  case atStart => exact ⟨0, rfl, Nat.zero_le _, f2, b4⟩
  case round =>
    obtain ⟨k, rfl, hk, f3, b5⟩ := hrel
    clear f2 b4
    have hl := esc_length (key.data.toList.take k)
    have hkl : (key.data.toList.take k).length ≤ k := List.length_take_le _ _
    have hbs := b5.size
    simp at hbs
    have c0 := (b5.cell (p := ⟨w.heap.size, 0, none⟩) (by simp)).trans (World.cell?_alloc_new w _ _ 0)
    have c1 := (b5.cell (p := ⟨w.heap.size, 1, none⟩) (by simp)).trans (World.cell?_alloc_new w _ _ 1)
    have c2 := (b5.cell (p := ⟨w.heap.size, 2, none⟩) (by simp)).trans (World.cell?_alloc_new w _ _ 2)
    simp at c0 c1 c2
    by_cases hlt : k < key.size
    · have htk : key.data.toList.take (k + 1) = key.data.toList.take k ++ [key[k]] := by
        have hlt' : k < key.data.toList.length := by rw [Array.length_toList]; exact hlt
        rw [List.take_succ_eq_append_getElem hlt']
        rfl
      have Htk := Lib.hid htk
      clear htk
      by_cases hz : key[k].toNat = 0
      · have hz' : ((key[k].toNat : Int) == 0) = true := by simp; omega
        have HZ := Lib.hid hz
        clear hz
        go_wp2_with (at_builtin; go_must (refine wpList_append_one (w0 := wr) rfl _ _ 24 rfl (w.heap.size + 1) 5 i0 (.int .u8 0) 1 Tryd.underlying24 hi hz0 hz1 hz2 rfl f3 rfl rfl rfl ?_ ?_ hbs ?_))
        · unfold maxLen; omega
        · omega
        intro v1 w4 f4 g4 b6 m4
        rw [bcells_snoc _ key[k] rfl] at f4
        have b7 := b5.trans b6
        have hbs4 : w.heap.size + 1 ≤ w4.heap.size := Nat.le_trans hbs g4.size
        have d0 := (b7.cell (p := ⟨w.heap.size, 0, none⟩) (by simp)).trans (World.cell?_alloc_new w _ _ 0)
        simp at d0
        clear f3 g4 b6 m4 b5 hbs c0 c1 c2
        go_wp2_with (at_builtin; go_must (refine wpList_append_one (w0 := w4) rfl _ _ 24 rfl (w.heap.size + 1) 5 i0 (.int .u8 0) 1 Tryd.underlying24 hi hz0 hz1 hz2 rfl f4 rfl rfl rfl ?_ ?_ hbs4 ?_))
        · unfold maxLen; omega
        · omega
        intro v2 w5 f5 g5 b8 m5
        rw [bcells_snoc (z := 255) _ (255 : UInt8) rfl] at f5
        have b9 := b7.trans b8
        go_wp2
        refine ⟨⟨k + 1, by go_num, by omega, ?_, b9⟩, by simp [intOf]; omega⟩
        rw [Htk.out, esc_snoc0 _ _ (UInt8.toNat_inj.1 (by simpa using HZ.out))]
        simpa [List.append_assoc] using f5
      · have hz' : ((key[k].toNat : Int) == 0) = false := by simp; omega
        have HZ := Lib.hid hz
        clear hz
        go_wp2_with (at_builtin; go_must (refine wpList_append_one (w0 := wr) rfl _ _ 24 rfl (w.heap.size + 1) 5 i0 (.int .u8 0) 1 Tryd.underlying24 hi hz0 hz1 hz2 rfl f3 rfl rfl rfl ?_ ?_ hbs ?_))
        · unfold maxLen; omega
        · omega
        intro v1 w4 f4 g4 b6 m4
        rw [bcells_snoc _ key[k] rfl] at f4
        have b7 := b5.trans b6
        have d0 := (b7.cell (p := ⟨w.heap.size, 0, none⟩) (by simp)).trans (World.cell?_alloc_new w _ _ 0)
        simp at d0
        clear f3 g4 b6 m4 b5 hbs c0 c1 c2
        go_wp2
        refine ⟨⟨k + 1, by go_num, by omega, ?_, b7⟩, by simp [intOf]; omega⟩
        rw [Htk.out, esc_snoc1 _ _ (fun e => HZ.out (by rw [e]; rfl))]
        simpa [List.append_assoc] using f4
    · have hge : ¬ ((k : Int) < key.size) := by omega
      obtain rfl : k = key.size := by omega
      have hfull : key.data.toList.take key.size = key.data.toList := List.take_of_length_le (by rw [Array.length_toList]; exact Nat.le_refl _)
      rw [hfull] at f3 hl hkl
      clear hfull
      go_wp2_with (at_builtin; go_must (refine wpList_append_lits (w0 := wr) rfl _ _ 24 rfl (w.heap.size + 1) 5 i0 (.int .u8 0) 1 Tryd.underlying24 hi hz0 hz1 hz2 rfl [.int .u8 0, .int .u8 1] 2 rfl f3 rfl rfl (fun u hu => by simp at hu; rcases hu with rfl | rfl <;> rfl) ?_ ?_ hbs ?_))
      · unfold maxLen; omega
      · omega
      intro v1 w4 f4 g4 b6 m4
      have b7 := b5.trans b6
      have f5 : Fresh (w.heap.size + 1) w4 5 1 v1 (innTo key.data.toList rev 0).length (bcells (innTo key.data.toList rev 0)) := by
        have e : innTo key.data.toList rev 0 = esc key.data.toList ++ [0, 1] := by simp [innTo, revBytes]
        rw [e, List.length_append, bcells_append]
        exact f4
      clear f3 g4 b6 m4 b5 hbs f4 c0 c1 c2
      go_wp2
      go_loopw [3, 5] (fun v c wr => RefRel2 w key rev del v c wr) (fun _ c _ => (intOf c + 1).toNat)
      case atStart => exact ⟨0, rfl, by omega, f5, b7⟩
      case round =>
        obtain ⟨k, rfl, hk, f6, b8⟩ := hrel
        clear f5 b7
        have hbs := b8.size
        simp at hbs
        have c1 := (b8.cell (p := ⟨w.heap.size, 1, none⟩) (by simp)).trans (World.cell?_alloc_new w _ _ 1)
        have c2 := (b8.cell (p := ⟨w.heap.size, 2, none⟩) (by simp)).trans (World.cell?_alloc_new w _ _ 2)
        simp at c1 c2
        have hl3 : (innTo key.data.toList rev k).length ≤ 2000000100 := by rw [innTo_length]; omega
        by_cases hlt : k < 8
        · have hp : (0 : Int) ≤ 7 - (k : Int) := by omega
          go_wp2_with (at_builtin; go_must (refine wpList_append_one (w0 := wr) rfl _ _ 24 rfl (w.heap.size + 1) 5 i0 (.int .u8 0) 1 Tryd.underlying24 hi hz0 hz1 hz2 rfl f6 rfl rfl rfl ?_ ?_ hbs ?_))
          · unfold maxLen; omega
          · omega
          intro v2 w5 f7 g7 b9 m7
          rw [bcells_snoc _ _ (revByte_down rev k)] at f7
          have b10 := b8.trans b9
          go_wp2
          refine ⟨⟨k + 1, by go_num, by omega, ?_, b10⟩, by simp [intOf]; omega⟩
          rw [innTo_succ, List.length_append]
          exact f7
        · have hge8 : ¬ ((0 : Int) ≤ 7 - (k : Int)) := by omega
          obtain rfl : k = 8 := by omega
          cases del
          · go_wp2_with (at_builtin; go_must (refine wpList_append_one (w0 := wr) rfl _ _ 24 rfl (w.heap.size + 1) 5 i0 (.int .u8 0) 1 Tryd.underlying24 hi hz0 hz1 hz2 rfl f6 rfl rfl rfl ?_ ?_ hbs ?_))
            · unfold maxLen; omega
            · omega
            intro v2 w5 f7 g7 b9 m7
            have b10 := b8.trans b9
            have f8 := bcells_snoc (innTo key.data.toList rev 8) (1 : UInt8) (z := 1) rfl
            rw [f8] at f7
            have hcv2 := Reads.conv (P := Tryd.prog) (src := 24) (e := 5) (dst := 9) Tryd.underlying24 Tryd.underlying5 Tryd.underlying9 f7.1
            clear f8
            go_wp2
            go_ret
            exact ⟨by simp [inner], ((Below.refl _ _).alloc (Nat.le_refl _) _).trans (b10.mono (by omega))⟩
          · go_wp2_with (at_builtin; go_must (refine wpList_append_one (w0 := wr) rfl _ _ 24 rfl (w.heap.size + 1) 5 i0 (.int .u8 0) 1 Tryd.underlying24 hi hz0 hz1 hz2 rfl f6 rfl rfl rfl ?_ ?_ hbs ?_))
            · unfold maxLen; omega
            · omega
            intro v2 w5 f7 g7 b9 m7
            have b10 := b8.trans b9
            have f8 := bcells_snoc (innTo key.data.toList rev 8) (0 : UInt8) (z := 0) rfl
            rw [f8] at f7
            have hcv2 := Reads.conv (P := Tryd.prog) (src := 24) (e := 5) (dst := 9) Tryd.underlying24 Tryd.underlying5 Tryd.underlying9 f7.1
            clear f8
            go_wp2
            go_ret
            exact ⟨by simp [inner], ((Below.refl _ _).alloc (Nat.le_refl _) _).trans (b10.mono (by omega))⟩
end Go.Proofs.YtfhdonidgegebaaDoor

/- The law's fixed calls; a nil table. -/
namespace Go.Proofs.YtfhdonidgegebaaDoor
open Go Go.RowKit

def fxK : ByteArray := ⟨(inner [97] 3 false).toArray⟩

theorem fx_good : GoodK [fxK] 300 := ⟨by decide, List.pairwise_singleton _ _, by decide +kernel, by decide, by decide⟩
theorem fx_check : checkL [fxK] 100 = 0 := by decide +kernel
theorem fx_blocks : (blocksL 100 [fxK]).length = 1 := by decide +kernel
theorem fx_seek : sk11 [fxK] ⟨#[]⟩ false = some fxK := by decide +kernel

set_option maxRecDepth 100000 in
set_option maxHeartbeats 4000000 in
theorem fixed_any (w : World) (hst : Steps w) : Calls Tryd.prog 8 #[] w (SaysTrue w) := by
  have HSt := Lib.hid hst
  have HIn := Lib.hid (refinner_any w ⟨#[97]⟩ 3 false (by decide) (by decide))
  clear hst
  go_enter Tryd.func8, Tryd.ntmps8
  go_wp2_with (go_at_call 24; go_must (refine HIn.out.mono ?_))
  rintro e w1 ⟨rfl, b1⟩
  have hfx : (ByteArray.mk (inner (ByteArray.mk #[97]).data.toList 3 false).toArray) = fxK := rfl
  rw [hfx]
  have hg := fx_good
  have hc := fx_check
  have hbl := fx_blocks
  have hsk := fx_seek
  have hks := hg.small fxK (by simp)
  generalize fxK = K at *
  have HG := Lib.hid hg
  have HC := Lib.hid hc
  have HBl := Lib.hid hbl
  have HSk := Lib.hid hsk
  have HB1 := Lib.hid b1
  clear hfx hg hc hbl hsk b1 HIn
  have hr2 : Reads (w1.alloc (Obj.cells #[.string K] 9)) 1 (.slice (some ⟨w1.heap.size, 0, none⟩) 1 1) 1 (scells [K]) :=
    ⟨rfl, _, 1, rfl, Nat.le_refl _, by unfold maxLen; omega, fun j u hj => ⟨_, 0, rfl, by simp, by
      rw [Nat.zero_add, World.cell?_alloc_new w1 _ _ j]
      simpa [scells] using hj⟩⟩
  have hb2 := HB1.out.alloc HB1.out.size (Obj.cells #[.string K] 9)
  have HBu := Lib.hid (tbuild_any _ _ 1 1 [K] 100 10 hr2 (by omega) (fun x hx => by simp at hx; subst hx; omega) (by omega) (HSt.out.below hb2))
  have HB2 := Lib.hid hb2
  clear hr2 hb2
  go_wp2_with (go_at_call 9; go_must (refine HBu.out.mono ?_))
  rintro e w3 hp
  rcases hp with ⟨hno, _⟩ | ⟨_, v3, rfl, o3, b3⟩
  case inl => exact absurd HC.out hno
  have HB3 := Lib.hid (HB2.out.trans (b3.mono HB2.out.size))
  have htl := HG.out.tablen 100 10 (by omega) (by simp)
  have hop := HG.out.opens 100 10
  have HOp := Lib.hid (open_any w3 v3 _ (own_sl o3) htl (HSt.out.below HB3.out))
  have HOpe := Lib.hid hop
  clear o3 b3 HBu HB2 htl hop
  go_wp2_with (go_at_call 12; go_must (refine HOp.out.mono ?_))
  rintro e w4 ⟨b4, hm⟩
  rw [HOpe.out] at hm
  obtain ⟨g, rfl, ht4⟩ := hm
  have HB4 := Lib.hid (HB3.out.trans (b4.mono HB3.out.size))
  have HT4 := Lib.hid ht4
  have HOn := Lib.hid (open_any w4 (.slice none 0 0) [] (.inl ⟨⟨none, rfl⟩, rfl⟩) (by decide) (HSt.out.below HB4.out))
  have hon : openL [] = .error 7 := by unfold openL; rw [if_pos (by decide)]
  have HOne := Lib.hid hon
  clear b4 ht4 HOp HOpe hon HB3
  go_wp2_with (go_at_call 12; go_must (refine HOn.out.mono ?_))
  rintro e w5 ⟨b5, hm⟩
  rw [HOne.out] at hm
  obtain rfl := hm
  have HB5 := Lib.hid (HB4.out.trans (b5.mono HB4.out.size))
  have HT5 := Lib.hid (HT4.out.below b5)
  have hsk5 := bt_seek HG.out 100 10 w5 g ⟨#[]⟩ HT5.out (HSt.out.below HB5.out)
  rw [HSk.out] at hsk5
  have HS5 := Lib.hid hsk5
  clear b5 HOn HOne hsk5 HT4 HB4
  go_wp2_with (go_at_call 18; go_must (refine HS5.out.mono ?_))
  rintro e w6 ⟨rfl, b6⟩
  unfold tellS
  have HB6 := Lib.hid (HB5.out.trans (b6.mono HB5.out.size))
  have HT6 := Lib.hid (HT5.out.below b6)
  have hbk := blocks_any w6 g _ HT6.out
  have hspl : (bt [K] 100 10).sp.length = 1 := by
    show (spansF 0 (blocksL 100 [K])).length = 1
    rw [spansF_length, HBl.out]
  rw [hspl] at hbk
  have HBk := Lib.hid hbk
  have HLn := Lib.hid (tlen_any w6 g _ HT6.out)
  have HStm := Lib.hid (stem_any w6 K (by omega))
  have hfl : (bt [K] 100 10).filter.length ≤ 1000000 := by
    show (makeL ((stemsB [K]).map fun k => k.data.toList) 10).length ≤ 1000000
    have h3 := makeL_length ((stemsB [K]).map fun k => k.data.toList) 10
    have h4 := sizeOf'_le ((stemsB [K]).map fun k => k.data.toList).length 10
    have h5 := stemsB_len [K]
    rw [List.length_map] at h3 h4
    simp only [List.length_cons, List.length_nil] at h5
    omega
  have hsts : (stemB K).size ≤ 1000000 := by
    unfold stemB
    rw [ByteArray.size_extract]
    omega
  have hmy := tmay_any w6 g _ (stemB K) HT6.out hsts hfl
  rw [bt_may 100 10 (by simp)] at hmy
  have HMy := Lib.hid hmy
  have hlen1 : (bt [K] 100 10).len = 1 := rfl
  rw [hlen1] at HLn
  have hkk : (K.toList == K.toList) = true := by simp
  clear b6 hbk hspl hfl hsts hmy hlen1 HT5 HB5 HS5
  go_wp2_with (first
    | (go_at_call 15; refine HBk.out.mono ?_; rintro e w7 ⟨rfl, rfl⟩)
    | (go_at_call 13; refine HLn.out.mono ?_; rintro e w7 ⟨rfl, rfl⟩)
    | (go_at_call 22; refine HStm.out.mono ?_; rintro e w7 ⟨rfl, rfl⟩)
    | (go_at_call 20; refine HMy.out.mono ?_; rintro e w7 ⟨rfl, b7⟩; have HB7 := Lib.hid (HB6.out.trans (b7.mono HB6.out.size)); clear b7))
  go_ret
  exact ⟨rfl, HB7.out⟩
end Go.Proofs.YtfhdonidgegebaaDoor

/- What is opened of any bytes: the errors, the blocks' places; the size of a table. -/
namespace Go.Proofs.YtfhdonidgegebaaDoor
open Go Go.RowKit

theorem decG_fits (end_ : Nat) : ∀ (F n : Nat) (rest : List UInt8) (at_ : Nat) (sp out : List Span), decG end_ F n rest at_ sp = some out → at_ ≤ end_ → (∀ s ∈ sp, s.at_ + s.len ≤ end_) →
    (∀ s ∈ out, s.at_ + s.len ≤ end_) ∧ out.length ≤ sp.length + F
  | 0, n, rest, at_, sp, out, h, _, _ => by simp [decG] at h
  | F + 1, n, rest, at_, sp, out, h, ha, hs => by
    unfold decG at h
    split at h
    · split at h
      · cases h
        exact ⟨hs, by omega⟩
      · cases h
    · split at h
      · cases h
      · rename_i h1
        have h2 := Classical.not_not.1 (fun e => h1 (.inl e))
        have h3 := Nat.not_lt.1 (fun e => h1 (.inr e))
        have key : ∀ x, x ≤ end_ - at_ → at_ + x ≤ end_ := fun x hx => by omega
        split at h
        · cases h
        · split at h
          · obtain ⟨k1, k2⟩ := decG_fits end_ F _ _ _ _ out h (key _ h3) (fun s hs' => by
              rcases List.mem_append.1 hs' with hs' | hs'
              · exact hs s hs'
              · rw [List.mem_singleton] at hs'
                subst hs'
                exact key _ h3)
            refine ⟨k1, ?_⟩
            rw [List.length_append, List.length_singleton] at k2
            omega
          · cases h

theorem decL_fits {b : List UInt8} {end_ : Nat} {sp : List Span} (h : decL b end_ = some sp) : (∀ s ∈ sp, s.at_ + s.len ≤ end_) ∧ sp.length ≤ b.length + 1 := by
  unfold decL at h
  split at h
  · obtain ⟨h1, h2⟩ := decG_fits end_ _ _ _ 0 [] sp h (Nat.zero_le _) (fun s hs => by cases hs)
    exact ⟨h1, by simpa using h2⟩
  · cases h

theorem next_errs (l : List UInt8) : (nextL l).1 = 0 ∨ (nextL l).1 = 7 ∨ (nextL l).1 = 8 := by
  unfold nextL
  split
  · exact .inr (.inl rfl)
  · split
    · exact .inl rfl
    · exact .inr (.inr rfl)

theorem open_errs {l : List UInt8} {c : Nat} (h : openL l = .error c) : c = 7 ∨ c = 8 ∨ c = 9 := by
  unfold openL at h
  split at h
  · cases h; omega
  split at h
  · cases h; omega
  split at h
  · cases h; omega
  split at h
  · cases h; omega
  split at h
  · cases h; omega
  split at h
  · rename_i h1
    cases h
    rcases next_errs _ with h2 | h2 | h2
    · exact absurd h2 h1
    · omega
    · omega
  split at h
  · rename_i h1
    cases h
    rcases next_errs _ with h2 | h2 | h2
    · exact absurd h2 h1
    · omega
    · omega
  · cases h

theorem open_fits {l : List UInt8} {T : Tab} (h : openL l = .ok T) (hl : l.length ≤ 59000) : Fits T := by
  unfold openL at h
  split at h
  · cases h
  split at h
  · cases h
  split at h
  · cases h
  rename_i h28 _ hb
  split at h
  · cases h
  split at h
  · cases h
  rename_i sp hd
  split at h
  · cases h
  split at h
  · cases h
  cases h
  generalize num8 (l.drop (l.length - 28)) 0 = N0 at *
  generalize num8 (l.drop (l.length - 28)) 8 = N8 at *
  obtain ⟨h1, h2⟩ := decL_fits hd
  have h3 : (mid l (N0 + 8) N8).length ≤ l.length := by
    unfold mid
    rw [List.length_take, List.length_drop]
    omega
  have h4 : (l.take N0).length = N0 := by
    rw [List.length_take]
    omega
  refine ⟨?_, ?_, fun s hs => ?_⟩
  · show (l.take N0).length ≤ 60000
    omega
  · show sp.length ≤ 60000
    omega
  · show s.at_ + s.len ≤ (l.take N0).length
    rw [h4]
    exact h1 s hs

theorem GoodK.tablen2 {ks : List ByteArray} (h : GoodK ks 211) (split : Int) (hn : ks.length ≤ 100) : (tabL (blocksL split ks) (stemsB ks) ks.length 10).length ≤ 59000 := by
  have h1 : (dataL (blocksL split ks)).length ≤ 24700 := by
    have := data_small h.S60 (blocksL split ks) (fun b hb => ⟨(h.blocks split b hb).2.2.2, fun x hx => h.small x (GoodK.mem split hb x hx)⟩)
    rw [blocksL_join split _ ks (Nat.le_refl _)] at this
    omega
  have hsm : SmallS (spansF 0 (blocksL split ks)) := spans_small _ 0 (fun b hb x hx => h.size x (GoodK.mem split hb x hx)) (by omega)
  have hbl := blocksL_count split _ ks (Nat.le_refl _)
  have h2 : (indexL (spansF 0 (blocksL split ks))).length ≤ 10 + 100 * 260 := by
    have hf : ∀ s ∈ spansF 0 (blocksL split ks), (encS s).length ≤ 260 := fun s hs => by
      obtain ⟨k1, k2, k3⟩ := hsm s hs
      have hfs : s.first.size ≤ 211 := by
        obtain ⟨i, hi, rfl⟩ := List.mem_iff_getElem.1 hs
        have hil : i < (blocksL split ks).length := by rwa [spansF_length] at hi
        have hb : (blocksL split ks)[i]? = some (blocksL split ks)[i] := List.getElem?_eq_getElem hil
        have hsp := spansF_at (blocksL split ks) 0 i _ hb
        rw [List.getElem?_eq_getElem hi] at hsp
        have e := Option.some.inj hsp
        rw [e]
        have hbm := List.mem_of_getElem? hb
        have := h.small _ (GoodK.mem split hbm _ (firstK_mem ((h.blocks split _ hbm).2.2.2)).1)
        show (firstK _).size ≤ 211
        omega
      have e1 := enc_length_le 9 s.first.size (by omega)
      have e2 := enc_length_le 9 s.at_ (by omega)
      have e3 := enc_length_le 9 s.len (by omega)
      have e4 : s.first.data.toList.length = s.first.size := Array.length_toList
      unfold encS
      simp only [List.length_append]
      omega
    have hfl : ∀ l : List Span, (∀ s ∈ l, (encS s).length ≤ 260) → (l.flatMap encS).length ≤ l.length * 260 := by
      intro l
      induction l with
      | nil => intro _; simp
      | cons s l ih =>
        intro hl
        have i1 := ih (fun s' hs' => hl s' (by simp [hs']))
        have i2 := hl s (by simp)
        rw [List.flatMap_cons, List.length_append, List.length_cons, Nat.add_mul]
        omega
    have := hfl _ hf
    rw [spansF_length] at this
    have e1 := enc_length_le 9 (spansF 0 (blocksL split ks)).length (by rw [spansF_length]; omega)
    unfold indexL
    rw [List.length_append]
    omega
  have h3 := makeL_length ((stemsB ks).map fun k => k.data.toList) 10
  have h4 := sizeOf'_le ((stemsB ks).map fun k => k.data.toList).length 10
  have h5 := stemsB_len ks
  rw [List.length_map] at h3 h4
  unfold tabL
  simp only [List.length_append, foot_length, sealL_length]
  omega
end Go.Proofs.YtfhdonidgegebaaDoor

/- The reference's Stem, eight. -/
namespace Go.Proofs.YtfhdonidgegebaaDoor
open Go Go.RowKit

set_option maxRecDepth 100000 in
set_option maxHeartbeats 400000 in
theorem refstem_any (w : World) (k : ByteArray) (hk : k.size ≤ 1000000000) : Calls Tryd.prog 21 #[.string k] w (KeepsVal w (.string (stemB k))) := by
  unfold stemB
  by_cases h9 : k.size < 9
  · have e1 : k.size - 9 = 0 := by omega
    have h9I : (k.size : Int) < 9 := by omega
    have e2 : k.extract 0 0 = ByteArray.empty := by
      apply ByteArray.ext
      simp
    rw [e1, e2]
    go_enter Tryd.func21, Tryd.ntmps21
    go_wp2
    go_ret
    exact ⟨rfl, rfl⟩
  · obtain ⟨m, hm⟩ : ∃ m, k.size - 9 = m := ⟨_, rfl⟩
    have h9I : ¬ (k.size : Int) < 9 := by omega
    have hmI : (k.size : Int) - 9 = (m : Int) := by omega
    have hle : (m : Int) ≤ k.size := by omega
    rw [hm]
    go_enter Tryd.func21, Tryd.ntmps21
    go_wp2
    go_ret
    exact ⟨rfl, rfl⟩

def EightRel (w : World) (v : Nat) (ov iv : Value) (wr : World) : Prop :=
  ∃ k : Nat, iv = .int .i64 (7 - (k : Int)) ∧ k ≤ 8 ∧ Fresh w.heap.size wr 5 1 ov ((be8 v).take k).length (bcells ((be8 v).take k)) ∧ Below w.heap.size w wr

theorem eight_byte (v k : Nat) : (((v : Int) / 2 ^ (8 * (7 - k))).tmod 256 % 256) = ((UInt8.ofNat (v / 2 ^ (8 * (7 - k)))).toNat : Int) := by
  have e : ((v / 2 ^ (8 * (7 - k)) : Nat) : Int) = (v : Int) / 2 ^ (8 * (7 - k)) := by simp
  rw [← e]
  generalize v / 2 ^ (8 * (7 - k)) = q
  rw [Int.tmod_eq_emod_of_nonneg (by omega), UInt8.toNat_ofNat']
  omega

set_option maxRecDepth 100000 in
set_option maxHeartbeats 1000000 in
theorem refeight_any (w : World) (v : Nat) : Calls Tryd.prog 40 #[.int .i64 (v : Int)] w (GivesBytes w (be8 v)) := by
  obtain ⟨i0, hi, hz0, hz1, hz2⟩ := info_parts info5
  go_enter Tryd.func40, Tryd.ntmps40
  go_wp2
  go_loopw [3, 4] (fun o c wr => EightRel w v o c wr) (fun _ c _ => (intOf c + 1).toNat)
  case atStart => exact ⟨0, rfl, by omega, fresh_none _ _ _ _, Below.refl _ _⟩
  case round =>
    obtain ⟨k, rfl, hk, f6, b8⟩ := hrel
    have hbs := b8.size
    have hl3 : ((be8 v).take k).length ≤ 8 := by rw [List.length_take]; omega
    by_cases hlt : k < 8
    · have hp : (0 : Int) ≤ 7 - (k : Int) := by omega
      go_wp2_with (at_builtin; go_must (refine wpList_append_one (w0 := wr) rfl _ _ 24 rfl w.heap.size 5 i0 (.int .u8 0) 1 Tryd.underlying24 hi hz0 hz1 hz2 rfl f6 rfl rfl rfl ?_ ?_ hbs ?_))
      · unfold maxLen; omega
      · omega
      intro v2 w5 f7 g7 b9 m7
      rw [bcells_snoc _ _ (eight_byte v k)] at f7
      have b10 := b8.trans b9
      have hs := be8_succ v k hlt
      have hsl := congrArg List.length hs
      rw [List.length_append, List.length_singleton] at hsl
      have HS := Lib.hid hs
      have HSL := Lib.hid hsl
      clear hs hsl f6 b8 b9 g7 m7
      go_wp2
      refine ⟨⟨k + 1, by go_num, by omega, ?_, b10⟩, by simp [intOf]; omega⟩
      rw [HSL.out, HS.out, List.length_take]
      exact f7
    · have hp : ¬ (0 : Int) ≤ 7 - (k : Int) := by omega
      obtain rfl : k = 8 := by omega
      have hfull : (be8 v).take 8 = be8 v := List.take_of_length_le (by rw [be8_length]; exact Nat.le_refl _)
      rw [hfull] at f6
      clear hfull
      go_wp2
      go_ret
      exact ⟨_, rfl, f6, b8⟩
end Go.Proofs.YtfhdonidgegebaaDoor
