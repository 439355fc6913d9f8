/- Rows as a heap: the row with the least key stands first. -/
import Derived.Test.YtieaiofdbliblaaStrOrd
namespace Go.Proofs.Ytieaiofdbliblaa
open Go Go.RowKit

abbrev Row := List ByteArray

def hd (rs : List Row) (i : Nat) : ByteArray := ((rs[i]?.getD []).head?).getD ⟨#[]⟩
def lessR (rs : List Row) (i j : Nat) : Bool := bl (hd rs i) (hd rs j)
def swp {α : Type} (rs : List α) (i j : Nat) : List α := match rs[i]?, rs[j]? with
  | some a, some b => (rs.set i b).set j a
  | _, _ => rs

theorem swp_length {α : Type} (rs : List α) (i j : Nat) : (swp rs i j).length = rs.length := by
  unfold swp
  split <;> simp

theorem swp_get {α : Type} {rs : List α} {i j : Nat} (hi : i < rs.length) (hj : j < rs.length) (k : Nat) : (swp rs i j)[k]? = if k = j then rs[i]? else if k = i then rs[j]? else rs[k]? := by
  unfold swp
  rw [List.getElem?_eq_getElem hi, List.getElem?_eq_getElem hj]
  simp only
  by_cases h1 : k = j
  · subst h1
    rw [if_pos rfl, List.getElem?_set_self (by simpa using hj)]
  · rw [if_neg h1, List.getElem?_set_ne (by omega)]
    by_cases h2 : k = i
    · subst h2
      rw [if_pos rfl, List.getElem?_set_self hi]
    · rw [if_neg h2, List.getElem?_set_ne (by omega)]

theorem swp_hd {rs : List Row} {i j : Nat} (hi : i < rs.length) (hj : j < rs.length) (k : Nat) : hd (swp rs i j) k = if k = j then hd rs i else if k = i then hd rs j else hd rs k := by
  unfold hd
  rw [swp_get hi hj]
  split
  · rfl
  · split <;> rfl

theorem swp_perm {α : Type} {rs : List α} {i j : Nat} (hi : i < rs.length) (hj : j < rs.length) : (swp rs i j).Perm rs := by
  unfold swp
  rw [List.getElem?_eq_getElem hi, List.getElem?_eq_getElem hj]
  simp only
  exact List.set_set_perm hi hj

def pickR (rs : List Row) (i n : Nat) : Nat := if 2 * i + 2 < n ∧ lessR rs (2 * i + 2) (2 * i + 1) = true then 2 * i + 2 else 2 * i + 1

def downL : Nat → List Row → Nat → Nat → List Row
  | 0, rs, _, _ => rs
  | f + 1, rs, i, n => if 2 * i + 1 < n then (if lessR rs (pickR rs i n) i then downL f (swp rs i (pickR rs i n)) (pickR rs i n) n else rs) else rs

def upL : Nat → List Row → Nat → List Row
  | 0, rs, _ => rs
  | f + 1, rs, j => if j = 0 then rs else if lessR rs j ((j - 1) / 2) then upL f (swp rs ((j - 1) / 2) j) ((j - 1) / 2) else rs

def initL : Nat → List Row → Nat → List Row
  | 0, rs, _ => rs
  | k + 1, rs, n => initL k (downL n rs k n) n

theorem pickR_lt {rs : List Row} {i n : Nat} (h : 2 * i + 1 < n) : pickR rs i n < n ∧ i < pickR rs i n ∧ (pickR rs i n - 1) / 2 = i := by
  unfold pickR
  split <;> omega

theorem downL_facts : ∀ (f : Nat) (rs : List Row) (i n : Nat), n ≤ rs.length → (downL f rs i n).length = rs.length ∧ (downL f rs i n).Perm rs ∧ ∀ k, n ≤ k → (downL f rs i n)[k]? = rs[k]?
  | 0, rs, _, _, _ => ⟨rfl, List.Perm.refl _, fun _ _ => rfl⟩
  | f + 1, rs, i, n, h => by
    unfold downL
    split
    · rename_i h1
      split
      · obtain ⟨p1, p2, _⟩ := pickR_lt (rs := rs) h1
        have hl := swp_length rs i (pickR rs i n)
        obtain ⟨k1, k2, k3⟩ := downL_facts f (swp rs i (pickR rs i n)) (pickR rs i n) n (by omega)
        refine ⟨by omega, k2.trans (swp_perm (by omega) (by omega)), fun k hk => ?_⟩
        rw [k3 k hk, swp_get (by omega) (by omega), if_neg (by omega), if_neg (by omega)]
      · exact ⟨rfl, List.Perm.refl _, fun _ _ => rfl⟩
    · exact ⟨rfl, List.Perm.refl _, fun _ _ => rfl⟩

/-- All pairs from parent s on are in order. -/
def HeapFrom (rs : List Row) (s n : Nat) : Prop := ∀ c, 0 < c → c < n → s ≤ (c - 1) / 2 → lessR rs c ((c - 1) / 2) = false

/-- .. but for those of parent i, whose children don't go ahead of its own parent. -/
def HeapBut (rs : List Row) (s n i : Nat) : Prop :=
  (∀ c, 0 < c → c < n → s ≤ (c - 1) / 2 → (c - 1) / 2 ≠ i → lessR rs c ((c - 1) / 2) = false) ∧
  (∀ c, 0 < c → c < n → (c - 1) / 2 = i → 0 < i → s ≤ (i - 1) / 2 → lessR rs c ((i - 1) / 2) = false)

theorem bl_le_trans {a b c : ByteArray} (h : bl b a = false) (k : bl c b = false) : bl c a = false := by
  cases hc : bl c a with
  | false => rfl
  | true =>
    by_cases hba : b = a
    · subst hba
      rw [hc] at k; cases k
    · have := bl_trans hc (bl_ge h hba)
      rw [k] at this
      cases this

theorem down_heap : ∀ (f : Nat) (rs : List Row) (s i n : Nat), n ≤ rs.length → n ≤ i + f → s ≤ i → HeapBut rs s n i → HeapFrom (downL f rs i n) s n
  | 0, rs, s, i, n, _, hf, hsi, hb => fun c h0 hc hp => by
    refine hb.1 c h0 hc hp (fun e => ?_)
    omega
  | f + 1, rs, s, i, n, hn, hf, hsi, hb => by
    unfold downL
    split
    · rename_i h1
      obtain ⟨p1, p2, p3⟩ := pickR_lt (rs := rs) h1
      have hpi : ∀ c, 0 < c → c < n → (c - 1) / 2 = i → bl (hd rs c) (hd rs (pickR rs i n)) = false := by
        intro c h0 hc hci
        have hcc : c = 2 * i + 1 ∨ c = 2 * i + 2 := by omega
        unfold pickR
        rcases hcc with rfl | rfl
        · split
          · rename_i h
            exact bl_asymm h.2
          · exact bl_irrefl _
        · split
          · exact bl_irrefl _
          · rename_i h
            cases hl : bl (hd rs (2 * i + 2)) (hd rs (2 * i + 1)) with
            | false => rfl
            | true => exact absurd ⟨hc, hl⟩ h
      generalize hj : pickR rs i n = j at *
      split
      · rename_i hlt
        have hji : bl (hd rs j) (hd rs i) = true := hlt
        refine down_heap f (swp rs i j) s j n (by rw [swp_length]; exact hn) (by omega) (by omega) ⟨fun c h0 hc hp hne => ?_, fun c h0 hc hcj hj0 hjs => ?_⟩
        · unfold lessR
          rw [swp_hd (by omega) (by omega), swp_hd (by omega) (by omega)]
          by_cases e1 : c = j
          · subst e1
            rw [if_pos rfl, p3, if_neg (by omega), if_pos rfl]
            exact bl_asymm hji
          · rw [if_neg e1]
            by_cases e2 : c = i
            · subst e2
              rw [if_pos rfl, if_neg (by omega), if_neg (by omega)]
              exact hb.2 j (by omega) p1 p3 (by omega) hp
            · rw [if_neg e2]
              by_cases e3 : (c - 1) / 2 = i
              · rw [if_neg (by omega), e3, if_pos rfl]
                exact hpi c h0 hc e3
              · rw [if_neg hne, if_neg e3]
                exact hb.1 c h0 hc hp e3
        · unfold lessR
          rw [swp_hd (by omega) (by omega), swp_hd (by omega) (by omega), p3, if_neg (by omega), if_neg (by omega), if_neg (by omega), if_pos rfl]
          have := hb.1 c h0 hc (by omega) (by omega)
          rw [hcj] at this
          exact this
      · rename_i hlt
        have hij : bl (hd rs j) (hd rs i) = false := by
          cases h : bl (hd rs j) (hd rs i) with
          | false => rfl
          | true => exact absurd h hlt
        intro c h0 hc hp
        by_cases e : (c - 1) / 2 = i
        · unfold lessR
          rw [e]
          exact bl_le_trans hij (hpi c h0 hc e)
        · exact hb.1 c h0 hc hp e
    · rename_i h1
      intro c h0 hc hp
      exact hb.1 c h0 hc hp (by omega)

theorem init_facts (n : Nat) : ∀ (k : Nat) (rs : List Row), n ≤ rs.length → HeapFrom rs k n → (initL k rs n).length = rs.length ∧ (initL k rs n).Perm rs ∧ HeapFrom (initL k rs n) 0 n
  | 0, rs, _, h => ⟨rfl, List.Perm.refl _, h⟩
  | k + 1, rs, hn, h => by
    obtain ⟨d1, d2, _⟩ := downL_facts n rs k n hn
    have hh := down_heap n rs k k n hn (by omega) (Nat.le_refl _) ⟨fun c h0 hc hp hne => h c h0 hc (by omega), fun c h0 hc hcj hj0 hjs => by omega⟩
    obtain ⟨e1, e2, e3⟩ := init_facts n k (downL n rs k n) (by omega) hh
    exact ⟨e1.trans d1, e2.trans d2, e3⟩

theorem half_heap (rs : List Row) (n : Nat) : HeapFrom rs (n / 2) n := fun c h0 hc hp => by omega

/-- All pairs are in order, but for child j. -/
def HeapUp (rs : List Row) (n j : Nat) : Prop :=
  (∀ c, 0 < c → c < n → c ≠ j → lessR rs c ((c - 1) / 2) = false) ∧
  (∀ c, 0 < c → c < n → (c - 1) / 2 = j → 0 < j → lessR rs c ((j - 1) / 2) = false)

theorem up_facts (n : Nat) : ∀ (f : Nat) (rs : List Row) (j : Nat), n = rs.length → j < n → j < f → HeapUp rs n j → (upL f rs j).length = n ∧ (upL f rs j).Perm rs ∧ HeapFrom (upL f rs j) 0 n
  | 0, rs, j, _, _, hf, _ => by omega
  | f + 1, rs, j, hn, hj, hf, h => by
    unfold upL
    by_cases h0 : j = 0
    · rw [if_pos h0]
      exact ⟨hn.symm, List.Perm.refl _, fun c c0 hc _ => h.1 c c0 hc (by omega)⟩
    · rw [if_neg h0]
      have hi : (j - 1) / 2 < j := by omega
      generalize hq : (j - 1) / 2 = i at *
      split
      · rename_i hlt
        have hji : bl (hd rs j) (hd rs i) = true := hlt
        have hl := swp_length rs i j
        have hup : HeapUp (swp rs i j) n i := by
          refine ⟨fun c c0 hc hne => ?_, fun c c0 hc hci hi0 => ?_⟩
          · unfold lessR
            rw [swp_hd (by omega) (by omega), swp_hd (by omega) (by omega)]
            by_cases e1 : c = j
            · subst e1
              rw [if_pos rfl, hq, if_neg (by omega), if_pos rfl]
              exact bl_asymm hji
            · rw [if_neg e1, if_neg hne]
              by_cases e2 : (c - 1) / 2 = j
              · rw [if_pos e2]
                have := h.2 c c0 hc e2 (by omega)
                rw [hq] at this
                exact this
              · rw [if_neg e2]
                by_cases e3 : (c - 1) / 2 = i
                · rw [if_pos e3]
                  have := h.1 c c0 hc e1
                  unfold lessR at this
                  rw [e3] at this
                  exact bl_le_trans (bl_asymm hji) this
                · rw [if_neg e3]
                  exact h.1 c c0 hc e1
          · unfold lessR
            rw [swp_hd (by omega) (by omega), swp_hd (by omega) (by omega), if_neg (show ¬ (i - 1) / 2 = j by omega), if_neg (show ¬ (i - 1) / 2 = i by omega)]
            have hgi : bl (hd rs i) (hd rs ((i - 1) / 2)) = false := h.1 i (by omega) (by omega) (by omega)
            by_cases e1 : c = j
            · rw [if_pos e1]
              exact hgi
            · rw [if_neg e1, if_neg (by omega)]
              have := h.1 c c0 hc e1
              unfold lessR at this
              rw [hci] at this
              exact bl_le_trans hgi this
        obtain ⟨e1, e2, e3⟩ := up_facts n f (swp rs i j) i (by omega) (by omega) (by omega) hup
        exact ⟨e1, e2.trans (swp_perm (by omega) (by omega)), e3⟩
      · rename_i hlt
        refine ⟨hn.symm, List.Perm.refl _, fun c c0 hc _ => ?_⟩
        by_cases e : c = j
        · subst e
          rw [hq]
          cases hb : lessR rs c i with
          | false => rfl
          | true => exact absurd hb hlt
        · exact h.1 c c0 hc e

theorem heap_root {rs : List Row} {n : Nat} (h : HeapFrom rs 0 n) : ∀ c, c < n → bl (hd rs c) (hd rs 0) = false := by
  intro c
  induction c using Nat.strongRecOn with
  | _ c ih =>
    intro hc
    by_cases h0 : c = 0
    · subst h0
      exact bl_irrefl _
    · have h1 := h c (by omega) hc (Nat.zero_le _)
      exact bl_le_trans (ih ((c - 1) / 2) (by omega) (by omega)) h1
end Go.Proofs.Ytieaiofdbliblaa
