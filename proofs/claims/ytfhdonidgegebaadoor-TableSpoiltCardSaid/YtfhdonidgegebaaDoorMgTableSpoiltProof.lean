/- TableSpoilt: whatever the input, the law says true, and its arguments read as they did. -/
import Derived.Test.YtfhdonidgegebaaDoorMg13
import Derived.Deep.Slices
import Derived.Deep.Fields
import Derived.OpenShut
import Derived.ProofKit
import Derived.ShutString
import Derived.ChangeOld
import Derived.Lib.SmallJoins
import Derived.Deep.Strs
import Derived.Test.YtfhdonidgegebaaDoorRows
import Derived.Test.YtfhdonidgegebaaDoorTie
import Derived.Test.YtfhdonidgegebaaDoorCards
import Derived.SevenTiedAt
import Derived.LaidMore
import Derived.Stop.Joined
/- What is opened of any bytes: the errors, the blocks' places; the size of a table. -/
namespace Go.Proofs.YtfhdonidgegebaaDoor
open Go Go.RowKit

theorem decG_fits (end_ : Nat) : ∀ (F n : Nat) (rest : List UInt8) (at_ : Nat) (sp out : List Span), decG end_ F n rest at_ sp = some out → at_ ≤ end_ → (∀ s ∈ sp, s.at_ + s.len ≤ end_) →
    (∀ s ∈ out, s.at_ + s.len ≤ end_) ∧ out.length ≤ sp.length + F
  | 0, n, rest, at_, sp, out, h, _, _ => by simp [decG] at h
  | F + 1, n, rest, at_, sp, out, h, ha, hs => by
    unfold decG at h
    split at h
    · split at h
      · cases h
        exact ⟨hs, by omega⟩
      · cases h
    · split at h
      · cases h
      · rename_i h1
        have h2 := Classical.not_not.1 (fun e => h1 (.inl e))
        have h3 := Nat.not_lt.1 (fun e => h1 (.inr e))
        have key : ∀ x, x ≤ end_ - at_ → at_ + x ≤ end_ := fun x hx => by omega
        split at h
        · cases h
        · split at h
          · obtain ⟨k1, k2⟩ := decG_fits end_ F _ _ _ _ out h (key _ h3) (fun s hs' => by
              rcases List.mem_append.1 hs' with hs' | hs'
              · exact hs s hs'
              · rw [List.mem_singleton] at hs'
                subst hs'
                exact key _ h3)
            refine ⟨k1, ?_⟩
            rw [List.length_append, List.length_singleton] at k2
            omega
          · cases h

theorem decL_fits {b : List UInt8} {end_ : Nat} {sp : List Span} (h : decL b end_ = some sp) : (∀ s ∈ sp, s.at_ + s.len ≤ end_) ∧ sp.length ≤ b.length + 1 := by
  unfold decL at h
  split at h
  · obtain ⟨h1, h2⟩ := decG_fits end_ _ _ _ 0 [] sp h (Nat.zero_le _) (fun s hs => by cases hs)
    exact ⟨h1, by simpa using h2⟩
  · cases h

theorem next_errs (l : List UInt8) : (nextL l).1 = 0 ∨ (nextL l).1 = 7 ∨ (nextL l).1 = 8 := by
  unfold nextL
  split
  · exact .inr (.inl rfl)
  · split
    · exact .inl rfl
    · exact .inr (.inr rfl)

theorem open_errs {l : List UInt8} {c : Nat} (h : openL l = .error c) : c = 7 ∨ c = 8 ∨ c = 9 := by
  unfold openL at h
  split at h
  · cases h; omega
  split at h
  · cases h; omega
  split at h
  · cases h; omega
  split at h
  · cases h; omega
  split at h
  · cases h; omega
  split at h
  · rename_i h1
    cases h
    rcases next_errs _ with h2 | h2 | h2
    · exact absurd h2 h1
    · omega
    · omega
  split at h
  · rename_i h1
    cases h
    rcases next_errs _ with h2 | h2 | h2
    · exact absurd h2 h1
    · omega
    · omega
  · cases h

theorem open_fits {l : List UInt8} {T : Tab} (h : openL l = .ok T) (hl : l.length ≤ 59000) : Fits T := by
  unfold openL at h
  split at h
  · cases h
  split at h
  · cases h
  split at h
  · cases h
  rename_i h28 _ hb
  split at h
  · cases h
  split at h
  · cases h
  rename_i sp hd
  split at h
  · cases h
  split at h
  · cases h
  cases h
  generalize num8 (l.drop (l.length - 28)) 0 = N0 at *
  generalize num8 (l.drop (l.length - 28)) 8 = N8 at *
  obtain ⟨h1, h2⟩ := decL_fits hd
  have h3 : (mid l (N0 + 8) N8).length ≤ l.length := by
    unfold mid
    rw [List.length_take, List.length_drop]
    omega
  have h4 : (l.take N0).length = N0 := by
    rw [List.length_take]
    omega
  refine ⟨?_, ?_, fun s hs => ?_⟩
  · show (l.take N0).length ≤ 60000
    omega
  · show sp.length ≤ 60000
    omega
  · show s.at_ + s.len ≤ (l.take N0).length
    rw [h4]
    exact h1 s hs

theorem GoodK.tablen2 {ks : List ByteArray} (h : GoodK ks 211) (split : Int) (hn : ks.length ≤ 100) : (tabL (blocksL split ks) (stemsB ks) ks.length 10).length ≤ 59000 := by
  have h1 : (dataL (blocksL split ks)).length ≤ 24700 := by
    have := data_small h.S60 (blocksL split ks) (fun b hb => ⟨(h.blocks split b hb).2.2.2, fun x hx => h.small x (GoodK.mem split hb x hx)⟩)
    rw [blocksL_join split _ ks (Nat.le_refl _)] at this
    omega
  have hsm : SmallS (spansF 0 (blocksL split ks)) := spans_small _ 0 (fun b hb x hx => h.size x (GoodK.mem split hb x hx)) (by omega)
  have hbl := blocksL_count split _ ks (Nat.le_refl _)
  have h2 : (indexL (spansF 0 (blocksL split ks))).length ≤ 10 + 100 * 260 := by
    have hf : ∀ s ∈ spansF 0 (blocksL split ks), (encS s).length ≤ 260 := fun s hs => by
      obtain ⟨k1, k2, k3⟩ := hsm s hs
      have hfs : s.first.size ≤ 211 := by
        obtain ⟨i, hi, rfl⟩ := List.mem_iff_getElem.1 hs
        have hil : i < (blocksL split ks).length := by rwa [spansF_length] at hi
        have hb : (blocksL split ks)[i]? = some (blocksL split ks)[i] := List.getElem?_eq_getElem hil
        have hsp := spansF_at (blocksL split ks) 0 i _ hb
        rw [List.getElem?_eq_getElem hi] at hsp
        have e := Option.some.inj hsp
        rw [e]
        have hbm := List.mem_of_getElem? hb
        have := h.small _ (GoodK.mem split hbm _ (firstK_mem ((h.blocks split _ hbm).2.2.2)).1)
        show (firstK _).size ≤ 211
        omega
      have e1 := enc_length_le 9 s.first.size (by omega)
      have e2 := enc_length_le 9 s.at_ (by omega)
      have e3 := enc_length_le 9 s.len (by omega)
      have e4 : s.first.data.toList.length = s.first.size := Array.length_toList
      unfold encS
      simp only [List.length_append]
      omega
    have hfl : ∀ l : List Span, (∀ s ∈ l, (encS s).length ≤ 260) → (l.flatMap encS).length ≤ l.length * 260 := by
      intro l
      induction l with
      | nil => intro _; simp
      | cons s l ih =>
        intro hl
        have i1 := ih (fun s' hs' => hl s' (by simp [hs']))
        have i2 := hl s (by simp)
        rw [List.flatMap_cons, List.length_append, List.length_cons, Nat.add_mul]
        omega
    have := hfl _ hf
    rw [spansF_length] at this
    have e1 := enc_length_le 9 (spansF 0 (blocksL split ks)).length (by rw [spansF_length]; omega)
    unfold indexL
    rw [List.length_append]
    omega
  have h3 := makeL_length ((stemsB ks).map fun k => k.data.toList) 10
  have h4 := sizeOf'_le ((stemsB ks).map fun k => k.data.toList).length 10
  have h5 := stemsB_len ks
  rw [List.length_map] at h3 h4
  unfold tabL
  simp only [List.length_append, foot_length, sealL_length]
  omega
end Go.Proofs.YtfhdonidgegebaaDoor


namespace Go.Proofs.YtfhdonidgegebaaDoor
open Go Go.RowKit

structure Ent where
  key : ByteArray
  rev : Nat
  del : Bool

def ecell (x : Ent) : List Value := [.string x.key, .int .u64 (x.rev : Int), .bool x.del]
def ecells (l : List Ent) : List Value := l.flatMap ecell
theorem ecell_length (x : Ent) : (ecell x).length = 3 := rfl

def entOk (rev : Nat) (x : Ent) : Bool := decide (x.rev = rev) && decide (x.key.size ≤ 65536)
def sizeOk (rev n : Nat) : Bool := decide (1 ≤ rev) && (decide (1 ≤ n) && decide (n ≤ 256))
def rightB (rev : Nat) (l : List Ent) : Bool := l.all (entOk rev) && sizeOk rev l.length

theorem all_bad {rev : Nat} {l : List Ent} {k : Nat} {x : Ent} (h : l[k]? = some x) (hx : entOk rev x = false) : rightB rev l = false := by
  unfold rightB
  have : l.all (entOk rev) = false := by
    rw [List.all_eq_false]
    exact ⟨x, List.mem_of_getElem? h, by rw [hx]; decide⟩
  rw [this]
  rfl

theorem all_good {rev : Nat} {l : List Ent} {k : Nat} {x : Ent} (h : l[k]? = some x) (hx : entOk rev x = true) (ha : (l.take k).all (entOk rev) = true) : (l.take (k + 1)).all (entOk rev) = true := by
  rw [List.take_add_one, List.all_append, ha, h]
  simp [hx]

/-- The cells of the k-th entry. -/
theorem ent_cells {w : World} {a : Option Addr} {n cap : Nat} {l : List Ent} (h : Reads w 3 (.slice a n cap) n (ecells l)) {k : Nat} {x : Ent} (hx : l[k]? = some x) :
    ∃ g off, a = some ⟨g, off, none⟩ ∧ g < w.heap.size ∧ w.cell? ⟨g, off + k * 3, none⟩ = some (.string x.key) ∧ w.cell? ⟨g, off + k * 3 + 1, none⟩ = some (.int .u64 (x.rev : Int)) ∧ w.cell? ⟨g, off + k * 3 + 2, none⟩ = some (.bool x.del) := by
  have hc : ∀ j u, (ecell x)[j]? = some u → ∃ b off, a = some ⟨b, off, none⟩ ∧ b < w.heap.size ∧ w.cell? ⟨b, off + k * 3 + j, none⟩ = some u := by
    intro j u hj
    have hj3 : j < 3 := (List.getElem?_eq_some_iff.1 hj).1
    obtain ⟨b, off, ha, hlb, hc⟩ := h.at (j := k * 3 + j) (u := u) (by
      unfold ecells
      rw [flat_cell ecell 3 ecell_length l k x hx j hj3]
      exact hj)
    exact ⟨b, off, ha, hlb, by rw [Nat.add_assoc]; exact hc⟩
  obtain ⟨g, off, rfl, hg, c0⟩ := hc 0 _ rfl
  obtain ⟨g1, off1, h1, _, c1⟩ := hc 1 _ rfl
  cases h1
  obtain ⟨g2, off2, h2, _, c2⟩ := hc 2 _ rfl
  cases h2
  exact ⟨g, off, rfl, hg, c0, c1, c2⟩

theorem below_reads {B s n : Nat} {w w' : World} {v : Value} {xs : List Value} (h : Reads w s v n xs) (hb : Below B w w') (hB : w.heap.size ≤ B) : Reads w' s v n xs :=
  h.below' (hb.mono hB)

end Go.Proofs.YtfhdonidgegebaaDoor

/- Entries' inner keys, in order, each once. -/
namespace Go.Proofs.YtfhdonidgegebaaDoor
open Go Go.RowKit

/-- Inner keys of entries. -/
def innB (x : Ent) : ByteArray := ⟨(inner x.key.data.toList x.rev x.del).toArray⟩

/-- Entries' inner keys, in order, each once. -/
def rowsL (es : List Ent) : List ByteArray := es.foldl (fun out x => putK out (innB x)) []

theorem rowsL_snoc (es : List Ent) (x : Ent) : rowsL (es ++ [x]) = putK (rowsL es) (innB x) := by simp [rowsL]

theorem rows_go (es : List Ent) : ∀ (A : List Ent) (out : List ByteArray), (rises out ∧ out.length ≤ A.length ∧ ∀ k ∈ out, ∃ x ∈ A, k = innB x) →
    rises (es.foldl (fun out x => putK out (innB x)) out) ∧ (es.foldl (fun out x => putK out (innB x)) out).length ≤ (A ++ es).length ∧ ∀ k ∈ es.foldl (fun out x => putK out (innB x)) out, ∃ x ∈ A ++ es, k = innB x := by
  induction es with
  | nil => intro A out h; simpa using h
  | cons x es ih =>
    intro A out ⟨h1, h2, h3⟩
    have := ih (A ++ [x]) (putK out (innB x)) ⟨putK_rises h1, by
      have := putK_length out (innB x)
      simp
      omega, fun k hk => by
        rcases putK_mem hk with rfl | hk
        · exact ⟨x, by simp, rfl⟩
        · obtain ⟨y, hy, rfl⟩ := h3 k hk
          exact ⟨y, by simp [hy], rfl⟩⟩
    rw [List.append_assoc, List.singleton_append] at this
    exact this

theorem rowsL_all (es : List Ent) : rises (rowsL es) ∧ (rowsL es).length ≤ es.length ∧ ∀ k ∈ rowsL es, ∃ x ∈ es, k = innB x := by
  have := rows_go es [] [] ⟨rises_nil, Nat.le_refl _, fun k hk => by cases hk⟩
  rw [List.nil_append] at this
  exact this

end Go.Proofs.YtfhdonidgegebaaDoor

/- The reference's Put: a key among keys that rise. -/
namespace Go.Proofs.YtfhdonidgegebaaDoor
open Go Go.RowKit

def PutPost (w : World) (l : List ByteArray) (key : ByteArray) (e : Ending) (w' : World) : Prop :=
  ∃ a cap b, e = .returned (.tuple #[.slice a (putK l key).length cap, .bool b]) ∧ Reads w' 1 (.slice a (putK l key).length cap) (putK l key).length (scells (putK l key)) ∧ Below w.heap.size w w'

def PutARel (l : List ByteArray) (key : ByteArray) (v : Value) : Prop := ∃ i : Nat, v = .int .i64 (i : Int) ∧ i ≤ l.length ∧ ∀ j x, j < i → l[j]? = some x → bl x key = true

set_option maxRecDepth 100000 in
set_option maxHeartbeats 2000000 in
theorem putk_any (w : World) (a : Option Addr) (n cap : Nat) (l : List ByteArray) (key : ByteArray) (h : Reads w 1 (.slice a n cap) n (scells l)) (hn : n ≤ 100000) :
    Calls Tryd.prog 38 #[.slice a n cap, .string key] w (PutPost w l key) := by
  obtain ⟨i0, hi, hz0, hz1, hz2⟩ := info_parts info9
  have HR := Lib.hid h
  have hll : l.length = n := by have := h.1; rw [scells_length] at this; omega
  have HLL := Lib.hid hll
  obtain ⟨_, _, hv, hc1, hc2⟩ := h.le
  cases hv
  have hc3 := hc2
  unfold maxLen at hc2
  clear h hll
  go_enter Tryd.func38, Tryd.ntmps38
  go_wp2
  go_loop [6] (fun v => PutARel l key v) (fun v => n - (intOf v).toNat)
  case atStart => exact ⟨0, rfl, Nat.zero_le _, fun j x hj => by omega⟩
  case round =>
    obtain ⟨i, rfl, hil, hlt⟩ := hrel
    rw [HLL.out] at hil
    have HLt := Lib.hid hlt
    clear hlt
    by_cases hin : i < n
    · have hinI : (i : Int) < n := by omega
      obtain ⟨b, off, x, rfl, hx, hb, hc⟩ := HR.out.scell i hin
      cases hbl : bl x key with
      | true =>
        have hbI : Op.bytesLess x.toList key.toList = true := by rw [bl_spell]; exact hbl
        have HX := Lib.hid hx
        have HBl := Lib.hid hbl
        clear hx hbl
        go_wp2
        refine ⟨⟨i + 1, by go_num, by rw [HLL.out]; omega, fun j y hj hy => ?_⟩, by simp [intOf]; omega⟩
        by_cases hji : j < i
        · exact HLt.out j y hji hy
        · obtain rfl : j = i := by omega
          rw [HX.out] at hy
          cases hy
          exact HBl.out
      | false =>
        have hbI : Op.bytesLess x.toList key.toList = false := by rw [bl_spell]; exact hbl
        have hpa : putAt l key = i := putAt_eq HLt.out (by rw [HLL.out]; omega) (fun y hy => by rw [hx] at hy; cases hy; exact hbl)
        by_cases hxk : x = key
        · subst hxk
          have hpk : putK l x = l := by unfold putK; rw [hpa, hx, if_pos rfl]
          have HP := Lib.hid hpk
          clear hx hpa hpk hbl
          go_wp2
          go_ret2
          unfold PutPost
          rw [HP.out, HLL.out]
          exact ⟨_, _, _, rfl, HR.out, Below.refl _ _⟩
        · have hpk : putK l key = l.take i ++ key :: l.drop i := by
            unfold putK
            rw [hpa, hx, if_neg (fun e => hxk (Option.some.inj e))]
          have hxkI : (x.toList == key.toList) = false := by
            rw [beq_eq_false_iff_ne, Go.ByteArray.toList_eq, Go.ByteArray.toList_eq]
            exact fun e => hxk (Go.WideShapes.bytes_inj e)
          have hat : i ≤ n := by omega
          have HP := Lib.hid hpk
          clear hx hpk hbl HLt hxk hil hpa
          go_wp2_with fail
          generalize (some ({ block := b, off := off } : Addr)) = a at *
          clear hb hc
          obtain ⟨at', rfl⟩ : ∃ at', at' = i := ⟨_, rfl⟩
          refine wp_region_until (by kernel_rfl) [onU (zeroF w.heap.size 9 1) (some 4), eqU (.slice a n cap), eqU (.int .i64 (at' : Int)), eqU (.slice a at' cap), onU (ownsF w.heap.size 9 1 at' (scells (l.take at'))) (some 7), eqU (.string key), onU (litF 9 #[.string key] 1) (some 7), onU (ownsF w.heap.size 9 1 (at' + 1) (scells (l.take at' ++ [key]))) (some 11), eqU (.slice a n cap), eqU (.int .i64 (at' : Int)), eqU (.slice (behind a at' cap) (n - at') (cap - at')), onU (ownsF w.heap.size 9 1 (n + 1) (scells (l.take at' ++ key :: l.drop at'))) none, onU (ownsF w.heap.size 9 1 (n + 1) (scells (l.take at' ++ key :: l.drop at'))) none, eqU (.bool true)] [7, 11] (by kernel_rfl) (by kernel_rfl) (by kernel_rfl) ⟨?_, ?_, ?_, ?_, ?_, ?_, ?_, ?_, ?_, ?_, ?_, ?_, ?_, ?_, trivial⟩ ?_
          · intro ρ wx hρ hbx hl
            refine u_new (v := .slice (some ⟨wx.heap.size, 0, none⟩) 0 0) (w' := wx.alloc (.cells #[] 9)) ?_ ⟨_, rfl, owns_less (owns_zero wx _ 1) hbx.size⟩ ((Below.refl _ _).alloc (Nat.le_refl _) _)
            simp [execOp, go_sem]
          · intro ρ wx hρ hbx hl
            have e0 : ρ (.tmp 0) = .slice a n cap := hρ.tmp 0 (by decide +kernel)
            refine u_val (v := .slice a n cap) ?_ rfl
            simp [execOp, go_sem, e0]
          · intro ρ wx hρ hbx hl
            have e6 : ρ (.tmp 6) = .int .i64 (at' : Int) := hρ.tmp 6 (by decide +kernel)
            refine u_val (v := .int .i64 (at' : Int)) ?_ rfl
            simp [execOp, go_sem, e6]
          · intro ρ wx hρ hbx hl
            have e35 : ρ (.tmp 35) = .slice a n cap := hl 1 (by decide +kernel) (.inl rfl) 35 rfl
            have e36 : ρ (.tmp 36) = .int .i64 (at' : Int) := hl 2 (by decide +kernel) (.inl rfl) 36 rfl
            refine u_val (v := .slice a at' cap) ?_ rfl
            simp [execOp, go_sem, e35, e36]
            first | done | omega
          · intro ρ wx hρ hbx hl
            have e34 : (zeroF w.heap.size 9 1).p (ρ (.tmp 34)) wx := hl 0 (by decide +kernel) (.inr rfl) 34 rfl
            have e37 : ρ (.tmp 37) = .slice a at' cap := hl 3 (by decide +kernel) (.inl rfl) 37 rfl
            obtain ⟨g34, e34, o34⟩ := e34
            rw [e34] at o34
            obtain ⟨v', w', hr, ho, hb⟩ := run_append_zero (P := Tryd.prog) (w := wx) w.heap.size 22 22 22 9 i0 _ 16 Tryd.underlying22 hi hz0 hz1 hz2 rfl g34 o34 (.slice a at' cap) at' (scells (l.take at')) (((HR.out.below' hbx).stake at' hat).src Tryd.underlying22 (scells_one _)) (by unfold maxLen; omega) (by omega) hbx.size
            refine u_new ?_ ho hb
            simp only [execOp, resolve, invoke, builtin, Sem.run_bind, Sem.run_pure, Result.andThen_ok, List.map_toArray, List.map_cons, List.map_nil, e34, e37, hr]
          · intro ρ wx hρ hbx hl
            have e1 : ρ (.tmp 1) = .string key := hρ.tmp 1 (by decide +kernel)
            refine u_val (v := .string key) ?_ rfl
            simp [execOp, go_sem, e1]
          · intro ρ wx hρ hbx hl
            have e39 : ρ (.tmp 39) = .string key := hl 5 (by decide +kernel) (.inl rfl) 39 rfl
            refine u_new (v := .slice (some ⟨wx.heap.size, 0, none⟩) 1 1) (w' := wx.alloc (.cells #[.string key] 9)) ?_ ⟨_, rfl, heap_alloc_new wx _⟩ ((Below.refl _ _).alloc (Nat.le_refl _) _)
            simp [execOp, go_sem, e39]
          · intro ρ wx hρ hbx hl
            have e38 : (ownsF w.heap.size 9 1 at' (scells (l.take at'))).p (ρ (.tmp 38)) wx := hl 4 (by decide +kernel) (.inr rfl) 38 rfl
            have e40 : (litF 9 #[.string key] 1).p (ρ (.tmp 40)) wx := hl 6 (by decide +kernel) (.inr rfl) 40 rfl
            obtain ⟨g40, e40, o40⟩ := e40
            have hrd := lit_reads (cs := [.string key]) (size := 1) o40 rfl (by decide)
            obtain ⟨v', w', hr, ho, hg, hb, _⟩ := run_append_owns (P := Tryd.prog) (w := wx) w.heap.size 22 22 22 9 i0 _ 1 16 Tryd.underlying22 hi hz0 hz1 hz2 rfl _ at' _ e38 _ 1 [.string key] (hrd.src Tryd.underlying22 (by simp [Value.oneCell'])) (by unfold maxLen; omega) (by omega) hbx.size
            rw [show scells (l.take at') ++ [Value.string key] = scells (l.take at' ++ [key]) from (scells_append (l.take at') [key]).symm] at ho
            refine u_new ?_ ho hb
            simp only [execOp, resolve, invoke, builtin, Sem.run_bind, Sem.run_pure, Result.andThen_ok, List.map_toArray, List.map_cons, List.map_nil, e40, hr]
          · intro ρ wx hρ hbx hl
            have e0 : ρ (.tmp 0) = .slice a n cap := hρ.tmp 0 (by decide +kernel)
            refine u_val (v := .slice a n cap) ?_ rfl
            simp [execOp, go_sem, e0]
          · intro ρ wx hρ hbx hl
            have e6 : ρ (.tmp 6) = .int .i64 (at' : Int) := hρ.tmp 6 (by decide +kernel)
            refine u_val (v := .int .i64 (at' : Int)) ?_ rfl
            simp [execOp, go_sem, e6]
          · intro ρ wx hρ hbx hl
            have e42 : ρ (.tmp 42) = .slice a n cap := hl 8 (by decide +kernel) (.inl rfl) 42 rfl
            have e43 : ρ (.tmp 43) = .int .i64 (at' : Int) := hl 9 (by decide +kernel) (.inl rfl) 43 rfl
            refine u_val (v := .slice (behind a at' cap) (n - at') (cap - at')) ?_ rfl
            simp [execOp, go_sem, e42, e43, behind, hat]
          · intro ρ wx hρ hbx hl
            have e41 : (ownsF w.heap.size 9 1 (at' + 1) (scells (l.take at' ++ [key]))).p (ρ (.tmp 41)) wx := hl 7 (by decide +kernel) (.inr rfl) 41 rfl
            have e44 : ρ (.tmp 44) = .slice (behind a at' cap) (n - at') (cap - at') := hl 10 (by decide +kernel) (.inl rfl) 44 rfl
            obtain ⟨v', w', hr, ho, hg, hb, _⟩ := run_append_owns (P := Tryd.prog) (w := wx) w.heap.size 22 22 22 9 i0 _ 1 16 Tryd.underlying22 hi hz0 hz1 hz2 rfl _ (at' + 1) _ e41 (.slice (behind a at' cap) (n - at') (cap - at')) (n - at') (scells (l.drop at')) (((HR.out.below' hbx).sdrop at' hat).src Tryd.underlying22 (scells_one _)) (by unfold maxLen; omega) (by omega) hbx.size
            rw [← scells_append, List.append_assoc, List.singleton_append, show at' + 1 + (n - at') = n + 1 by omega] at ho
            refine u_new ?_ ho hb
            simp only [execOp, resolve, invoke, builtin, Sem.run_bind, Sem.run_pure, Result.andThen_ok, List.map_toArray, List.map_cons, List.map_nil, e44, hr]
          · intro ρ wx hρ hbx hl
            have e45 : (ownsF w.heap.size 9 1 (n + 1) (scells (l.take at' ++ key :: l.drop at'))).p (ρ (.tmp 45)) wx := hl 11 (by decide +kernel) (.inl rfl) 45 rfl
            refine u_val (v := ρ (.tmp 45)) ?_ e45
            simp [execOp, go_sem]
          · intro ρ wx hρ hbx hl
            refine u_val (v := .bool true) ?_ rfl
            simp [execOp, hρ.const, go_sem]
          intro aa wz hdef hsz hlk hbz hf
          have ha := act_of_like hdef hsz hlk [34, 35, 36, 37, 38, 39, 40, 41, 42, 43, 44, 45, 4, 5] 46 rfl (by decide +kernel)
          have e35 : aa.tmps.getD 35 undef = .slice a n cap := hf 1 _ 35 rfl rfl rfl
          have e36 : aa.tmps.getD 36 undef = .int .i64 (at' : Int) := hf 2 _ 36 rfl rfl rfl
          have e37 : aa.tmps.getD 37 undef = .slice a at' cap := hf 3 _ 37 rfl rfl rfl
          have e39 : aa.tmps.getD 39 undef = .string key := hf 5 _ 39 rfl rfl rfl
          have e42 : aa.tmps.getD 42 undef = .slice a n cap := hf 8 _ 42 rfl rfl rfl
          have e43 : aa.tmps.getD 43 undef = .int .i64 (at' : Int) := hf 9 _ 43 rfl rfl rfl
          have e44 : aa.tmps.getD 44 undef = .slice (behind a at' cap) (n - at') (cap - at') := hf 10 _ 44 rfl rfl rfl
          have e45 : (ownsF w.heap.size 9 1 (n + 1) (scells (l.take at' ++ key :: l.drop at'))).p (aa.tmps.getD 45 undef) wz := hf 11 _ 45 rfl rfl rfl
          generalize hv45 : aa.tmps.getD 45 undef = v45 at e45
          have e4 : (ownsF w.heap.size 9 1 (n + 1) (scells (l.take at' ++ key :: l.drop at'))).p (aa.tmps.getD 4 undef) wz := hf 12 _ 4 rfl rfl rfl
          generalize hv4 : aa.tmps.getD 4 undef = v4 at e4
          have e5 : aa.tmps.getD 5 undef = .bool true := hf 13 _ 5 rfl rfl rfl
          simp only [putAll, List.foldl_cons, List.foldl_nil, e35, e36, e37, e39, e42, e43, e44, hv45, hv4, e5] at ha
          generalize aa.tmps.getD 34 undef = v34 at ha
          generalize aa.tmps.getD 38 undef = v38 at ha
          generalize aa.tmps.getD 40 undef = v40 at ha
          generalize aa.tmps.getD 41 undef = v41 at ha
          simp [Act.put] at ha
          subst ha
          clear hdef hsz hlk hf e35 e36 e37 e39 e42 e43 e44 hv45 hv4 e5
          have HB := Lib.hid hbz
          have hlen : (l.take at' ++ key :: l.drop at').length = n + 1 := by
            have := HLL.out
            simp
            omega
          obtain ⟨a9, c9, hv9, _, _⟩ := (ownsRow.reads e4).le
          subst hv9
          have HW := Lib.hid (ownsRow.reads e4)
          clear e45 e4 hbz
          go_wp2
          go_ret2
          unfold PutPost
          rw [HP.out, hlen]
          exact ⟨_, _, _, rfl, HW.out, HB.out⟩
    · have hinI : ¬ ((i : Int) < n) := by omega
      have hnone : l[i]? = none := List.getElem?_eq_none (by rw [HLL.out]; omega)
      have hpa : putAt l key = i := putAt_eq HLt.out (by rw [HLL.out]; omega) (fun x hx => by rw [hnone] at hx; cases hx)
      have hpk : putK l key = l.take i ++ key :: l.drop i := by
        unfold putK
        rw [hpa, hnone, if_neg (by simp)]
      have HP := Lib.hid hpk
      have hat : i ≤ n := hil
      clear hpk HLt hil hpa hnone
      go_wp2_with fail
      obtain ⟨at', rfl⟩ : ∃ at', at' = i := ⟨_, rfl⟩
      refine wp_region_until (by kernel_rfl) [onU (zeroF w.heap.size 9 1) (some 4), eqU (.slice a n cap), eqU (.int .i64 (at' : Int)), eqU (.slice a at' cap), onU (ownsF w.heap.size 9 1 at' (scells (l.take at'))) (some 7), eqU (.string key), onU (litF 9 #[.string key] 1) (some 7), onU (ownsF w.heap.size 9 1 (at' + 1) (scells (l.take at' ++ [key]))) (some 11), eqU (.slice a n cap), eqU (.int .i64 (at' : Int)), eqU (.slice (behind a at' cap) (n - at') (cap - at')), onU (ownsF w.heap.size 9 1 (n + 1) (scells (l.take at' ++ key :: l.drop at'))) none, onU (ownsF w.heap.size 9 1 (n + 1) (scells (l.take at' ++ key :: l.drop at'))) none, eqU (.bool true)] [7, 11] (by kernel_rfl) (by kernel_rfl) (by kernel_rfl) ⟨?_, ?_, ?_, ?_, ?_, ?_, ?_, ?_, ?_, ?_, ?_, ?_, ?_, ?_, trivial⟩ ?_
      · intro ρ wx hρ hbx hl
        refine u_new (v := .slice (some ⟨wx.heap.size, 0, none⟩) 0 0) (w' := wx.alloc (.cells #[] 9)) ?_ ⟨_, rfl, owns_less (owns_zero wx _ 1) hbx.size⟩ ((Below.refl _ _).alloc (Nat.le_refl _) _)
        simp [execOp, go_sem]
      · intro ρ wx hρ hbx hl
        have e0 : ρ (.tmp 0) = .slice a n cap := hρ.tmp 0 (by decide +kernel)
        refine u_val (v := .slice a n cap) ?_ rfl
        simp [execOp, go_sem, e0]
      · intro ρ wx hρ hbx hl
        have e6 : ρ (.tmp 6) = .int .i64 (at' : Int) := hρ.tmp 6 (by decide +kernel)
        refine u_val (v := .int .i64 (at' : Int)) ?_ rfl
        simp [execOp, go_sem, e6]
      · intro ρ wx hρ hbx hl
        have e35 : ρ (.tmp 35) = .slice a n cap := hl 1 (by decide +kernel) (.inl rfl) 35 rfl
        have e36 : ρ (.tmp 36) = .int .i64 (at' : Int) := hl 2 (by decide +kernel) (.inl rfl) 36 rfl
        refine u_val (v := .slice a at' cap) ?_ rfl
        simp [execOp, go_sem, e35, e36]
        first | done | omega
      · intro ρ wx hρ hbx hl
        have e34 : (zeroF w.heap.size 9 1).p (ρ (.tmp 34)) wx := hl 0 (by decide +kernel) (.inr rfl) 34 rfl
        have e37 : ρ (.tmp 37) = .slice a at' cap := hl 3 (by decide +kernel) (.inl rfl) 37 rfl
        obtain ⟨g34, e34, o34⟩ := e34
        rw [e34] at o34
        obtain ⟨v', w', hr, ho, hb⟩ := run_append_zero (P := Tryd.prog) (w := wx) w.heap.size 22 22 22 9 i0 _ 16 Tryd.underlying22 hi hz0 hz1 hz2 rfl g34 o34 (.slice a at' cap) at' (scells (l.take at')) (((HR.out.below' hbx).stake at' hat).src Tryd.underlying22 (scells_one _)) (by unfold maxLen; omega) (by omega) hbx.size
        refine u_new ?_ ho hb
        simp only [execOp, resolve, invoke, builtin, Sem.run_bind, Sem.run_pure, Result.andThen_ok, List.map_toArray, List.map_cons, List.map_nil, e34, e37, hr]
      · intro ρ wx hρ hbx hl
        have e1 : ρ (.tmp 1) = .string key := hρ.tmp 1 (by decide +kernel)
        refine u_val (v := .string key) ?_ rfl
        simp [execOp, go_sem, e1]
      · intro ρ wx hρ hbx hl
        have e39 : ρ (.tmp 39) = .string key := hl 5 (by decide +kernel) (.inl rfl) 39 rfl
        refine u_new (v := .slice (some ⟨wx.heap.size, 0, none⟩) 1 1) (w' := wx.alloc (.cells #[.string key] 9)) ?_ ⟨_, rfl, heap_alloc_new wx _⟩ ((Below.refl _ _).alloc (Nat.le_refl _) _)
        simp [execOp, go_sem, e39]
      · intro ρ wx hρ hbx hl
        have e38 : (ownsF w.heap.size 9 1 at' (scells (l.take at'))).p (ρ (.tmp 38)) wx := hl 4 (by decide +kernel) (.inr rfl) 38 rfl
        have e40 : (litF 9 #[.string key] 1).p (ρ (.tmp 40)) wx := hl 6 (by decide +kernel) (.inr rfl) 40 rfl
        obtain ⟨g40, e40, o40⟩ := e40
        have hrd := lit_reads (cs := [.string key]) (size := 1) o40 rfl (by decide)
        obtain ⟨v', w', hr, ho, hg, hb, _⟩ := run_append_owns (P := Tryd.prog) (w := wx) w.heap.size 22 22 22 9 i0 _ 1 16 Tryd.underlying22 hi hz0 hz1 hz2 rfl _ at' _ e38 _ 1 [.string key] (hrd.src Tryd.underlying22 (by simp [Value.oneCell'])) (by unfold maxLen; omega) (by omega) hbx.size
        rw [show scells (l.take at') ++ [Value.string key] = scells (l.take at' ++ [key]) from (scells_append (l.take at') [key]).symm] at ho
        refine u_new ?_ ho hb
        simp only [execOp, resolve, invoke, builtin, Sem.run_bind, Sem.run_pure, Result.andThen_ok, List.map_toArray, List.map_cons, List.map_nil, e40, hr]
      · intro ρ wx hρ hbx hl
        have e0 : ρ (.tmp 0) = .slice a n cap := hρ.tmp 0 (by decide +kernel)
        refine u_val (v := .slice a n cap) ?_ rfl
        simp [execOp, go_sem, e0]
      · intro ρ wx hρ hbx hl
        have e6 : ρ (.tmp 6) = .int .i64 (at' : Int) := hρ.tmp 6 (by decide +kernel)
        refine u_val (v := .int .i64 (at' : Int)) ?_ rfl
        simp [execOp, go_sem, e6]
      · intro ρ wx hρ hbx hl
        have e42 : ρ (.tmp 42) = .slice a n cap := hl 8 (by decide +kernel) (.inl rfl) 42 rfl
        have e43 : ρ (.tmp 43) = .int .i64 (at' : Int) := hl 9 (by decide +kernel) (.inl rfl) 43 rfl
        refine u_val (v := .slice (behind a at' cap) (n - at') (cap - at')) ?_ rfl
        simp [execOp, go_sem, e42, e43, behind, hat]
      · intro ρ wx hρ hbx hl
        have e41 : (ownsF w.heap.size 9 1 (at' + 1) (scells (l.take at' ++ [key]))).p (ρ (.tmp 41)) wx := hl 7 (by decide +kernel) (.inr rfl) 41 rfl
        have e44 : ρ (.tmp 44) = .slice (behind a at' cap) (n - at') (cap - at') := hl 10 (by decide +kernel) (.inl rfl) 44 rfl
        obtain ⟨v', w', hr, ho, hg, hb, _⟩ := run_append_owns (P := Tryd.prog) (w := wx) w.heap.size 22 22 22 9 i0 _ 1 16 Tryd.underlying22 hi hz0 hz1 hz2 rfl _ (at' + 1) _ e41 (.slice (behind a at' cap) (n - at') (cap - at')) (n - at') (scells (l.drop at')) (((HR.out.below' hbx).sdrop at' hat).src Tryd.underlying22 (scells_one _)) (by unfold maxLen; omega) (by omega) hbx.size
        rw [← scells_append, List.append_assoc, List.singleton_append, show at' + 1 + (n - at') = n + 1 by omega] at ho
        refine u_new ?_ ho hb
        simp only [execOp, resolve, invoke, builtin, Sem.run_bind, Sem.run_pure, Result.andThen_ok, List.map_toArray, List.map_cons, List.map_nil, e44, hr]
      · intro ρ wx hρ hbx hl
        have e45 : (ownsF w.heap.size 9 1 (n + 1) (scells (l.take at' ++ key :: l.drop at'))).p (ρ (.tmp 45)) wx := hl 11 (by decide +kernel) (.inl rfl) 45 rfl
        refine u_val (v := ρ (.tmp 45)) ?_ e45
        simp [execOp, go_sem]
      · intro ρ wx hρ hbx hl
        refine u_val (v := .bool true) ?_ rfl
        simp [execOp, hρ.const, go_sem]
      intro aa wz hdef hsz hlk hbz hf
      have ha := act_of_like hdef hsz hlk [34, 35, 36, 37, 38, 39, 40, 41, 42, 43, 44, 45, 4, 5] 46 rfl (by decide +kernel)
      have e35 : aa.tmps.getD 35 undef = .slice a n cap := hf 1 _ 35 rfl rfl rfl
      have e36 : aa.tmps.getD 36 undef = .int .i64 (at' : Int) := hf 2 _ 36 rfl rfl rfl
      have e37 : aa.tmps.getD 37 undef = .slice a at' cap := hf 3 _ 37 rfl rfl rfl
      have e39 : aa.tmps.getD 39 undef = .string key := hf 5 _ 39 rfl rfl rfl
      have e42 : aa.tmps.getD 42 undef = .slice a n cap := hf 8 _ 42 rfl rfl rfl
      have e43 : aa.tmps.getD 43 undef = .int .i64 (at' : Int) := hf 9 _ 43 rfl rfl rfl
      have e44 : aa.tmps.getD 44 undef = .slice (behind a at' cap) (n - at') (cap - at') := hf 10 _ 44 rfl rfl rfl
      have e45 : (ownsF w.heap.size 9 1 (n + 1) (scells (l.take at' ++ key :: l.drop at'))).p (aa.tmps.getD 45 undef) wz := hf 11 _ 45 rfl rfl rfl
      generalize hv45 : aa.tmps.getD 45 undef = v45 at e45
      have e4 : (ownsF w.heap.size 9 1 (n + 1) (scells (l.take at' ++ key :: l.drop at'))).p (aa.tmps.getD 4 undef) wz := hf 12 _ 4 rfl rfl rfl
      generalize hv4 : aa.tmps.getD 4 undef = v4 at e4
      have e5 : aa.tmps.getD 5 undef = .bool true := hf 13 _ 5 rfl rfl rfl
      simp only [putAll, List.foldl_cons, List.foldl_nil, e35, e36, e37, e39, e42, e43, e44, hv45, hv4, e5] at ha
      generalize aa.tmps.getD 34 undef = v34 at ha
      generalize aa.tmps.getD 38 undef = v38 at ha
      generalize aa.tmps.getD 40 undef = v40 at ha
      generalize aa.tmps.getD 41 undef = v41 at ha
      simp [Act.put] at ha
      subst ha
      clear hdef hsz hlk hf e35 e36 e37 e39 e42 e43 e44 hv45 hv4 e5
      have HB := Lib.hid hbz
      have hlen : (l.take at' ++ key :: l.drop at').length = n + 1 := by
        have := HLL.out
        simp
        omega
      obtain ⟨a9, c9, hv9, _, _⟩ := (ownsRow.reads e4).le
      subst hv9
      have HW := Lib.hid (ownsRow.reads e4)
      clear e45 e4 hbz
      go_wp2
      go_ret2
      unfold PutPost
      rw [HP.out, hlen]
      exact ⟨_, _, _, rfl, HW.out, HB.out⟩
end Go.Proofs.YtfhdonidgegebaaDoor

/- sentryref11.Put: of a row of one's own. -/
namespace Go.Proofs.YtfhdonidgegebaaDoor
open Go Go.RowKit

theorem owns_lower {w : World} {B C n s : Nat} {e : TypeId} {v : Value} {xs : List Value} (h : w.ownsRow B e s v n xs) (hc : C ≤ B) : w.ownsRow C e s v n xs := by
  refine ⟨h.1, ?_⟩
  rcases h.2 with h0 | ⟨g, cap, cur, hv, hB, h3⟩
  · exact .inl h0
  · exact .inr ⟨g, cap, cur, hv, by omega, h3⟩

def PutOPost (w : World) (B : Nat) (l : List ByteArray) (key : ByteArray) (e : Ending) (w' : World) : Prop :=
  ∃ v b, e = .returned (.tuple #[v, .bool b]) ∧ w'.ownsRow B 9 1 v (putK l key).length (scells (putK l key)) ∧ Below w.heap.size w w'

set_option maxRecDepth 100000 in
set_option maxHeartbeats 2000000 in
theorem puto_any (w : World) (B : Nat) (a : Option Addr) (n cap : Nat) (l : List ByteArray) (key : ByteArray) (ho : w.ownsRow B 9 1 (.slice a n cap) n (scells l)) (hB : B ≤ w.heap.size) (hn : n ≤ 5000000000000) :
    Calls Tryd.prog 38 #[.slice a n cap, .string key] w (PutOPost w B l key) := by
  have h := ownsRow.reads ho
  have HOw := Lib.hid ho
  clear ho
  obtain ⟨i0, hi, hz0, hz1, hz2⟩ := info_parts info9
  have HR := Lib.hid h
  have hll : l.length = n := by have := h.1; rw [scells_length] at this; omega
  have HLL := Lib.hid hll
  obtain ⟨_, _, hv, hc1, hc2⟩ := h.le
  cases hv
  have hc3 := hc2
  unfold maxLen at hc2
  clear h hll
  go_enter Tryd.func38, Tryd.ntmps38
  go_wp2
  go_loop [6] (fun v => PutARel l key v) (fun v => n - (intOf v).toNat)
  case atStart => exact ⟨0, rfl, Nat.zero_le _, fun j x hj => by omega⟩
  case round =>
    obtain ⟨i, rfl, hil, hlt⟩ := hrel
    rw [HLL.out] at hil
    have HLt := Lib.hid hlt
    clear hlt
    by_cases hin : i < n
    · have hinI : (i : Int) < n := by omega
      obtain ⟨b, off, x, rfl, hx, hb, hc⟩ := HR.out.scell i hin
      cases hbl : bl x key with
      | true =>
        have hbI : Op.bytesLess x.toList key.toList = true := by rw [bl_spell]; exact hbl
        have HX := Lib.hid hx
        have HBl := Lib.hid hbl
        clear hx hbl
        go_wp2
        refine ⟨⟨i + 1, by go_num, by rw [HLL.out]; omega, fun j y hj hy => ?_⟩, by simp [intOf]; omega⟩
        by_cases hji : j < i
        · exact HLt.out j y hji hy
        · obtain rfl : j = i := by omega
          rw [HX.out] at hy
          cases hy
          exact HBl.out
      | false =>
        have hbI : Op.bytesLess x.toList key.toList = false := by rw [bl_spell]; exact hbl
        have hpa : putAt l key = i := putAt_eq HLt.out (by rw [HLL.out]; omega) (fun y hy => by rw [hx] at hy; cases hy; exact hbl)
        by_cases hxk : x = key
        · subst hxk
          have hpk : putK l x = l := by unfold putK; rw [hpa, hx, if_pos rfl]
          have HP := Lib.hid hpk
          clear hx hpa hpk hbl
          go_wp2
          go_ret2
          exact ⟨_, _, rfl, by rw [HP.out, HLL.out]; exact HOw.out, Below.refl _ _⟩
        · have hpk : putK l key = l.take i ++ key :: l.drop i := by
            unfold putK
            rw [hpa, hx, if_neg (fun e => hxk (Option.some.inj e))]
          have hxkI : (x.toList == key.toList) = false := by
            rw [beq_eq_false_iff_ne, Go.ByteArray.toList_eq, Go.ByteArray.toList_eq]
            exact fun e => hxk (Go.WideShapes.bytes_inj e)
          have hat : i ≤ n := by omega
          have HP := Lib.hid hpk
          clear hx hpk hbl HLt hxk hil hpa
          go_wp2_with fail
          generalize (some ({ block := b, off := off } : Addr)) = a at *
          clear hb hc
          obtain ⟨at', rfl⟩ : ∃ at', at' = i := ⟨_, rfl⟩
          refine wp_region_until (by kernel_rfl) [onU (zeroF w.heap.size 9 1) (some 4), eqU (.slice a n cap), eqU (.int .i64 (at' : Int)), eqU (.slice a at' cap), onU (ownsF w.heap.size 9 1 at' (scells (l.take at'))) (some 7), eqU (.string key), onU (litF 9 #[.string key] 1) (some 7), onU (ownsF w.heap.size 9 1 (at' + 1) (scells (l.take at' ++ [key]))) (some 11), eqU (.slice a n cap), eqU (.int .i64 (at' : Int)), eqU (.slice (behind a at' cap) (n - at') (cap - at')), onU (ownsF w.heap.size 9 1 (n + 1) (scells (l.take at' ++ key :: l.drop at'))) none, onU (ownsF w.heap.size 9 1 (n + 1) (scells (l.take at' ++ key :: l.drop at'))) none, eqU (.bool true)] [7, 11] (by kernel_rfl) (by kernel_rfl) (by kernel_rfl) ⟨?_, ?_, ?_, ?_, ?_, ?_, ?_, ?_, ?_, ?_, ?_, ?_, ?_, ?_, trivial⟩ ?_
          · intro ρ wx hρ hbx hl
            refine u_new (v := .slice (some ⟨wx.heap.size, 0, none⟩) 0 0) (w' := wx.alloc (.cells #[] 9)) ?_ ⟨_, rfl, owns_less (owns_zero wx _ 1) hbx.size⟩ ((Below.refl _ _).alloc (Nat.le_refl _) _)
            simp [execOp, go_sem]
          · intro ρ wx hρ hbx hl
            have e0 : ρ (.tmp 0) = .slice a n cap := hρ.tmp 0 (by decide +kernel)
            refine u_val (v := .slice a n cap) ?_ rfl
            simp [execOp, go_sem, e0]
          · intro ρ wx hρ hbx hl
            have e6 : ρ (.tmp 6) = .int .i64 (at' : Int) := hρ.tmp 6 (by decide +kernel)
            refine u_val (v := .int .i64 (at' : Int)) ?_ rfl
            simp [execOp, go_sem, e6]
          · intro ρ wx hρ hbx hl
            have e35 : ρ (.tmp 35) = .slice a n cap := hl 1 (by decide +kernel) (.inl rfl) 35 rfl
            have e36 : ρ (.tmp 36) = .int .i64 (at' : Int) := hl 2 (by decide +kernel) (.inl rfl) 36 rfl
            refine u_val (v := .slice a at' cap) ?_ rfl
            simp [execOp, go_sem, e35, e36]
            first | done | omega
          · intro ρ wx hρ hbx hl
            have e34 : (zeroF w.heap.size 9 1).p (ρ (.tmp 34)) wx := hl 0 (by decide +kernel) (.inr rfl) 34 rfl
            have e37 : ρ (.tmp 37) = .slice a at' cap := hl 3 (by decide +kernel) (.inl rfl) 37 rfl
            obtain ⟨g34, e34, o34⟩ := e34
            rw [e34] at o34
            obtain ⟨v', w', hr, ho, hb⟩ := run_append_zero (P := Tryd.prog) (w := wx) w.heap.size 22 22 22 9 i0 _ 16 Tryd.underlying22 hi hz0 hz1 hz2 rfl g34 o34 (.slice a at' cap) at' (scells (l.take at')) (((HR.out.below' hbx).stake at' hat).src Tryd.underlying22 (scells_one _)) (by unfold maxLen; omega) (by omega) hbx.size
            refine u_new ?_ ho hb
            simp only [execOp, resolve, invoke, builtin, Sem.run_bind, Sem.run_pure, Result.andThen_ok, List.map_toArray, List.map_cons, List.map_nil, e34, e37, hr]
          · intro ρ wx hρ hbx hl
            have e1 : ρ (.tmp 1) = .string key := hρ.tmp 1 (by decide +kernel)
            refine u_val (v := .string key) ?_ rfl
            simp [execOp, go_sem, e1]
          · intro ρ wx hρ hbx hl
            have e39 : ρ (.tmp 39) = .string key := hl 5 (by decide +kernel) (.inl rfl) 39 rfl
            refine u_new (v := .slice (some ⟨wx.heap.size, 0, none⟩) 1 1) (w' := wx.alloc (.cells #[.string key] 9)) ?_ ⟨_, rfl, heap_alloc_new wx _⟩ ((Below.refl _ _).alloc (Nat.le_refl _) _)
            simp [execOp, go_sem, e39]
          · intro ρ wx hρ hbx hl
            have e38 : (ownsF w.heap.size 9 1 at' (scells (l.take at'))).p (ρ (.tmp 38)) wx := hl 4 (by decide +kernel) (.inr rfl) 38 rfl
            have e40 : (litF 9 #[.string key] 1).p (ρ (.tmp 40)) wx := hl 6 (by decide +kernel) (.inr rfl) 40 rfl
            obtain ⟨g40, e40, o40⟩ := e40
            have hrd := lit_reads (cs := [.string key]) (size := 1) o40 rfl (by decide)
            obtain ⟨v', w', hr, ho, hg, hb, _⟩ := run_append_owns (P := Tryd.prog) (w := wx) w.heap.size 22 22 22 9 i0 _ 1 16 Tryd.underlying22 hi hz0 hz1 hz2 rfl _ at' _ e38 _ 1 [.string key] (hrd.src Tryd.underlying22 (by simp [Value.oneCell'])) (by unfold maxLen; omega) (by omega) hbx.size
            rw [show scells (l.take at') ++ [Value.string key] = scells (l.take at' ++ [key]) from (scells_append (l.take at') [key]).symm] at ho
            refine u_new ?_ ho hb
            simp only [execOp, resolve, invoke, builtin, Sem.run_bind, Sem.run_pure, Result.andThen_ok, List.map_toArray, List.map_cons, List.map_nil, e40, hr]
          · intro ρ wx hρ hbx hl
            have e0 : ρ (.tmp 0) = .slice a n cap := hρ.tmp 0 (by decide +kernel)
            refine u_val (v := .slice a n cap) ?_ rfl
            simp [execOp, go_sem, e0]
          · intro ρ wx hρ hbx hl
            have e6 : ρ (.tmp 6) = .int .i64 (at' : Int) := hρ.tmp 6 (by decide +kernel)
            refine u_val (v := .int .i64 (at' : Int)) ?_ rfl
            simp [execOp, go_sem, e6]
          · intro ρ wx hρ hbx hl
            have e42 : ρ (.tmp 42) = .slice a n cap := hl 8 (by decide +kernel) (.inl rfl) 42 rfl
            have e43 : ρ (.tmp 43) = .int .i64 (at' : Int) := hl 9 (by decide +kernel) (.inl rfl) 43 rfl
            refine u_val (v := .slice (behind a at' cap) (n - at') (cap - at')) ?_ rfl
            simp [execOp, go_sem, e42, e43, behind, hat]
          · intro ρ wx hρ hbx hl
            have e41 : (ownsF w.heap.size 9 1 (at' + 1) (scells (l.take at' ++ [key]))).p (ρ (.tmp 41)) wx := hl 7 (by decide +kernel) (.inr rfl) 41 rfl
            have e44 : ρ (.tmp 44) = .slice (behind a at' cap) (n - at') (cap - at') := hl 10 (by decide +kernel) (.inl rfl) 44 rfl
            obtain ⟨v', w', hr, ho, hg, hb, _⟩ := run_append_owns (P := Tryd.prog) (w := wx) w.heap.size 22 22 22 9 i0 _ 1 16 Tryd.underlying22 hi hz0 hz1 hz2 rfl _ (at' + 1) _ e41 (.slice (behind a at' cap) (n - at') (cap - at')) (n - at') (scells (l.drop at')) (((HR.out.below' hbx).sdrop at' hat).src Tryd.underlying22 (scells_one _)) (by unfold maxLen; omega) (by omega) hbx.size
            rw [← scells_append, List.append_assoc, List.singleton_append, show at' + 1 + (n - at') = n + 1 by omega] at ho
            refine u_new ?_ ho hb
            simp only [execOp, resolve, invoke, builtin, Sem.run_bind, Sem.run_pure, Result.andThen_ok, List.map_toArray, List.map_cons, List.map_nil, e44, hr]
          · intro ρ wx hρ hbx hl
            have e45 : (ownsF w.heap.size 9 1 (n + 1) (scells (l.take at' ++ key :: l.drop at'))).p (ρ (.tmp 45)) wx := hl 11 (by decide +kernel) (.inl rfl) 45 rfl
            refine u_val (v := ρ (.tmp 45)) ?_ e45
            simp [execOp, go_sem]
          · intro ρ wx hρ hbx hl
            refine u_val (v := .bool true) ?_ rfl
            simp [execOp, hρ.const, go_sem]
          intro aa wz hdef hsz hlk hbz hf
          have ha := act_of_like hdef hsz hlk [34, 35, 36, 37, 38, 39, 40, 41, 42, 43, 44, 45, 4, 5] 46 rfl (by decide +kernel)
          have e35 : aa.tmps.getD 35 undef = .slice a n cap := hf 1 _ 35 rfl rfl rfl
          have e36 : aa.tmps.getD 36 undef = .int .i64 (at' : Int) := hf 2 _ 36 rfl rfl rfl
          have e37 : aa.tmps.getD 37 undef = .slice a at' cap := hf 3 _ 37 rfl rfl rfl
          have e39 : aa.tmps.getD 39 undef = .string key := hf 5 _ 39 rfl rfl rfl
          have e42 : aa.tmps.getD 42 undef = .slice a n cap := hf 8 _ 42 rfl rfl rfl
          have e43 : aa.tmps.getD 43 undef = .int .i64 (at' : Int) := hf 9 _ 43 rfl rfl rfl
          have e44 : aa.tmps.getD 44 undef = .slice (behind a at' cap) (n - at') (cap - at') := hf 10 _ 44 rfl rfl rfl
          have e45 : (ownsF w.heap.size 9 1 (n + 1) (scells (l.take at' ++ key :: l.drop at'))).p (aa.tmps.getD 45 undef) wz := hf 11 _ 45 rfl rfl rfl
          generalize hv45 : aa.tmps.getD 45 undef = v45 at e45
          have e4 : (ownsF w.heap.size 9 1 (n + 1) (scells (l.take at' ++ key :: l.drop at'))).p (aa.tmps.getD 4 undef) wz := hf 12 _ 4 rfl rfl rfl
          generalize hv4 : aa.tmps.getD 4 undef = v4 at e4
          have e5 : aa.tmps.getD 5 undef = .bool true := hf 13 _ 5 rfl rfl rfl
          simp only [putAll, List.foldl_cons, List.foldl_nil, e35, e36, e37, e39, e42, e43, e44, hv45, hv4, e5] at ha
          generalize aa.tmps.getD 34 undef = v34 at ha
          generalize aa.tmps.getD 38 undef = v38 at ha
          generalize aa.tmps.getD 40 undef = v40 at ha
          generalize aa.tmps.getD 41 undef = v41 at ha
          simp [Act.put] at ha
          subst ha
          clear hdef hsz hlk hf e35 e36 e37 e39 e42 e43 e44 hv45 hv4 e5
          have HB := Lib.hid hbz
          have hlen : (l.take at' ++ key :: l.drop at').length = n + 1 := by
            have := HLL.out
            simp
            omega
          obtain ⟨a9, c9, hv9, _, _⟩ := (ownsRow.reads e4).le
          subst hv9
          have HW := Lib.hid (owns_lower e4 hB)
          clear e45 e4 hbz
          go_wp2
          go_ret2
          exact ⟨_, _, rfl, by rw [HP.out, hlen]; exact HW.out, HB.out⟩
    · have hinI : ¬ ((i : Int) < n) := by omega
      have hnone : l[i]? = none := List.getElem?_eq_none (by rw [HLL.out]; omega)
      have hpa : putAt l key = i := putAt_eq HLt.out (by rw [HLL.out]; omega) (fun x hx => by rw [hnone] at hx; cases hx)
      have hpk : putK l key = l.take i ++ key :: l.drop i := by
        unfold putK
        rw [hpa, hnone, if_neg (by simp)]
      have HP := Lib.hid hpk
      have hat : i ≤ n := hil
      clear hpk HLt hil hpa hnone
      go_wp2_with fail
      obtain ⟨at', rfl⟩ : ∃ at', at' = i := ⟨_, rfl⟩
      refine wp_region_until (by kernel_rfl) [onU (zeroF w.heap.size 9 1) (some 4), eqU (.slice a n cap), eqU (.int .i64 (at' : Int)), eqU (.slice a at' cap), onU (ownsF w.heap.size 9 1 at' (scells (l.take at'))) (some 7), eqU (.string key), onU (litF 9 #[.string key] 1) (some 7), onU (ownsF w.heap.size 9 1 (at' + 1) (scells (l.take at' ++ [key]))) (some 11), eqU (.slice a n cap), eqU (.int .i64 (at' : Int)), eqU (.slice (behind a at' cap) (n - at') (cap - at')), onU (ownsF w.heap.size 9 1 (n + 1) (scells (l.take at' ++ key :: l.drop at'))) none, onU (ownsF w.heap.size 9 1 (n + 1) (scells (l.take at' ++ key :: l.drop at'))) none, eqU (.bool true)] [7, 11] (by kernel_rfl) (by kernel_rfl) (by kernel_rfl) ⟨?_, ?_, ?_, ?_, ?_, ?_, ?_, ?_, ?_, ?_, ?_, ?_, ?_, ?_, trivial⟩ ?_
      · intro ρ wx hρ hbx hl
        refine u_new (v := .slice (some ⟨wx.heap.size, 0, none⟩) 0 0) (w' := wx.alloc (.cells #[] 9)) ?_ ⟨_, rfl, owns_less (owns_zero wx _ 1) hbx.size⟩ ((Below.refl _ _).alloc (Nat.le_refl _) _)
        simp [execOp, go_sem]
      · intro ρ wx hρ hbx hl
        have e0 : ρ (.tmp 0) = .slice a n cap := hρ.tmp 0 (by decide +kernel)
        refine u_val (v := .slice a n cap) ?_ rfl
        simp [execOp, go_sem, e0]
      · intro ρ wx hρ hbx hl
        have e6 : ρ (.tmp 6) = .int .i64 (at' : Int) := hρ.tmp 6 (by decide +kernel)
        refine u_val (v := .int .i64 (at' : Int)) ?_ rfl
        simp [execOp, go_sem, e6]
      · intro ρ wx hρ hbx hl
        have e35 : ρ (.tmp 35) = .slice a n cap := hl 1 (by decide +kernel) (.inl rfl) 35 rfl
        have e36 : ρ (.tmp 36) = .int .i64 (at' : Int) := hl 2 (by decide +kernel) (.inl rfl) 36 rfl
        refine u_val (v := .slice a at' cap) ?_ rfl
        simp [execOp, go_sem, e35, e36]
        first | done | omega
      · intro ρ wx hρ hbx hl
        have e34 : (zeroF w.heap.size 9 1).p (ρ (.tmp 34)) wx := hl 0 (by decide +kernel) (.inr rfl) 34 rfl
        have e37 : ρ (.tmp 37) = .slice a at' cap := hl 3 (by decide +kernel) (.inl rfl) 37 rfl
        obtain ⟨g34, e34, o34⟩ := e34
        rw [e34] at o34
        obtain ⟨v', w', hr, ho, hb⟩ := run_append_zero (P := Tryd.prog) (w := wx) w.heap.size 22 22 22 9 i0 _ 16 Tryd.underlying22 hi hz0 hz1 hz2 rfl g34 o34 (.slice a at' cap) at' (scells (l.take at')) (((HR.out.below' hbx).stake at' hat).src Tryd.underlying22 (scells_one _)) (by unfold maxLen; omega) (by omega) hbx.size
        refine u_new ?_ ho hb
        simp only [execOp, resolve, invoke, builtin, Sem.run_bind, Sem.run_pure, Result.andThen_ok, List.map_toArray, List.map_cons, List.map_nil, e34, e37, hr]
      · intro ρ wx hρ hbx hl
        have e1 : ρ (.tmp 1) = .string key := hρ.tmp 1 (by decide +kernel)
        refine u_val (v := .string key) ?_ rfl
        simp [execOp, go_sem, e1]
      · intro ρ wx hρ hbx hl
        have e39 : ρ (.tmp 39) = .string key := hl 5 (by decide +kernel) (.inl rfl) 39 rfl
        refine u_new (v := .slice (some ⟨wx.heap.size, 0, none⟩) 1 1) (w' := wx.alloc (.cells #[.string key] 9)) ?_ ⟨_, rfl, heap_alloc_new wx _⟩ ((Below.refl _ _).alloc (Nat.le_refl _) _)
        simp [execOp, go_sem, e39]
      · intro ρ wx hρ hbx hl
        have e38 : (ownsF w.heap.size 9 1 at' (scells (l.take at'))).p (ρ (.tmp 38)) wx := hl 4 (by decide +kernel) (.inr rfl) 38 rfl
        have e40 : (litF 9 #[.string key] 1).p (ρ (.tmp 40)) wx := hl 6 (by decide +kernel) (.inr rfl) 40 rfl
        obtain ⟨g40, e40, o40⟩ := e40
        have hrd := lit_reads (cs := [.string key]) (size := 1) o40 rfl (by decide)
        obtain ⟨v', w', hr, ho, hg, hb, _⟩ := run_append_owns (P := Tryd.prog) (w := wx) w.heap.size 22 22 22 9 i0 _ 1 16 Tryd.underlying22 hi hz0 hz1 hz2 rfl _ at' _ e38 _ 1 [.string key] (hrd.src Tryd.underlying22 (by simp [Value.oneCell'])) (by unfold maxLen; omega) (by omega) hbx.size
        rw [show scells (l.take at') ++ [Value.string key] = scells (l.take at' ++ [key]) from (scells_append (l.take at') [key]).symm] at ho
        refine u_new ?_ ho hb
        simp only [execOp, resolve, invoke, builtin, Sem.run_bind, Sem.run_pure, Result.andThen_ok, List.map_toArray, List.map_cons, List.map_nil, e40, hr]
      · intro ρ wx hρ hbx hl
        have e0 : ρ (.tmp 0) = .slice a n cap := hρ.tmp 0 (by decide +kernel)
        refine u_val (v := .slice a n cap) ?_ rfl
        simp [execOp, go_sem, e0]
      · intro ρ wx hρ hbx hl
        have e6 : ρ (.tmp 6) = .int .i64 (at' : Int) := hρ.tmp 6 (by decide +kernel)
        refine u_val (v := .int .i64 (at' : Int)) ?_ rfl
        simp [execOp, go_sem, e6]
      · intro ρ wx hρ hbx hl
        have e42 : ρ (.tmp 42) = .slice a n cap := hl 8 (by decide +kernel) (.inl rfl) 42 rfl
        have e43 : ρ (.tmp 43) = .int .i64 (at' : Int) := hl 9 (by decide +kernel) (.inl rfl) 43 rfl
        refine u_val (v := .slice (behind a at' cap) (n - at') (cap - at')) ?_ rfl
        simp [execOp, go_sem, e42, e43, behind, hat]
      · intro ρ wx hρ hbx hl
        have e41 : (ownsF w.heap.size 9 1 (at' + 1) (scells (l.take at' ++ [key]))).p (ρ (.tmp 41)) wx := hl 7 (by decide +kernel) (.inr rfl) 41 rfl
        have e44 : ρ (.tmp 44) = .slice (behind a at' cap) (n - at') (cap - at') := hl 10 (by decide +kernel) (.inl rfl) 44 rfl
        obtain ⟨v', w', hr, ho, hg, hb, _⟩ := run_append_owns (P := Tryd.prog) (w := wx) w.heap.size 22 22 22 9 i0 _ 1 16 Tryd.underlying22 hi hz0 hz1 hz2 rfl _ (at' + 1) _ e41 (.slice (behind a at' cap) (n - at') (cap - at')) (n - at') (scells (l.drop at')) (((HR.out.below' hbx).sdrop at' hat).src Tryd.underlying22 (scells_one _)) (by unfold maxLen; omega) (by omega) hbx.size
        rw [← scells_append, List.append_assoc, List.singleton_append, show at' + 1 + (n - at') = n + 1 by omega] at ho
        refine u_new ?_ ho hb
        simp only [execOp, resolve, invoke, builtin, Sem.run_bind, Sem.run_pure, Result.andThen_ok, List.map_toArray, List.map_cons, List.map_nil, e44, hr]
      · intro ρ wx hρ hbx hl
        have e45 : (ownsF w.heap.size 9 1 (n + 1) (scells (l.take at' ++ key :: l.drop at'))).p (ρ (.tmp 45)) wx := hl 11 (by decide +kernel) (.inl rfl) 45 rfl
        refine u_val (v := ρ (.tmp 45)) ?_ e45
        simp [execOp, go_sem]
      · intro ρ wx hρ hbx hl
        refine u_val (v := .bool true) ?_ rfl
        simp [execOp, hρ.const, go_sem]
      intro aa wz hdef hsz hlk hbz hf
      have ha := act_of_like hdef hsz hlk [34, 35, 36, 37, 38, 39, 40, 41, 42, 43, 44, 45, 4, 5] 46 rfl (by decide +kernel)
      have e35 : aa.tmps.getD 35 undef = .slice a n cap := hf 1 _ 35 rfl rfl rfl
      have e36 : aa.tmps.getD 36 undef = .int .i64 (at' : Int) := hf 2 _ 36 rfl rfl rfl
      have e37 : aa.tmps.getD 37 undef = .slice a at' cap := hf 3 _ 37 rfl rfl rfl
      have e39 : aa.tmps.getD 39 undef = .string key := hf 5 _ 39 rfl rfl rfl
      have e42 : aa.tmps.getD 42 undef = .slice a n cap := hf 8 _ 42 rfl rfl rfl
      have e43 : aa.tmps.getD 43 undef = .int .i64 (at' : Int) := hf 9 _ 43 rfl rfl rfl
      have e44 : aa.tmps.getD 44 undef = .slice (behind a at' cap) (n - at') (cap - at') := hf 10 _ 44 rfl rfl rfl
      have e45 : (ownsF w.heap.size 9 1 (n + 1) (scells (l.take at' ++ key :: l.drop at'))).p (aa.tmps.getD 45 undef) wz := hf 11 _ 45 rfl rfl rfl
      generalize hv45 : aa.tmps.getD 45 undef = v45 at e45
      have e4 : (ownsF w.heap.size 9 1 (n + 1) (scells (l.take at' ++ key :: l.drop at'))).p (aa.tmps.getD 4 undef) wz := hf 12 _ 4 rfl rfl rfl
      generalize hv4 : aa.tmps.getD 4 undef = v4 at e4
      have e5 : aa.tmps.getD 5 undef = .bool true := hf 13 _ 5 rfl rfl rfl
      simp only [putAll, List.foldl_cons, List.foldl_nil, e35, e36, e37, e39, e42, e43, e44, hv45, hv4, e5] at ha
      generalize aa.tmps.getD 34 undef = v34 at ha
      generalize aa.tmps.getD 38 undef = v38 at ha
      generalize aa.tmps.getD 40 undef = v40 at ha
      generalize aa.tmps.getD 41 undef = v41 at ha
      simp [Act.put] at ha
      subst ha
      clear hdef hsz hlk hf e35 e36 e37 e39 e42 e43 e44 hv45 hv4 e5
      have HB := Lib.hid hbz
      have hlen : (l.take at' ++ key :: l.drop at').length = n + 1 := by
        have := HLL.out
        simp
        omega
      obtain ⟨a9, c9, hv9, _, _⟩ := (ownsRow.reads e4).le
      subst hv9
      have HW := Lib.hid (owns_lower e4 hB)
      clear e45 e4 hbz
      go_wp2
      go_ret2
      exact ⟨_, _, rfl, by rw [HP.out, hlen]; exact HW.out, HB.out⟩
end Go.Proofs.YtfhdonidgegebaaDoor


namespace Go.Proofs.YtfhdonidgegebaaDoor

theorem beVal_rev (a k : Nat) (hk : k ≤ 8) (ha : a < 18446744073709551616) : beVal (revBytes a k) = top a k := by
  induction k with
  | zero =>
    have h1 : top a 0 = 0 := by unfold top; rw [Nat.div_eq_zero_iff]; right; show _ < 256 ^ 8; omega
    rw [h1]; rfl
  | succ k ih => rw [revBytes, beVal_snoc, ih (by omega), top_succ a k (by omega) ha]

theorem outer_inner (p : List UInt8) (a : Nat) (x : Bool) (ha : a < 18446744073709551616) : outer (inner p a x) = some (p, a, x) := by
  have h : unesc (inner p a x) = some (p, revBytes a 8 ++ [if x then 0 else 1]) := by
    rw [inner, innTo]
    simp only [List.append_assoc]
    exact unesc_esc p _
  have hl : (revBytes a 8).length = 8 := revBytes_length a 8
  have ht : top a 8 = 18446744073709551615 - a := by simp [top]
  unfold outer
  rw [h]
  simp only
  have h8 : (revBytes a 8 ++ [if x then 0 else 1]).getD 8 0 = if x then 0 else 1 := by
    rw [List.getD_eq_getElem?_getD, List.getElem?_append_right (by omega), hl]
    rfl
  rw [h8, if_pos ⟨by simp [hl], by cases x <;> decide⟩, List.take_left' hl, beVal_rev a 8 (by omega) ha, ht]
  cases x <;> simp <;> omega
end Go.Proofs.YtfhdonidgegebaaDoor

/- sentrylaw14.keys: the walk; entries' inner keys make a table. -/
namespace Go.Proofs.YtfhdonidgegebaaDoor
open Go Go.RowKit

def Low14 (es : List Ent) : Prop := ∀ x ∈ es, x.key.size ≤ 100

def Keys14Rel (w : World) (es : List Ent) (ov iv : Value) (wr : World) : Prop :=
  ∃ k : Nat, iv = .int .i64 (k : Int) ∧ k ≤ es.length ∧ Low14 (es.take k) ∧ wr.ownsRow w.heap.size 9 1 ov (rowsL (es.take k)).length (scells (rowsL (es.take k))) ∧ Below w.heap.size w wr

def Keys14Post (w : World) (es : List Ent) (e : Ending) (w' : World) : Prop :=
  Below w.heap.size w w' ∧ ((Low14 es ∧ ∃ v, e = .returned (.tuple #[v, .bool (decide (es.length ≤ 100))]) ∧ w'.ownsRow w.heap.size 9 1 v (rowsL es).length (scells (rowsL es))) ∨
    (¬ Low14 es ∧ e = .returned (.tuple #[.slice none 0 0, .bool false])))

theorem low14_snoc {es : List Ent} {k : Nat} {y : Ent} (h : es[k]? = some y) (hy : y.key.size ≤ 100) (hl : Low14 (es.take k)) : Low14 (es.take (k + 1)) := by
  rw [List.take_add_one, h]
  intro x hx
  rcases List.mem_append.1 hx with hx | hx
  · exact hl x hx
  · simp at hx
    subst hx
    exact hy

theorem rowsL_next {es : List Ent} {k : Nat} {y : Ent} (h : es[k]? = some y) : rowsL (es.take (k + 1)) = putK (rowsL (es.take k)) (innB y) := by
  rw [List.take_add_one, h, Option.toList_some, rowsL_snoc]

set_option maxRecDepth 100000 in
set_option maxHeartbeats 2000000 in
theorem keys14_any (w : World) (a : Option Addr) (n cap : Nat) (es : List Ent) (h : Reads w 3 (.slice a n cap) n (ecells es)) (hl : es.length = n) (hn : n ≤ 5000000000000) (hks : ∀ x ∈ es, x.key.size ≤ maxLen ∧ x.rev < 18446744073709551616) :
    Calls Tryd.prog 11 #[.slice a n cap] w (Keys14Post w es) := by
  obtain ⟨_, _, hv, hc1, hc2⟩ := h.le
  cases hv
  unfold maxLen at hc2
  have HR := Lib.hid h
  have HL := Lib.hid hl
  have HK := Lib.hid hks
  clear h hl hks
  go_enter Tryd.func11, Tryd.ntmps11
  go_wp2
  go_loopw [4, 9] (fun o v wr => Keys14Rel w es o v wr) (fun _ v _ => n - (intOf v).toNat)
  case atStart => exact ⟨0, rfl, Nat.zero_le _, fun x hx => by simp at hx, owns_nil _ _ _ _, Below.refl _ _⟩
  case round =>
    obtain ⟨i, rfl, hil, hlow, hown, hb⟩ := hrel
    rw [HL.out] at hil
    obtain ⟨oa, ocap, rfl, ho1, ho2⟩ := (ownsRow.reads hown).le
    unfold maxLen at ho2
    have hol : (rowsL (es.take i)).length ≤ 5000000000000 := by
      have := (rowsL_all (es.take i)).2.1
      rw [List.length_take] at this
      omega
    have HB := Lib.hid hb
    have HO := Lib.hid hown
    have HLow := Lib.hid hlow
    clear hb hown hlow
    by_cases hin : i < n
    · have hinI : (i : Int) < n := by omega
      obtain ⟨y, hy⟩ : ∃ y, es[i]? = some y := ⟨es[i]'(by rw [HL.out]; exact hin), List.getElem?_eq_getElem _⟩
      obtain ⟨g2, off2, rfl, hgl2, c0, c1, c2⟩ := ent_cells (HR.out.below' HB.out) hy
      obtain ⟨hk1, hk2⟩ := HK.out y (List.mem_of_getElem? hy)
      unfold maxLen at hk1
      have hnext := rowsL_next hy
      have hsn := fun h => low14_snoc hy h HLow.out
      have hbad : ¬ y.key.size ≤ 100 → ¬ Low14 es := fun h hl => h (hl y (List.mem_of_getElem? hy))
      generalize rowsL (es.take i) = R at *
      obtain ⟨key, rev, del⟩ := y
      dsimp only at c0 c1 c2 hk1 hk2 hsn hbad
      have HN := Lib.hid hnext
      have HSn := Lib.hid hsn
      have HBad := Lib.hid hbad
      have hal := (Below.refl _ wr).alloc (Nat.le_refl _) (.cells #[.string key, .int .u64 (rev : Int), .bool del] 57)
      have HAl := Lib.hid hal
      clear hnext hy hal hsn hbad
      by_cases hk : key.size ≤ 100
      · have hkI : ¬ (100 : Int) < key.size := by omega
        have HI := Lib.hid (fun w' => refinner_any w' key rev del (by omega) hk2)
        go_wp2_with (go_at_call 24; go_must (refine (HI.out _).mono ?_))
        rintro e w1 ⟨rfl, b1⟩
        have hb1 : Below wr.heap.size wr w1 := HAl.out.trans (b1.mono (by simp))
        have HB1 := Lib.hid (HB.out.trans (hb1.mono HB.out.size))
        have hpk := puto_any w1 w.heap.size _ _ _ R (innB ⟨key, rev, del⟩) (owns_below HO.out hb1) HB1.out.size (by omega)
        have HP := Lib.hid hpk
        clear b1 hb1 hpk HI HAl c0 c1 c2
        have hinn : (⟨(inner key.data.toList rev del).toArray⟩ : ByteArray) = innB ⟨key, rev, del⟩ := rfl
        rw [hinn]
        clear hinn
        go_wp2_with (go_at_call 38; go_must (refine HP.out.mono ?_))
        rintro e w2 ⟨v2, b, rfl, r2, b2⟩
        have HB2 := Lib.hid (HB1.out.trans (b2.mono HB1.out.size))
        have HR2 := Lib.hid r2
        clear r2 b2 HP
        go_wp2
        refine ⟨⟨i + 1, by go_num, by rw [HL.out]; omega, HSn.out hk, ?_, HB2.out⟩, by simp [intOf]; omega⟩
        rw [HN.out]
        exact HR2.out
      · have hkI : (100 : Int) < key.size := by omega
        go_wp2
        go_ret2
        exact ⟨HB.out.trans (HAl.out.mono HB.out.size), .inr ⟨HBad.out hk, rfl⟩⟩
    · have hinI : ¬ ((i : Int) < n) := by omega
      have htk : es.take i = es := List.take_of_length_le (by rw [HL.out]; omega)
      rw [htk] at HO HLow ⊢
      by_cases h100 : n ≤ 100
      · have hI : (n : Int) ≤ 100 := by omega
        go_wp2
        go_ret2
        exact ⟨HB.out, .inl ⟨HLow.out, _, by rw [HL.out, decide_eq_true h100]; rfl, HO.out⟩⟩
      · have hI : ¬ (n : Int) ≤ 100 := by omega
        go_wp2
        go_ret2
        exact ⟨HB.out, .inl ⟨HLow.out, _, by rw [HL.out, decide_eq_false h100]; rfl, HO.out⟩⟩

theorem inn_size211 {x : Ent} (h : x.key.size ≤ 100) : (innB x).size ≤ 211 := by
  have h1 := esc_length x.key.data.toList
  have h2 : x.key.data.toList.length = x.key.size := Array.length_toList
  have h3 : (innB x).size = (inner x.key.data.toList x.rev x.del).length := by
    unfold innB
    show (inner x.key.data.toList x.rev x.del).toArray.size = _
    simp
  rw [h3, inner, List.length_append, innTo_length, List.length_singleton]
  omega

theorem good_rows {es : List Ent} (hl : Low14 es) (hn : es.length ≤ 100) (h0 : rowsL es ≠ []) : GoodK (rowsL es) 211 := by
  obtain ⟨h1, h2, h3⟩ := rowsL_all es
  refine ⟨h0, h1, fun k hk => ?_, by omega, by omega⟩
  obtain ⟨x, hx, rfl⟩ := h3 k hk
  exact inn_size211 (hl x hx)

theorem check_rows {es : List Ent} (hv : ∀ x ∈ es, x.rev < 18446744073709551616) (h0 : rowsL es ≠ []) {split : Int} (hs : 1 ≤ split) : checkL (rowsL es) split = 0 := by
  obtain ⟨h1, h2, h3⟩ := rowsL_all es
  unfold checkL
  rw [if_neg (by rintro (e | e); exact h0 e; omega), if_neg, if_neg]
  · intro h
    rw [List.any_eq_true] at h
    obtain ⟨i, hi, hb⟩ := h
    rw [List.mem_range] at hi
    have hi1 : i + 1 < (rowsL es).length := by omega
    have := steps_of_rises h1 (i + 1) (by omega) hi1 ((rowsL es).getD i ⟨#[]⟩) ((rowsL es).getD (i + 1) ⟨#[]⟩) (by
      rw [Nat.add_sub_cancel, List.getD_eq_getElem?_getD, List.getElem?_eq_getElem (by omega)]
      rfl) (by
      rw [List.getD_eq_getElem?_getD, List.getElem?_eq_getElem hi1]
      rfl)
    rw [this] at hb
    simp at hb
  · intro h
    rw [List.any_eq_true] at h
    obtain ⟨k, hk, hb⟩ := h
    obtain ⟨x, hx, rfl⟩ := h3 k hk
    unfold innB at hb
    rw [show (ByteArray.mk (inner x.key.data.toList x.rev x.del).toArray).data.toList = inner x.key.data.toList x.rev x.del by simp, outer_inner _ _ _ (hv x hx)] at hb
    simp at hb
end Go.Proofs.YtfhdonidgegebaaDoor

/- The law TableSpoilt's walk. -/
namespace Go.Proofs.YtfhdonidgegebaaDoor
open Go Go.RowKit

def Spo1Rel (W1 : World) (v : Value) (wr : World) : Prop := ∃ k : Nat, v = .int .i64 (k : Int) ∧ k ≤ 2 ∧ Below W1.heap.size W1 wr

def Spo2Rel (w5 : World) (m : Nat) (v : Value) (wi : World) : Prop := ∃ i : Nat, v = .int .i64 (i : Int) ∧ i ≤ m ∧ Below w5.heap.size w5 wi

def Spo3Rel (w7 : World) (ks : List ByteArray) (v : Value) (wi : World) : Prop := ∃ j : Nat, v = .int .i64 (j : Int) ∧ 1 ≤ j ∧ j ≤ ks.length + 1 ∧ Below w7.heap.size w7 wi

theorem blk_rises {T : Tab} {i : Int} {ks : List ByteArray} (h : BlkIs T i (.ok ks)) : rises ks := by
  obtain ⟨_, _, _, _, _, _, _, _, _, _, h, _⟩ := h
  exact h

/-- Two rows of bytes in a literal. -/
def TwoAt (W : World) (g : Nat) : Prop := ∀ k, k < 2 → ∃ xa xc l, W.cell? ⟨g, k, none⟩ = some (.slice xa l.length xc) ∧ g < W.heap.size ∧ Sl W.heap.size W (.slice xa l.length xc) l ∧ l.length ≤ 59000

theorem two_at {W wr : World} {g k : Nat} (h : TwoAt W g) (hb : Below W.heap.size W wr) (hk : k < 2) : ∃ xa xc l, wr.cell? ⟨g, k, none⟩ = some (.slice xa l.length xc) ∧ Sl wr.heap.size wr (.slice xa l.length xc) l ∧ l.length ≤ 59000 := by
  obtain ⟨xa, xc, l, h1, h2, h3, h4⟩ := h k hk
  exact ⟨xa, xc, l, (hb.cell (by simpa using h2)).trans h1, Sl.up (h3.below hb) hb.size, h4⟩

theorem two_lit {w : World} {x y : Value} {l m : List UInt8} (hx : Sl w.heap.size w x l) (hy : Sl w.heap.size w y m) (hl : l.length ≤ 59000) (hm : m.length ≤ 59000) : TwoAt (w.alloc (.cells #[x, y] 24)) w.heap.size := by
  have hb := (Below.refl w.heap.size w).alloc (Nat.le_refl _) (.cells #[x, y] 24)
  obtain ⟨xa, xc, rfl, _, _⟩ := hx.reads.le
  obtain ⟨ya, yc, rfl, _, _⟩ := hy.reads.le
  intro k hk
  match k, hk with
  | 0, _ => exact ⟨xa, xc, l, by rw [World.cell?_alloc_new w _ _ 0]; rfl, by simp, Sl.up (hx.below hb) (by simp), hl⟩
  | 1, _ => exact ⟨ya, yc, m, by rw [World.cell?_alloc_new w _ _ 1]; rfl, by simp, Sl.up (hy.below hb) (by simp), hm⟩

theorem w64_near {x : Int} (h1 : -9223372036854775808 ≤ x) (h2 : x ≤ 9223372036854775807) : wrap64 x = x := by
  unfold wrap64
  omega

theorem cut_num (cut N : Nat) (h0 : 0 < N) (h : N ≤ 59000) : ∃ i : Nat, wrap64 ((N : Int) - wrap64 ((wrap64 ((cut : Int) % 4 * ((cut : Int) / 4 % ((N : Int) + 1)))).tdiv 4)) = (i : Int) ∧ 1 ≤ i ∧ i ≤ N := by
  obtain ⟨q, hq, hqN⟩ : ∃ q : Nat, (cut : Int) / 4 % ((N : Int) + 1) = (q : Int) ∧ q ≤ N := ⟨cut / 4 % (N + 1), by simp, by have := Nat.mod_lt (cut / 4) (show 0 < N + 1 by omega); omega⟩
  obtain ⟨r, hr, hr3⟩ : ∃ r : Nat, (cut : Int) % 4 = (r : Int) ∧ r ≤ 3 := ⟨cut % 4, by omega, by omega⟩
  rw [hq, hr]
  obtain ⟨p, hp, hp3⟩ : ∃ p : Nat, (r : Int) * (q : Int) = (p : Int) ∧ p ≤ 3 * N := ⟨r * q, by simp, Nat.mul_le_mul hr3 hqN⟩
  rw [hp, w64_near (x := (p : Int)) (by omega) (by omega)]
  obtain ⟨d, hd, hd3⟩ : ∃ d : Nat, (p : Int).tdiv 4 = (d : Int) ∧ 4 * d ≤ p := ⟨p / 4, by rw [Int.tdiv_eq_ediv_of_nonneg (by omega)]; omega, by omega⟩
  rw [hd, w64_near (x := (d : Int)) (by omega) (by omega), w64_near (by omega) (by omega)]
  exact ⟨N - d, by omega, by omega, by omega⟩

set_option maxRecDepth 100000 in
set_option maxHeartbeats 4000000 in
theorem tableSpoilt_walk (w : World) (a : Option Addr) (n cap : Nat) (es : List Ent) (sp at' cut : Nat) (by' : Nat) (rv : Value) (raw : List UInt8) (h : Reads w 3 (.slice a n cap) n (ecells es)) (hl : es.length = n) (hn : n ≤ 5000000000000) (hks : ∀ x ∈ es, x.key.size ≤ maxLen ∧ x.rev < 18446744073709551616)
    (h1 : sp ≤ 65535) (h2 : at' ≤ 65535) (h3 : by' ≤ 255) (h4 : cut ≤ 65535) (hraw : Sl w.heap.size w rv raw) (hst : Steps w) :
    Calls Tryd.prog 5 #[.slice a n cap, .int .u16 (sp : Int), .int .u16 (at' : Int), .int .u8 (by' : Int), .int .u16 (cut : Int), rv] w (SaysTrue w) := by
  have HF := Lib.hid (fixed_any w hst)
  have HSt := Lib.hid hst
  have HR := Lib.hid h
  have HL := Lib.hid hl
  have HK := Lib.hid hks
  have HW := Lib.hid hraw
  obtain ⟨_, _, hv, hc1, hc2⟩ := h.le
  cases hv
  obtain ⟨ra, rcap, rfl, hr1, hr2⟩ := hraw.reads.le
  unfold maxLen at hc2 hr2
  clear hst h hl hks hraw
  go_enter Tryd.func5, Tryd.ntmps5
  go_wp2_with (go_at_call 8; go_must (refine HF.out.mono ?_))
  rintro e w1 ⟨rfl, b1⟩
  have HB1 := Lib.hid b1
  have HKy := Lib.hid (keys14_any w1 a n cap es (HR.out.below' b1) HL.out hn HK.out)
  clear b1 HF
  go_wp2_with (go_at_call 11; go_must (refine HKy.out.mono ?_))
  rintro e w2 ⟨b2, hp⟩
  have HB2 := Lib.hid (HB1.out.trans (b2.mono HB1.out.size))
  clear b2 HKy
  rcases hp with ⟨hlow, v, rfl, ho⟩ | ⟨_, rfl⟩
  case inr =>
    go_wp2
    go_ret
    exact ⟨rfl, HB2.out⟩
  obtain ⟨ka, kcap, rfl, hk1, hk2⟩ := (ownsRow.reads ho).le
  unfold maxLen at hk2
  have hgood := fun h100 h0 => good_rows hlow h100 h0
  have HO := Lib.hid (ownsRow.reads ho)
  have hl100 : (rowsL es).length ≤ es.length := (rowsL_all es).2.1
  have hsize : ∀ x ∈ rowsL es, x.size ≤ 60000 := fun x hx => by
    obtain ⟨y, hy, rfl⟩ := (rowsL_all es).2.2 x hx
    exact Nat.le_trans (inn_size211 (hlow y hy)) (by decide)
  clear ho hlow
  rw [HL.out] at hgood hl100 ⊢
  by_cases h100 : n ≤ 100
  case neg =>
    rw [decide_eq_false h100]
    go_wp2
    go_ret
    exact ⟨rfl, HB2.out⟩
  rw [decide_eq_true h100]
  by_cases hrl : raw.length ≤ 3000
  case neg =>
    have hrlI : (3000 : Int) < raw.length := by omega
    go_wp2
    go_ret
    exact ⟨rfl, HB2.out⟩
  have hrlI : ¬ (3000 : Int) < raw.length := by omega
  have hG := hgood h100
  generalize rowsL es = ks at *
  have hsz : (tabL (blocksL (1 + (sp : Int)) ks) (stemsB ks) ks.length 10).length ≤ 59000 ∨ checkL ks (1 + (sp : Int)) ≠ 0 := by
    by_cases h0 : ks = []
    · right
      unfold checkL
      rw [if_pos (.inl h0)]
      decide
    · exact .inl ((hG h0).tablen2 _ (by omega))
  have HSz := Lib.hid hsz
  have HBu := Lib.hid (tbuild_any w2 ka ks.length kcap ks (1 + (sp : Int)) 10 HO.out (by omega) hsize (by omega) (HSt.out.below HB2.out))
  clear hgood hG hsize hsz HR HK HO
  go_wp2_with (go_at_call 9; go_must (refine HBu.out.mono ?_))
  rintro e w3 hp
  rcases hp with ⟨hno, rfl, b3⟩ | ⟨hch, v3, rfl, o3, b3⟩
  · have HB3 := Lib.hid (HB2.out.trans (b3.mono HB2.out.size))
    have HW3 := Lib.hid (Sl.up (HW.out.below HB3.out) HB3.out.size)
    have HTw := Lib.hid (two_lit (x := .slice none 0 0) (l := []) (.inl ⟨⟨none, rfl⟩, rfl⟩) HW3.out (by decide) (by omega))
    have hbw := HB3.out.alloc HB3.out.size (Obj.cells #[.slice none 0 0, .slice ra raw.length rcap] 24)
    have HBW := Lib.hid hbw
    clear b3 hbw HBu HW3 HB2 HB3
    go_wp2
    generalize hW1 : w3.alloc (Obj.cells #[.slice none 0 0, .slice ra raw.length rcap] 24) = W1 at *
    clear hW1
    go_loopw [82] (fun v wr => Spo1Rel W1 v wr) (fun v _ => 2 - (intOf v).toNat)
    case atStart => exact ⟨0, rfl, by omega, Below.refl _ _⟩
    case round =>
      obtain ⟨k, rfl, hk, hb⟩ := hrel
      have HB := Lib.hid (HBW.out.trans (hb.mono HBW.out.size))
      by_cases hk2 : k < 2
      · have hkI : (k : Int) < 2 := by omega
        obtain ⟨xa, xc, l, hcell, hsl, hll⟩ := two_at HTw.out hb hk2
        have HSl := Lib.hid hsl
        have HOp := Lib.hid (open_any wr _ l hsl (by omega) (HSt.out.below HB.out))
        obtain ⟨xl, hxl⟩ : ∃ xl, l.length = xl := ⟨_, rfl⟩
        rw [hxl] at hcell HOp
        obtain ⟨r, hr⟩ : ∃ r, openL l = r := ⟨_, rfl⟩
        have HRr := Lib.hid hr
        have HH := Lib.hid hb
        clear hb hr hsl
        go_wp2_with (go_at_call 12; go_must (refine HOp.out.mono ?_))
        rintro e w5 ⟨b5, hm⟩
        rw [HRr.out] at hm
        have HB5 := Lib.hid (HB.out.trans (b5.mono HB.out.size))
        have HH5 := Lib.hid (HH.out.trans (b5.mono HH.out.size))
        clear b5 HOp
        cases r with
        | error c =>
          obtain rfl := hm
          have hce := open_errs HRr.out
          clear HRr
          rcases hce with rfl | rfl | rfl
          · go_wp2
            exact ⟨⟨k + 1, by go_num, by omega, HH5.out⟩, by simp [intOf]; omega⟩
          · go_wp2
            exact ⟨⟨k + 1, by go_num, by omega, HH5.out⟩, by simp [intOf]; omega⟩
          · go_wp2
            exact ⟨⟨k + 1, by go_num, by omega, HH5.out⟩, by simp [intOf]; omega⟩
        | ok T =>
          obtain ⟨g5, rfl, ht5⟩ := hm
          have hfi := open_fits HRr.out (by omega)
          have HT := Lib.hid ht5
          have HFi := Lib.hid hfi
          have HBl := Lib.hid (blocks_any w5 g5 T ht5)
          obtain ⟨m, hm⟩ : ∃ m : Nat, min (T.sp.length : Int) 50 = (m : Int) := ⟨min T.sp.length 50, by omega⟩
          clear ht5 hfi HRr
          go_wp2_with (go_at_call 15; go_must (refine HBl.out.mono ?_))
          rintro e w6 ⟨rfl, rfl⟩
          go_wp2
          go_loopw [110] (fun v wi => Spo2Rel w5 m v wi) (fun v _ => m - (intOf v).toNat)
          case atStart => exact ⟨0, rfl, Nat.zero_le _, Below.refl _ _⟩
          case round =>
            obtain ⟨i, rfl, hi, hbi⟩ := hrel
            have HBi := Lib.hid (HB5.out.trans (hbi.mono HB5.out.size))
            have HHi := Lib.hid (HH5.out.trans (hbi.mono HH5.out.size))
            have HTi := Lib.hid (HT.out.below hbi)
            have HIi := Lib.hid hbi
            clear hbi
            by_cases him : i < m
            · have himI : (i : Int) < m := by omega
              have HBk := Lib.hid (block_at wr g5 T (i : Int) HTi.out HFi.out (HSt.out.below HBi.out))
              go_wp2_with (go_at_call 16; go_must (refine HBk.out.mono ?_))
              rintro e w7 ⟨b7, r, hr, hm7⟩
              have HI7 := Lib.hid (HIi.out.trans (b7.mono HIi.out.size))
              have HB7 := Lib.hid (HBi.out.trans (b7.mono HBi.out.size))
              clear b7 HBk
              cases r with
              | error c =>
                obtain rfl := hm7
                rcases blk_errs hr with rfl | rfl | rfl
                · clear hr
                  go_wp2
                  exact ⟨⟨i + 1, by go_num, by omega, HI7.out⟩, by simp [intOf]; omega⟩
                · clear hr
                  go_wp2
                  exact ⟨⟨i + 1, by go_num, by omega, HI7.out⟩, by simp [intOf]; omega⟩
                · clear hr
                  go_wp2
                  exact ⟨⟨i + 1, by go_num, by omega, HI7.out⟩, by simp [intOf]; omega⟩
              | ok ks =>
                obtain ⟨v7, rfl, o7⟩ := hm7
                have hks := (blk_small HFi.out hr).1
                have hup := steps_of_rises (blk_rises hr)
                have HUp := Lib.hid hup
                obtain ⟨pa, pc, rfl, hp1, hp2⟩ := (ownsRow.reads o7).le
                have HR7 := Lib.hid (ownsRow.reads o7)
                unfold maxLen at hp2
                clear hr o7 hup
                go_wp2
                go_loopw [24] (fun v wi => Spo3Rel w7 ks v wi) (fun v _ => ks.length + 1 - (intOf v).toNat)
                case atStart => exact ⟨1, rfl, Nat.le_refl _, by omega, Below.refl _ _⟩
                case round =>
                  obtain ⟨j, rfl, hj1, hj2, hbj⟩ := hrel
                  have HBj := Lib.hid hbj
                  clear hbj
                  by_cases hjl : j < ks.length
                  · have hjI : (j : Int) < ks.length := by omega
                    obtain ⟨q1, f1, y, rfl, hy, hg1, hc1⟩ := (HR7.out.below' HBj.out).scell j hjl
                    obtain ⟨q0, f0, x, hq0, hx, hg0, hc0⟩ := (HR7.out.below' HBj.out).scell (j - 1) (by omega)
                    cases hq0
                    have hlt := HUp.out j (by omega) hjl x y hx hy
                    clear hx hy
                    obtain ⟨jj, rfl⟩ : ∃ jj, j = jj + 1 := ⟨j - 1, by omega⟩
                    simp only [Nat.add_sub_cancel] at hc0
                    have hjjI : (((jj + 1 : Nat) : Int) - 1) = (jj : Int) := by omega
                    have hw64 : IntKind.i64.wrap (((jj + 1 : Nat) : Int) - 1) = (jj : Int) := by rw [IntKind.wrap_i64]; omega
                    have hjn : (jj : Int) < ks.length := by omega
                    have e1 : Op.bytesLess x.toList y.toList = true := by rw [bl_spell]; exact hlt
                    have e2 : Op.bytesLess y.toList x.toList = false := by rw [bl_spell]; exact bl_asymm hlt
                    have e3 : (x.toList == y.toList) = false := by
                      rw [beq_eq_false_iff_ne, Go.ByteArray.toList_eq, Go.ByteArray.toList_eq]
                      exact fun e => bl_ne hlt (Go.WideShapes.bytes_inj e)
                    clear hlt
                    go_wp2
                    go_quiet (fail)
                    go_wp2
                    refine ⟨⟨jj + 1 + 1, by go_num, by omega, by omega, below_quiet HBj.out _⟩, by simp [intOf]; omega⟩
                  · have hjI : ¬ (j : Int) < ks.length := by omega
                    go_wp2
                    exact ⟨⟨i + 1, by go_num, by omega, HI7.out.trans (HBj.out.mono HI7.out.size)⟩, by simp [intOf]; omega⟩
            · obtain rfl : i = m := by omega
              have himI : ¬ (i : Int) < i := by omega
              have HSk := Lib.hid (tseek_any wr g5 T ⟨#[97]⟩ HTi.out HFi.out (HSt.out.below HBi.out))
              go_wp2_with (go_at_call 18; go_must (refine HSk.out.mono ?_))
              rintro e w7 ⟨b7, _, _, r, _, hm7⟩
              obtain ⟨V, rfl⟩ : ∃ V, e = .returned V := by
                cases r with
                | error c => exact ⟨_, hm7⟩
                | ok ks =>
                  obtain ⟨_, _, h⟩ := hm7
                  exact ⟨_, h⟩
              have HB7 := Lib.hid (HBi.out.trans (b7.mono HBi.out.size))
              have HH7 := Lib.hid (HHi.out.trans (b7.mono HHi.out.size))
              have HAl := Lib.hid (tall_any w7 g5 T (HTi.out.below b7) HFi.out (HSt.out.below HB7.out))
              clear b7 HSk hm7
              go_wp2_with (go_at_call 23; go_must (refine HAl.out.mono ?_))
              rintro e w8 ⟨b8, r, _, hm8⟩
              obtain ⟨V8, rfl⟩ : ∃ V, e = .returned V := by
                cases r with
                | error c => exact ⟨_, hm8⟩
                | ok ks =>
                  obtain ⟨_, h, _⟩ := hm8
                  exact ⟨_, h⟩
              have HH8 := Lib.hid (HH7.out.trans (b8.mono HH7.out.size))
              clear b8 HAl hm8
              go_wp2
              exact ⟨⟨k + 1, by go_num, by omega, HH8.out⟩, by simp [intOf]; omega⟩
      · obtain rfl : k = 2 := by omega
        go_wp2
        go_ret
        exact ⟨rfl, HB.out⟩
  · have hlen := HSz.out.resolve_right (fun h => h hch)
    have hpos : 0 < (tabL (blocksL (1 + (sp : Int)) ks) (stemsB ks) ks.length 10).length := by
      unfold tabL
      simp only [List.length_append, foot_length]
      omega
    have HB3 := Lib.hid (HB2.out.trans (b3.mono HB2.out.size))
    generalize tabL (blocksL (1 + (sp : Int)) ks) (stemsB ks) ks.length 10 = lb at *
    have hgv : ∃ g vcap, v3 = .slice (some ⟨g, 0, none⟩) lb.length vcap ∧ w2.heap.size ≤ g ∧ lb.length ≤ vcap := by
      rcases o3.2 with ⟨_, h0⟩ | ⟨g, vcap, cur, hv, hg, hh, hx⟩
      · omega
      · have := (ownsRow.reads o3).le
        subst hv
        obtain ⟨_, _, hv, h5, _⟩ := this
        cases hv
        exact ⟨g, vcap, rfl, hg, h5⟩
    obtain ⟨g, vcap, rfl, hg3, hvc⟩ := hgv
    have hvm : vcap ≤ maxLen := by
      obtain ⟨_, _, hv, _, h5⟩ := (ownsRow.reads o3).le
      cases hv
      exact h5
    unfold maxLen at hvm
    obtain ⟨N, hN⟩ : ∃ N, lb.length = N := ⟨_, rfl⟩
    obtain ⟨j, hj, hjl⟩ : ∃ j : Nat, (at' : Int) % (N : Int) = (j : Int) ∧ j < N := ⟨at' % N, by omega, Nat.mod_lt _ (by omega)⟩
    have hcell : (bcells lb)[j]? = some (.int .u8 ((lb.getD j 0).toNat : Int)) := by
      have hjl2 : j < lb.length := by omega
      simp [bcells, List.getElem?_map, List.getElem?_eq_getElem hjl2, List.getD]
    have cp := o3.cellAt j (by omega)
    rw [hcell] at cp
    have fp := o3.frozenAt j
    have st := fun u => World.ownsRow.stored o3 j u
    have hx := u8_xor_nat (lb.getD j 0).toNat by' (lb.getD j 0).toNat_lt (by omega)
    have hset : (bcells lb).set j (.int .u8 (((lb.getD j 0).toNat ^^^ by' : Nat) : Int)) = bcells (lb.set j (UInt8.ofNat ((lb.getD j 0).toNat ^^^ by'))) := by
      have hlt : (lb.getD j 0).toNat ^^^ by' < 256 := Nat.xor_lt_two_pow (n := 8) (lb.getD j 0).toNat_lt (by omega)
      unfold bcells
      rw [List.map_set]
      congr 2
      rw [UInt8.toNat_ofNat', Nat.mod_eq_of_lt hlt]
    rw [hN] at hpos hlen hvc ⊢
    have hposI : (0 : Int) < N := by omega
    have hN0 : ¬ (N : Int) = 0 := by omega
    have hjI : (j : Int) < N := by omega
    generalize (lb.getD j 0).toNat = c at *
    have HX := Lib.hid hx
    have HSet := Lib.hid hset
    have HStr := Lib.hid st
    clear hx hset st hcell HBu
    obtain ⟨i, hi, hi1, hiN⟩ := cut_num cut N hpos hlen
    have hiI : (0 : Int) ≤ i := by omega
    have hiV : (i : Int) ≤ vcap := by omega
    have hv0 : ¬ vcap = 0 := by omega
    have hv0I : ¬ (vcap : Int) = 0 := by omega
    have HWk := Lib.hid hi
    go_wp2
    have h9 := HStr.out (.int .u8 (bits BinOp.xor .u8 (c : Int) (by' : Int)))
    have hsz4 : (w3.setCell ⟨g, j, none⟩ (.int .u8 (bits BinOp.xor .u8 (c : Int) (by' : Int)))).heap.size = w3.heap.size := by simp
    rw [HX.out, HSet.out, hN] at h9
    rw [HX.out] at hsz4 ⊢
    have hb4 := HB3.out.grown h9.2 HB3.out.size (fun k hk => by cases hk; exact Nat.le_trans HB2.out.size hg3)
    generalize w3.setCell ⟨g, j, none⟩ (.int .u8 ((c ^^^ by' : Nat) : Int)) = w4 at *
    have hl2 : (lb.set j (UInt8.ofNat (c ^^^ by'))).length = N := by rw [List.length_set, hN]
    generalize lb.set j (UInt8.ofNat (c ^^^ by')) = lb2 at *
    have hs4 : Sl w4.heap.size w4 (.slice (some ⟨g, 0, none⟩) lb2.length vcap) lb2 := own_sl (by rw [hl2]; exact h9.1)
    have hfr := hs4.front (k := i) (by omega)
    have hwr := Sl.up (HW.out.below hb4) hb4.size
    have htw := two_lit hfr hwr (by rw [List.length_take]; omega) (by omega)
    have hbw := hb4.alloc hb4.size (Obj.cells #[.slice (some ⟨g, 0, none⟩) i vcap, .slice ra raw.length rcap] 24)
    rw [hsz4] at htw
    have HTw := Lib.hid htw
    have HBW := Lib.hid hbw
    clear b3 hbw htw hwr hfr hs4 hb4 h9 HB2 HB3 HStr HX HSet cp fp o3
    generalize hW1 : w4.alloc (Obj.cells #[.slice (some ⟨g, 0, none⟩) i vcap, .slice ra raw.length rcap] 24) = W1 at *
    clear hW1 hi hj hsz4 hl2
    generalize ((c ^^^ by' : Nat) : Int) = z9
    generalize wrap64 ((wrap64 ((cut : Int) % 4 * ((cut : Int) / 4 % ((N : Int) + 1)))).tdiv 4) = z8
    generalize wrap64 ((cut : Int) % 4 * ((cut : Int) / 4 % ((N : Int) + 1))) = z7
    generalize (cut : Int) / 4 % ((N : Int) + 1) = z6
    generalize (cut : Int) % 4 = z5
    generalize (cut : Int) / 4 = z4
    go_loopw [82] (fun v wr => Spo1Rel W1 v wr) (fun v _ => 2 - (intOf v).toNat)
    case atStart => exact ⟨0, rfl, by omega, Below.refl _ _⟩
    case round =>
      obtain ⟨k, rfl, hk, hb⟩ := hrel
      have HB := Lib.hid (HBW.out.trans (hb.mono HBW.out.size))
      by_cases hk2 : k < 2
      · have hkI : (k : Int) < 2 := by omega
        obtain ⟨xa, xc, l, hcell, hsl, hll⟩ := two_at HTw.out hb hk2
        have HSl := Lib.hid hsl
        have HOp := Lib.hid (open_any wr _ l hsl (by omega) (HSt.out.below HB.out))
        obtain ⟨xl, hxl⟩ : ∃ xl, l.length = xl := ⟨_, rfl⟩
        rw [hxl] at hcell HOp
        obtain ⟨r, hr⟩ : ∃ r, openL l = r := ⟨_, rfl⟩
        have HRr := Lib.hid hr
        have HH := Lib.hid hb
        clear hb hr hsl
        go_wp2_with (go_at_call 12; go_must (refine HOp.out.mono ?_))
        rintro e w5 ⟨b5, hm⟩
        rw [HRr.out] at hm
        have HB5 := Lib.hid (HB.out.trans (b5.mono HB.out.size))
        have HH5 := Lib.hid (HH.out.trans (b5.mono HH.out.size))
        clear b5 HOp
        cases r with
        | error c =>
          obtain rfl := hm
          have hce := open_errs HRr.out
          clear HRr
          rcases hce with rfl | rfl | rfl
          · go_wp2
            exact ⟨⟨k + 1, by go_num, by omega, HH5.out⟩, by simp [intOf]; omega⟩
          · go_wp2
            exact ⟨⟨k + 1, by go_num, by omega, HH5.out⟩, by simp [intOf]; omega⟩
          · go_wp2
            exact ⟨⟨k + 1, by go_num, by omega, HH5.out⟩, by simp [intOf]; omega⟩
        | ok T =>
          obtain ⟨g5, rfl, ht5⟩ := hm
          have hfi := open_fits HRr.out (by omega)
          have HT := Lib.hid ht5
          have HFi := Lib.hid hfi
          have HBl := Lib.hid (blocks_any w5 g5 T ht5)
          obtain ⟨m, hm⟩ : ∃ m : Nat, min (T.sp.length : Int) 50 = (m : Int) := ⟨min T.sp.length 50, by omega⟩
          clear ht5 hfi HRr
          go_wp2_with (go_at_call 15; go_must (refine HBl.out.mono ?_))
          rintro e w6 ⟨rfl, rfl⟩
          go_wp2
          go_loopw [110] (fun v wi => Spo2Rel w5 m v wi) (fun v _ => m - (intOf v).toNat)
          case atStart => exact ⟨0, rfl, Nat.zero_le _, Below.refl _ _⟩
          case round =>
            obtain ⟨i, rfl, hi, hbi⟩ := hrel
            have HBi := Lib.hid (HB5.out.trans (hbi.mono HB5.out.size))
            have HHi := Lib.hid (HH5.out.trans (hbi.mono HH5.out.size))
            have HTi := Lib.hid (HT.out.below hbi)
            have HIi := Lib.hid hbi
            clear hbi
            by_cases him : i < m
            · have himI : (i : Int) < m := by omega
              have HBk := Lib.hid (block_at wr g5 T (i : Int) HTi.out HFi.out (HSt.out.below HBi.out))
              go_wp2_with (go_at_call 16; go_must (refine HBk.out.mono ?_))
              rintro e w7 ⟨b7, r, hr, hm7⟩
              have HI7 := Lib.hid (HIi.out.trans (b7.mono HIi.out.size))
              have HB7 := Lib.hid (HBi.out.trans (b7.mono HBi.out.size))
              clear b7 HBk
              cases r with
              | error c =>
                obtain rfl := hm7
                rcases blk_errs hr with rfl | rfl | rfl
                · clear hr
                  go_wp2
                  exact ⟨⟨i + 1, by go_num, by omega, HI7.out⟩, by simp [intOf]; omega⟩
                · clear hr
                  go_wp2
                  exact ⟨⟨i + 1, by go_num, by omega, HI7.out⟩, by simp [intOf]; omega⟩
                · clear hr
                  go_wp2
                  exact ⟨⟨i + 1, by go_num, by omega, HI7.out⟩, by simp [intOf]; omega⟩
              | ok ks =>
                obtain ⟨v7, rfl, o7⟩ := hm7
                have hks := (blk_small HFi.out hr).1
                have hup := steps_of_rises (blk_rises hr)
                have HUp := Lib.hid hup
                obtain ⟨pa, pc, rfl, hp1, hp2⟩ := (ownsRow.reads o7).le
                have HR7 := Lib.hid (ownsRow.reads o7)
                unfold maxLen at hp2
                clear hr o7 hup
                go_wp2
                go_loopw [24] (fun v wi => Spo3Rel w7 ks v wi) (fun v _ => ks.length + 1 - (intOf v).toNat)
                case atStart => exact ⟨1, rfl, Nat.le_refl _, by omega, Below.refl _ _⟩
                case round =>
                  obtain ⟨j, rfl, hj1, hj2, hbj⟩ := hrel
                  have HBj := Lib.hid hbj
                  clear hbj
                  by_cases hjl : j < ks.length
                  · have hjI : (j : Int) < ks.length := by omega
                    obtain ⟨q1, f1, y, rfl, hy, hg1, hc1⟩ := (HR7.out.below' HBj.out).scell j hjl
                    obtain ⟨q0, f0, x, hq0, hx, hg0, hc0⟩ := (HR7.out.below' HBj.out).scell (j - 1) (by omega)
                    cases hq0
                    have hlt := HUp.out j (by omega) hjl x y hx hy
                    clear hx hy
                    obtain ⟨jj, rfl⟩ : ∃ jj, j = jj + 1 := ⟨j - 1, by omega⟩
                    simp only [Nat.add_sub_cancel] at hc0
                    have hjjI : (((jj + 1 : Nat) : Int) - 1) = (jj : Int) := by omega
                    have hw64 : IntKind.i64.wrap (((jj + 1 : Nat) : Int) - 1) = (jj : Int) := by rw [IntKind.wrap_i64]; omega
                    have hjn : (jj : Int) < ks.length := by omega
                    have e1 : Op.bytesLess x.toList y.toList = true := by rw [bl_spell]; exact hlt
                    have e2 : Op.bytesLess y.toList x.toList = false := by rw [bl_spell]; exact bl_asymm hlt
                    have e3 : (x.toList == y.toList) = false := by
                      rw [beq_eq_false_iff_ne, Go.ByteArray.toList_eq, Go.ByteArray.toList_eq]
                      exact fun e => bl_ne hlt (Go.WideShapes.bytes_inj e)
                    clear hlt
                    go_wp2
                    go_quiet (fail)
                    go_wp2
                    refine ⟨⟨jj + 1 + 1, by go_num, by omega, by omega, below_quiet HBj.out _⟩, by simp [intOf]; omega⟩
                  · have hjI : ¬ (j : Int) < ks.length := by omega
                    go_wp2
                    exact ⟨⟨i + 1, by go_num, by omega, HI7.out.trans (HBj.out.mono HI7.out.size)⟩, by simp [intOf]; omega⟩
            · obtain rfl : i = m := by omega
              have himI : ¬ (i : Int) < i := by omega
              have HSk := Lib.hid (tseek_any wr g5 T ⟨#[97]⟩ HTi.out HFi.out (HSt.out.below HBi.out))
              go_wp2_with (go_at_call 18; go_must (refine HSk.out.mono ?_))
              rintro e w7 ⟨b7, _, _, r, _, hm7⟩
              obtain ⟨V, rfl⟩ : ∃ V, e = .returned V := by
                cases r with
                | error c => exact ⟨_, hm7⟩
                | ok ks =>
                  obtain ⟨_, _, h⟩ := hm7
                  exact ⟨_, h⟩
              have HB7 := Lib.hid (HBi.out.trans (b7.mono HBi.out.size))
              have HH7 := Lib.hid (HHi.out.trans (b7.mono HHi.out.size))
              have HAl := Lib.hid (tall_any w7 g5 T (HTi.out.below b7) HFi.out (HSt.out.below HB7.out))
              clear b7 HSk hm7
              go_wp2_with (go_at_call 23; go_must (refine HAl.out.mono ?_))
              rintro e w8 ⟨b8, r, _, hm8⟩
              obtain ⟨V8, rfl⟩ : ∃ V, e = .returned V := by
                cases r with
                | error c => exact ⟨_, hm8⟩
                | ok ks =>
                  obtain ⟨_, h, _⟩ := hm8
                  exact ⟨_, h⟩
              have HH8 := Lib.hid (HH7.out.trans (b8.mono HH7.out.size))
              clear b8 HAl hm8
              go_wp2
              exact ⟨⟨k + 1, by go_num, by omega, HH8.out⟩, by simp [intOf]; omega⟩
      · obtain rfl : k = 2 := by omega
        go_wp2
        go_ret
        exact ⟨rfl, HB.out⟩
end Go.Proofs.YtfhdonidgegebaaDoor

/- A slice that came in, whatever its elements: each is opened by its own theorem. -/
namespace Go.Proofs.YtfhdonidgegebaaDoor
open Go Go.RowKit Go.ChangeShapes Go.WideShapes Go.Deep

section
variable {H : Type} {enc : TypeId × Value → H} {w : World} {base : Nat} {spare : Nat → Bool} {held : Bool}

theorem slice_rows_of {α : Type} [Inhabited α] {t e : TypeId} {s fuel : Nat} {v : Value} {y : DataW H × List MemPlace} (f : α → List Value) (Q : α → Prop) (ht : Tryd.prog.underlying t = some (.slice e)) (hC : Tryd.prog.cellsOf e = s) (hs : 0 < s) (hf : ∀ x, (f x).length = s)
    (hopen : ∀ n cs y, cs.length = s → DataW.trod enc Tryd.prog w base spare held n e cs = some y → ∃ x, cs = f x ∧ Q x)
    (hfu : DataW.trod enc Tryd.prog w base spare held fuel t [v] = some y) :
    ∃ a len cap, ∃ l : List α, v = .slice a len cap ∧ len ≤ cap ∧ cap ≤ maxLen ∧ l.length = len ∧ (∀ x ∈ l, Q x) ∧ Reads w s (.slice a len cap) len (l.flatMap f) := by
  rcases open_slice ht hfu with ⟨hcs, _⟩ | ⟨x, len, cap, m, n, D, Pl, hcs, _, hl, hm, hmm, _, hx⟩
  · simp at hcs
    subst hcs
    exact ⟨none, 0, 0, [], rfl, Nat.le_refl _, Nat.zero_le _, rfl, fun x hx => (by simp at hx), ⟨by simp, none, 0, rfl, Nat.le_refl _, Nat.zero_le _, fun j u hj => by simp at hj⟩⟩
  · simp at hcs
    subst hcs
    have hlm : len ≤ m := by
      rw [hmm]
      split <;> omega
    have hgs : 0 < len → x.spot = none := by
      intro h0
      obtain ⟨cs0, hc0, _⟩ := hx 0 (by omega)
      rw [hC] at hc0
      obtain ⟨_, hl0, ha0⟩ := World.cells?_some hc0
      have h1 := ha0 0 hs
      rw [List.getElem?_eq_getElem (by omega)] at h1
      have h2 : w.cell? x = some (cs0[0]'(by omega)) := by simpa [Addr.add] using h1
      exact World.cell?_spot h2
    have hall : ∀ i, i < len → ∃ y : α, Q y ∧ ∀ j u, (f y)[j]? = some u → w.cell? (x.add (i * s + j)) = some u := by
      intro i hi
      obtain ⟨cs, hc, htr⟩ := hx i (by omega)
      rw [hC] at hc
      obtain ⟨_, hlen, hat⟩ := World.cells?_some hc
      obtain ⟨y, rfl, hq⟩ := hopen _ _ _ hlen htr
      refine ⟨y, hq, fun j u hj => ?_⟩
      have hjs : j < s := by
        have := (List.getElem?_eq_some_iff.1 hj).1
        rw [hf] at this
        exact this
      have h1 := hat j hjs
      rw [hj] at h1
      rw [← h1]
      have hsp := hgs (by omega)
      obtain ⟨b, off, sp⟩ := x
      simp at hsp
      subst hsp
      rw [Addr.add_lit, Addr.add_lit, Addr.add_lit, Nat.add_assoc]
    obtain ⟨X, hX⟩ := choose_lt (α := α) (p := fun i y => Q y ∧ ∀ j u, (f y)[j]? = some u → w.cell? (x.add (i * s + j)) = some u) hall
    refine ⟨some x, len, cap, (List.range len).map X, rfl, hl, hm, by simp, fun y hy => ?_, ?_⟩
    · obtain ⟨i, hi, rfl⟩ := List.mem_map.1 hy
      exact (hX i (List.mem_range.1 hi)).1
    · refine ⟨by rw [flat_length f s hf]; simp, some x, cap, rfl, hl, hm, fun j u hj => ?_⟩
      have hjl := (List.getElem?_eq_some_iff.1 hj).1
      rw [flat_length f s hf, List.length_map, List.length_range] at hjl
      have hi : j / s < len := Nat.div_lt_of_lt_mul (by rw [Nat.mul_comm]; exact hjl)
      have hr : j % s < s := Nat.mod_lt _ hs
      have hjj : j / s * s + j % s = j := by rw [Nat.mul_comm]; exact Nat.div_add_mod j s
      have hg : ((List.range len).map X)[j / s]? = some (X (j / s)) := by simp [hi]
      have h1 := flat_cell f s hf _ _ _ hg (j % s) hr
      rw [hjj, hj] at h1
      have h2 := (hX _ hi).2 (j % s) u h1.symm
      rw [hjj] at h2
      have hspot := hgs (Nat.lt_of_le_of_lt (Nat.zero_le _) hi)
      obtain ⟨b, off, sp⟩ := x
      simp at hspot
      subst hspot
      rw [Addr.add_lit] at h2
      exact ⟨b, off, rfl, World.block_lt_of_cell? _ _ h2, h2⟩

set_option maxRecDepth 100000 in
theorem slice_rows {α : Type} [Inhabited α] {t e : TypeId} {r : Reach} {b0 s : Nat} {v : Value} {d : DataW H} {p : List MemPlace} (f : α → List Value) (Q : α → Prop) (ht : Tryd.prog.underlying t = some (.slice e)) (hC : Tryd.prog.cellsOf e = s) (hs : 0 < s) (hf : ∀ x, (f x).length = s)
    (hopen : ∀ n cs y, cs.length = s → DataW.trod enc Tryd.prog w base spare held n e cs = some y → ∃ x, cs = f x ∧ Q x)
    (hv : Value.okWide Tryd.prog w r b0 t v) (h : DataW.Trod enc Tryd.prog w base spare held t v d p) :
    ∃ a len cap, ∃ l : List α, v = .slice a len cap ∧ len ≤ cap ∧ cap ≤ maxLen ∧ l.length = len ∧ (∀ x ∈ l, Q x) ∧ Reads w s (.slice a len cap) len (l.flatMap f) := by
  obtain ⟨a, len, cap, rfl⟩ := okWide_slice ht hv
  obtain ⟨fuel, hfu⟩ := h
  exact slice_rows_of f Q ht hC hs hf hopen hfu
end
end Go.Proofs.YtfhdonidgegebaaDoor

/- A slice that came in, with what the form's reach says of its elements' sizes. -/
namespace Go.Proofs.YtfhdonidgegebaaDoor
open Go Go.RowKit Go.ChangeShapes Go.WideShapes Go.Deep

section
variable {H : Type} {enc : TypeId × Value → H} {w : World} {base : Nat} {spare : Nat → Bool} {held : Bool}

/-- No weight of a datum is beyond the reach. -/
def WOk (t : TypeId) (d : DataW H) : Prop := (d.weights Tryd.prog t).all (· ≤ reachBytes) = true

theorem wok_all {e : TypeId} : ∀ (l : List (DataW H)), (DataW.weightsAll Tryd.prog e l).all (· ≤ reachBytes) = true → ∀ d ∈ l, WOk e d
  | [], _, d, hd => by cases hd
  | x :: r, h, d, hd => by
    rw [DataW.weightsAll, List.all_append, Bool.and_eq_true] at h
    rcases List.mem_cons.1 hd with rfl | hd
    · exact h.1
    · exact wok_all r h.2 d hd

theorem wok_slice {t e : TypeId} {elems rest : List (DataW H)} (ht : Tryd.prog.underlying t = some (.slice e)) (h : WOk t (DataW.slice elems rest)) :
    (elems.length + rest.length) * Tryd.prog.bytesOf e ≤ reachBytes ∧ ∀ d ∈ elems, WOk e d := by
  unfold WOk at h
  rw [DataW.weights, ht] at h
  simp only [List.all_cons, List.all_append, Bool.and_eq_true, decide_eq_true_eq] at h
  exact ⟨h.1, wok_all _ h.2.1⟩

theorem wok_arg : ∀ (ts : List TypeId) (ds : List (DataW H)) (j : Nat) (t : TypeId) (d : DataW H), (DataW.weightsEach Tryd.prog ts ds).all (· ≤ reachBytes) = true → ts[j]? = some t → ds[j]? = some d → WOk t d
  | [], _, j, _, _, _, h, _ => by simp at h
  | _ :: _, [], j, _, _, _, _, h => by simp at h
  | t0 :: ts, d0 :: ds, 0, t, d, h, ht, hd => by
    rw [DataW.weightsEach, List.all_append, Bool.and_eq_true] at h
    simp at ht hd
    subst ht
    subst hd
    exact h.1
  | t0 :: ts, d0 :: ds, j + 1, t, d, h, ht, hd => by
    rw [DataW.weightsEach, List.all_append, Bool.and_eq_true] at h
    exact wok_arg ts ds j t d h.2 (by simpa using ht) (by simpa using hd)

theorem slice_rows_sized {α : Type} [Inhabited α] {t e : TypeId} {s fuel : Nat} {v : Value} {y : DataW H × List MemPlace} (f : α → List Value) (Q : α → Prop) (ht : Tryd.prog.underlying t = some (.slice e)) (hC : Tryd.prog.cellsOf e = s) (hs : 0 < s) (hf : ∀ x, (f x).length = s)
    (hopen : ∀ n cs y, cs.length = s → DataW.trod enc Tryd.prog w base spare held n e cs = some y → WOk e y.1 → ∃ x, cs = f x ∧ Q x)
    (hfu : DataW.trod enc Tryd.prog w base spare held fuel t [v] = some y) (hz : WOk t y.1) :
    ∃ a len cap, ∃ l : List α, v = .slice a len cap ∧ len ≤ cap ∧ cap ≤ maxLen ∧ l.length = len ∧ (∀ x ∈ l, Q x) ∧ Reads w s (.slice a len cap) len (l.flatMap f) ∧ len * Tryd.prog.bytesOf e ≤ reachBytes := by
  rcases open_slice ht hfu with ⟨hcs, _⟩ | ⟨x, len, cap, m, n, D, Pl, hcs, _, hl, hm, hmm, hy, hx⟩
  · simp at hcs
    subst hcs
    exact ⟨none, 0, 0, [], rfl, Nat.le_refl _, Nat.zero_le _, rfl, fun x hx => (by simp at hx), ⟨by simp, none, 0, rfl, Nat.le_refl _, Nat.zero_le _, fun j u hj => by simp at hj⟩, by simp⟩
  · simp at hcs
    subst hcs
    rw [hy] at hz
    obtain ⟨hz1, hz2⟩ := wok_slice ht hz
    have hlm : len ≤ m := by
      rw [hmm]
      split <;> omega
    have hgs : 0 < len → x.spot = none := by
      intro h0
      obtain ⟨cs0, hc0, _⟩ := hx 0 (by omega)
      rw [hC] at hc0
      obtain ⟨_, hl0, ha0⟩ := World.cells?_some hc0
      have h1 := ha0 0 hs
      rw [List.getElem?_eq_getElem (by omega)] at h1
      have h2 : w.cell? x = some (cs0[0]'(by omega)) := by simpa [Addr.add] using h1
      exact World.cell?_spot h2
    have hall : ∀ i, i < len → ∃ y : α, Q y ∧ ∀ j u, (f y)[j]? = some u → w.cell? (x.add (i * s + j)) = some u := by
      intro i hi
      obtain ⟨cs, hc, htr⟩ := hx i (by omega)
      rw [hC] at hc
      obtain ⟨_, hlen, hat⟩ := World.cells?_some hc
      obtain ⟨y, rfl, hq⟩ := hopen _ _ _ hlen htr (hz2 _ (List.mem_map.2 ⟨i, List.mem_range.2 hi, rfl⟩))
      refine ⟨y, hq, fun j u hj => ?_⟩
      have hjs : j < s := by
        have := (List.getElem?_eq_some_iff.1 hj).1
        rw [hf] at this
        exact this
      have h1 := hat j hjs
      rw [hj] at h1
      rw [← h1]
      have hsp := hgs (by omega)
      obtain ⟨b, off, sp⟩ := x
      simp at hsp
      subst hsp
      rw [Addr.add_lit, Addr.add_lit, Addr.add_lit, Nat.add_assoc]
    obtain ⟨X, hX⟩ := choose_lt (α := α) (p := fun i y => Q y ∧ ∀ j u, (f y)[j]? = some u → w.cell? (x.add (i * s + j)) = some u) hall
    refine ⟨some x, len, cap, (List.range len).map X, rfl, hl, hm, by simp, fun y hy => ?_, ?_, ?_⟩
    · obtain ⟨i, hi, rfl⟩ := List.mem_map.1 hy
      exact (hX i (List.mem_range.1 hi)).1
    · refine ⟨by rw [flat_length f s hf]; simp, some x, cap, rfl, hl, hm, fun j u hj => ?_⟩
      have hjl := (List.getElem?_eq_some_iff.1 hj).1
      rw [flat_length f s hf, List.length_map, List.length_range] at hjl
      have hi : j / s < len := Nat.div_lt_of_lt_mul (by rw [Nat.mul_comm]; exact hjl)
      have hr : j % s < s := Nat.mod_lt _ hs
      have hjj : j / s * s + j % s = j := by rw [Nat.mul_comm]; exact Nat.div_add_mod j s
      have hg : ((List.range len).map X)[j / s]? = some (X (j / s)) := by simp [hi]
      have h1 := flat_cell f s hf _ _ _ hg (j % s) hr
      rw [hjj, hj] at h1
      have h2 := (hX _ hi).2 (j % s) u h1.symm
      rw [hjj] at h2
      have hspot := hgs (Nat.lt_of_le_of_lt (Nat.zero_le _) hi)
      obtain ⟨b, off, sp⟩ := x
      simp at hspot
      subst hspot
      rw [Addr.add_lit] at h2
      exact ⟨b, off, rfl, World.block_lt_of_cell? _ _ h2, h2⟩
    · simp only [List.length_map, List.length_range] at hz1
      exact Nat.le_trans (Nat.mul_le_mul_right _ (Nat.le_add_right _ _)) hz1
end
end Go.Proofs.YtfhdonidgegebaaDoor

/- Single cells that came in. -/
namespace Go.Proofs.YtfhdonidgegebaaDoor
open Go Go.RowKit Go.Joins Go.WideShapes Go.ChangeShapes Go.ChangeAt Go.Deep

section
variable {H : Type} {enc : TypeId × Value → H} {w : World} {base : Nat} {spare : Nat → Bool} {held : Bool}

theorem one_string {n : Nat} {c : Value} {y : DataW H × List MemPlace} (h : DataW.trod enc Tryd.prog w base spare held n 9 [c] = some y) : ∃ s : ByteArray, c = .string s ∧ s.size ≤ maxLen := by
  obtain ⟨s, e, _, hs⟩ := DataW.trod_string Tryd.underlying9 h
  simp only [List.cons.injEq, and_true] at e
  exact ⟨s, e, hs⟩

theorem one_bool {n : Nat} {c : Value} {y : DataW H × List MemPlace} (h : DataW.trod enc Tryd.prog w base spare held n 4 [c] = some y) : ∃ b : Bool, c = .bool b := by
  obtain ⟨b, e, _⟩ := DataW.trod_bool Tryd.underlying4 h
  simp only [List.cons.injEq, and_true] at e
  exact ⟨b, e⟩

theorem one_u64 {n : Nat} {c : Value} {y : DataW H × List MemPlace} (h : DataW.trod enc Tryd.prog w base spare held n 55 [c] = some y) : ∃ m : Nat, c = .int .u64 (m : Int) ∧ m < 18446744073709551616 := by
  obtain ⟨k, e, _, hw⟩ := DataW.trod_int Tryd.underlying55 h
  simp only [List.cons.injEq, and_true] at e
  have bd : 0 ≤ k ∧ k ≤ 18446744073709551615 := by simpa [Lit.wf, IntKind.min, IntKind.max, IntKind.signed, IntKind.bits] using hw
  obtain ⟨m, rfl⟩ := Int.eq_ofNat_of_zero_le bd.1
  exact ⟨m, e, by omega⟩
end
end Go.Proofs.YtfhdonidgegebaaDoor

/- Entries that came in. -/
namespace Go.Proofs.YtfhdonidgegebaaDoor
open Go Go.RowKit Go.Joins Go.WideShapes Go.ChangeShapes Go.ChangeAt Go.Deep

section
variable {H : Type} {enc : TypeId × Value → H} {w : World} {base : Nat} {spare : Nat → Bool} {held : Bool}

set_option maxRecDepth 100000 in
theorem ent_one {n : Nat} {cs : List Value} {y : DataW H × List MemPlace} (hl : cs.length = 3) (ht : DataW.trod enc Tryd.prog w base spare held n 57 cs = some y) : ∃ x : Ent, cs = ecell x ∧ x.key.size ≤ maxLen ∧ x.rev < 18446744073709551616 := by
  have k1 : Tryd.prog.cellsOf 55 = 1 := by kernel_rfl
  have kt : Tryd.prog.cellsOf 9 = 1 := by kernel_rfl
  have kb : Tryd.prog.cellsOf 4 = 1 := by kernel_rfl
  obtain ⟨y0, y1, y2, m, _, _, h0, h1, h2⟩ := trod_struct3 Tryd.underlying57 ht
  match cs, hl with
  | [d0, d1, d2], _ =>
    rw [kt] at h0
    rw [k1] at h1
    rw [kb] at h2
    simp at h0 h1 h2
    obtain ⟨s, rfl, hs⟩ := one_string h0
    obtain ⟨m, rfl, hm⟩ := one_u64 h1
    obtain ⟨b, rfl⟩ := one_bool h2
    exact ⟨⟨s, m, b⟩, rfl, hs, hm⟩

set_option maxRecDepth 100000 in
theorem ents_open {r : Reach} {b0 : Nat} {v : Value} {d : DataW H} {p : List MemPlace} (hv : Value.okWide Tryd.prog w r b0 29 v) (h : DataW.Trod enc Tryd.prog w base spare held 29 v d p) :
    ∃ a len cap, ∃ l : List Ent, v = .slice a len cap ∧ len ≤ cap ∧ cap ≤ maxLen ∧ l.length = len ∧ (∀ x ∈ l, x.key.size ≤ maxLen ∧ x.rev < 18446744073709551616) ∧ Reads w 3 (.slice a len cap) len (ecells l) := by
  have : Inhabited Ent := ⟨⟨⟨#[]⟩, 0, false⟩⟩
  exact slice_rows ecell (fun x => x.key.size ≤ maxLen ∧ x.rev < 18446744073709551616) Tryd.underlying29 (by kernel_rfl) (by decide) ecell_length (fun n cs y hl ht => ent_one hl ht) hv h
end
end Go.Proofs.YtfhdonidgegebaaDoor

/- Entries that came in, with the bound of their sizes. -/
namespace Go.Proofs.YtfhdonidgegebaaDoor
open Go Go.RowKit Go.Joins Go.WideShapes Go.ChangeShapes Go.ChangeAt Go.Deep

section
variable {H : Type} {enc : TypeId × Value → H} {w : World} {base : Nat} {spare : Nat → Bool} {held : Bool}

set_option maxRecDepth 100000 in
theorem ents_open_sized {r : Reach} {b0 : Nat} {v : Value} {d : DataW H} {p : List MemPlace} (hv : Value.okWide Tryd.prog w r b0 29 v) (h : DataW.Trod enc Tryd.prog w base spare held 29 v d p) (hz : WOk 29 d) :
    ∃ a len cap, ∃ l : List Ent, v = .slice a len cap ∧ l.length = len ∧ len ≤ 5000000000000 ∧ (∀ x ∈ l, x.key.size ≤ maxLen ∧ x.rev < 18446744073709551616) ∧ Reads w 3 (.slice a len cap) len (ecells l) := by
  have : Inhabited Ent := ⟨⟨⟨#[]⟩, 0, false⟩⟩
  have kb : Tryd.prog.bytesOf 57 = 32 := by kernel_rfl
  obtain ⟨a', len', cap', rfl⟩ := okWide_slice Tryd.underlying29 hv
  obtain ⟨fuel, hf⟩ := h
  obtain ⟨a, len, cap, l, hv', _, _, hn, hq, hr, hb⟩ := slice_rows_sized (y := (d, p)) ecell (fun x => x.key.size ≤ maxLen ∧ x.rev < 18446744073709551616) Tryd.underlying29 (by kernel_rfl) (by decide) ecell_length (fun n cs y hl ht _ => ent_one hl ht) hf hz
  rw [kb] at hb
  have h32 : len * 32 ≤ 140737488355328 := Nat.le_trans hb (by decide)
  cases hv'
  exact ⟨_, _, _, l, rfl, hn, by omega, hq, hr⟩
end
end Go.Proofs.YtfhdonidgegebaaDoor

/- Slices of bytes that came in. -/
namespace Go.Proofs.YtfhdonidgegebaaDoor
open Go Go.RowKit

theorem Sl.of_reads {w : World} {v : Value} {l : List UInt8} (h : Reads w 1 v l.length (bcells l)) (hn : 0 < l.length) : Sl w.heap.size w v l := by
  have h' := h
  obtain ⟨bb, off, cap, rfl, _, _, _, hc⟩ := h.head hn
  exact .inr ⟨bb, off, cap, rfl, fun _ => World.block_lt_of_cell? _ _ (hc 0 hn), fun _ => World.block_lt_of_cell? _ _ (hc 0 hn), h'⟩

/-- A slice of bytes that came in. -/
theorem IsRow.sl {w : World} {a : Option Addr} {len cap : Nat} {zs : List Int} (h : IsRow .u8 w a len cap zs) : ∃ l : List UInt8, l.length = len ∧ Sl w.heap.size w (.slice a len cap) l := by
  obtain ⟨l, hl, hr⟩ := h.reads
  refine ⟨l, hl, ?_⟩
  subst hl
  by_cases hn : 0 < l.length
  · exact Sl.of_reads hr hn
  · obtain rfl : l = [] := List.eq_nil_of_length_eq_zero (by omega)
    rcases h with ⟨rfl, _, rfl, _⟩ | ⟨x, rfl, h1, h2, h3, h4, h5⟩
    · exact .inl ⟨⟨_, rfl⟩, rfl⟩
    · by_cases hc : cap = 0
      · subst hc
        exact .inl ⟨⟨_, rfl⟩, rfl⟩
      · have hc0 := h4 0 (by omega)
        have hlt := World.block_lt_of_cell? _ _ hc0
        obtain ⟨b, o, s⟩ := x
        cases s with
        | none => exact .inr ⟨b, o, cap, rfl, fun _ => hlt, fun _ => hlt, hr⟩
        | some s => exact absurd (World.cell?_spot hc0) (by simp [Addr.add])
end Go.Proofs.YtfhdonidgegebaaDoor

namespace Go.Proofs.YtfhdonidgegebaaDoor.tableSpoilt
open Go.ChangeShapes Go.WideShapes Go.ChangeAt Go.RowKit Go.Joins
open Go.ChangeMaps (open_string shut_string)

theorem own : ownKnob Tryd.prog.godebug = none := by kernel_rfl
theorem laidOut : laidOutB Tryd.prog = true := by kernel_rfl

set_option maxRecDepth 100000 in
theorem lifted (os : Os) (started : os.Started) (H : Type) (enc : TypeId × Value → H) :
    ReturnsInHanded {} Tryd.checked os 5 .any (fun w args => (Rows.tableSpoiltSpec.pre enc Tryd.prog Tryd.f5 [] false w args ∧ laidMetH Tryd.prog laidL w) ∧ sizedMet enc Tryd.prog Tryd.f5 (OpenSpec.ofChange Rows.tableSpoiltSpec) false w args) (Rows.tableSpoiltSpec.post enc Tryd.prog Tryd.f5 false true false false) := by
  refine returnsInHanded_of_change_and (C := Tryd.checked) (X := fun w _ => laidMetH Tryd.prog laidL w) (fun _ _ _ hh h => h.of_heap hh) own started (by kernel_rfl) Tryd.func5
    (ChangeSpec.witness_shaped (enc := enc) (C := Tryd.checked) (os := os) (X := fun w _ => laidMetH Tryd.prog laidL w) false (World.doorLaid Tryd.prog 100 os) #[.slice none 0 0, .int .u16 0, .int .u16 0, .int .u8 0, .int .u16 0, .slice none 0 0] 8 rfl (World.shaped_of_RefB (by kernel_rfl) (by kernel_rfl)) (by kernel_rfl) (by kernel_rfl) (by kernel_rfl) (steps_door_met os _)) ?_
  intro W base args ds gs before hval0 hW _ hsz0 hL _
  have hval : ∀ (j : Nat) t v, Tryd.f5.params[j]? = some t → args[j]? = some v → Value.okWide Tryd.prog W .any base t v := hval0
  have hW' := hW
  obtain ⟨p, q, hA0, hV, rfl, hfz, hnd⟩ := hW
  clear hfz hnd
  have hA : DataW.TrodAll enc Tryd.prog W 0 (fun _ => true) true Tryd.f5.params.toList args.toList ds p := hA0
  rw [Tryd.params5] at hA hval
  obtain ⟨v0, vs0, d0, ds0, p0, q0, hargs, rfl, rfl, h0, r0⟩ := trodAll_cons hA
  obtain ⟨v1, vs1, d1, ds1, p1, q1, rfl, rfl, rfl, h1, r1⟩ := trodAll_cons r0
  obtain ⟨v2, vs2, d2, ds2, p2, q2, rfl, rfl, rfl, h2, r2⟩ := trodAll_cons r1
  obtain ⟨v3, vs3, d3, ds3, p3, q3, rfl, rfl, rfl, h3, r3⟩ := trodAll_cons r2
  obtain ⟨v4, vs4, d4, ds4, p4, q4, rfl, rfl, rfl, h4, r4⟩ := trodAll_cons r3
  obtain ⟨v5, vs5, d5, ds5, p5, q5, rfl, rfl, rfl, h5, r5⟩ := trodAll_cons r4
  obtain ⟨rfl, rfl, rfl⟩ := trodAll_nil r5
  obtain rfl : args = #[v0, v1, v2, v3, v4, v5] := by cases args; simp_all
  obtain ⟨rfl, rfl⟩ := trodVars_none hV
  have k0 := h0
  have lt0 : ∀ x ∈ p0, x.block < W.heap.size := by obtain ⟨m, hm⟩ := k0; exact DataW.trod_lt m _ _ _ hm
  have k1 := h1
  have lt1 : ∀ x ∈ p1, x.block < W.heap.size := by obtain ⟨m, hm⟩ := k1; exact DataW.trod_lt m _ _ _ hm
  have k2 := h2
  have lt2 : ∀ x ∈ p2, x.block < W.heap.size := by obtain ⟨m, hm⟩ := k2; exact DataW.trod_lt m _ _ _ hm
  have k3 := h3
  have lt3 : ∀ x ∈ p3, x.block < W.heap.size := by obtain ⟨m, hm⟩ := k3; exact DataW.trod_lt m _ _ _ hm
  have k4 := h4
  have lt4 : ∀ x ∈ p4, x.block < W.heap.size := by obtain ⟨m, hm⟩ := k4; exact DataW.trod_lt m _ _ _ hm
  have k5 := h5
  have lt5 : ∀ x ∈ p5, x.block < W.heap.size := by obtain ⟨m, hm⟩ := k5; exact DataW.trod_lt m _ _ _ hm
  clear hA0 hval0
  obtain ⟨a0, len0, cap0, l0, rfl, hl0, hn0, hk0, rd0⟩ := ents_open_sized (hval 0 29 v0 rfl rfl) h0 (wok_arg _ _ 0 _ _ hsz0 (by kernel_rfl) rfl)
  obtain ⟨n1, rfl, rfl, rfl, w1⟩ := open_int Tryd.underlying30 (hval 1 30 v1 rfl rfl) h1
  have bd1 : 0 ≤ n1 ∧ n1 ≤ 65535 := by simpa [Lit.wf, IntKind.min, IntKind.max, IntKind.signed, IntKind.bits] using w1
  obtain ⟨m1, rfl⟩ := Int.eq_ofNat_of_zero_le bd1.1
  obtain ⟨n2, rfl, rfl, rfl, w2⟩ := open_int Tryd.underlying30 (hval 2 30 v2 rfl rfl) h2
  have bd2 : 0 ≤ n2 ∧ n2 ≤ 65535 := by simpa [Lit.wf, IntKind.min, IntKind.max, IntKind.signed, IntKind.bits] using w2
  obtain ⟨m2, rfl⟩ := Int.eq_ofNat_of_zero_le bd2.1
  obtain ⟨n3, rfl, rfl, rfl, w3⟩ := open_int Tryd.underlying5 (hval 3 5 v3 rfl rfl) h3
  have bd3 : 0 ≤ n3 ∧ n3 ≤ 255 := by simpa [Lit.wf, IntKind.min, IntKind.max, IntKind.signed, IntKind.bits] using w3
  obtain ⟨m3, rfl⟩ := Int.eq_ofNat_of_zero_le bd3.1
  obtain ⟨n4, rfl, rfl, rfl, w4⟩ := open_int Tryd.underlying30 (hval 4 30 v4 rfl rfl) h4
  have bd4 : 0 ≤ n4 ∧ n4 ≤ 65535 := by simpa [Lit.wf, IntKind.min, IntKind.max, IntKind.signed, IntKind.bits] using w4
  obtain ⟨m4, rfl⟩ := Int.eq_ofNat_of_zero_le bd4.1
  obtain ⟨a5, len5, cap5, rfl⟩ := okWide_slice Tryd.underlying24 (hval 5 24 v5 rfl rfl)
  obtain ⟨z5, w5⟩ : ∃ zs, IsRow .u8 W a5 len5 cap5 zs := by
    obtain ⟨fuel, hf⟩ := h5
    rcases open_ints Tryd.underlying24 Tryd.underlying5 (by kernel_rfl) hf with ⟨hcs, _⟩ | ⟨x, l, c, zs, hcs, _, hl, hm, hz, _, hcell, hwz⟩
    · simp [Value.cells] at hcs
      obtain ⟨rfl, rfl, rfl⟩ := hcs
      exact ⟨[], .inl ⟨rfl, rfl, rfl, rfl⟩⟩
    · simp [Value.cells] at hcs
      obtain ⟨rfl, rfl, rfl⟩ := hcs
      exact ⟨zs, .inr ⟨_, rfl, hl, hm, by simpa using hz, hcell, hwz⟩⟩
  obtain ⟨l5, rfl, sl5⟩ := w5.sl
  refine (tableSpoilt_walk W a0 len0 cap0 l0 m1 m2 m4 m3 _ l5 rd0 hl0 hn0 hk0 (by omega) (by omega) (by omega) (by omega) sl5 (steps_of_laid hL)).mono fun e W' ⟨he, bel⟩ => ?_
  subst he
  exact ⟨_, rfl, _, _, _, [], _, [], hW', trodAll_mk1 (shut_bool Tryd.underlying4 _), (trodAll_cons_mk (Below.trod laidOut (by kernel_rfl) (of_decide_eq_true (by kernel_rfl)) k0 bel lt0) (trodAll_cons_mk (Below.trod laidOut (by kernel_rfl) (of_decide_eq_true (by kernel_rfl)) k1 bel lt1) (trodAll_cons_mk (Below.trod laidOut (by kernel_rfl) (of_decide_eq_true (by kernel_rfl)) k2 bel lt2) (trodAll_cons_mk (Below.trod laidOut (by kernel_rfl) (of_decide_eq_true (by kernel_rfl)) k3 bel lt3) (trodAll_cons_mk (Below.trod laidOut (by kernel_rfl) (of_decide_eq_true (by kernel_rfl)) k4 bel lt4) (trodAll_cons_mk (Below.trod laidOut (by kernel_rfl) (of_decide_eq_true (by kernel_rfl)) k5 bel lt5) trodAll_mk0)))))), rfl, bel.frame _, fun h => by cases h⟩

theorem over : Rows.tableSpoiltRow.holds Tryd.pinned (OpenSpec.ofChange Rows.tableSpoiltSpec) :=
  OpenClaim.holds_of_wide 5 Tryd.f5 rfl rfl rfl rfl rfl rfl rfl ⟨rfl, rfl, rfl, rfl, rfl⟩ rfl rfl rfl rfl rfl (by kernel_rfl) Tryd.func5 (by kernel_rfl)
    (of_decide_eq_true (by kernel_rfl)) (by unfold Func.isWrapper; first | (rw [if_pos (by decide +kernel)]; kernel_rfl) | (rw [if_neg (by decide +kernel)]; exact ⟨rfl, rfl⟩))
    (fun os started H enc _ => lifted os started H enc)

theorem proved : Rows.TableSpoiltCardSaid :=
  Claim7.holds_tied_plain_at .later [] [.data] true _ false
    over (fun _ h => by cases h) (by kernel_rfl) (fun _ h => by cases h) tableSpoilt_row_tie rfl ⟨rfl, rfl⟩ (by kernel_rfl) rfl
    (fun f fn hf hfn => by
      obtain rfl : f = 5 := Option.some.inj ((show Tryd.prog.funcNamed "sentry/sentrylaw14.TableSpoilt" = some 5 by kernel_rfl).symm.trans hf) |>.symm
      obtain rfl : fn = Tryd.f5 := (Option.some.inj (Tryd.func5.symm.trans hfn)).symm
      exact ⟨by kernel_rfl, fun j t ht => by
        rw [Tryd.params5] at ht
        rcases j with _ | _ | _ | _ | _ | _ | j
        · simp at ht
          subst ht
          exact (show Tryd.prog.wantsStandIn 29 = false by kernel_rfl)
        · simp at ht
          subst ht
          exact (show Tryd.prog.wantsStandIn 30 = false by kernel_rfl)
        · simp at ht
          subst ht
          exact (show Tryd.prog.wantsStandIn 30 = false by kernel_rfl)
        · simp at ht
          subst ht
          exact (show Tryd.prog.wantsStandIn 5 = false by kernel_rfl)
        · simp at ht
          subst ht
          exact (show Tryd.prog.wantsStandIn 30 = false by kernel_rfl)
        · simp at ht
          subst ht
          exact (show Tryd.prog.wantsStandIn 24 = false by kernel_rfl)
        · simp at ht⟩)
    (by kernel_rfl)
end Go.Proofs.YtfhdonidgegebaaDoor.tableSpoilt
