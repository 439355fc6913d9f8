import Derived.Test.YtionejpiieemeaaQuotaTake
import Derived.Test.YtionejpiieemeaaShelf
import Derived.Sort.KeysCollected
namespace Go.Proofs.Ytionejpiieemeaa
open Go Go.RowKit Go.Maps Go.Sort Go.Shelf

theorem sortsS (m : Nat) : AnyZ.SortsIn Try.prog Try.sorted19_ren Fence.wide m :=
  ⟨fun blk off cap ss W hH hblk hsz => callsIn_wide.2 (AnyM.slices_Sort_string Try.sort22 blk off cap ss W hH hblk hsz),
   fun p cap W => callsIn_wide.2 (AnyM.slices_Sort_string_none Try.sort22 p cap W)⟩

/-- A function value over one new block, which holds the map. -/
theorem keys_any (mb : Option Nat) (W : World) : CallsIn Fence.wide 5 Try.prog 20 #[.map mb] W fun e w' => e = .returned (.func (.func 23) #[] #[.pointer (some ⟨W.heap.size, 0, none⟩)]) ∧ w' = W.alloc (.cells #[.map mb] 45) :=
  AnyZ.keys_in Try.keys20 Fence.wide 5 trivial rfl mb W

set_option maxHeartbeats 1000000 in
/-- The map's keys, sorted. -/
theorem sorted_any {H : Type} (b nn : Nat) (D0 : DataW H) (R : Value → Option (DataW H × List MemPlace)) (w : World) (hown : w.ownsMap Try.prog 9 R b nn D0) (hmax : Maps.size D0 ≤ maxLen) (hbytes : Maps.size D0 * 16 ≤ 140737488355328) :
    CallsIn Fence.wide 5 Try.prog 19 #[.func (.func 23) #[] #[.pointer (some ⟨w.heap.size, 0, none⟩)]] (w.alloc (.cells #[.map (some b)] 45)) fun e w' => ∃ (v : Value) (ss : List (List UInt8)), e = .returned v ∧ ss.Perm (strKeys D0) ∧
      w'.ownsRow (w.alloc (.cells #[.map (some b)] 45)).heap.size 9 1 v ss.length ((ss.mergeSort (fun x y => decide (x ≤ y))).map encStr) ∧ (v = .slice none 0 0 ↔ ss = []) ∧ Below (w.alloc (.cells #[.map (some b)] 45)).heap.size (w.alloc (.cells #[.map (some b)] 45)) w' := by
  have hbl := hown.lt
  have hseq : SeqGives Fence.wide 2 Try.prog 23 #[.pointer (some ⟨w.heap.size, 0, none⟩)] encStr (fun ss => ss.Perm (strKeys D0)) (Maps.size D0) (w.alloc (.cells #[.map (some b)] 45)) :=
    AnyZ.keys_gives (ρ := Try.keys20_ren) { Try.keys20 with } Fence.wide _ trivial rfl (by omega) w.heap.size b nn D0 _ (by simp) (by simp) (by
      obtain ⟨es, clock, hb, Ft, hs, hD⟩ := hown
      exact ⟨es, clock, (Below.heap_alloc _ _ b hbl).trans hb, Ft, hs, hD⟩)
  exact AnyZ.sorted_in Try.sorted19 Fence.wide 5 trivial trivial trivial trivial rfl (by omega) (sortsS _) (enters_of Try.func22 (by kernel_rfl) rfl) 23 #[.pointer (some ⟨w.heap.size, 0, none⟩)] trivial (enters_of Try.func23 (by kernel_rfl) rfl) _ _ hmax hbytes _ hseq

/-- The clients' names, sorted. -/
def GivesNames (w : World) (g : ByteArray → Option (Nat × Nat)) (n : Nat) (e : Ending) (w' : World) : Prop :=
  ∃ (v : Value) (ss : List (List UInt8)), e = .returned v ∧ ss.Nodup ∧ (∀ c : ByteArray, c.data.toList ∈ ss ↔ (g c).isSome = true) ∧ ss.length ≤ n ∧
    w'.ownsRow w.heap.size 9 1 v ss.length ((ss.mergeSort (fun x y => decide (x ≤ y))).map encStr) ∧ Below w.heap.size w w'

theorem names_of {w : World} {m n : Nat} {D : DataW Unit} {g : ByteArray → Option (Nat × Nat)} (h : w.ownsMap Try.prog 9 purseR m n D) (hl : Look D g) {ss : List (List UInt8)} (hp : ss.Perm (strKeys D)) :
    ss.Nodup ∧ (∀ c : ByteArray, c.data.toList ∈ ss ↔ (g c).isSome = true) ∧ ss.length ≤ n := by
  obtain ⟨es, rfl, hk⟩ := h.keysOf
  obtain ⟨es', he, hpw, _⟩ := h.entries (string_keyed Try.underlying9)
  cases he
  have hks : ∀ p ∈ es, ∃ x, p.1 = .string x := fun p hp => by
    obtain ⟨v, hv⟩ := hk p hp
    obtain ⟨x, _, hx, _⟩ := keyOf_str Try.underlying9 hv
    exact ⟨x, hx⟩
  have hnd : (strKeys (DataW.map es)).Nodup := by
    refine List.pairwise_map.2 (hpw.imp_of_mem fun {p q} hp' hq' hne e => hne ?_)
    obtain ⟨a, ha⟩ := hks p hp'
    obtain ⟨b, hb⟩ := hks q hq'
    rw [ha, hb] at e ⊢
    exact congrArg _ e
  refine ⟨hp.nodup_iff.2 hnd, fun c => ?_, ?_⟩
  · rw [hp.mem_iff, ← (hl c).1, has_eq, List.any_eq_true]
    show c.data.toList ∈ es.map (fun p => strOf p.1) ↔ _
    rw [List.mem_map]
    constructor
    · rintro ⟨p, hp', hc⟩
      obtain ⟨a, ha⟩ := hks p hp'
      rw [ha] at hc
      exact ⟨p, hp', by rw [ha, ← hc]; simp [Lit.sameKey, strOf]⟩
    · rintro ⟨p, hp', hs⟩
      obtain ⟨a, ha⟩ := hks p hp'
      rw [ha] at hs
      exact ⟨p, hp', by rw [ha]; simpa [Lit.sameKey, strOf] using hs⟩
  · rw [hp.length_eq]
    have := h.size_le
    simpa [strKeys, Maps.size] using this

set_option maxRecDepth 100000 in
set_option maxHeartbeats 1000000 in
theorem clients_any (w : World) (b m n : Nat) (S : QS) (hq : QAt w b m S n) (hn : n ≤ 1000000) :
    Calls Try.prog 15 #[.pointer (some ⟨b, 0, none⟩)] w (GivesNames w S.g n) := by
  obtain ⟨hb, hne, D, hown, hl⟩ := hq
  have c3 := Lib.cell_of_heap hb 3
  simp at c3
  have hsz := hown.size_le
  have hlt : b < w.heap.size := (Array.getElem?_eq_some_iff.1 hb).1
  have hk := keys_any (some m) w
  have hs := sorted_any m n D purseR w hown (by simp only [maxLen]; omega) (by omega)
  have hnm := fun (ss : List (List UInt8)) (hp : ss.Perm (strKeys D)) => names_of hown hl hp
  have HK := Lib.hid hk
  have HS := Lib.hid hs
  have HN := Lib.hid hnm
  clear hb hl hown hk hs hnm hsz hn hne
  refine (callsIn_wide (n := 6)).1 ?_
  have hfK : Fence.wide.fn 20 := trivial
  have hfS : Fence.wide.fn 19 := trivial
  refine callsIn_of_wp Try.func15 rfl trivial ?_ rfl
  simp only [Try.ntmps15, List.size_toArray, List.length_cons, List.length_nil, Nat.reduceAdd, Nat.reduceSub, Array.replicate_succ, Array.replicate_zero, List.push_toArray, List.append_toArray, List.nil_append, List.cons_append]
  gi_wp2_with (first
    | (gi_at_call 20; refine HK.out.mono ?_; rintro e w' ⟨rfl, rfl⟩)
    | (gi_at_call 19; refine HS.out.mono ?_; rintro e w' ⟨v, ss, rfl, hS, hrow, hnil, hb⟩))
  go_ret
  obtain ⟨n1, n2, n3⟩ := HN.out ss hS
  exact ⟨v, ss, rfl, n1, n2, n3, ownsRow_base_a hrow (by simp), ((Below.refl _ w).alloc (Nat.le_refl _) _).trans (hb.mono (by simp))⟩
end Go.Proofs.Ytionejpiieemeaa
