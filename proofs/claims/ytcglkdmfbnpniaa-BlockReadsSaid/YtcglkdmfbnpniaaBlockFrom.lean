/- from; bytes.Compare. -/
import Derived.Test.YtcglkdmfbnpniaaBlockCur
import Derived.Test.YtcglkdmfbnpniaaBlockGet
import Derived.Laws.Externs
import Derived.Lib.Bytealg
import Derived.Lib.BytesEntry
namespace Go.Proofs.Ytcglkdmfbnpniaa
open Go Go.RowKit

def fromL (data places : List UInt8) (i : Nat) : List UInt8 × Bool := if data.length ≤ num4 (places.drop (4 * i)) then ([], true) else (data.drop (num4 (places.drop (4 * i))), false)

def FromPost (w : World) (r : List UInt8 × Bool) (e : Ending) (w' : World) : Prop := ∃ g, e = .returned (.pointer (some ⟨g, 0, none⟩)) ∧ CurAt w.heap.size w' g r.1 [] 0 r.2 ∧ Below w.heap.size w w'

theorem fresh_cur (w : World) (q : Nat) (rv : Value) (rest : List UInt8) (bad : Bool) (h : Sl w.heap.size w rv rest) :
    CurAt w.heap.size ((w.drewN q).alloc (.cells #[rv, .slice none 0 0, .int .i64 0, .bool bad] 53)) w.heap.size rest [] 0 bad :=
  ⟨rv, .slice none 0 0, heap_alloc_new (w.drewN q) _, h.below (Below.alloc (below_quiet (Below.refl _ _) q) (Nat.le_refl _) _), owns_nil _ _ _ _, Nat.le_refl _⟩

set_option maxRecDepth 100000 in
set_option maxHeartbeats 2000000 in
theorem from_any (w : World) (dv pv : Value) (data places : List UInt8) (i : Nat) (hd : Sl w.heap.size w dv data) (hp : Sl w.heap.size w pv places) (hi4 : 4 * i + 4 ≤ places.length) (_ : places.length ≤ 100000000) :
    Calls Try.prog 34 #[dv, pv, .int .i64 (i : Int)] w (FromPost w (fromL data places i)) := by
  have hcut := hp.cut (k := 4 * i) (by omega)
  rcases hp with ⟨_, h0⟩ | ⟨b, off, cap, rfl, _, _, hrd⟩
  · rw [h0] at hi4
    simp at hi4
  obtain ⟨_, _, hv, hc1, hc2⟩ := hrd.le
  cases hv
  unfold maxLen at hc2
  rw [cutV_some, if_neg (by omega)] at hcut
  have hdl : (places.drop (4 * i)).length = places.length - 4 * i := List.length_drop
  have hcr := hcut.reads
  rw [hdl] at hcr
  have HG := Lib.hid (get4_any w _ _ _ hcr (by omega))
  have hw1 : IntKind.i64.wrap (4 * (i : Int)) = 4 * (i : Int) := by rw [IntWalk.i64_in _ (by omega)]
  have hiI : (4 : Int) * (i : Int) ≤ (places.length : Int) := by omega
  have hi0 : (0 : Int) ≤ 4 * (i : Int) := by omega
  have hcI : ¬ ((cap : Int) = 4 * (i : Int)) := by omega
  have hk1 : (4 * (i : Int)).toNat = 4 * i := by omega
  have hcN : ¬ (cap = 4 * i) := by omega
  have HD := Lib.hid hd
  obtain ⟨da, dcap, rfl, hdc1, hdc2⟩ := hd.reads.le
  unfold maxLen at hdc2
  have hF : fromL data places i = if data.length ≤ num4 (places.drop (4 * i)) then ([], true) else (data.drop (num4 (places.drop (4 * i))), false) := rfl
  generalize fromL data places i = F at *
  generalize num4 (places.drop (4 * i)) = p at *
  have HF := Lib.hid hF
  clear hF
  clear hcut hcr hrd
  go_enter Try.func34, Try.ntmps34
  go_wp2_with (go_at_call 38; go_must (refine HG.out.mono ?_))
  rintro e w1 ⟨rfl, q, rfl⟩
  by_cases hpd : data.length ≤ p
  · have hF := HF.out
    rw [if_pos hpd] at hF
    subst hF
    have hpI : (data.length : Int) ≤ (p : Int) := by omega
    clear hd hcI hcN hk1 hiI hi0
    go_wp2
    go_ret
    refine ⟨w.heap.size, rfl, fresh_cur w q _ [] true (.inl ⟨⟨none, rfl⟩, rfl⟩), Below.alloc (below_quiet (Below.refl _ _) q) (Nat.le_refl _) _⟩
  · have hF := HF.out
    rw [if_neg hpd] at hF
    subst hF
    have hpI : ¬ ((data.length : Int) ≤ (p : Int)) := by omega
    have hcd := HD.out.cut (k := p) (by omega)
    rcases hd with ⟨_, h0⟩ | ⟨b2, off2, cap2, hv2, _, _, _⟩
    · rw [h0] at hpd
      simp at hpd
    cases hv2
    rw [cutV_some, if_neg (by omega)] at hcd
    have HCd := Lib.hid hcd
    have hpc : ¬ (dcap = p) := by omega
    have hple : (p : Int) ≤ (data.length : Int) := by omega
    clear hcd hcI hcN hk1 hiI hi0
    go_wp2
    go_ret
    refine ⟨w.heap.size, rfl, fresh_cur w q _ _ false HCd.out, Below.alloc (below_quiet (Below.refl _ _) q) (Nat.le_refl _) _⟩

theorem bytes_run (w : World) (v : Value) (l : List UInt8) (h : Reads w 1 v l.length (bcells l)) : (Extern.Bytes.bytesOf v).run Try.prog w = .ok ⟨l.toArray⟩ w := by
  obtain ⟨hl, a, cap, rfl, h1, h2, h3⟩ := h
  cases a with
  | none =>
    have : l = [] := by
      cases l with
      | nil => rfl
      | cons x t =>
        obtain ⟨_, _, e, _⟩ := h3 0 _ rfl
        cases e
    subst this
    rfl
  | some a =>
    have hx := Lib.run_loadBytesX (P := Try.prog) (w := w) (l.map fun c => (c.toNat : Int)) a .empty (fun j x hj => by
      rw [List.getElem?_map] at hj
      obtain ⟨c, hc, rfl⟩ := Option.map_eq_some_iff.1 hj
      obtain ⟨b, off, e, _, hcell⟩ := h3 j (.int .u8 (c.toNat : Int)) (by unfold bcells; rw [List.getElem?_map, hc]; rfl)
      cases e
      rw [Addr.add_lit]
      exact hcell)
    rw [List.length_map] at hx
    have hb : Lib.bytesOf (l.map fun c => (c.toNat : Int)) = l := by
      unfold Lib.bytesOf
      rw [List.map_map]
      conv => rhs; rw [← List.map_id l]
      apply List.map_congr_left
      intro c _
      simp
    rw [hb] at hx
    simpa [Extern.Bytes.bytesOf] using hx

def CmpPost (w : World) (z : Int) (e : Ending) (w' : World) : Prop := e = .returned (.int .i64 z) ∧ w = w'

set_option maxRecDepth 100000 in
theorem cmp_any (w : World) (u v : Value) (x y : List UInt8) (hx : Reads w 1 u x.length (bcells x)) (hy : Reads w 1 v y.length (bcells y)) :
    Calls Try.prog 35 #[u, v] w (CmpPost w (Lib.compareBytes x y)) := by
  have hrun : (Extern.BytealgCompare.compare #[u, v]).run Try.prog w = .ok (.int .i64 (Lib.compareBytes x y)) w := by
    change Sem.run Try.prog (do pure (goInt (Extern.BytealgCompare.cmp (← Extern.Bytes.bytesOf u) (← Extern.Bytes.bytesOf v)))) w = _
    simp only [Sem.run_bind, Sem.run_pure, bytes_run w u x hx, bytes_run w v y hy, Result.andThen]
    rw [Lib.cmp_eq]
    rfl
  go_enter Try.func35, Try.ntmps35
  go_wp2
  rw [run_callFunc_extern Try.func41 (by kernel_rfl) (by kernel_rfl) (by kernel_rfl) (e := Extern.BytealgCompare.compare) (by kernel_rfl), hrun]
  simp only [Result.andThen]
  rw [Oper.upon_value]
  go_wp2
  go_ret
  exact ⟨rfl, rfl⟩
end Go.Proofs.Ytcglkdmfbnpniaa
