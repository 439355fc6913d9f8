/- The reference's pieces of a request. -/
import Derived.Test.YtdonibkkdhokpaaGreatZWireL
import Derived.Test.YtdonibkkdhokpaaGreatMga
namespace Go.Proofs.YtdonibkkdhokpaaGreat
open Go Go.RowKit

def RTRel (w : World) (v0 : Value) (L : List UInt8) (ss : List ByteArray) (bv iv : Value) (wr : World) : Prop :=
  ∃ i : Nat, iv = .int .i64 (i : Int) ∧ i ≤ ss.length ∧ Below w.heap.size w wr ∧ ((i = 0 ∧ bv = v0) ∨ (0 < i ∧ wr.ownsRow w.heap.size 5 1 bv (L ++ txts (ss.take i)).length (bcells (L ++ txts (ss.take i)))))

set_option maxRecDepth 100000 in
set_option maxHeartbeats 1000000 in
theorem rtexts_any (w : World) (v : Value) (L : List UInt8) (c n : Nat) (ss : List ByteArray) (h : Reads w 1 v L.length (bcells L)) (hr : w.heap[c]? = some (.cells (scells ss).toArray 9 (0, 0))) (hkl : ss.length = n) (hn : 0 < n) (hn2 : n ≤ 1000) (hl : L.length + (txts ss).length ≤ 1000000000) :
    Calls Tryz.prog 52 #[v, .slice (some ⟨c, 0, none⟩) n n] w (GivesOwn w (L ++ txts ss)) := by
  have HV := Lib.hid h
  have HR := Lib.hid (reads_lit hkl hr (by unfold maxLen; omega))
  have HL := Lib.hid hkl
  clear h hr hkl
  go_enter Tryz.func52, Tryz.ntmps52
  go_wp2
  go_loopw [0, 9] (fun bv iv wr => RTRel w v L ss bv iv wr) (fun _ iv _ => n - (intOf iv).toNat)
  case atStart => exact ⟨0, rfl, Nat.zero_le _, Below.refl _ _, .inl ⟨rfl, rfl⟩⟩
  case round =>
    obtain ⟨i, rfl, hin, hb, hcase⟩ := hrel
    rw [HL.out] at hin
    by_cases hlt : i < n
    · have hltI : (i : Int) < n := by omega
      obtain ⟨gs, off, s, hva, hs, hgs, hcs⟩ := (HR.out.below' hb).scell i hlt
      cases hva
      simp only [Nat.zero_add] at hcs
      have hne := txts_next hs
      have htm := txt_mem hs
      have htz := txt_size s
      obtain ⟨bv, T, hbv, hT⟩ : ∃ bv T, bv = u0 ∧ T = L ++ txts (ss.take i) := ⟨_, _, rfl, rfl⟩
      have hrd : Reads wr 1 bv T.length (bcells T) := by
        rcases hcase with ⟨rfl, h0⟩ | ⟨_, ho⟩
        · rw [hbv, hT, h0]
          simpa [txts] using HV.out.below' hb
        · rw [hbv, hT]
          exact ownsRow.reads ho
      have hTl : T.length ≤ 1000000000 := by rw [hT, List.length_append]; omega
      have hP := refputtexto_any wr bv T s hrd (by omega) (by omega)
      have hfin : T ++ enc s.size ++ s.data.toList = L ++ txts (ss.take (i + 1)) := by rw [hne, hT]; unfold txt; simp
      rw [hfin] at hP
      have HP := Lib.hid hP
      have HBw := Lib.hid hb
      rw [← hbv]
      clear hbv
      clear hP hrd hcase hb hT hfin hne htm htz hs
      go_wp2_with (go_at_call 107; go_must (refine HP.out.mono ?_))
      rintro e w2 ⟨v2, rfl, o2, b2⟩
      have HO := Lib.hid (owns_less o2 HBw.out.size)
      have HB2 := Lib.hid (HBw.out.trans (b2.mono HBw.out.size))
      clear o2 b2 HP
      go_wp2
      exact ⟨⟨i + 1, by go_num, by rw [HL.out]; omega, HB2.out, .inr ⟨by omega, HO.out⟩⟩, by simp [intOf]; omega⟩
    · obtain rfl : i = n := by omega
      have hltI : ¬ (i : Int) < i := by omega
      have ho := hcase.resolve_left (fun h => by omega)
      rw [List.take_of_length_le (by rw [HL.out]; exact Nat.le_refl _)] at ho
      have HO := Lib.hid ho.2
      have HBw := Lib.hid hb
      clear ho hb hcase
      go_wp2
      go_ret
      exact ⟨_, rfl, HO.out, HBw.out⟩

set_option maxRecDepth 100000 in
theorem rwhole_any (w : World) (v : Value) (L : List UInt8) (n : Int) (h : Reads w 1 v L.length (bcells L)) (hn : in64 n) (hl : L.length ≤ 1000000000) :
    Calls Tryz.prog 50 #[v, .int .i64 n] w (GivesOwn w (L ++ enc (zig n))) := by
  have HP := Lib.hid (refputo_any w v L (zig n) h (by omega) (zig_lt hn))
  clear h
  unfold in64 at hn
  by_cases h0 : n < 0
  · have hz : 2 * -(n + 1) + 1 = (zig n : Int) := by
      unfold zig
      rw [if_pos h0]
      omega
    go_enter Tryz.func50, Tryz.ntmps50
    go_wp2_with (go_at_call 51; go_must (refine HP.out.mono ?_))
    rintro e w1 ⟨v1, rfl, o1, b1⟩
    go_wp2
    go_ret
    exact ⟨_, rfl, o1, b1⟩
  · have hz : 2 * n = (zig n : Int) := by
      unfold zig
      rw [if_neg h0]
      omega
    go_enter Tryz.func50, Tryz.ntmps50
    go_wp2_with (go_at_call 51; go_must (refine HP.out.mono ?_))
    rintro e w1 ⟨v1, rfl, o1, b1⟩
    go_wp2
    go_ret
    exact ⟨_, rfl, o1, b1⟩

set_option maxRecDepth 100000 in
theorem rmany_any (w : World) (v : Value) (L : List UInt8) (n : Nat) (h : Reads w 1 v L.length (bcells L)) (hn : n ≤ 1000000000) (hl : L.length ≤ 1000000000) :
    Calls Tryz.prog 53 #[v, .int .i64 (n : Int)] w (GivesOwn w (L ++ enc n)) := by
  have HP := Lib.hid (refputo_any w v L n h (by omega) (by omega))
  have hw0 : IntKind.u64.wrap (n : Int) = (n : Int) := by rw [IntKind.wrap_u64]; omega
  clear h
  go_enter Tryz.func53, Tryz.ntmps53
  go_wp2_with (go_at_call 51; go_must (refine HP.out.mono ?_))
  rintro e w1 ⟨v1, rfl, o1, b1⟩
  go_wp2
  go_ret
  exact ⟨_, rfl, o1, b1⟩

def OPost (B : Nat) (w : World) (L : List UInt8) (e : Ending) (w' : World) : Prop :=
  ∃ v', e = .returned v' ∧ w'.ownsRow B 5 1 v' L.length (bcells L) ∧ Below B w w' ∧ KeepW w.heap.size w w'

set_option maxRecDepth 100000 in
theorem rtruth_any (w : World) (B : Nat) (v : Value) (L : List UInt8) (x : Bool) (h : w.ownsRow B 5 1 v L.length (bcells L)) (hB : B ≤ w.heap.size) (hl : L.length ≤ 1000000000) :
    Calls Tryz.prog 54 #[v, .bool x] w (OPost B w (L ++ enc (bitN x))) := by
  obtain ⟨i0, hi, hz0, hz1, hz2⟩ := info_parts info5
  have HO := Lib.hid h
  rw [bit_enc]
  have hb1 : bcells (L ++ [1]) = bcells L ++ [.int .u8 1] := by simp [bcells]
  have hb0 : bcells (L ++ [0]) = bcells L ++ [.int .u8 0] := by simp [bcells]
  clear h
  cases x with
  | true =>
    go_enter Tryz.func54, Tryz.ntmps54
    go_wp2_with (at_builtin; go_must (refine wpList_append_owns_lits (w0 := w) rfl _ _ 39 rfl B 5 i0 (.int .u8 0) 1 Tryz.underlying39 hi hz0 hz1 hz2 rfl [_] 1 rfl HO.out rfl rfl (fun u hu => by simp at hu; subst hu; rfl) ?_ ?_ hB ?_))
    · unfold maxLen; omega
    · omega
    intro v2 w2 o2 g2 b2 m2
    have hk : KeepW w.heap.size w w2 := KeepW.grown HO.out g2
    go_wp2
    go_ret
    refine ⟨_, rfl, ?_, b2, hk⟩
    show w2.ownsRow B 5 1 v2 (L ++ [1]).length (bcells (L ++ [1]))
    rw [hb1, List.length_append]
    exact o2
  | false =>
    go_enter Tryz.func54, Tryz.ntmps54
    go_wp2_with (at_builtin; go_must (refine wpList_append_owns_lits (w0 := w) rfl _ _ 39 rfl B 5 i0 (.int .u8 0) 1 Tryz.underlying39 hi hz0 hz1 hz2 rfl [_] 1 rfl HO.out rfl rfl (fun u hu => by simp at hu; subst hu; rfl) ?_ ?_ hB ?_))
    · unfold maxLen; omega
    · omega
    intro v2 w2 o2 g2 b2 m2
    have hk : KeepW w.heap.size w w2 := KeepW.grown HO.out g2
    go_wp2
    go_ret
    refine ⟨_, rfl, ?_, b2, hk⟩
    show w2.ownsRow B 5 1 v2 (L ++ [0]).length (bcells (L ++ [0]))
    rw [hb0, List.length_append]
    exact o2
end Go.Proofs.YtdonibkkdhokpaaGreat
